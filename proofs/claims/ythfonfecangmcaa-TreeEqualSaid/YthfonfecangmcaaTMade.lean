/-
  Layer 3: what a clone is while it is made, and what it is then.
-/
import Derived.Test.YthfonfecangmcaaTClRows
import Derived.Test.YthfonfecangmcaaTSame
namespace Go.Proofs.Ythfonfecangmcaa
open Go.RowKit
set_option linter.unusedVariables false
set_option linter.unusedSimpArgs false

/-- All rows of a node lie in blocks from B on. -/
inductive Nd.Above (B : Nat) : Nd → Prop where
  | mk (n : Nd) (h1 : 0 < n.props.length → ∀ b o, n.pa = some ⟨b, o, none⟩ → B ≤ b) (h2 : ∀ p ∈ n.props, 0 < p.zs.length → ∀ b o, p.addr = some ⟨b, o, none⟩ → B ≤ b)
      (h3 : 0 < n.kids.length → ∀ b o, n.ka = some ⟨b, o, none⟩ → B ≤ b) (h4 : ∀ k ∈ n.kids, Nd.Above B k) : Nd.Above B n
theorem Nd.Above.parts {B : Nat} {n : Nd} (h : n.Above B) : (0 < n.props.length → ∀ b o, n.pa = some ⟨b, o, none⟩ → B ≤ b) ∧ (∀ p ∈ n.props, 0 < p.zs.length → ∀ b o, p.addr = some ⟨b, o, none⟩ → B ≤ b) ∧
    (0 < n.kids.length → ∀ b o, n.ka = some ⟨b, o, none⟩ → B ≤ b) ∧ (∀ k ∈ n.kids, Nd.Above B k) := by
  cases h with | mk _ h1 h2 h3 h4 => exact ⟨h1, h2, h3, h4⟩
theorem Nd.Above.low {B B' : Nat} (hB : B' ≤ B) {n : Nd} : n.Above B → n.Above B' :=
  Nd.ind (p := fun n => n.Above B → n.Above B') (fun n ih h => by
    obtain ⟨h1, h2, h3, h4⟩ := h.parts
    exact .mk n (fun h0 b o e => Nat.le_trans hB (h1 h0 b o e)) (fun p hp h0 b o e => Nat.le_trans hB (h2 p hp h0 b o e)) (fun h0 b o e => Nat.le_trans hB (h3 h0 b o e)) (fun k hk => ih k hk (h4 k hk))) n

section
variable {w w' : World} {B lo : Nat}
theorem Shows.keep2 {A : Option Addr} {n : Nat} {zs : List Int} (h : Shows w B A n zs) (ha : 0 < n → ∀ b o, A = some ⟨b, o, none⟩ → lo ≤ b) (hk : ∀ a : Addr, lo ≤ a.block → a.block < B → w'.cell? a = w.cell? a) : Shows w' B A n zs :=
  ⟨h.1, h.2.1, fun h0 => by
    obtain ⟨b, o, e, hb, hc⟩ := h.2.2 h0
    exact ⟨b, o, e, hb, fun i hi => (hk _ (ha h0 b o e) hb).trans (hc i hi)⟩⟩
theorem PV.In.keep2 {p : PV} (h : p.In w B) (ha : 0 < p.zs.length → ∀ b o, p.addr = some ⟨b, o, none⟩ → lo ≤ b) (hk : ∀ a : Addr, lo ≤ a.block → a.block < B → w'.cell? a = w.cell? a) : p.In w' B := ⟨h.1, h.2.1.keep2 ha hk, h.2.2⟩
/-- What lies from lo on isn't touched by what is done ahead of it. -/
theorem Nd.In.keep2 (hk : ∀ a : Addr, lo ≤ a.block → a.block < B → w'.cell? a = w.cell? a) {n : Nd} : n.In w B → n.Above lo → n.In w' B :=
  Nd.ind (p := fun n => n.In w B → n.Above lo → n.In w' B) (fun n ih h ha => by
    obtain ⟨h1, h2, h3, h4⟩ := ha.parts
    refine .mk n h.name_le h.plen.1 h.plen.2 h.klen.1 h.klen.2 (fun h0 => ?_) (fun p hp => (h.prop hp).keep2 (h2 p hp) hk) (fun h0 => ?_) (fun k hk' => ih k hk' (h.kid hk') (h4 k hk'))
    · obtain ⟨b, o, e, hb, hc⟩ := h.prow h0
      exact ⟨b, o, e, hb, fun i hi => ⟨(hk _ (h1 h0 b o e) hb).trans (hc i hi).1, (hk _ (h1 h0 b o e) hb).trans (hc i hi).2⟩⟩
    · obtain ⟨b, o, e, hb, hc⟩ := h.krow h0
      exact ⟨b, o, e, hb, fun i hi => ⟨(hk _ (h3 h0 b o e) hb).trans (hc i hi).1, (hk _ (h3 h0 b o e) hb).trans (hc i hi).2.1, (hk _ (h3 h0 b o e) hb).trans (hc i hi).2.2⟩⟩) n
end

/-- wr is W but for block X, and new blocks. -/
structure Exc (W : World) (X : Nat) (wr : World) : Prop where
  cell : ∀ a : Addr, a.block < W.heap.size → a.block ≠ X → wr.cell? a = W.cell? a
  frozen : ∀ a : Addr, a.block < W.heap.size → wr.frozen? a = W.frozen? a
  size : W.heap.size ≤ wr.heap.size
theorem Exc.refl (W : World) (X : Nat) : Exc W X W := ⟨fun _ _ _ => rfl, fun _ _ => rfl, Nat.le_refl _⟩
theorem Exc.on {W wr w2 : World} {X : Nat} (h : Exc W X wr) (hb : Below wr.heap.size wr w2) : Exc W X w2 :=
  ⟨fun a h1 h2 => (hb.cell (Nat.lt_of_lt_of_le h1 h.size)).trans (h.cell a h1 h2), fun a h1 => (hb.frozen (Nat.lt_of_lt_of_le h1 h.size)).trans (h.frozen a h1), Nat.le_trans h.size hb.size⟩
theorem Exc.set {W wr : World} {X : Nat} (h : Exc W X wr) (o : Nat) (v : Value) : Exc W X (wr.setCell ⟨X, o, none⟩ v) :=
  ⟨fun a h1 h2 => (World.cell?_setCell_other _ _ _ _ (fun e => h2 (by rw [← e]))).trans (h.cell a h1 h2), fun a h1 => (World.frozen?_setCell _ _ _ _).trans (h.frozen a h1), by simpa using h.size⟩

/-- A value that a clone has made. -/
def ValOk (w : World) (lo : Nat) (q : PV) : Prop := q.In w w.heap.size ∧ (0 < q.zs.length → ∃ b, q.addr = some ⟨b, 0, none⟩ ∧ lo ≤ b ∧ b < w.heap.size ∧ ∀ i, w.frozen? ⟨b, i, none⟩ = false)
theorem ValOk.above {w : World} {lo : Nat} {q : PV} (h : ValOk w lo q) : 0 < q.zs.length → ∀ b o, q.addr = some ⟨b, o, none⟩ → lo ≤ b := fun h0 b o e => by
  obtain ⟨b', e', h1, _⟩ := h.2 h0
  rw [e] at e'
  have := congrArg Addr.block (Option.some.inj e')
  simp at this
  omega
theorem ValOk.on {w w2 : World} {lo : Nat} {q : PV} (h : ValOk w lo q) (hb : Below w.heap.size w w2) : ValOk w2 lo q :=
  ⟨(h.1.keep (fun _ hp => hb.cell hp)).more hb.size, fun h0 => by
    obtain ⟨b, e, h1, h2, h3⟩ := h.2 h0
    exact ⟨b, e, h1, Nat.lt_of_lt_of_le h2 hb.size, fun i => (hb.frozen (p := ⟨b, i, none⟩) h2).trans (h3 i)⟩⟩
theorem ValOk.set {w : World} {lo X : Nat} {q : PV} (h : ValOk w lo q) (hX : X < lo) (o : Nat) (v : Value) : ValOk (w.setCell ⟨X, o, none⟩ v) lo q :=
  ⟨by
    have h1 := h.1.keep2 (w' := w.setCell ⟨X, o, none⟩ v) h.above (fun a h1 _ => World.cell?_setCell_other _ _ _ _ (fun e => by have := congrArg Addr.block e; simp at this; omega))
    simpa using h1, fun h0 => by
    obtain ⟨b, e, h1, h2, h3⟩ := h.2 h0
    exact ⟨b, e, h1, by simpa using h2, fun i => (World.frozen?_setCell _ _ _ _).trans (h3 i)⟩⟩

/-- The first i properties of a row have values of their own; the row is at block gp. -/
structure L1 (W : World) (gp : Nat) (ps xs : List PV) (i : Nat) (wr : World) : Prop where
  len : xs.length = ps.length
  same : ∀ j (h : j < xs.length) (h' : j < ps.length), xs[j].name = ps[j].name ∧ xs[j].zs = ps[j].zs
  done : ∀ j (h : j < xs.length), j < i → ValOk wr W.heap.size xs[j]
  todo : ∀ j (h : j < xs.length) (h' : j < ps.length), i ≤ j → xs[j] = ps[j]
  row : ∀ j (h : j < xs.length), wr.cell? ⟨gp, j * 2, none⟩ = some (.string xs[j].name) ∧ wr.cell? ⟨gp, j * 2 + 1, none⟩ = some xs[j].val
  exc : Exc W gp wr
theorem L1.on {W wr w2 : World} {gp i : Nat} {ps xs : List PV} (h : L1 W gp ps xs i wr) (hg : gp < W.heap.size) (hb : Below wr.heap.size wr w2) : L1 W gp ps xs i w2 :=
  ⟨h.len, h.same, fun j hj hji => (h.done j hj hji).on hb, h.todo, fun j hj => by
    have hlt : gp < wr.heap.size := Nat.lt_of_lt_of_le hg h.exc.size
    exact ⟨(hb.cell (p := ⟨gp, j * 2, none⟩) hlt).trans (h.row j hj).1, (hb.cell (p := ⟨gp, j * 2 + 1, none⟩) hlt).trans (h.row j hj).2⟩, h.exc.on hb⟩
theorem off_ne' {b i j : Nat} (h : i ≠ j) : (⟨b, i, none⟩ : Addr) ≠ ⟨b, j, none⟩ := fun e => h (by simpa using congrArg Addr.off e)
theorem L1.store {W wr : World} {gp i : Nat} {ps xs : List PV} (h : L1 W gp ps xs i wr) (hg : gp < W.heap.size) (hi : i < ps.length) {q : PV} (hq : ValOk wr W.heap.size q) (hn : q.name = ps[i].name) (hz : q.zs = ps[i].zs) :
    L1 W gp ps (xs.set i q) (i + 1) (wr.setCell ⟨gp, i * 2 + 1, none⟩ q.val) := by
  have hix : i < xs.length := by rw [h.len]; exact hi
  refine ⟨by rw [List.length_set]; exact h.len, fun j hj hj' => ?_, fun j hj hji => ?_, fun j hj hj' hji => ?_, fun j hj => ?_, h.exc.set _ _⟩
  · rw [List.getElem_set]
    split
    · rename_i e; subst e; exact ⟨hn, hz⟩
    · exact h.same j (by simpa using hj) hj'
  · rw [List.getElem_set]
    split
    · exact hq.set hg _ _
    · exact (h.done j (by simpa using hj) (by omega)).set hg _ _
  · rw [List.getElem_set, if_neg (by omega)]
    exact h.todo j (by simpa using hj) hj' (by omega)
  · have hj0 : j < xs.length := by simpa using hj
    have r := h.row j hj0
    rw [List.getElem_set]
    constructor
    · rw [World.cell?_setCell_other _ _ _ _ (off_ne' (by omega)), r.1]
      split
      · rename_i e; subst e; rw [(h.same i hj0 hi).1, hn]
      · rfl
    · split
      · rename_i e; subst e
        rw [World.cell?_setCell_same _ _ _ r.2]
      · rw [World.cell?_setCell_other _ _ _ _ (off_ne' (by omega)), r.2]

/-- The first i nodes of a row are clones; the row is at block gk. -/
structure L2 (W : World) (gk : Nat) (ks ms : List Nd) (i : Nat) (wr : World) : Prop where
  len : ms.length = ks.length
  same : ∀ j (h : j < ms.length) (h' : j < ks.length), j < i → sameB ks[j] ms[j] = true
  done : ∀ j (h : j < ms.length), j < i → ms[j].In wr wr.heap.size ∧ ms[j].Above W.heap.size
  todo : ∀ j (h : j < ms.length) (h' : j < ks.length), i ≤ j → ms[j] = ks[j]
  row : ∀ j (h : j < ms.length), wr.cell? ⟨gk, j * 3, none⟩ = some (.string ms[j].name) ∧ wr.cell? ⟨gk, j * 3 + 1, none⟩ = some ms[j].pv ∧ wr.cell? ⟨gk, j * 3 + 2, none⟩ = some ms[j].kv
  exc : Exc W gk wr
theorem L2.on {W wr w2 : World} {gk i : Nat} {ks ms : List Nd} (h : L2 W gk ks ms i wr) (hg : gk < W.heap.size) (hb : Below wr.heap.size wr w2) : L2 W gk ks ms i w2 :=
  ⟨h.len, h.same, fun j hj hji => ⟨(h.done j hj hji).1.on hb, (h.done j hj hji).2⟩, h.todo, fun j hj => by
    have hlt : gk < wr.heap.size := Nat.lt_of_lt_of_le hg h.exc.size
    exact ⟨(hb.cell (p := ⟨gk, j * 3, none⟩) hlt).trans (h.row j hj).1, (hb.cell (p := ⟨gk, j * 3 + 1, none⟩) hlt).trans (h.row j hj).2.1, (hb.cell (p := ⟨gk, j * 3 + 2, none⟩) hlt).trans (h.row j hj).2.2⟩, h.exc.on hb⟩
theorem In.set {w : World} {lo X : Nat} {n : Nd} (h : n.In w w.heap.size) (ha : n.Above lo) (hX : X < lo) (o : Nat) (v : Value) : n.In (w.setCell ⟨X, o, none⟩ v) (w.setCell ⟨X, o, none⟩ v).heap.size := by
  have h1 := h.keep2 (w' := w.setCell ⟨X, o, none⟩ v) (fun a h1 _ => World.cell?_setCell_other _ _ _ _ (fun e => by have := congrArg Addr.block e; simp at this; omega)) ha
  simpa using h1
theorem L2.store {W wr : World} {gk i : Nat} {ks ms : List Nd} (h : L2 W gk ks ms i wr) (hg : gk < W.heap.size) (hi : i < ks.length) {m : Nd} (hm : m.In wr wr.heap.size) (ha : m.Above W.heap.size) (hs : sameB ks[i] m = true) :
    L2 W gk ks (ms.set i m) (i + 1) (((wr.setCell ⟨gk, i * 3, none⟩ (.string m.name)).setCell ⟨gk, i * 3 + 1, none⟩ m.pv).setCell ⟨gk, i * 3 + 2, none⟩ m.kv) := by
  refine ⟨by rw [List.length_set]; exact h.len, fun j hj hj' hji => ?_, fun j hj hji => ?_, fun j hj hj' hji => ?_, fun j hj => ?_, ((h.exc.set _ _).set _ _).set _ _⟩
  · rw [List.getElem_set]
    split
    · rename_i e; subst e; exact hs
    · exact h.same j (by simpa using hj) hj' (by omega)
  · rw [List.getElem_set]
    split
    · exact ⟨In.set (In.set (In.set hm ha hg _ _) ha hg _ _) ha hg _ _, ha⟩
    · obtain ⟨d1, d2⟩ := h.done j (by simpa using hj) (by omega)
      exact ⟨In.set (In.set (In.set d1 d2 hg _ _) d2 hg _ _) d2 hg _ _, d2⟩
  · rw [List.getElem_set, if_neg (by omega)]
    exact h.todo j (by simpa using hj) hj' (by omega)
  · have hj0 : j < ms.length := by simpa using hj
    obtain ⟨r0, r1, r2⟩ := h.row j hj0
    rw [List.getElem_set]
    by_cases e : i = j
    · subst e
      rw [if_pos rfl]
      refine ⟨?_, ?_, ?_⟩
      · rw [World.cell?_setCell_other _ _ _ _ (off_ne' (by omega)), World.cell?_setCell_other _ _ _ _ (off_ne' (by omega)), World.cell?_setCell_same _ _ _ r0]
      · rw [World.cell?_setCell_other _ _ _ _ (off_ne' (by omega)), World.cell?_setCell_same _ _ _ ((World.cell?_setCell_other _ _ _ _ (off_ne' (by omega))).trans r1)]
      · rw [World.cell?_setCell_same _ _ _ ((World.cell?_setCell_other _ _ _ _ (off_ne' (by omega))).trans ((World.cell?_setCell_other _ _ _ _ (off_ne' (by omega))).trans r2))]
    · rw [if_neg e]
      refine ⟨?_, ?_, ?_⟩
      · rw [World.cell?_setCell_other _ _ _ _ (off_ne' (by omega)), World.cell?_setCell_other _ _ _ _ (off_ne' (by omega)), World.cell?_setCell_other _ _ _ _ (off_ne' (by omega)), r0]
      · rw [World.cell?_setCell_other _ _ _ _ (off_ne' (by omega)), World.cell?_setCell_other _ _ _ _ (off_ne' (by omega)), World.cell?_setCell_other _ _ _ _ (off_ne' (by omega)), r1]
      · rw [World.cell?_setCell_other _ _ _ _ (off_ne' (by omega)), World.cell?_setCell_other _ _ _ _ (off_ne' (by omega)), World.cell?_setCell_other _ _ _ _ (off_ne' (by omega)), r2]

/-- What may be written of a clone: its values, and the row of those right below it; the row of its properties lies ahead of its values. -/
structure Mut (W : World) (n : Nd) : Prop where
  vals : ∀ p ∈ n.props, 0 < p.zs.length → ∃ b, p.addr = some ⟨b, 0, none⟩ ∧ (∀ i, W.frozen? ⟨b, i, none⟩ = false) ∧ ∀ g o, n.pa = some ⟨g, o, none⟩ → g < b
  row : 0 < n.kids.length → ∃ g, n.ka = some ⟨g, 0, none⟩ ∧ ∀ i, W.frozen? ⟨g, i, none⟩ = false

theorem owned_val {w : World} {base n : Nat} {v : Value} {zs : List Int} (h : w.ownsRow base 5 1 v n (u8s zs)) (hn : zs.length = n) (hz : ∀ z ∈ zs, 0 ≤ z ∧ z < 256) :
    ∃ A c, v = .slice A n c ∧ Shows w w.heap.size A n zs ∧ n ≤ c ∧ c ≤ 9223372036854775807 ∧ (0 < n → ∃ b, A = some ⟨b, 0, none⟩ ∧ base ≤ b ∧ b < w.heap.size ∧ ∀ i, w.frozen? ⟨b, i, none⟩ = false) := by
  obtain ⟨A, c, e1, h1, h2, h3⟩ := owned_shows h hz
  obtain ⟨A', c', e2, h4, h5, h6⟩ := fresh_of_owned h (by rw [List.length_map, hn, Nat.mul_one])
  rw [e1] at e2
  obtain ⟨rfl, rfl⟩ : A = A' ∧ c = c' := by simpa using e2
  exact ⟨A, c, e1, h1, h2, h3, fun h0 => by
    obtain ⟨g, e, q1, q2, _, q4⟩ := h6 h0
    exact ⟨g, e, q1, q2, q4⟩⟩
end Go.Proofs.Ythfonfecangmcaa
