/-
  Layer 3: CloneNode: the same node, and all below it, in memory of its own.
-/
import Derived.Test.YthfonfecangmcaaTMade
import Derived.Test.YthfonfecangmcaaReg
import Derived.Deep.DrawnRows
namespace Go.Proofs.Ythfonfecangmcaa
open Go.RowKit
set_option linter.unusedVariables false
set_option linter.unusedSimpArgs false
attribute [local go_sem ↓] Go.wp_at_zero Go.wp_at_succ

/-- What stands behind the first statement: the clone's box at g, its two rows. -/
structure Laid (w0 W : World) (g : Nat) (nm : ByteArray) (ps : List PV) (ks : List Nd) (A1 : Option Addr) (c1 : Nat) (A2 : Option Addr) (c2 : Nat) : Prop where
  bel : Below w0.heap.size w0 W
  gl : w0.heap.size ≤ g
  gh : g < W.heap.size
  b0 : W.cell? ⟨g, 0, none⟩ = some (.string nm)
  b1 : W.cell? ⟨g, 1, none⟩ = some (.slice A1 ps.length c1)
  b2 : W.cell? ⟨g, 2, none⟩ = some (.slice A2 ks.length c2)
  lp : ps.length ≤ c1 ∧ c1 ≤ 9223372036854775807
  lk : ks.length ≤ c2 ∧ c2 ≤ 9223372036854775807
  fp : Fresh W w0.heap.size A1 ps.length (ps.flatMap pC)
  fk : Fresh W w0.heap.size A2 ks.length (ks.flatMap kC)
  np : 0 < ps.length → A1 ≠ some ⟨g, 0, none⟩
  nk : 0 < ks.length → A2 ≠ some ⟨g, 0, none⟩
  npk : ∀ b b', 0 < ps.length → 0 < ks.length → A1 = some ⟨b, 0, none⟩ → A2 = some ⟨b', 0, none⟩ → b < b'

theorem fresh_not {w : World} {lo n g : Nat} {A : Option Addr} {cells : List Value} (h : Fresh w lo A n cells) (hg : g < lo ∨ w.heap.size ≤ g) : 0 < n → A ≠ some ⟨g, 0, none⟩ := fun h0 e => by
  obtain ⟨b, e', h1, h2, _⟩ := h h0
  rw [e] at e'
  have := congrArg Addr.block (Option.some.inj e')
  simp at this
  omega
theorem fresh_lt {w w' : World} {lo lo' n m : Nat} {A A' : Option Addr} {cells cells' : List Value} (h : Fresh w lo A n cells) (h' : Fresh w' lo' A' m cells') (hl : w.heap.size ≤ lo') : ∀ b b', 0 < n → 0 < m → A = some ⟨b, 0, none⟩ → A' = some ⟨b', 0, none⟩ → b < b' := fun b b' h0 h0' e e' => by
  obtain ⟨g, q, _, h2, _⟩ := h h0
  obtain ⟨g', q', h1', _⟩ := h' h0'
  rw [e] at q
  rw [e'] at q'
  have r := congrArg Addr.block (Option.some.inj q)
  have r' := congrArg Addr.block (Option.some.inj q')
  simp at r r'
  omega
/-- A store at a block that no row lies in. -/
theorem Fresh.set {w : World} {lo n g : Nat} {A : Option Addr} {cells : List Value} (h : Fresh w lo A n cells) (hg : 0 < n → A ≠ some ⟨g, 0, none⟩) (o : Nat) (v : Value) : Fresh (w.setCell ⟨g, o, none⟩ v) lo A n cells := fun h0 => by
  obtain ⟨b, e, h1, h2, h3, h4⟩ := h h0
  have hne : g ≠ b := fun e' => hg h0 (by rw [e, e'])
  exact ⟨b, e, h1, by simpa using h2, fun i hi => (World.cell?_setCell_other _ _ _ _ (fun e' => hne (by simpa using congrArg Addr.block e'))).trans (h3 i hi), fun i => (World.frozen?_setCell _ _ _ _).trans (h4 i)⟩

/-- The block of a row, or any block, if the row is empty. -/
theorem row_block {w : World} {lo n g x : Nat} {A : Option Addr} {cells : List Value} (h : Fresh w lo A n cells) (hx : x < lo) (hxs : x < w.heap.size) (hg : lo ≤ g) (hn : 0 < n → A ≠ some ⟨g, 0, none⟩) :
    ∃ b, b < w.heap.size ∧ b ≠ g ∧ x ≤ b ∧ (0 < n → A = some ⟨b, 0, none⟩ ∧ lo ≤ b ∧ (∀ i (h : i < cells.length), w.cell? ⟨b, i, none⟩ = some cells[i]) ∧ ∀ i, w.frozen? ⟨b, i, none⟩ = false) ∧ (0 < n ∧ lo ≤ b ∨ b = x ∧ n = 0) := by
  rcases Nat.eq_zero_or_pos n with h0 | h0
  · exact ⟨x, hxs, by omega, Nat.le_refl _, fun h => absurd h0 (by omega), .inr ⟨rfl, h0⟩⟩
  · obtain ⟨b, e, h1, h2, h3, h4⟩ := h h0
    refine ⟨b, h2, fun e' => hn h0 (by rw [e, e']), by omega, fun _ => ⟨e, h1, h3, h4⟩, .inl ⟨h0, h1⟩⟩

theorem flat_cell {α : Type} {f : α → List Value} {sz : Nat} (hf : ∀ a, (f a).length = sz) {w : World} {b : Nat} {l : List α} (h : ∀ i (h : i < (l.flatMap f).length), w.cell? ⟨b, i, none⟩ = some (l.flatMap f)[i]) (i r : Nat) (hi : i < l.length) (hr : r < sz) :
    w.cell? ⟨b, i * sz + r, none⟩ = (f l[i])[r]? := by
  have hl : i * sz + r < (l.flatMap f).length := by
    rw [flat_len hf]
    have : (i + 1) * sz ≤ l.length * sz := Nat.mul_le_mul_right _ hi
    rw [Nat.add_mul, Nat.one_mul] at this
    omega
  rw [h _ hl, ← flat_at hf l i r hi hr, List.getElem?_eq_getElem hl]

theorem L1.start {W : World} {gp : Nat} {ps : List PV} (h : 0 < ps.length → ∀ i (h : i < (ps.flatMap pC).length), W.cell? ⟨gp, i, none⟩ = some (ps.flatMap pC)[i]) : L1 W gp ps ps 0 W :=
  ⟨rfl, fun _ _ _ => ⟨rfl, rfl⟩, fun _ _ h => absurd h (Nat.not_lt_zero _), fun _ _ _ _ => rfl, fun j hj => by
    have hc := h (by omega)
    exact ⟨flat_cell (f := pC) (sz := 2) (fun _ => rfl) hc j 0 hj (by omega), flat_cell (f := pC) (sz := 2) (fun _ => rfl) hc j 1 hj (by omega)⟩, Exc.refl _ _⟩
theorem L2.start {W : World} {gk : Nat} {ks : List Nd} (h : 0 < ks.length → ∀ i (h : i < (ks.flatMap kC).length), W.cell? ⟨gk, i, none⟩ = some (ks.flatMap kC)[i]) : L2 W gk ks ks 0 W :=
  ⟨rfl, fun _ _ _ h => absurd h (Nat.not_lt_zero _), fun _ _ h => absurd h (Nat.not_lt_zero _), fun _ _ _ _ => rfl, fun j hj => by
    have hc := h (by omega)
    exact ⟨flat_cell (f := kC) (sz := 3) (fun _ => rfl) hc j 0 hj (by omega), flat_cell (f := kC) (sz := 3) (fun _ => rfl) hc j 1 hj (by omega), flat_cell (f := kC) (sz := 3) (fun _ => rfl) hc j 2 hj (by omega)⟩, Exc.refl _ _⟩

/-- What has been made is a node of its own, the same as the one that was given. -/
theorem made_node {w0 W W2 wr wf : World} {g gp gk : Nat} {nm : ByteArray} {pa ka : Option Addr} {pc kc : Nat} {ps xs : List PV} {ks ms : List Nd} {A1 A2 : Option Addr} {c1 c2 : Nat} {w : World}
    (hn : (Nd.mk nm pa pc ps ka kc ks).In w w.heap.size) (HL : Laid w0 W g nm ps ks A1 c1 A2 c2)
    (p1 : gp < W.heap.size) (p2 : 0 < ps.length → A1 = some ⟨gp, 0, none⟩ ∧ w0.heap.size ≤ gp)
    (k1 : gk < W.heap.size) (k2 : 0 < ks.length → A2 = some ⟨gk, 0, none⟩ ∧ w0.heap.size ≤ gk ∧ ∀ i, W2.frozen? ⟨gk, i, none⟩ = false) (hne : 0 < ps.length → gp ≠ gk)
    (h1 : L1 W gp ps xs ps.length W2) (h2 : L2 W2 gk ks ms ks.length wr)
    (hc : ∀ a : Addr, w0.heap.size ≤ a.block → wf.cell? a = wr.cell? a) (hfz : ∀ a : Addr, wf.frozen? a = wr.frozen? a) (hsz : wf.heap.size = wr.heap.size) :
    (Nd.mk nm A1 c1 xs A2 c2 ms).In wf wf.heap.size ∧ (Nd.mk nm A1 c1 xs A2 c2 ms).Above w0.heap.size ∧ sameB (Nd.mk nm pa pc ps ka kc ks) (Nd.mk nm A1 c1 xs A2 c2 ms) = true ∧ Mut wf (Nd.mk nm A1 c1 xs A2 c2 ms) := by
  have w0W : w0.heap.size ≤ W.heap.size := HL.bel.size
  have WW2 : W.heap.size ≤ W2.heap.size := h1.exc.size
  have W2r : W2.heap.size ≤ wr.heap.size := h2.exc.size
  have val : ∀ q ∈ xs, ValOk W2 W.heap.size q := fun q hq => by
    obtain ⟨j, hj, rfl⟩ := List.getElem_of_mem hq
    exact h1.done j hj (by rw [← h1.len]; exact hj)
  have kid : ∀ m ∈ ms, m.In wr wr.heap.size ∧ m.Above W2.heap.size := fun m hm => by
    obtain ⟨j, hj, rfl⟩ := List.getElem_of_mem hm
    exact h2.done j hj (by rw [← h2.len]; exact hj)
  have old : ∀ a : Addr, W.heap.size ≤ a.block → a.block < W2.heap.size → wf.cell? a = W2.cell? a := fun a q1 q2 => (hc a (by omega)).trans (h2.exc.cell a q2 (by omega))
  have rowp : 0 < xs.length → A1 = some ⟨gp, 0, none⟩ ∧ w0.heap.size ≤ gp ∧ gp ≠ gk := fun h0 => by
    rw [h1.len] at h0
    exact ⟨(p2 h0).1, (p2 h0).2, hne h0⟩
  have rowk : 0 < ms.length → A2 = some ⟨gk, 0, none⟩ ∧ w0.heap.size ≤ gk ∧ ∀ i, W2.frozen? ⟨gk, i, none⟩ = false := fun h0 => by
    rw [h2.len] at h0
    exact k2 h0
  refine ⟨?_, ?_, ?_, ?_⟩
  · refine .mk _ ⟨hn.name_le.1, ?_, ?_⟩ ?_ HL.lp.2 ?_ HL.lk.2 (fun h0 => ?_) (fun q hq => ?_) (fun h0 => ?_) (fun m hm => ?_)
    · show xs.length * 40 ≤ _
      rw [h1.len]; exact hn.name_le.2.1
    · show ms.length * 64 ≤ _
      rw [h2.len]; exact hn.name_le.2.2
    · show xs.length ≤ c1
      rw [h1.len]; exact HL.lp.1
    · show ms.length ≤ c2
      rw [h2.len]; exact HL.lk.1
    · obtain ⟨e, q1, q2⟩ := rowp h0
      refine ⟨gp, 0, e, by rw [hsz]; omega, fun i hi => ?_⟩
      have r := h1.row i hi
      rw [Nat.zero_add]
      exact ⟨(hc ⟨gp, i * 2, none⟩ q1).trans ((h2.exc.cell ⟨gp, i * 2, none⟩ (by show gp < _; omega) q2).trans r.1), (hc ⟨gp, i * 2 + 1, none⟩ q1).trans ((h2.exc.cell ⟨gp, i * 2 + 1, none⟩ (by show gp < _; omega) q2).trans r.2)⟩
    · have v := val q hq
      refine (v.1.keep2 v.above old).more (by rw [hsz]; omega)
    · obtain ⟨e, q1, _⟩ := rowk h0
      refine ⟨gk, 0, e, by rw [hsz]; omega, fun i hi => ?_⟩
      have r := h2.row i hi
      rw [Nat.zero_add]
      exact ⟨(hc ⟨gk, i * 3, none⟩ q1).trans r.1, (hc ⟨gk, i * 3 + 1, none⟩ q1).trans r.2.1, (hc ⟨gk, i * 3 + 2, none⟩ q1).trans r.2.2⟩
    · obtain ⟨d1, d2⟩ := kid m hm
      rw [hsz]
      exact d1.keep2 (lo := W2.heap.size) (fun a q1 _ => hc a (by omega)) d2
  · refine .mk _ (fun h0 b o e => ?_) (fun q hq h0 b o e => ?_) (fun h0 b o e => ?_) (fun m hm => (kid m hm).2.low (by omega))
    · obtain ⟨e', q1, _⟩ := rowp h0
      have e2 : (some ⟨b, o, none⟩ : Option Addr) = some ⟨gp, 0, none⟩ := e.symm.trans e'
      have := congrArg Addr.block (Option.some.inj e2)
      simp at this
      omega
    · have := (val q hq).above h0 b o e
      omega
    · obtain ⟨e', q1, _⟩ := rowk h0
      have e2 : (some ⟨b, o, none⟩ : Option Addr) = some ⟨gk, 0, none⟩ := e.symm.trans e'
      have := congrArg Addr.block (Option.some.inj e2)
      simp at this
      omega
  · rw [sameB_mk]
    have s1 : all2 sameP ps xs = true := all2_mk h1.len.symm (fun j q1 q2 => by
      obtain ⟨r1, r2⟩ := h1.same j q2 q1
      rw [sameP, r1, r2]; simp)
    have s2 : all2 sameB ks ms = true := all2_mk h2.len.symm (fun j q1 q2 => h2.same j q2 q1 q1)
    show (decide (nm = nm) && all2 sameP ps xs && all2 sameB ks ms) = true
    rw [s1, s2]; simp
  · refine ⟨fun q hq h0 => ?_, fun h0 => ?_⟩
    · obtain ⟨b, e, q1, q2, q3⟩ := (val q hq).2 h0
      refine ⟨b, e, fun i => (hfz _).trans ((h2.exc.frozen ⟨b, i, none⟩ q2).trans (q3 i)), fun x o ex => ?_⟩
      have hx : 0 < xs.length := List.length_pos_of_mem hq
      obtain ⟨e', _⟩ := rowp hx
      have e2 : (some ⟨x, o, none⟩ : Option Addr) = some ⟨gp, 0, none⟩ := ex.symm.trans e'
      have := congrArg Addr.block (Option.some.inj e2)
      simp at this
      omega
    · obtain ⟨e, q1, q3⟩ := rowk h0
      exact ⟨gk, e, fun i => (hfz _).trans ((h2.exc.frozen ⟨gk, i, none⟩ (by show gk < _; omega)).trans (q3 i))⟩

/-- Three cells of a box, stored one after the other. -/
theorem box_cells {w : World} {g : Nat} {u0 u1 u2 v0 v1 v2 : Value} (h0 : w.cell? ⟨g, 0, none⟩ = some u0) (h1 : w.cell? ⟨g, 1, none⟩ = some u1) (h2 : w.cell? ⟨g, 2, none⟩ = some u2) :
    (((w.setCell ⟨g, 0, none⟩ v0).setCell ⟨g, 1, none⟩ v1).setCell ⟨g, 2, none⟩ v2).cell? ⟨g, 0, none⟩ = some v0 ∧ (((w.setCell ⟨g, 0, none⟩ v0).setCell ⟨g, 1, none⟩ v1).setCell ⟨g, 2, none⟩ v2).cell? ⟨g, 1, none⟩ = some v1 ∧
      (((w.setCell ⟨g, 0, none⟩ v0).setCell ⟨g, 1, none⟩ v1).setCell ⟨g, 2, none⟩ v2).cell? ⟨g, 2, none⟩ = some v2 := by
  refine ⟨?_, ?_, ?_⟩
  · rw [World.cell?_setCell_other _ _ _ _ (off_ne' (by omega)), World.cell?_setCell_other _ _ _ _ (off_ne' (by omega)), World.cell?_setCell_same _ _ _ h0]
  · rw [World.cell?_setCell_other _ _ _ _ (off_ne' (by omega)), World.cell?_setCell_same _ _ _ ((World.cell?_setCell_other _ _ _ _ (off_ne' (by omega))).trans h1)]
  · rw [World.cell?_setCell_same _ _ _ ((World.cell?_setCell_other _ _ _ _ (off_ne' (by omega))).trans ((World.cell?_setCell_other _ _ _ _ (off_ne' (by omega))).trans h2))]

set_option maxHeartbeats 8000000 in
theorem cloneNode_any : ∀ (n : Nd) (w : World), n.In w w.heap.size → Calls Try.prog 27 #[n.val] w fun e w' => ∃ m : Nd, e = .returned m.val ∧ m.In w' w'.heap.size ∧ m.Above w.heap.size ∧ sameB n m = true ∧ Mut w' m ∧ Below w.heap.size w w' := by
  refine Nd.ind ?_
  intro n ih w hin
  have HI := Lib.hid hin
  have IH := Lib.hid ih
  have C1 := Lib.hid (fun W h => cloneProps_any n W h)
  have C2 := Lib.hid (fun W h => cloneKids_any n W h)
  clear hin ih
  obtain ⟨nm, pa, pc, ps, ka, kc, ks⟩ := n
  replace C1 : Hid (∀ W : World, (Nd.mk nm pa pc ps ka kc ks).In W W.heap.size → Calls Try.prog 39 #[.slice pa ps.length pc] W fun e w' => ∃ A c, e = .returned (.slice A ps.length c) ∧ ps.length ≤ c ∧ c ≤ 9223372036854775807 ∧ Fresh w' W.heap.size A ps.length (ps.flatMap pC) ∧ Below W.heap.size W w') := C1
  replace C2 : Hid (∀ W : World, (Nd.mk nm pa pc ps ka kc ks).In W W.heap.size → Calls Try.prog 40 #[.slice ka ks.length kc] W fun e w' => ∃ A c, e = .returned (.slice A ks.length c) ∧ ks.length ≤ c ∧ c ≤ 9223372036854775807 ∧ Fresh w' W.heap.size A ks.length (ks.flatMap kC) ∧ Below W.heap.size W w') := C2
  show Calls _ _ #[.agg #[.string nm, .slice pa ps.length pc, .slice ka ks.length kc]] _ _
  have HB0 := Lib.hid (((Below.refl w.heap.size w).alloc (Nat.le_refl _) (.cells #[Value.string nm, .slice pa ps.length pc, .slice ka ks.length kc] 27)).alloc (by simp) (.cells #[Value.string ⟨#[]⟩, .slice none 0 0, .slice none 0 0] 27))
  go_enter Try.func27, Try.ntmps27
  go_wp2_with fail
  have x0 : ((w.alloc (.cells #[Value.string nm, .slice pa ps.length pc, .slice ka ks.length kc] 27)).alloc (.cells #[Value.string ⟨#[]⟩, .slice none 0 0, .slice none 0 0] 27)).cell? ⟨w.heap.size, 0, none⟩ = some (.string nm) := World.cell?_alloc2_first _ _ _ _
  have x1 : ((w.alloc (.cells #[Value.string nm, .slice pa ps.length pc, .slice ka ks.length kc] 27)).alloc (.cells #[Value.string ⟨#[]⟩, .slice none 0 0, .slice none 0 0] 27)).cell? ⟨w.heap.size, 1, none⟩ = some (.slice pa ps.length pc) := World.cell?_alloc2_first _ _ _ _
  have x2 : ((w.alloc (.cells #[Value.string nm, .slice pa ps.length pc, .slice ka ks.length kc] 27)).alloc (.cells #[Value.string ⟨#[]⟩, .slice none 0 0, .slice none 0 0] 27)).cell? ⟨w.heap.size, 2, none⟩ = some (.slice ka ks.length kc) := World.cell?_alloc2_first _ _ _ _
  refine code_cut (R := fun a' W => ∃ g A1 c1 A2 c2, a' = { tmps := #[.agg #[.string nm, .slice pa ps.length pc, .slice ka ks.length kc], .pointer (some ⟨w.heap.size, 0, none⟩), .pointer (some ⟨w.heap.size + 1, 0, none⟩), .pointer (some ⟨g, 0, none⟩), undef, undef, undef, undef, .pointer (some ⟨w.heap.size, 0, none⟩), .string nm, .pointer (some ⟨w.heap.size, 1, none⟩), .slice pa ps.length pc, .slice A1 ps.length c1, .pointer (some ⟨w.heap.size, 2, none⟩), .slice ka ks.length kc, .slice A2 ks.length c2, .agg #[.string nm, .slice A1 ps.length c1, .slice A2 ks.length c2], undef, undef, undef, undef, undef, undef, undef, undef, undef, undef, undef, undef, undef, undef, undef, undef, undef, undef, undef, undef, undef, undef, undef, undef, undef, undef, undef, undef, undef, undef, undef, undef, undef], defers := [] } ∧ Laid ((w.alloc (.cells #[Value.string nm, .slice pa ps.length pc, .slice ka ks.length kc] 27)).alloc (.cells #[Value.string ⟨#[]⟩, .slice none 0 0, .slice none 0 0] 27)) W g nm ps ks A1 c1 A2 c2) ?first ?rest
  case first =>
    refine wp_region_held_drew (S := fun W => W.cell? ⟨w.heap.size, 0, none⟩ = some (.string nm) ∧ W.cell? ⟨w.heap.size, 1, none⟩ = some (.slice pa ps.length pc) ∧ W.cell? ⟨w.heap.size, 2, none⟩ = some (.slice ka ks.length kc)) (by kernel_rfl) ⟨x0, x1, x2⟩ (fun hHeld => ?_)
    refine held_take 0 rfl (by kernel_rfl) (by kernel_rfl) (by kernel_rfl) (fun _ _ _ h => absurd h.1 (by intro h'; cases h')) (by rfl) hHeld (v := ?_) (fun w hSw => ?_) (fun _ => ?_)
    rotate_left
    · ((try dsimp only at hSw); go_simp; (try with_reducible rfl))
    simp only [Act.put, List.setIfInBounds_toArray, List.set_cons_zero, List.set_cons_succ]
    refine held_take 1 rfl (by kernel_rfl) (by kernel_rfl) (by kernel_rfl) (fun _ _ _ h => absurd h.1 (by intro h'; cases h')) (by rfl) hHeld (v := ?_) (fun w hSw => ?_) (fun _ => ?_)
    rotate_left
    · ((try dsimp only at hSw); go_simp; (try with_reducible rfl))
    simp only [Act.put, List.setIfInBounds_toArray, List.set_cons_zero, List.set_cons_succ]
    refine held_take 2 rfl (by kernel_rfl) (by kernel_rfl) (by kernel_rfl) (fun _ _ _ h => absurd h.1 (by intro h'; cases h')) (by rfl) hHeld (v := ?_) (fun w hSw => ?_) (fun _ => ?_)
    rotate_left
    · ((try dsimp only at hSw); go_simp; (try with_reducible rfl))
    simp only [Act.put, List.setIfInBounds_toArray, List.set_cons_zero, List.set_cons_succ]
    refine held_take 3 rfl (by kernel_rfl) (by kernel_rfl) (by kernel_rfl) (fun _ _ _ h => absurd h.1 (by intro h'; cases h')) (by rfl) hHeld (v := ?_) (fun w hSw => ?_) (fun _ => ?_)
    rotate_left
    · ((try dsimp only at hSw); go_simp; (try with_reducible rfl))
    simp only [Act.put, List.setIfInBounds_toArray, List.set_cons_zero, List.set_cons_succ]
    refine held_take 5 rfl (by kernel_rfl) (by kernel_rfl) (by kernel_rfl) (fun _ _ _ h => absurd h.1 (by intro h'; cases h')) (by rfl) hHeld (v := ?_) (fun w hSw => ?_) (fun _ => ?_)
    rotate_left
    · ((try dsimp only at hSw); go_simp; (try with_reducible rfl))
    simp only [Act.put, List.setIfInBounds_toArray, List.set_cons_zero, List.set_cons_succ]
    refine held_take 6 rfl (by kernel_rfl) (by kernel_rfl) (by kernel_rfl) (fun _ _ _ h => absurd h.1 (by intro h'; cases h')) (by rfl) hHeld (v := ?_) (fun w hSw => ?_) (fun _ => ?_)
    rotate_left
    · ((try dsimp only at hSw); go_simp; (try with_reducible rfl))
    simp only [Act.put, List.setIfInBounds_toArray, List.set_cons_zero, List.set_cons_succ]
    have HBd := Lib.hid ((Below.refl ((w.alloc (.cells #[Value.string nm, .slice pa ps.length pc, .slice ka ks.length kc] 27)).alloc (.cells #[Value.string ⟨#[]⟩, .slice none 0 0, .slice none 0 0] 27)).heap.size ((w.alloc (.cells #[Value.string nm, .slice pa ps.length pc, .slice ka ks.length kc] 27)).alloc (.cells #[Value.string ⟨#[]⟩, .slice none 0 0, .slice none 0 0] 27))).drew)
    refine held_two 4 9 (by kernel_rfl) rfl rfl (by rfl) (by rfl) (fun K hK => ?_) (fun K hK => ?_)
    · go_simp
      refine (C1.out _ (HI.out.on (HB0.out.trans (HBd.out.mono HB0.out.size)))).mono ?_
      rintro e w1 ⟨A1, c1, rfl, p1, p2, pf, hb⟩
      have HB1 := Lib.hid (HBd.out.trans (hb.mono HBd.out.size))
      have HP := Lib.hid (And.intro p1 (And.intro p2 (And.intro pf hb)))
      clear p1 p2 pf hb
      dsimp only
      refine hK.out _ _ ⟨(HB1.out.cell (p := ⟨w.heap.size, 0, none⟩) (by simp; omega)).trans x0, (HB1.out.cell (p := ⟨w.heap.size, 1, none⟩) (by simp; omega)).trans x1, (HB1.out.cell (p := ⟨w.heap.size, 2, none⟩) (by simp; omega)).trans x2⟩ (fun hHeld => ?_)
      clear hK K
      refine held_two 7 9 (by kernel_rfl) rfl rfl (by rfl) (by rfl) (fun K hK => ?_) (fun K hK => ?_)
      · go_simp
        refine (C2.out _ (HI.out.on (HB0.out.trans (HB1.out.mono HB0.out.size)))).mono ?_
        rintro e w2 ⟨A2, c2, rfl, q1, q2, qf, hb2⟩
        have HB2 := Lib.hid (HB1.out.trans (hb2.mono HB1.out.size))
        have HK := Lib.hid (And.intro q1 (And.intro q2 (And.intro qf hb2)))
        clear q1 q2 qf hb2
        dsimp only
        refine hK.out _ _ ⟨(HB2.out.cell (p := ⟨w.heap.size, 0, none⟩) (by simp; omega)).trans x0, (HB2.out.cell (p := ⟨w.heap.size, 1, none⟩) (by simp; omega)).trans x1, (HB2.out.cell (p := ⟨w.heap.size, 2, none⟩) (by simp; omega)).trans x2⟩ (fun hHeld => ?_)
        clear hK K
        refine held_take 8 rfl (by kernel_rfl) (by kernel_rfl) (by kernel_rfl) (fun _ _ _ h => absurd h.1 (by intro h'; cases h')) (by rfl) hHeld (v := ?_) (fun w hSw => ?_) (fun _ => ?_)
        rotate_left
        · ((try dsimp only at hSw); go_simp; (try with_reducible rfl))
        simp only [Act.put, List.setIfInBounds_toArray, List.set_cons_zero, List.set_cons_succ]
        refine held_call 9 (by kernel_rfl) rfl (by rfl) (fun K hK => ?_)
        go_simp
        have HB3 := Lib.hid (HB2.out.alloc HB2.out.size (.cells #[Value.string ⟨#[]⟩, .slice none 0 0, .slice none 0 0] 27))
        refine hK.out _ _ ⟨(HB3.out.cell (p := ⟨w.heap.size, 0, none⟩) (by simp; omega)).trans x0, (HB3.out.cell (p := ⟨w.heap.size, 1, none⟩) (by simp; omega)).trans x1, (HB3.out.cell (p := ⟨w.heap.size, 2, none⟩) (by simp; omega)).trans x2⟩ (fun hHeld => ?_)
        clear hK K
        refine held_call 10 (by kernel_rfl) rfl (by rfl) (fun K hK => ?_)
        go_simp
        have HB4 := Lib.hid (HB2.out.alloc HB2.out.size (.cells #[.string nm, .slice A1 ps.length c1, .slice A2 ks.length c2] 27))
        refine hK.out _ _ ⟨(HB4.out.cell (p := ⟨w.heap.size, 0, none⟩) (by simp; omega)).trans x0, (HB4.out.cell (p := ⟨w.heap.size, 1, none⟩) (by simp; omega)).trans x1, (HB4.out.cell (p := ⟨w.heap.size, 2, none⟩) (by simp; omega)).trans x2⟩ (fun hHeld => ?_)
        clear hK K
        have HA := Lib.hid (Below.alloc (Below.refl w2.heap.size w2) (Nat.le_refl _) (.cells #[.string nm, .slice A1 ps.length c1, .slice A2 ks.length c2] 27))
        refine wpAnyH_done (by kernel_rfl) ?_ _
        exact ⟨rfl, w2.heap.size, A1, c1, A2, c2, rfl, ⟨HB4.out, HB2.out.size, by simp, World.cell?_alloc_new _ _ _ _, World.cell?_alloc_new _ _ _ _, World.cell?_alloc_new _ _ _ _, ⟨HP.out.1, HP.out.2.1⟩, ⟨HK.out.1, HK.out.2.1⟩, (HP.out.2.2.1.keep HK.out.2.2.2).keep HA.out, (HK.out.2.2.1.low HB1.out.size).keep HA.out, fresh_not HP.out.2.2.1 (.inr HK.out.2.2.2.size), fresh_not HK.out.2.2.1 (.inr (Nat.le_refl _)), fresh_lt HP.out.2.2.1 HK.out.2.2.1 (Nat.le_refl _)⟩⟩
      · go_simp
        have HBA := Lib.hid (HB1.out.alloc HB1.out.size (.cells #[Value.string ⟨#[]⟩, .slice none 0 0, .slice none 0 0] 27))
        have HA := Lib.hid (Below.alloc (Below.refl w1.heap.size w1) (Nat.le_refl _) (.cells #[Value.string ⟨#[]⟩, .slice none 0 0, .slice none 0 0] 27))
        have HGL := Lib.hid (show ((w.alloc (.cells #[Value.string nm, .slice pa ps.length pc, .slice ka ks.length kc] 27)).alloc (.cells #[Value.string ⟨#[]⟩, .slice none 0 0, .slice none 0 0] 27)).heap.size ≤ w1.heap.size from HB1.out.size)
        refine hK.out _ _ ⟨(HBA.out.cell (p := ⟨w.heap.size, 0, none⟩) (by simp; omega)).trans x0, (HBA.out.cell (p := ⟨w.heap.size, 1, none⟩) (by simp; omega)).trans x1, (HBA.out.cell (p := ⟨w.heap.size, 2, none⟩) (by simp; omega)).trans x2⟩ (fun hHeld => ?_)
        clear hK K
        refine held_call 7 (by kernel_rfl) rfl (by rfl) (fun K hK => ?_)
        go_simp
        refine (C2.out _ (HI.out.on (HB0.out.trans (HBA.out.mono HB0.out.size)))).mono ?_
        rintro e w2 ⟨A2, c2, rfl, q1, q2, qf, hb2⟩
        have HB2 := Lib.hid (HBA.out.trans (hb2.mono HBA.out.size))
        have HK := Lib.hid (And.intro q1 (And.intro q2 (And.intro qf hb2)))
        clear q1 q2 qf hb2
        dsimp only
        refine hK.out _ _ ⟨(HB2.out.cell (p := ⟨w.heap.size, 0, none⟩) (by simp; omega)).trans x0, (HB2.out.cell (p := ⟨w.heap.size, 1, none⟩) (by simp; omega)).trans x1, (HB2.out.cell (p := ⟨w.heap.size, 2, none⟩) (by simp; omega)).trans x2⟩ (fun hHeld => ?_)
        clear hK K
        refine held_take 8 rfl (by kernel_rfl) (by kernel_rfl) (by kernel_rfl) (fun _ _ _ h => absurd h.1 (by intro h'; cases h')) (by rfl) hHeld (v := ?_) (fun w hSw => ?_) (fun _ => ?_)
        rotate_left
        · ((try dsimp only at hSw); go_simp; (try with_reducible rfl))
        simp only [Act.put, List.setIfInBounds_toArray, List.set_cons_zero, List.set_cons_succ]
        have g0 : w2.cell? ⟨w1.heap.size, 0, none⟩ = some (Value.string ⟨#[]⟩) := (HK.out.2.2.2.cell (p := ⟨w1.heap.size, 0, none⟩) (by simp)).trans (World.cell?_alloc_new _ _ _ _)
        have e0 : w2.frozen? ⟨w1.heap.size, 0, none⟩ = false := (HK.out.2.2.2.frozen (p := ⟨w1.heap.size, 0, none⟩) (by simp)).trans (World.frozen?_alloc_new _ _ _ _)
        have g1 : w2.cell? ⟨w1.heap.size, 1, none⟩ = some (Value.slice none 0 0) := (HK.out.2.2.2.cell (p := ⟨w1.heap.size, 1, none⟩) (by simp)).trans (World.cell?_alloc_new _ _ _ _)
        have e1 : w2.frozen? ⟨w1.heap.size, 1, none⟩ = false := (HK.out.2.2.2.frozen (p := ⟨w1.heap.size, 1, none⟩) (by simp)).trans (World.frozen?_alloc_new _ _ _ _)
        have g2 : w2.cell? ⟨w1.heap.size, 2, none⟩ = some (Value.slice none 0 0) := (HK.out.2.2.2.cell (p := ⟨w1.heap.size, 2, none⟩) (by simp)).trans (World.cell?_alloc_new _ _ _ _)
        have e2 : w2.frozen? ⟨w1.heap.size, 2, none⟩ = false := (HK.out.2.2.2.frozen (p := ⟨w1.heap.size, 2, none⟩) (by simp)).trans (World.frozen?_alloc_new _ _ _ _)
        have HG := Lib.hid (And.intro g0 (And.intro g1 g2))
        refine held_call 10 (by kernel_rfl) rfl (by rfl) (fun K hK => ?_)
        go_simp
        clear g0 g1 g2 e0 e1 e2
        have HB4 := Lib.hid (((HB2.out.setCell (p := ⟨w1.heap.size, 0, none⟩) HGL.out (.string nm)).setCell (p := ⟨w1.heap.size, 1, none⟩) HGL.out (.slice A1 ps.length c1)).setCell (p := ⟨w1.heap.size, 2, none⟩) HGL.out (.slice A2 ks.length c2))
        refine hK.out _ _ ⟨(HB4.out.cell (p := ⟨w.heap.size, 0, none⟩) (by simp; omega)).trans x0, (HB4.out.cell (p := ⟨w.heap.size, 1, none⟩) (by simp; omega)).trans x1, (HB4.out.cell (p := ⟨w.heap.size, 2, none⟩) (by simp; omega)).trans x2⟩ (fun hHeld => ?_)
        clear hK K
        have NP := fresh_not HP.out.2.2.1 (.inr (Nat.le_refl w1.heap.size))
        have NK := fresh_not (g := w1.heap.size) HK.out.2.2.1 (.inl (by simp))
        have BC := box_cells (v0 := .string nm) (v1 := .slice A1 ps.length c1) (v2 := .slice A2 ks.length c2) HG.out.1 HG.out.2.1 HG.out.2.2
        refine wpAnyH_done (by kernel_rfl) ?_ _
        exact ⟨rfl, w1.heap.size, A1, c1, A2, c2, rfl, ⟨HB4.out, HGL.out, by have := HK.out.2.2.2.size; simp at this ⊢; omega, BC.1, BC.2.1, BC.2.2, ⟨HP.out.1, HP.out.2.1⟩, ⟨HK.out.1, HK.out.2.1⟩, ((((HP.out.2.2.1.keep HA.out).keep HK.out.2.2.2).set NP _ _).set NP _ _).set NP _ _, (((HK.out.2.2.1.low HBA.out.size).set NK _ _).set NK _ _).set NK _ _, NP, NK, fresh_lt HP.out.2.2.1 HK.out.2.2.1 HA.out.size⟩⟩
    · go_simp
      have HBA := Lib.hid (((Below.refl ((w.alloc (.cells #[Value.string nm, .slice pa ps.length pc, .slice ka ks.length kc] 27)).alloc (.cells #[Value.string ⟨#[]⟩, .slice none 0 0, .slice none 0 0] 27)).heap.size ((w.alloc (.cells #[Value.string nm, .slice pa ps.length pc, .slice ka ks.length kc] 27)).alloc (.cells #[Value.string ⟨#[]⟩, .slice none 0 0, .slice none 0 0] 27))).alloc (Nat.le_refl _) (.cells #[Value.string ⟨#[]⟩, .slice none 0 0, .slice none 0 0] 27)).drew)
      have HGL := Lib.hid (show ((w.alloc (.cells #[Value.string nm, .slice pa ps.length pc, .slice ka ks.length kc] 27)).alloc (.cells #[Value.string ⟨#[]⟩, .slice none 0 0, .slice none 0 0] 27)).heap.size ≤ w.heap.size + 1 + 1 by simp)
      refine hK.out _ _ ⟨(HBA.out.cell (p := ⟨w.heap.size, 0, none⟩) (by simp; omega)).trans x0, (HBA.out.cell (p := ⟨w.heap.size, 1, none⟩) (by simp; omega)).trans x1, (HBA.out.cell (p := ⟨w.heap.size, 2, none⟩) (by simp; omega)).trans x2⟩ (fun hHeld => ?_)
      clear hK K
      refine held_call 4 (by kernel_rfl) rfl (by rfl) (fun K hK => ?_)
      go_simp
      refine (C1.out _ (HI.out.on (HB0.out.trans (HBA.out.mono HB0.out.size)))).mono ?_
      rintro e w1 ⟨A1, c1, rfl, p1, p2, pf, hb⟩
      have HB1 := Lib.hid (HBA.out.trans (hb.mono HBA.out.size))
      have HP := Lib.hid (And.intro p1 (And.intro p2 (And.intro pf hb)))
      clear p1 p2 pf hb
      dsimp only
      refine hK.out _ _ ⟨(HB1.out.cell (p := ⟨w.heap.size, 0, none⟩) (by simp; omega)).trans x0, (HB1.out.cell (p := ⟨w.heap.size, 1, none⟩) (by simp; omega)).trans x1, (HB1.out.cell (p := ⟨w.heap.size, 2, none⟩) (by simp; omega)).trans x2⟩ (fun hHeld => ?_)
      clear hK K
      refine held_call 7 (by kernel_rfl) rfl (by rfl) (fun K hK => ?_)
      go_simp
      refine (C2.out _ (HI.out.on (HB0.out.trans (HB1.out.mono HB0.out.size)))).mono ?_
      rintro e w2 ⟨A2, c2, rfl, q1, q2, qf, hb2⟩
      have HB2 := Lib.hid (HB1.out.trans (hb2.mono HB1.out.size))
      have HK := Lib.hid (And.intro q1 (And.intro q2 (And.intro qf hb2)))
      clear q1 q2 qf hb2
      dsimp only
      refine hK.out _ _ ⟨(HB2.out.cell (p := ⟨w.heap.size, 0, none⟩) (by simp; omega)).trans x0, (HB2.out.cell (p := ⟨w.heap.size, 1, none⟩) (by simp; omega)).trans x1, (HB2.out.cell (p := ⟨w.heap.size, 2, none⟩) (by simp; omega)).trans x2⟩ (fun hHeld => ?_)
      clear hK K
      refine held_take 8 rfl (by kernel_rfl) (by kernel_rfl) (by kernel_rfl) (fun _ _ _ h => absurd h.1 (by intro h'; cases h')) (by rfl) hHeld (v := ?_) (fun w hSw => ?_) (fun _ => ?_)
      rotate_left
      · ((try dsimp only at hSw); go_simp; (try with_reducible rfl))
      simp only [Act.put, List.setIfInBounds_toArray, List.set_cons_zero, List.set_cons_succ]
      have g0 : w2.cell? ⟨w.heap.size + 1 + 1, 0, none⟩ = some (Value.string ⟨#[]⟩) := (HK.out.2.2.2.cell (p := ⟨w.heap.size + 1 + 1, 0, none⟩) (by have := HP.out.2.2.2.size; simp at this ⊢; omega)).trans ((HP.out.2.2.2.cell (p := ⟨w.heap.size + 1 + 1, 0, none⟩) (by simp)).trans (World.cell?_alloc_at (w := ((w.alloc (.cells #[Value.string nm, .slice pa ps.length pc, .slice ka ks.length kc] 27)).alloc (.cells #[Value.string ⟨#[]⟩, .slice none 0 0, .slice none 0 0] 27))) _ _ _ _ (by simp)))
      have e0 : w2.frozen? ⟨w.heap.size + 1 + 1, 0, none⟩ = false := (HK.out.2.2.2.frozen (p := ⟨w.heap.size + 1 + 1, 0, none⟩) (by have := HP.out.2.2.2.size; simp at this ⊢; omega)).trans ((HP.out.2.2.2.frozen (p := ⟨w.heap.size + 1 + 1, 0, none⟩) (by simp)).trans (World.frozen?_alloc_at (w := ((w.alloc (.cells #[Value.string nm, .slice pa ps.length pc, .slice ka ks.length kc] 27)).alloc (.cells #[Value.string ⟨#[]⟩, .slice none 0 0, .slice none 0 0] 27))) _ _ _ _ (by simp)))
      have g1 : w2.cell? ⟨w.heap.size + 1 + 1, 1, none⟩ = some (Value.slice none 0 0) := (HK.out.2.2.2.cell (p := ⟨w.heap.size + 1 + 1, 1, none⟩) (by have := HP.out.2.2.2.size; simp at this ⊢; omega)).trans ((HP.out.2.2.2.cell (p := ⟨w.heap.size + 1 + 1, 1, none⟩) (by simp)).trans (World.cell?_alloc_at (w := ((w.alloc (.cells #[Value.string nm, .slice pa ps.length pc, .slice ka ks.length kc] 27)).alloc (.cells #[Value.string ⟨#[]⟩, .slice none 0 0, .slice none 0 0] 27))) _ _ _ _ (by simp)))
      have e1 : w2.frozen? ⟨w.heap.size + 1 + 1, 1, none⟩ = false := (HK.out.2.2.2.frozen (p := ⟨w.heap.size + 1 + 1, 1, none⟩) (by have := HP.out.2.2.2.size; simp at this ⊢; omega)).trans ((HP.out.2.2.2.frozen (p := ⟨w.heap.size + 1 + 1, 1, none⟩) (by simp)).trans (World.frozen?_alloc_at (w := ((w.alloc (.cells #[Value.string nm, .slice pa ps.length pc, .slice ka ks.length kc] 27)).alloc (.cells #[Value.string ⟨#[]⟩, .slice none 0 0, .slice none 0 0] 27))) _ _ _ _ (by simp)))
      have g2 : w2.cell? ⟨w.heap.size + 1 + 1, 2, none⟩ = some (Value.slice none 0 0) := (HK.out.2.2.2.cell (p := ⟨w.heap.size + 1 + 1, 2, none⟩) (by have := HP.out.2.2.2.size; simp at this ⊢; omega)).trans ((HP.out.2.2.2.cell (p := ⟨w.heap.size + 1 + 1, 2, none⟩) (by simp)).trans (World.cell?_alloc_at (w := ((w.alloc (.cells #[Value.string nm, .slice pa ps.length pc, .slice ka ks.length kc] 27)).alloc (.cells #[Value.string ⟨#[]⟩, .slice none 0 0, .slice none 0 0] 27))) _ _ _ _ (by simp)))
      have e2 : w2.frozen? ⟨w.heap.size + 1 + 1, 2, none⟩ = false := (HK.out.2.2.2.frozen (p := ⟨w.heap.size + 1 + 1, 2, none⟩) (by have := HP.out.2.2.2.size; simp at this ⊢; omega)).trans ((HP.out.2.2.2.frozen (p := ⟨w.heap.size + 1 + 1, 2, none⟩) (by simp)).trans (World.frozen?_alloc_at (w := ((w.alloc (.cells #[Value.string nm, .slice pa ps.length pc, .slice ka ks.length kc] 27)).alloc (.cells #[Value.string ⟨#[]⟩, .slice none 0 0, .slice none 0 0] 27))) _ _ _ _ (by simp)))
      have HG := Lib.hid (And.intro g0 (And.intro g1 g2))
      refine held_call 10 (by kernel_rfl) rfl (by rfl) (fun K hK => ?_)
      go_simp
      clear g0 g1 g2 e0 e1 e2
      have HB4 := Lib.hid (((HB2.out.setCell (p := ⟨w.heap.size + 1 + 1, 0, none⟩) HGL.out (.string nm)).setCell (p := ⟨w.heap.size + 1 + 1, 1, none⟩) HGL.out (.slice A1 ps.length c1)).setCell (p := ⟨w.heap.size + 1 + 1, 2, none⟩) HGL.out (.slice A2 ks.length c2))
      refine hK.out _ _ ⟨(HB4.out.cell (p := ⟨w.heap.size, 0, none⟩) (by simp; omega)).trans x0, (HB4.out.cell (p := ⟨w.heap.size, 1, none⟩) (by simp; omega)).trans x1, (HB4.out.cell (p := ⟨w.heap.size, 2, none⟩) (by simp; omega)).trans x2⟩ (fun hHeld => ?_)
      clear hK K
      have NP := fresh_not (g := w.heap.size + 1 + 1) HP.out.2.2.1 (.inl (by simp))
      have NK := fresh_not (g := w.heap.size + 1 + 1) HK.out.2.2.1 (.inl (by have := HP.out.2.2.2.size; simp at this ⊢; omega))
      have BC := box_cells (v0 := .string nm) (v1 := .slice A1 ps.length c1) (v2 := .slice A2 ks.length c2) HG.out.1 HG.out.2.1 HG.out.2.2
      refine wpAnyH_done (by kernel_rfl) ?_ _
      exact ⟨rfl, w.heap.size + 1 + 1, A1, c1, A2, c2, rfl, ⟨HB4.out, HGL.out, by have h1 := HK.out.2.2.2.size; have h2 := HP.out.2.2.2.size; simp at h1 h2 ⊢; omega, BC.1, BC.2.1, BC.2.2, ⟨HP.out.1, HP.out.2.1⟩, ⟨HK.out.1, HK.out.2.1⟩, (((((HP.out.2.2.1.low (by simp)).keep HK.out.2.2.2).set NP _ _).set NP _ _).set NP _ _), (((HK.out.2.2.1.low HB1.out.size).set NK _ _).set NK _ _).set NK _ _, NP, NK, fresh_lt HP.out.2.2.1 HK.out.2.2.1 (Nat.le_refl _)⟩⟩
  case rest =>
    rintro a' W ⟨g, A1, c1, A2, c2, rfl, hlaid⟩
    have HL := Lib.hid hlaid
    have s0 : ((w.alloc (.cells #[Value.string nm, .slice pa ps.length pc, .slice ka ks.length kc] 27)).alloc (.cells #[Value.string ⟨#[]⟩, .slice none 0 0, .slice none 0 0] 27)).heap.size = w.heap.size + 2 := by simp
    have S0 := Lib.hid s0
    have hp1 := hlaid.lp
    have hk1 := hlaid.lk
    have b0 := hlaid.b0
    have b1 := hlaid.b1
    have b2 := hlaid.b2
    have HBW := Lib.hid (HB0.out.trans (hlaid.bel.mono HB0.out.size))
    have HXW : Hid (w.heap.size + 2 ≤ W.heap.size) := by have := hlaid.bel.size; rw [s0] at this; exact this
    have HGW : Hid (w.heap.size + 2 ≤ g ∧ g < W.heap.size) := by have := hlaid.gl; rw [s0] at this; exact ⟨this, hlaid.gh⟩
    obtain ⟨gp, gp1, gp2, gp3, gp4, gp5⟩ := row_block (x := w.heap.size) hlaid.fp (by rw [s0]; omega) (by have := HXW.out; omega) hlaid.gl hlaid.np
    obtain ⟨gk, gk1, gk2, gk3, gk4, gk5⟩ := row_block (x := w.heap.size) hlaid.fk (by rw [s0]; omega) (by have := HXW.out; omega) hlaid.gl hlaid.nk
    have GP := Lib.hid (And.intro gp1 (And.intro gp2 (And.intro gp3 (And.intro gp4 gp5))))
    have GK := Lib.hid (And.intro gk1 (And.intro gk2 (And.intro gk3 (And.intro gk4 gk5))))
    have HNE : Hid (0 < ps.length → gp ≠ gk) := fun h0 e => by
      have hlo := (gp4 h0).2.1
      rw [s0] at hlo
      rcases gk5 with ⟨hz, _⟩ | ⟨h, _⟩
      · exact absurd (hlaid.npk gp gk h0 hz (gp4 h0).1 (gk4 hz).1) (by omega)
      · omega
    have HNK : Hid (0 < ks.length → gk ≠ gp) := fun h0 e => by
      have hlo := (gk4 h0).2.1
      rw [s0] at hlo
      rcases gp5 with ⟨hz, _⟩ | ⟨h, _⟩
      · exact absurd (hlaid.npk gp gk hz h0 (gp4 hz).1 (gk4 h0).1) (by omega)
      · omega
    have R0 : Hid (∀ wr : World, Exc W gp wr → gp ≠ w.heap.size + 1 → (wr.cell? ⟨w.heap.size + 1, 0, none⟩ = some (.string ⟨#[]⟩) ∧ wr.cell? ⟨w.heap.size + 1, 1, none⟩ = some (.slice none 0 0) ∧ wr.cell? ⟨w.heap.size + 1, 2, none⟩ = some (.slice none 0 0)) ∧
        ∀ i, wr.frozen? ⟨w.heap.size + 1, i, none⟩ = false) := fun wr hx hne => by
      have hl : w.heap.size + 1 < W.heap.size := by have := HXW.out; omega
      have bel : Below (w.heap.size + 2) ((w.alloc (.cells #[Value.string nm, .slice pa ps.length pc, .slice ka ks.length kc] 27)).alloc (.cells #[Value.string ⟨#[]⟩, .slice none 0 0, .slice none 0 0] 27)) W := by have := hlaid.bel; rw [s0] at this; exact this
      exact ⟨⟨(hx.cell ⟨w.heap.size + 1, 0, none⟩ hl (Ne.symm hne)).trans ((bel.cell (p := ⟨w.heap.size + 1, 0, none⟩) (by simp)).trans (World.cell?_alloc2_new _ _ _ _)), (hx.cell ⟨w.heap.size + 1, 1, none⟩ hl (Ne.symm hne)).trans ((bel.cell (p := ⟨w.heap.size + 1, 1, none⟩) (by simp)).trans (World.cell?_alloc2_new _ _ _ _)),
        (hx.cell ⟨w.heap.size + 1, 2, none⟩ hl (Ne.symm hne)).trans ((bel.cell (p := ⟨w.heap.size + 1, 2, none⟩) (by simp)).trans (World.cell?_alloc2_new _ _ _ _))⟩,
        fun i => (hx.frozen ⟨w.heap.size + 1, i, none⟩ hl).trans ((bel.frozen (p := ⟨w.heap.size + 1, i, none⟩) (by simp)).trans (World.frozen?_alloc2_new _ _ _ _))⟩
    have N1 : Hid (gp ≠ w.heap.size + 1 ∧ gk ≠ w.heap.size + 1) := by
      refine ⟨?_, ?_⟩
      · rcases gp5 with ⟨_, h⟩ | ⟨h, _⟩
        · rw [s0] at h; omega
        · omega
      · rcases gk5 with ⟨_, h⟩ | ⟨h, _⟩
        · rw [s0] at h; omega
        · omega
    clear hlaid gp1 gp2 gp3 gp4 gp5 gk1 gk2 gk3 gk4 gk5 s0 x0 x1 x2
    dsimp only
    go_wp2_with fail
    go_loopw [20] (fun i wr => ∃ k : Nat, k ≤ ps.length ∧ i = .int .i64 k ∧ (∃ xs, L1 W gp ps xs k wr) ∧ Below w.heap.size w wr) (fun i _ => ps.length - (intOf i).toNat)
    case atStart => exact ⟨0, Nat.zero_le _, rfl, ⟨ps, L1.start (fun h0 => (GP.out.2.2.2.1 h0).2.2.1)⟩, HBW.out⟩
    case round =>
      clear b0 b1 b2
      obtain ⟨k, hk, rfl, ⟨xs, hl1⟩, hb⟩ := hrel
      have H1 := Lib.hid hl1
      have HB := Lib.hid hb
      have b1 := (hl1.exc.cell ⟨g, 1, none⟩ HGW.out.2 (Ne.symm GP.out.2.1)).trans HL.out.b1
      clear hl1 hb
      by_cases hlt : k < ps.length
      · obtain ⟨ea, glo, _, gfz⟩ := GP.out.2.2.2.1 (by omega)
        obtain rfl : A1 = _ := ea
        have hkx : k < xs.length := by rw [H1.out.len]; exact hlt
        obtain ⟨r0, r1⟩ := H1.out.row k hkx
        rw [H1.out.todo k hkx hlt (Nat.le_refl _)] at r0 r1
        replace r1 : _ = some (Value.slice ps[k].addr ps[k].zs.length ps[k].cap) := r1
        have hfz : Hid (∀ w2 : World, Below wr.heap.size wr w2 → w2.frozen? ⟨gp, k * 2 + 1, none⟩ = false ∧ w2.cell? ⟨gp, k * 2 + 1, none⟩ = some (Value.slice ps[k].addr ps[k].zs.length ps[k].cap)) := fun w2 hb => by
          have hlt' : gp < wr.heap.size := Nat.lt_of_lt_of_le GP.out.1 H1.out.exc.size
          exact ⟨(hb.frozen (p := ⟨gp, k * 2 + 1, none⟩) hlt').trans ((H1.out.exc.frozen ⟨gp, k * 2 + 1, none⟩ GP.out.1).trans (gfz _)), (hb.cell (p := ⟨gp, k * 2 + 1, none⟩) hlt').trans r1⟩
        have HV := Lib.hid (HI.out.prop (List.getElem_mem hlt))
        have HA := Lib.hid (Below.alloc (Below.refl wr.heap.size wr) (Nat.le_refl _) (.cells #[Value.string ps[k].name, .slice ps[k].addr ps[k].zs.length ps[k].cap] 37))
        have a1 : ∀ o, (wr.alloc o).cell? ⟨g, 1, none⟩ = _ := fun o => Lib.cell?_alloc_some o b1
        clear glo gfz
        go_wp2_with fail
        have y1 : (wr.alloc (.cells #[Value.string ps[k].name, .slice ps[k].addr ps[k].zs.length ps[k].cap] 37)).cell? ⟨wr.heap.size, 1, none⟩ = some (.slice ps[k].addr ps[k].zs.length ps[k].cap) := World.cell?_alloc_new _ _ _ _
        refine wp_region_held_drew (S := fun W' => W'.cell? ⟨g, 1, none⟩ = some (.slice (some ⟨gp, 0, none⟩) ps.length c1) ∧ W'.cell? ⟨wr.heap.size, 1, none⟩ = some (.slice ps[k].addr ps[k].zs.length ps[k].cap)) (by kernel_rfl) ⟨a1 _, y1⟩ (fun hHeld => ?_)
        refine held_take 0 rfl (by kernel_rfl) (by kernel_rfl) (by kernel_rfl) (fun _ _ _ h => h) (by rfl) hHeld (v := ?_) (fun w hSw => ?_) (fun _ => ?_)
        rotate_left
        · ((try dsimp only at hSw); go_simp; (try with_reducible rfl))
        simp only [Act.put, List.setIfInBounds_toArray, List.set_cons_zero, List.set_cons_succ]
        refine held_take 1 rfl (by kernel_rfl) (by kernel_rfl) (by kernel_rfl) (fun _ _ _ h => h) (by rfl) hHeld (v := ?_) (fun w hSw => ?_) (fun _ => ?_)
        rotate_left
        · ((try dsimp only at hSw); go_simp; (try with_reducible rfl))
        simp only [Act.put, List.setIfInBounds_toArray, List.set_cons_zero, List.set_cons_succ]
        refine held_take 2 rfl (by kernel_rfl) (by kernel_rfl) (by kernel_rfl) (fun _ _ _ h => h) (by rfl) hHeld (v := ?_) (fun w hSw => ?_) (fun _ => ?_)
        rotate_left
        · ((try dsimp only at hSw); go_simp; (try with_reducible rfl))
        simp only [Act.put, List.setIfInBounds_toArray, List.set_cons_zero, List.set_cons_succ]
        refine held_take 3 rfl (by kernel_rfl) (by kernel_rfl) (by kernel_rfl) (fun _ _ _ h => h) (by rfl) hHeld (v := ?_) (fun w hSw => ?_) (fun _ => ?_)
        rotate_left
        · ((try dsimp only at hSw); go_simp; (try with_reducible rfl))
        simp only [Act.put, List.setIfInBounds_toArray, List.set_cons_zero, List.set_cons_succ]
        refine held_take 4 rfl (by kernel_rfl) (by kernel_rfl) (by kernel_rfl) (fun _ _ _ h => h) (by rfl) hHeld (v := ?_) (fun w hSw => ?_) (fun _ => ?_)
        rotate_left
        · ((try dsimp only at hSw); go_simp; (try with_reducible rfl))
        simp only [Act.put, List.setIfInBounds_toArray, List.set_cons_zero, List.set_cons_succ]
        refine held_call 5 (by kernel_rfl) rfl (by rfl) (fun K hK => ?_)
        go_simp
        refine (bclone_any ps[k].addr ps[k].zs.length ps[k].cap ps[k].zs _ (((HV.out.2.1.below HB.out).more HB.out.size).below HA.out.drew |>.more HA.out.size) HV.out.1.2).mono ?_
        rintro e w2 ⟨v', rfl, hown, hb2⟩
        have HB2 := Lib.hid (HA.out.drew.trans (hb2.mono HA.out.size))
        obtain ⟨A, c, rfl, q1, q2, q3, q4⟩ := owned_val hown rfl HV.out.2.1.2.1
        have HQ := Lib.hid (And.intro q1 (And.intro q2 (And.intro q3 q4)))
        have hs2 := hfz.out _ HB2.out
        have z1 := (HB2.out.cell (p := ⟨g, 1, none⟩) (Nat.lt_of_lt_of_le HGW.out.2 H1.out.exc.size)).trans b1
        have z2 := (hb2.cell (p := ⟨wr.heap.size, 1, none⟩) (by simp)).trans y1
        clear hown q1 q2 q3 q4 hb2
        dsimp only
        refine hK.out _ _ ⟨z1, z2⟩ (fun hHeld => ?_)
        clear hK K
        refine held_take 6 rfl (by kernel_rfl) (by kernel_rfl) (by kernel_rfl) (fun _ _ _ h => h) (by rfl) hHeld (v := ?_) (fun w hSw => ?_) (fun _ => ?_)
        rotate_left
        · ((try dsimp only at hSw); go_simp; (try with_reducible rfl))
        simp only [Act.put, List.setIfInBounds_toArray, List.set_cons_zero, List.set_cons_succ]
        refine held_take 7 rfl (by kernel_rfl) (by kernel_rfl) (by kernel_rfl) (fun _ _ _ h => h) (by rfl) hHeld (v := ?_) (fun w hSw => ?_) (fun _ => ?_)
        rotate_left
        · ((try dsimp only at hSw); go_simp; (try with_reducible rfl))
        simp only [Act.put, List.setIfInBounds_toArray, List.set_cons_zero, List.set_cons_succ]
        refine held_call 8 (by kernel_rfl) rfl (by rfl) (fun K hK => ?_)
        go_simp
        refine hK.out _ _ ⟨(World.cell?_setCell_other _ _ _ _ (fun e => GP.out.2.1 (by simpa using congrArg Addr.block e))).trans z1, (World.cell?_setCell_other _ _ _ _ (fun e => by have h := congrArg Addr.block e; have h1 := GP.out.1; have h2 := H1.out.exc.size; simp at h; omega)).trans z2⟩ (fun hHeld => ?_)
        clear hK K z1 z2
        refine wpAnyH_done (by kernel_rfl) ?_ _
        go_wp2
        go_roundw
        case rel =>
          exact ⟨k + 1, by omega, by go_num, ⟨_, (H1.out.on GP.out.1 HB2.out).store GP.out.1 hlt (q := ⟨ps[k].name, A, c, ps[k].zs⟩) ⟨⟨HV.out.1, HQ.out.1, HQ.out.2.1, HQ.out.2.2.1⟩, fun h0 => by
            obtain ⟨b, e, u1, u2, u3⟩ := HQ.out.2.2.2 h0
            exact ⟨b, e, Nat.le_trans (Nat.le_trans H1.out.exc.size HA.out.size) u1, u2, u3⟩⟩ rfl rfl⟩, (HB.out.trans (HB2.out.mono HB.out.size)).setCell (p := ⟨gp, k * 2 + 1, none⟩) GP.out.2.2.1 _⟩
        case measure => simp [intOf]; omega
      · have hkk : k = ps.length := by omega
        obtain ⟨W2, rfl⟩ : ∃ W2, W2 = wr := ⟨wr, rfl⟩
        have M1 : Hid (L1 W gp ps xs ps.length W2) := hkk ▸ H1.out
        have b2 := (H1.out.exc.cell ⟨g, 2, none⟩ HGW.out.2 (Ne.symm GP.out.2.1)).trans HL.out.b2
        have R1 := Lib.hid (R0.out W2 H1.out.exc N1.out.1)
        have HBW2 := Lib.hid HB.out
        have HG2 : Hid (gk < W2.heap.size ∧ g < W2.heap.size) := ⟨Nat.lt_of_lt_of_le GK.out.1 H1.out.exc.size, Nat.lt_of_lt_of_le HGW.out.2 H1.out.exc.size⟩
        clear hkk b1 HB
        go_wp2_with fail
        go_loopw [37] (fun i wr => ∃ k : Nat, k ≤ ks.length ∧ i = .int .i64 k ∧ (∃ ms, L2 W2 gk ks ms k wr) ∧ Below w.heap.size w wr) (fun i _ => ks.length - (intOf i).toNat)
        case atStart =>
          exact ⟨0, Nat.zero_le _, rfl, ⟨ks, L2.start (fun h0 i hi => (M1.out.exc.cell ⟨gk, i, none⟩ GK.out.1 (HNK.out h0)).trans ((GK.out.2.2.2.1 h0).2.2.1 i hi))⟩, HBW2.out⟩
        case round =>
          clear b2 H1
          obtain ⟨k, hk, rfl, ⟨ms, hl2⟩, hb⟩ := hrel
          have H2 := Lib.hid hl2
          have HB := Lib.hid hb
          have b2 := (hl2.exc.cell ⟨g, 2, none⟩ HG2.out.2 (Ne.symm GK.out.2.1)).trans ((M1.out.exc.cell ⟨g, 2, none⟩ HGW.out.2 (Ne.symm GP.out.2.1)).trans HL.out.b2)
          clear hl2 hb
          by_cases hlt : k < ks.length
          · obtain ⟨ea, glo, _, gfz⟩ := GK.out.2.2.2.1 (by omega)
            obtain rfl : A2 = _ := ea
            have hkx : k < ms.length := by rw [H2.out.len]; exact hlt
            obtain ⟨r0, r1, r2⟩ := H2.out.row k hkx
            rw [H2.out.todo k hkx hlt (Nat.le_refl _)] at r0 r1 r2
            replace r1 : _ = some (Value.slice ks[k].pa ks[k].props.length ks[k].pc) := r1
            replace r2 : _ = some (Value.slice ks[k].ka ks[k].kids.length ks[k].kc) := r2
            have hfz : Hid (∀ w2 : World, Below wr.heap.size wr w2 → (∀ i, w2.frozen? ⟨gk, i, none⟩ = false) ∧ w2.cell? ⟨gk, k * 3, none⟩ = some (Value.string ks[k].name) ∧ w2.cell? ⟨gk, k * 3 + 1, none⟩ = some (Value.slice ks[k].pa ks[k].props.length ks[k].pc) ∧ w2.cell? ⟨gk, k * 3 + 2, none⟩ = some (Value.slice ks[k].ka ks[k].kids.length ks[k].kc)) := fun w2 hb => by
              have hlt' : gk < wr.heap.size := Nat.lt_of_lt_of_le HG2.out.1 H2.out.exc.size
              exact ⟨fun i => (hb.frozen (p := ⟨gk, i, none⟩) hlt').trans ((H2.out.exc.frozen ⟨gk, i, none⟩ HG2.out.1).trans ((M1.out.exc.frozen ⟨gk, i, none⟩ GK.out.1).trans (gfz _))), (hb.cell (p := ⟨gk, k * 3, none⟩) hlt').trans r0, (hb.cell (p := ⟨gk, k * 3 + 1, none⟩) hlt').trans r1, (hb.cell (p := ⟨gk, k * 3 + 2, none⟩) hlt').trans r2⟩
            have HA := Lib.hid (Below.alloc (Below.refl wr.heap.size wr) (Nat.le_refl _) (.cells #[Value.string ks[k].name, .slice ks[k].pa ks[k].props.length ks[k].pc, .slice ks[k].ka ks[k].kids.length ks[k].kc] 27))
            have a2 : ∀ o, (wr.alloc o).cell? ⟨g, 2, none⟩ = _ := fun o => Lib.cell?_alloc_some o b2
            clear glo gfz
            go_wp2_with fail
            have y0 : (wr.alloc (.cells #[Value.string ks[k].name, .slice ks[k].pa ks[k].props.length ks[k].pc, .slice ks[k].ka ks[k].kids.length ks[k].kc] 27)).cell? ⟨wr.heap.size, 0, none⟩ = some (.string ks[k].name) := World.cell?_alloc_new _ _ _ _
            have y1 : (wr.alloc (.cells #[Value.string ks[k].name, .slice ks[k].pa ks[k].props.length ks[k].pc, .slice ks[k].ka ks[k].kids.length ks[k].kc] 27)).cell? ⟨wr.heap.size, 1, none⟩ = some (.slice ks[k].pa ks[k].props.length ks[k].pc) := World.cell?_alloc_new _ _ _ _
            have y2 : (wr.alloc (.cells #[Value.string ks[k].name, .slice ks[k].pa ks[k].props.length ks[k].pc, .slice ks[k].ka ks[k].kids.length ks[k].kc] 27)).cell? ⟨wr.heap.size, 2, none⟩ = some (.slice ks[k].ka ks[k].kids.length ks[k].kc) := World.cell?_alloc_new _ _ _ _
            refine wp_region_held_drew (S := fun W' => W'.cell? ⟨g, 2, none⟩ = some (.slice (some ⟨gk, 0, none⟩) ks.length c2) ∧ W'.cell? ⟨wr.heap.size, 0, none⟩ = some (.string ks[k].name) ∧ W'.cell? ⟨wr.heap.size, 1, none⟩ = some (.slice ks[k].pa ks[k].props.length ks[k].pc) ∧ W'.cell? ⟨wr.heap.size, 2, none⟩ = some (.slice ks[k].ka ks[k].kids.length ks[k].kc)) (by kernel_rfl) ⟨a2 _, y0, y1, y2⟩ (fun hHeld => ?_)
            refine held_take 0 rfl (by kernel_rfl) (by kernel_rfl) (by kernel_rfl) (fun _ _ _ h => h) (by rfl) hHeld (v := ?_) (fun w hSw => ?_) (fun _ => ?_)
            rotate_left
            · ((try dsimp only at hSw); go_simp; (try with_reducible rfl))
            simp only [Act.put, List.setIfInBounds_toArray, List.set_cons_zero, List.set_cons_succ]
            refine held_take 1 rfl (by kernel_rfl) (by kernel_rfl) (by kernel_rfl) (fun _ _ _ h => h) (by rfl) hHeld (v := ?_) (fun w hSw => ?_) (fun _ => ?_)
            rotate_left
            · ((try dsimp only at hSw); go_simp; (try with_reducible rfl))
            simp only [Act.put, List.setIfInBounds_toArray, List.set_cons_zero, List.set_cons_succ]
            refine held_take 2 rfl (by kernel_rfl) (by kernel_rfl) (by kernel_rfl) (fun _ _ _ h => h) (by rfl) hHeld (v := ?_) (fun w hSw => ?_) (fun _ => ?_)
            rotate_left
            · ((try dsimp only at hSw); go_simp; (try with_reducible rfl))
            simp only [Act.put, List.setIfInBounds_toArray, List.set_cons_zero, List.set_cons_succ]
            refine held_take 3 rfl (by kernel_rfl) (by kernel_rfl) (by kernel_rfl) (fun _ _ _ h => h) (by rfl) hHeld (v := ?_) (fun w hSw => ?_) (fun _ => ?_)
            rotate_left
            · ((try dsimp only at hSw); go_simp; (try with_reducible rfl))
            simp only [Act.put, List.setIfInBounds_toArray, List.set_cons_zero, List.set_cons_succ]
            refine held_call 4 (by kernel_rfl) rfl (by rfl) (fun K hK => ?_)
            go_simp
            refine (IH.out ks[k] (List.getElem_mem hlt) ((wr.alloc (.cells #[Value.string ks[k].name, .slice ks[k].pa ks[k].props.length ks[k].pc, .slice ks[k].ka ks[k].kids.length ks[k].kc] 27)).drew) (((HI.out.kid (List.getElem_mem hlt)).under (HB.out.trans (HA.out.drew.mono HB.out.size))).more (Nat.le_trans HB.out.size HA.out.size))).mono ?_
            rintro e w2 ⟨m, rfl, q1, q2, q3, _, hb2⟩
            have HB2 := Lib.hid (HA.out.drew.trans (hb2.mono HA.out.size))
            have HQ := Lib.hid (And.intro q1 (And.intro q2 q3))
            obtain ⟨fz, s0, s1, s2⟩ := hfz.out _ HB2.out
            have fz0 := fz (k * 3)
            have fz1 := fz (k * 3 + 1)
            have fz2 := fz (k * 3 + 2)
            have z1 := (HB2.out.cell (p := ⟨g, 2, none⟩) (Nat.lt_of_lt_of_le HG2.out.2 H2.out.exc.size)).trans b2
            have z2 := (hb2.cell (p := ⟨wr.heap.size, 0, none⟩) (by simp)).trans y0
            have z3 := (hb2.cell (p := ⟨wr.heap.size, 1, none⟩) (by simp)).trans y1
            have z4 := (hb2.cell (p := ⟨wr.heap.size, 2, none⟩) (by simp)).trans y2
            clear q1 q2 q3 hb2 fz
            obtain ⟨mn, mpa, mpc, mps, mka, mkc, mks⟩ := m
            dsimp only [Nd.val, Nd.name, Nd.pv, Nd.kv, Nd.pa, Nd.pc, Nd.props, Nd.ka, Nd.kc, Nd.kids]
            refine hK.out _ _ ⟨z1, z2, z3, z4⟩ (fun hHeld => ?_)
            clear hK K
            refine held_take 5 rfl (by kernel_rfl) (by kernel_rfl) (by kernel_rfl) (fun _ _ _ h => h) (by rfl) hHeld (v := ?_) (fun w hSw => ?_) (fun _ => ?_)
            rotate_left
            · ((try dsimp only at hSw); go_simp; (try with_reducible rfl))
            simp only [Act.put, List.setIfInBounds_toArray, List.set_cons_zero, List.set_cons_succ]
            refine held_call 6 (by kernel_rfl) rfl (by rfl) (fun K hK => ?_)
            go_simp
            have nb : ∀ {b i j : Nat}, gk ≠ b → (⟨gk, i, none⟩ : Addr) ≠ ⟨b, j, none⟩ := fun h e => h (by simpa using congrArg Addr.block e)
            have nk : gk ≠ wr.heap.size := by have h1 := HG2.out.1; have h2 := H2.out.exc.size; omega
            refine hK.out _ _ ⟨(World.cell?_setCell_other _ _ _ _ (nb GK.out.2.1)).trans ((World.cell?_setCell_other _ _ _ _ (nb GK.out.2.1)).trans ((World.cell?_setCell_other _ _ _ _ (nb GK.out.2.1)).trans z1)), (World.cell?_setCell_other _ _ _ _ (nb nk)).trans ((World.cell?_setCell_other _ _ _ _ (nb nk)).trans ((World.cell?_setCell_other _ _ _ _ (nb nk)).trans z2)), (World.cell?_setCell_other _ _ _ _ (nb nk)).trans ((World.cell?_setCell_other _ _ _ _ (nb nk)).trans ((World.cell?_setCell_other _ _ _ _ (nb nk)).trans z3)), (World.cell?_setCell_other _ _ _ _ (nb nk)).trans ((World.cell?_setCell_other _ _ _ _ (nb nk)).trans ((World.cell?_setCell_other _ _ _ _ (nb nk)).trans z4))⟩ (fun hHeld => ?_)
            clear hK K z1 z2 z3 z4 nb nk
            refine wpAnyH_done (by kernel_rfl) ?_ _
            go_wp2
            go_roundw
            case rel =>
              have T1 : L2 W2 gk ks ms k w2 := H2.out.on HG2.out.1 HB2.out
              have T2 : (Nd.mk mn mpa mpc mps mka mkc mks).Above W2.heap.size := HQ.out.2.1.low (Nat.le_trans H2.out.exc.size HA.out.size)
              have T3 := T1.store HG2.out.1 hlt HQ.out.1 T2 HQ.out.2.2
              have T4 := (((HB.out.trans (HB2.out.mono HB.out.size)).setCell (p := ⟨gk, k * 3, none⟩) GK.out.2.2.1 (.string mn)).setCell (p := ⟨gk, k * 3 + 1, none⟩) GK.out.2.2.1 (.slice mpa mps.length mpc)).setCell (p := ⟨gk, k * 3 + 2, none⟩) GK.out.2.2.1 (.slice mka mks.length mkc)
              exact ⟨k + 1, by omega, by go_num, ⟨_, T3⟩, T4⟩
            case measure => simp [intOf]; omega
          · have hkk : k = ks.length := by omega
            have M2 : Hid (L2 W2 gk ks ms ks.length wr) := hkk ▸ H2.out
            have hl : w.heap.size + 1 < W2.heap.size := by have h1 := HXW.out; have h2 := M1.out.exc.size; omega
            have b0 := (H2.out.exc.cell ⟨g, 0, none⟩ HG2.out.2 (Ne.symm GK.out.2.1)).trans ((M1.out.exc.cell ⟨g, 0, none⟩ HGW.out.2 (Ne.symm GP.out.2.1)).trans HL.out.b0)
            have b1 := (H2.out.exc.cell ⟨g, 1, none⟩ HG2.out.2 (Ne.symm GK.out.2.1)).trans ((M1.out.exc.cell ⟨g, 1, none⟩ HGW.out.2 (Ne.symm GP.out.2.1)).trans HL.out.b1)
            have t0 := (H2.out.exc.cell ⟨w.heap.size + 1, 0, none⟩ hl (Ne.symm N1.out.2)).trans R1.out.1.1
            have t1 := (H2.out.exc.cell ⟨w.heap.size + 1, 1, none⟩ hl (Ne.symm N1.out.2)).trans R1.out.1.2.1
            have t2 := (H2.out.exc.cell ⟨w.heap.size + 1, 2, none⟩ hl (Ne.symm N1.out.2)).trans R1.out.1.2.2
            have f0 := (H2.out.exc.frozen ⟨w.heap.size + 1, 0, none⟩ hl).trans (R1.out.2 0)
            have f1 := (H2.out.exc.frozen ⟨w.heap.size + 1, 1, none⟩ hl).trans (R1.out.2 1)
            have f2 := (H2.out.exc.frozen ⟨w.heap.size + 1, 2, none⟩ hl).trans (R1.out.2 2)
            have HT := Lib.hid (And.intro t0 (And.intro t1 t2))
            have HS := Lib.hid hl
            clear hkk hl
            go_wp2_with fail
            have BC := box_cells (v0 := .string nm) (v1 := .slice A1 ps.length c1) (v2 := .slice A2 ks.length c2) HT.out.1 HT.out.2.1 HT.out.2.2
            obtain ⟨d0, d1, d2⟩ := BC
            have P2 : Hid (0 < ps.length → A1 = some ⟨gp, 0, none⟩ ∧ ((w.alloc (.cells #[Value.string nm, .slice pa ps.length pc, .slice ka ks.length kc] 27)).alloc (.cells #[Value.string ⟨#[]⟩, .slice none 0 0, .slice none 0 0] 27)).heap.size ≤ gp) := fun h0 => ⟨(GP.out.2.2.2.1 h0).1, (GP.out.2.2.2.1 h0).2.1⟩
            have K2 : Hid (0 < ks.length → A2 = some ⟨gk, 0, none⟩ ∧ ((w.alloc (.cells #[Value.string nm, .slice pa ps.length pc, .slice ka ks.length kc] 27)).alloc (.cells #[Value.string ⟨#[]⟩, .slice none 0 0, .slice none 0 0] 27)).heap.size ≤ gk ∧ ∀ i, W2.frozen? ⟨gk, i, none⟩ = false) := fun h0 => ⟨(GK.out.2.2.2.1 h0).1, (GK.out.2.2.2.1 h0).2.1, fun i => (M1.out.exc.frozen ⟨gk, i, none⟩ GK.out.1).trans ((GK.out.2.2.2.1 h0).2.2.2 i)⟩
            have HCc : Hid (∀ a : Addr, ((w.alloc (.cells #[Value.string nm, .slice pa ps.length pc, .slice ka ks.length kc] 27)).alloc (.cells #[Value.string ⟨#[]⟩, .slice none 0 0, .slice none 0 0] 27)).heap.size ≤ a.block → (((wr.setCell ⟨w.heap.size + 1, 0, none⟩ (.string nm)).setCell ⟨w.heap.size + 1, 1, none⟩ (.slice A1 ps.length c1)).setCell ⟨w.heap.size + 1, 2, none⟩ (.slice A2 ks.length c2)).cell? a = wr.cell? a) := fun a ha => by
              have ne : ∀ i, (⟨w.heap.size + 1, i, none⟩ : Addr) ≠ a := fun i e => by
                rw [← e, S0.out] at ha
                have ha' : w.heap.size + 2 ≤ w.heap.size + 1 := ha
                omega
              exact (World.cell?_setCell_other _ _ _ _ (ne _)).trans ((World.cell?_setCell_other _ _ _ _ (ne _)).trans (World.cell?_setCell_other _ _ _ _ (ne _)))
            have HCf : Hid (∀ a : Addr, (((wr.setCell ⟨w.heap.size + 1, 0, none⟩ (.string nm)).setCell ⟨w.heap.size + 1, 1, none⟩ (.slice A1 ps.length c1)).setCell ⟨w.heap.size + 1, 2, none⟩ (.slice A2 ks.length c2)).frozen? a = wr.frozen? a) := fun a => (World.frozen?_setCell _ _ _ _).trans ((World.frozen?_setCell _ _ _ _).trans (World.frozen?_setCell _ _ _ _))
            have HCs : Hid ((((wr.setCell ⟨w.heap.size + 1, 0, none⟩ (.string nm)).setCell ⟨w.heap.size + 1, 1, none⟩ (.slice A1 ps.length c1)).setCell ⟨w.heap.size + 1, 2, none⟩ (.slice A2 ks.length c2)).heap.size = wr.heap.size) := by show (((wr.setCell ⟨w.heap.size + 1, 0, none⟩ (.string nm)).setCell ⟨w.heap.size + 1, 1, none⟩ (.slice A1 ps.length c1)).setCell ⟨w.heap.size + 1, 2, none⟩ (.slice A2 ks.length c2)).heap.size = _; simp
            have MN := Lib.hid (made_node HI.out HL.out GP.out.1 P2.out GK.out.1 K2.out HNE.out M1.out M2.out HCc.out HCf.out HCs.out)
            have HBf := Lib.hid (((HB.out.setCell (p := ⟨w.heap.size + 1, 0, none⟩) (Nat.le_succ _) (.string nm)).setCell (p := ⟨w.heap.size + 1, 1, none⟩) (Nat.le_succ _) (.slice A1 ps.length c1)).setCell (p := ⟨w.heap.size + 1, 2, none⟩) (Nat.le_succ _) (.slice A2 ks.length c2))
            have HE : Hid (Value.agg #[.string nm, .slice A1 ps.length c1, .slice A2 ks.length c2] = (Nd.mk nm A1 c1 xs A2 c2 ms).val) := by
              show _ = Value.agg #[.string nm, .slice A1 xs.length c1, .slice A2 ms.length c2]
              rw [M1.out.len, M2.out.len]
            clear t0 t1 t2 f0 f1 f2 b0 b1 b2
            refine bodyPost_ret (v := .agg #[.string nm, .slice A1 ps.length c1, .slice A2 ks.length c2]) (by simp [results, Try.results27, go_sem, d0, d1, d2]; try rfl) rfl ?_
            refine ⟨_, congrArg Ending.returned HE.out, MN.out.1, MN.out.2.1.low (by rw [S0.out]; omega), MN.out.2.2.1, MN.out.2.2.2, HBf.out⟩
end Go.Proofs.Ythfonfecangmcaa
