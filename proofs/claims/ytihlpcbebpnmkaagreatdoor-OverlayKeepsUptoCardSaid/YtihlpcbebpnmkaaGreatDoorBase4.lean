/-
  Base, part 4: what the proofs of this claim lean on.
-/
import Derived.Test.YtihlpcbebpnmkaaGreatDoorBase3
import Derived.Test.YtihlpcbebpnmkaaGreatDoorBase2
import Derived.Deep.DrawnRows
import Derived.Test.YtihlpcbebpnmkaaGreatDoorBase1

/-! CloneNode: the same node, and all below it, in memory of the call's own: no two rows of it lie in one block. -/
namespace Go.Proofs.YtihlpcbebpnmkaaGreatDoor
open Go.RowKit
set_option linter.unusedVariables false
set_option linter.unusedSimpArgs false
attribute [local go_sem ↓] Go.wp_at_zero Go.wp_at_succ

theorem own_from {w : World} {b b' : Nat} {e : TypeId} {sz n : Nat} {v : Value} {xs : List Value} (h : w.ownsRow b e sz v n xs) (hb : b' ≤ b) : w.ownsRow b' e sz v n xs := by
  refine ⟨h.1, ?_⟩
  rcases h.2 with hn | ⟨g, cap, cur, e1, h1, r⟩
  · exact .inl hn
  · exact .inr ⟨g, cap, cur, e1, Nat.le_trans hb h1, r⟩
/-- What stands behind the first statement: the clone's box at g, its two rows. -/
structure LaidO (w0 W : World) (B g : Nat) (nm : ByteArray) (ps : List PV) (ks : List Nd) (A1 : Option Addr) (c1 : Nat) (A2 : Option Addr) (c2 : Nat) : Prop where
  bel : Below w0.heap.size w0 W
  gl : w0.heap.size ≤ g
  box : W.heap[g]? = some (.cells #[.string nm, .slice A1 ps.length c1, .slice A2 ks.length c2] 27 (0, 0))
  rp : W.ownsRow B 61 2 (.slice A1 ps.length c1) ps.length (ps.flatMap pC)
  rk : W.ownsRow B 27 3 (.slice A2 ks.length c2) ks.length (ks.flatMap kC)
  nk : (Value.slice A2 ks.length c2).ownBlock ≠ some g
theorem LaidO.gh {w0 W : World} {B g : Nat} {nm : ByteArray} {ps : List PV} {ks : List Nd} {A1 : Option Addr} {c1 : Nat} {A2 : Option Addr} {c2 : Nat} (h : LaidO w0 W B g nm ps ks A1 c1 A2 c2) : g < W.heap.size := (Array.getElem?_eq_some_iff.1 h.box).1
/-- A box is no row of properties. -/
theorem box_no_prow {W : World} {B g n : Nat} {v : Value} {cur : Array Value} {xs : List Value} (hb : W.heap[g]? = some (.cells cur 27 (0, 0))) (h : W.ownsRow B 61 2 v n xs) : v.ownBlock ≠ some g := fun e => by
  rcases h.2 with ⟨rfl, _⟩ | ⟨g1, cap, cur1, rfl, _, hg, _⟩
  · cases e
  have e1 : g1 = g := by simpa [Value.ownBlock] using e
  subst e1
  rw [hb] at hg
  injection hg with hg
  injection hg with _ ht
  exact absurd ht.symm prop_ne_node

/-- No cell of the block is marked. -/
def Unf (w : World) (g : Nat) : Prop := ∀ i, w.frozen? ⟨g, i, none⟩ = false
theorem Unf.below {w w' : World} {g n : Nat} (h : Unf w g) (hg : g < n) (hb : Below n w w') : Unf w' g := fun i => (World.frozen?_of_block (hb.block g hg)).trans (h i)
theorem Unf.set {w : World} {g : Nat} (h : Unf w g) (a : Addr) (v : Value) : Unf (w.setCell a v) g := fun i => by rw [World.frozen?_setCell]; exact h i
theorem Unf.chg {w w' : World} {E : Nat → Prop} {g : Nat} (h : Unf w g) (hc : Chg E w w') (hg : g < w.heap.size) (hn : ¬ E g) : Unf w' g := fun i => (World.frozen?_of_block (hc.block g hg hn)).trans (h i)
/-- The first k properties' values are the call's own. -/
structure M1 (W : World) (B : Nat) (v : Value) (ps xs : List PV) (k : Nat) (wr : World) : Prop where
  len : xs.length = ps.length
  pure : xs.map PV.pure = ps.map PV.pure
  todo : ∀ j (h : j < xs.length) (h' : j < ps.length), k ≤ j → xs[j] = ps[j]
  done : ∀ j (h : j < xs.length), j < k → xs[j].In wr wr.heap.size ∧ xs[j].At (fun g => W.heap.size ≤ g ∧ g < wr.heap.size ∧ Unf wr g)
  row : wr.ownsRow B 61 2 v ps.length (xs.flatMap pC)
  chg : Chg (fun g => v.ownBlock = some g) W wr
theorem M1.start {W : World} {B : Nat} {v : Value} {ps : List PV} (h : W.ownsRow B 61 2 v ps.length (ps.flatMap pC)) : M1 W B v ps ps 0 W :=
  ⟨rfl, rfl, fun _ _ _ _ => rfl, fun _ _ h => absurd h (Nat.not_lt_zero _), h, Chg.refl _ _⟩
theorem M1.on {W wr w2 : World} {B k : Nat} {v : Value} {ps xs : List PV} (h : M1 W B v ps xs k wr) (hb : Below wr.heap.size wr w2) : M1 W B v ps xs k w2 :=
  ⟨h.len, h.pure, h.todo, fun j hj hk => ⟨((h.done j hj hk).1.keep (fun _ hp => hb.cell hp)).more hb.size, (h.done j hj hk).2.mono' (fun g e => ⟨e.1, Nat.lt_of_lt_of_le e.2.1 hb.size, e.2.2.below e.2.1 hb⟩)⟩, own_on h.row hb, h.chg.trans (F' := fun g => v.ownBlock = some g) (Chg.ofBelow hb) (fun _ _ e => e)⟩
theorem pC_set1 (xs : List PV) (k : Nat) (hk : k < xs.length) (q : PV) (hn : q.name = xs[k].name) : (xs.flatMap pC).set (k * 2 + 1) q.val = (xs.set k q).flatMap pC := by
  rw [← flat_set2 xs k hk q, hn]
  congr 1
  symm
  apply List.ext_getElem?
  intro j
  by_cases hj : k * 2 = j
  · subst hj
    have e := flat_at pC_len xs k 0 hk (by omega)
    rw [Nat.add_zero] at e
    rw [List.getElem?_set_self (by have := (List.getElem?_eq_some_iff.1 (e.trans (rfl : (pC xs[k])[0]? = some (.string xs[k].name)))).1; exact this), e]
    rfl
  · rw [List.getElem?_set_ne hj]
theorem M1.store {W wr : World} {B k : Nat} {v : Value} {ps xs : List PV} (h : M1 W B v ps xs k wr) {gp c : Nat} (hv : v = .slice (some ⟨gp, 0, none⟩) ps.length c) (hgp : gp < W.heap.size) (hk : k < ps.length) {q : PV} (hq : q.In wr wr.heap.size) (ha : q.At (fun g => W.heap.size ≤ g ∧ g < wr.heap.size ∧ Unf wr g)) (hn : q.name = ps[k].name) (hz : q.zs = ps[k].zs) :
    M1 W B v ps (xs.set k q) (k + 1) (wr.setCell ⟨gp, k * 2 + 1, none⟩ q.val) := by
  have hkx : k < xs.length := by rw [h.len]; exact hk
  have e := h.todo k hkx hk (Nat.le_refl _)
  obtain ⟨o1, g1⟩ := (hv ▸ h.row).stored (k * 2 + 1) q.val
  rw [pC_set1 xs k hkx q (by rw [e]; exact hn)] at o1
  have ob : v.ownBlock = some gp := by rw [hv]; rfl
  have hc : Chg (fun g => v.ownBlock = some g) wr (wr.setCell ⟨gp, k * 2 + 1, none⟩ q.val) := Chg.ofGrown g1 (fun g e => by injection e with e; rw [← e]; exact ob)
  have far : ∀ g, W.heap.size ≤ g → ¬ v.ownBlock = some g := fun g hg e => by rw [ob] at e; injection e with e; omega
  refine ⟨by rw [List.length_set]; exact h.len, ?_, fun j hj hj' hkj => ?_, fun j hj hkj => ?_, hv ▸ o1, h.chg.trans hc (fun _ _ e => e)⟩
  · rw [List.map_set, ← h.pure]
    apply List.ext_getElem?
    intro j
    by_cases hj : k = j
    · subst hj
      rw [List.getElem?_set_self (by simpa using hkx), List.getElem?_map, List.getElem?_eq_getElem hkx, e]
      show some (q.name, q.zs) = some (ps[k].name, ps[k].zs)
      rw [hn, hz]
    · rw [List.getElem?_set_ne hj]
  · rw [List.getElem_set, if_neg (by omega)]
    exact h.todo j (by simpa using hj) hj' (by omega)
  · rw [List.getElem_set]
    split
    · exact ⟨hq.chg ha hc (fun g e => far g e.1), ha.mono' (fun g e => ⟨e.1, by simpa using e.2.1, e.2.2.set _ _⟩)⟩
    · have d := h.done j (by simpa using hj) (by omega)
      exact ⟨d.1.chg d.2 hc (fun g e => far g e.1), d.2.mono' (fun g e => ⟨e.1, by simpa using e.2.1, e.2.2.set _ _⟩)⟩

/-- The first k nodes right below are the call's own. -/
structure M2 (W : World) (B : Nat) (v : Value) (ks ms : List Nd) (k : Nat) (wr : World) (G : Nat → Nat → Prop) (D : Nat → Prop) : Prop where
  len : ms.length = ks.length
  pure : ms.map pureN = ks.map pureN
  todo : ∀ j (h : j < ms.length) (h' : j < ks.length), k ≤ j → ms[j] = ks[j]
  row : wr.ownsRow B 27 3 v ks.length (ms.flatMap kC)
  chg : Chg (fun g => v.ownBlock = some g) W wr
  own : ∀ j (h : j < ms.length), j < k → Own wr (G j) D ms[j]
  hG : ∀ j g, G j g → W.heap.size ≤ g ∧ g < wr.heap.size
  hd : ∀ i j g, G i g → G j g → i = j
  hD : ∀ g, D g → W.heap.size ≤ g ∧ g < wr.heap.size ∧ ∀ j, ¬ G j g
  uD : ∀ g, D g → Unf wr g
  hk : ∀ j g, G j g → j < k
theorem M2.start {W : World} {B : Nat} {v : Value} {ks : List Nd} (h : W.ownsRow B 27 3 v ks.length (ks.flatMap kC)) : M2 W B v ks ks 0 W (fun _ _ => False) (fun _ => False) :=
  ⟨rfl, rfl, fun _ _ _ _ => rfl, h, Chg.refl _ _, fun _ _ h => absurd h (Nat.not_lt_zero _), fun _ _ h => h.elim, fun _ _ _ h => h.elim, fun _ h => h.elim, fun _ h => h.elim, fun _ _ h => h.elim⟩
theorem M2.on {W wr w2 : World} {B k : Nat} {v : Value} {ks ms : List Nd} {G : Nat → Nat → Prop} {D : Nat → Prop} (h : M2 W B v ks ms k wr G D) (hb : Below wr.heap.size wr w2) : M2 W B v ks ms k w2 G D :=
  ⟨h.len, h.pure, h.todo, own_on h.row hb, h.chg.trans (F' := fun g => v.ownBlock = some g) (Chg.ofBelow hb) (fun _ _ e => e), fun j hj hk => (h.own j hj hk).chg (E := fun _ => False) (Chg.ofBelow hb) (fun _ _ e => e) (fun _ _ e => e),
    fun j g e => ⟨(h.hG j g e).1, Nat.lt_of_lt_of_le (h.hG j g e).2 hb.size⟩, h.hd, fun g e => ⟨(h.hD g e).1, Nat.lt_of_lt_of_le (h.hD g e).2.1 hb.size, (h.hD g e).2.2⟩, fun g e => (h.uD g e).below (h.hD g e).2.1 hb, h.hk⟩
theorem M2.store {W w1 wr : World} {B k : Nat} {v : Value} {ks ms : List Nd} {G : Nat → Nat → Prop} {D : Nat → Prop} (h0 : M2 W B v ks ms k w1 G D) (hbw : Below w1.heap.size w1 wr) {gk c : Nat} (hv : v = .slice (some ⟨gk, 0, none⟩) ks.length c) (hgk : gk < W.heap.size) (hk : k < ks.length) {q : Nd} {Fq Dq : Nat → Prop} (hq : Own wr Fq Dq q) (hF : ∀ g, Fq g → w1.heap.size ≤ g ∧ g < wr.heap.size) (hD : ∀ g, Dq g → w1.heap.size ≤ g ∧ g < wr.heap.size ∧ ¬ Fq g) (hU : ∀ g, Dq g → Unf wr g) (hp : pureN q = pureN ks[k]) :
    ∃ G' D', M2 W B v ks (ms.set k q) (k + 1) (((wr.setCell ⟨gk, k * 3, none⟩ (.string q.name)).setCell ⟨gk, k * 3 + 1, none⟩ q.pv).setCell ⟨gk, k * 3 + 2, none⟩ q.kv) G' D' := by
  have h := h0.on hbw
  have hkx : k < ms.length := by rw [h.len]; exact hk
  have e := h.todo k hkx hk (Nat.le_refl _)
  obtain ⟨o1, g1⟩ := (hv ▸ h.row).stored (k * 3) (.string q.name)
  obtain ⟨o2, g2⟩ := o1.stored (k * 3 + 1) q.pv
  obtain ⟨o3, g3⟩ := o2.stored (k * 3 + 2) q.kv
  rw [flat_set3 ms k hkx q] at o3
  have ob : v.ownBlock = some gk := by rw [hv]; rfl
  have hc : Chg (fun g => v.ownBlock = some g) wr (((wr.setCell ⟨gk, k * 3, none⟩ (.string q.name)).setCell ⟨gk, k * 3 + 1, none⟩ q.pv).setCell ⟨gk, k * 3 + 2, none⟩ q.kv) := Chg.ofGrown ((g1.thenG g2).thenG g3) (fun g e => by injection e with e; rw [← e]; exact ob)
  have w1W := h0.chg.size
  have far : ∀ g, W.heap.size ≤ g → ¬ v.ownBlock = some g := fun g hg e => by rw [ob] at e; injection e with e; omega
  have sz := hc.size
  have bw := hbw.size
  have one : ∀ i g, (if i = k then Fq else G i) g → (i = k ∧ Fq g) ∨ (i ≠ k ∧ G i g) := fun i g e => by
    by_cases hi : i = k
    · rw [if_pos hi] at e; exact .inl ⟨hi, e⟩
    · rw [if_neg hi] at e; exact .inr ⟨hi, e⟩
  refine ⟨fun j => if j = k then Fq else G j, fun g => D g ∨ Dq g, by rw [List.length_set]; exact h.len, ?_, fun j hj hj' hkj => ?_, hv ▸ o3, h.chg.trans hc (fun _ _ e => e), fun j hj hkj => ?_, fun j g e => ?_, fun i j g ei ej => ?_, fun g e => ?_, fun g e => (e.elim (h.uD g) (hU g)).set _ _ |>.set _ _ |>.set _ _, fun j g e => ?_⟩
  · rw [List.map_set, ← h.pure]
    apply List.ext_getElem?
    intro j
    by_cases hj : k = j
    · subst hj
      rw [List.getElem?_set_self (by simpa using hkx), List.getElem?_map, List.getElem?_eq_getElem hkx, e, hp]
      rfl
    · rw [List.getElem?_set_ne hj]
  · rw [List.getElem_set, if_neg (by omega)]
    exact h.todo j (by simpa using hj) hj' (by omega)
  · rw [List.getElem_set]
    by_cases hjk : k = j
    · rw [if_pos hjk, if_pos hjk.symm]
      exact (hq.chg hc (fun g e => far g (by have := (hF g e).1; omega)) (fun g e => far g (by have := (hD g e).1; omega))).mono (fun _ h => h) (fun _ h => .inr h)
    · rw [if_neg hjk, if_neg (Ne.symm hjk)]
      exact ((h.own j (by simpa using hj) (by omega)).chg hc (fun g e => far g (h.hG j g e).1) (fun g e => far g (h.hD g e).1)).mono (fun _ h => h) (fun _ h => .inl h)
  · rcases one j g e with ⟨_, e'⟩ | ⟨_, e'⟩
    · have := hF g e'
      omega
    · have := h.hG j g e'
      omega
  · rcases one i g ei with ⟨hi, ei⟩ | ⟨hi, ei⟩
    · rcases one j g ej with ⟨hj, ej⟩ | ⟨hj, ej⟩
      · omega
      · have h1 := hF g ei
        have h2 := h0.hG j g ej
        omega
    · rcases one j g ej with ⟨hj, ej⟩ | ⟨hj, ej⟩
      · have h1 := hF g ej
        have h2 := h0.hG i g ei
        omega
      · exact h.hd i j g ei ej
  · have key : ∀ j, ¬ (if j = k then Fq else G j) g := fun j e' => by
      rcases one j g e' with ⟨hj, e'⟩ | ⟨hj, e'⟩
      · rcases e with e | e
        · have h1 := hF g e'
          have h2 := h0.hD g e
          omega
        · exact (hD g e).2.2 e'
      · rcases e with e | e
        · exact (h.hD g e).2.2 j e'
        · have h1 := (hD g e).1
          have h2 := h0.hG j g e'
          omega
    rcases e with e | e
    · have := h.hD g e
      exact ⟨this.1, by omega, key⟩
    · have := hD g e
      exact ⟨by omega, by omega, key⟩
  · rcases one j g e with ⟨hj, e⟩ | ⟨hj, e⟩
    · omega
    · have := h.hk j g e
      omega

/-- What has been made is a node of the call's own. -/
theorem made_own {w0 W W2 wr : World} {B g : Nat} {nm : ByteArray} {ps xs : List PV} {ks ms : List Nd} {A1 A2 : Option Addr} {c1 c2 : Nat} {G : Nat → Nat → Prop} {D : Nat → Prop} (hB : B ≤ w0.heap.size)
    (hnm : nm.size ≤ 140737488351232) (HL : LaidO w0 W B g nm ps ks A1 c1 A2 c2) (h1 : M1 W B (.slice A1 ps.length c1) ps xs ps.length W2) (h2 : M2 W2 B (.slice A2 ks.length c2) ks ms ks.length wr G D) :
    ∃ F D', Own wr F D' (.mk nm A1 c1 xs A2 c2 ms) ∧ (∀ q, F q → B ≤ q ∧ q < wr.heap.size) ∧ (∀ q, D' q → B ≤ q ∧ q < wr.heap.size ∧ ¬ F q) ∧ (∀ q, D' q → Unf wr q) := by
  have s0 := HL.bel.size
  have s1 := h1.chg.size
  have s2 := h2.chg.size
  have nk := own_ne_type h1.row (own_same HL.rk (w' := W2) (fun q e => h1.chg.block q (HL.rk.lt q e).2 (fun e' => own_ne_type HL.rp HL.rk prop_ne_node q e' e))) prop_ne_node
  have lp := fun q e => h1.row.lt q e
  have lk := fun q e => HL.rk.lt q e
  have lp' : ∀ q, (Value.slice A1 ps.length c1).ownBlock = some q → B ≤ q ∧ q < W.heap.size := fun q e => HL.rp.lt q e
  have e1 : (Nd.mk nm A1 c1 xs A2 c2 ms).pv = .slice A1 ps.length c1 := by show Value.slice A1 xs.length c1 = _; rw [h1.len]
  have e2 : (Nd.mk nm A1 c1 xs A2 c2 ms).kv = .slice A2 ks.length c2 := by show Value.slice A2 ms.length c2 = _; rw [h2.len]
  have l1 : (Nd.mk nm A1 c1 xs A2 c2 ms).props.length = ps.length := h1.len
  have l2 : (Nd.mk nm A1 c1 xs A2 c2 ms).kids.length = ks.length := h2.len
  refine ⟨fun q => (Value.slice A1 ps.length c1).ownBlock = some q ∨ (Value.slice A2 ks.length c2).ownBlock = some q ∨ ∃ j, G j q, fun q => D q ∨ (W.heap.size ≤ q ∧ q < W2.heap.size ∧ Unf W2 q), .mk _ _ _ hnm ?_ ?_ (fun q e => ?_) (fun q e => ?_) (fun p hp => ?_) G (fun i q e => ?_) h2.hd (fun i hi => ?_), fun q e => ?_, fun q e => ?_, fun q e => ?_⟩
  · rw [e1, l1]
    exact own_from (own_same h1.row (fun q e => h2.chg.block q (h1.row.lt q e).2 (fun e' => nk q e e'))) (Nat.zero_le _)
  · rw [e2, l2]
    exact own_from h2.row (Nat.zero_le _)
  · rw [e1] at e; exact .inl e
  · rw [e2] at e; exact .inr (.inl e)
  · obtain ⟨j, hj, rfl⟩ := List.getElem_of_mem hp
    have hj' : j < xs.length := hj
    have d := h1.done j hj' (by rw [← h1.len]; exact hj')
    have d2 : xs[j].At (fun q => W.heap.size ≤ q ∧ q < W2.heap.size ∧ Unf W2 q) := d.2
    refine ⟨d.1.chg d2 h2.chg (fun q hq e => ?_), d2.mono' (fun q h => .inr h)⟩
    have := (lk q e).2
    omega
  · refine ⟨.inr (.inr ⟨i, e⟩), fun e' => ?_, fun e' => ?_⟩
    · rw [e1] at e'
      have := (lp' q e').2
      have := (h2.hG i q e).1
      omega
    · rw [e2] at e'
      have := (lk q e').2
      have := (h2.hG i q e).1
      omega
  · have hi' : i < ms.length := hi
    exact (h2.own i hi' (by rw [← h2.len]; exact hi')).mono (fun _ h => h) (fun _ h => .inl h)
  · rcases e with e | e | ⟨j, e⟩
    · have := lp' q e
      omega
    · have := lk q e
      omega
    · have := h2.hG j q e
      omega
  · have key : ∀ q, W.heap.size ≤ q → (∀ j, ¬ G j q) → ¬ ((Value.slice A1 ps.length c1).ownBlock = some q ∨ (Value.slice A2 ks.length c2).ownBlock = some q ∨ ∃ j, G j q) := fun q hq hj e => by
      rcases e with e | e | ⟨j, e⟩
      · have := (lp' q e).2
        omega
      · have := (lk q e).2
        omega
      · exact hj j e
    rcases e with e | ⟨ea, eb, _⟩
    · have := h2.hD q e
      exact ⟨by omega, this.2.1, key q (by omega) this.2.2⟩
    · refine ⟨by omega, by omega, key q ea (fun j e => ?_)⟩
      have := (h2.hG j q e).1
      omega
  · rcases e with e | ⟨ea, eb, ec⟩
    · exact h2.uD q e
    · exact ec.chg h2.chg eb (fun e => by have := (lk q e).2; omega)
end Go.Proofs.YtihlpcbebpnmkaaGreatDoor

/-! CloneNode: the same node, and all below it, in memory of the call's own. -/
namespace Go.Proofs.YtihlpcbebpnmkaaGreatDoor
open Go.RowKit
set_option linter.unusedVariables false
set_option linter.unusedSimpArgs false
attribute [local go_sem ↓] Go.wp_at_zero Go.wp_at_succ

theorem own_block {w : World} {B n c sz : Nat} {e : TypeId} {A : Option Addr} {xs : List Value} (h : w.ownsRow B e sz (.slice A n c) n xs) (h0 : 0 < n) : ∃ g, A = some ⟨g, 0, none⟩ ∧ B ≤ g ∧ g < w.heap.size ∧ n ≤ c ∧ c ≤ 9223372036854775807 ∧ ∀ i, w.frozen? ⟨g, i, none⟩ = false := by
  rcases h.2 with ⟨e1, e2⟩ | ⟨g, cap, cur, e1, hb, hg, h1, h2, _⟩
  · omega
  · simp only [Value.slice.injEq, true_and] at e1
    obtain ⟨rfl, rfl⟩ := e1
    exact ⟨g, rfl, hb, (Array.getElem?_eq_some_iff.1 hg).1, h1, h2, fun i => frozen_of_row w g i _ _ hg⟩
theorem own_val {w : World} {B n : Nat} {v : Value} {zs : List Int} (h : w.ownsRow B 5 1 v n (u8s zs)) (hz : ∀ z ∈ zs, 0 ≤ z ∧ z < 256) :
    ∃ A c, v = .slice A n c ∧ Shows w w.heap.size A n zs ∧ n ≤ c ∧ c ≤ 9223372036854775807 ∧ ∀ b o, 0 < n → A = some ⟨b, o, none⟩ → B ≤ b ∧ b < w.heap.size ∧ Unf w b := by
  obtain ⟨A, c, rfl, h1, h2, h3⟩ := owned_shows h hz
  refine ⟨A, c, rfl, h1, h2, h3, fun b o h0 e => ?_⟩
  obtain ⟨g, e', hb, hl, _, _, hu⟩ := own_block h h0
  rw [e] at e'
  simp only [Option.some.injEq, Addr.mk.injEq] at e'
  obtain ⟨rfl, _⟩ := e'
  exact ⟨hb, hl, hu⟩
theorem own_caps {w : World} {B n c sz : Nat} {e : TypeId} {A : Option Addr} {xs : List Value} (h : w.ownsRow B e sz (.slice A n c) n xs) : n ≤ c ∧ c ≤ 9223372036854775807 := by
  rcases h.2 with ⟨e1, e2⟩ | ⟨g, cap, cur, e1, hb, hg, h1, h2, _⟩
  · simp only [Value.slice.injEq] at e1
    omega
  · simp only [Value.slice.injEq, true_and] at e1
    obtain ⟨rfl, rfl⟩ := e1
    exact ⟨h1, h2⟩
/-- The box, laid as zeros, is written. -/
theorem LaidO.wrote {w0 W : World} {B g : Nat} {nm : ByteArray} {ps : List PV} {ks : List Nd} {A1 : Option Addr} {c1 : Nat} {A2 : Option Addr} {c2 : Nat} {cur : Array Value} (hb : Below w0.heap.size w0 W) (hl : w0.heap.size ≤ g) (hz : W.heap[g]? = some (.cells cur 27 (0, 0))) (h3 : cur.size = 3)
    (rp : W.ownsRow B 61 2 (.slice A1 ps.length c1) ps.length (ps.flatMap pC)) (rk : W.ownsRow B 27 3 (.slice A2 ks.length c2) ks.length (ks.flatMap kC)) (nk : (Value.slice A2 ks.length c2).ownBlock ≠ some g) :
    LaidO w0 (((W.setCell ⟨g, 0, none⟩ (.string nm)).setCell ⟨g, 1, none⟩ (.slice A1 ps.length c1)).setCell ⟨g, 2, none⟩ (.slice A2 ks.length c2)) B g nm ps ks A1 c1 A2 c2 := by
  have b1 := heap_setCell_same W g 0 _ _ (.string nm) hz
  have b2 := heap_setCell_same _ g 1 _ _ (.slice A1 ps.length c1) b1
  have b3 := heap_setCell_same _ g 2 _ _ (.slice A2 ks.length c2) b2
  have far : ∀ q, q ≠ g → (((W.setCell ⟨g, 0, none⟩ (.string nm)).setCell ⟨g, 1, none⟩ (.slice A1 ps.length c1)).setCell ⟨g, 2, none⟩ (.slice A2 ks.length c2)).heap[q]? = W.heap[q]? := fun q hq => by
    rw [heap_setCell_other _ _ _ _ (fun e => hq e), heap_setCell_other _ _ _ _ (fun e => hq e), heap_setCell_other _ _ _ _ (fun e => hq e)]
  obtain ⟨a, b, c, rfl⟩ : ∃ a b c, cur = #[a, b, c] := by
    obtain ⟨l⟩ := cur
    match l, h3 with
    | [a, b, c], _ => exact ⟨a, b, c, rfl⟩
  exact ⟨((hb.setCell (p := ⟨g, 0, none⟩) hl _).setCell (p := ⟨g, 1, none⟩) hl _).setCell (p := ⟨g, 2, none⟩) hl _, hl, b3, own_same rp (fun q e => far q (fun e' => box_no_prow hz rp (e' ▸ e))), own_same rk (fun q e => far q (fun e' => nk (e' ▸ e))), nk⟩

set_option maxRecDepth 20000 in
set_option maxHeartbeats 8000000 in
theorem cloneNode_unf : ∀ (n : Nd) (w : World), n.In w w.heap.size → Calls Tryz.prog 26 #[n.val] w fun e w' => ∃ m F D, e = .returned m.val ∧ pureN m = pureN n ∧ Own w' F D m ∧ (∀ q, F q → w.heap.size ≤ q ∧ q < w'.heap.size) ∧ (∀ q, D q → w.heap.size ≤ q ∧ q < w'.heap.size ∧ ¬ F q) ∧ (∀ q, D q → Unf w' q) ∧ Below w.heap.size w w' := by
  refine Nd.ind ?_
  intro n ih w hin
  have HI := Lib.hid hin
  have IH := Lib.hid ih
  have C1 := Lib.hid (fun (W : World) (h : n.In W W.heap.size) => cloneProps_own n.pa n.pc n.props W h.prow h.name_le.2.1)
  have C2 := Lib.hid (fun (W : World) (h : n.In W W.heap.size) => cloneKids_own n.ka n.kc n.kids W h.krow h.name_le.2.2)
  clear hin ih
  obtain ⟨nm, pa, pc, ps, ka, kc, ks⟩ := n
  replace C1 : Hid (∀ W : World, (Nd.mk nm pa pc ps ka kc ks).In W W.heap.size → Calls Tryz.prog 40 #[.slice pa ps.length pc] W fun e w' => ∃ A' c', e = .returned (.slice A' ps.length c') ∧ w'.ownsRow W.heap.size 61 2 (.slice A' ps.length c') ps.length (ps.flatMap pC) ∧ Below W.heap.size W w') := C1
  replace C2 : Hid (∀ W : World, (Nd.mk nm pa pc ps ka kc ks).In W W.heap.size → Calls Tryz.prog 41 #[.slice ka ks.length kc] W fun e w' => ∃ A' c', e = .returned (.slice A' ks.length c') ∧ w'.ownsRow W.heap.size 27 3 (.slice A' ks.length c') ks.length (ks.flatMap kC) ∧ Below W.heap.size W w') := C2
  show Calls _ _ #[.agg #[.string nm, .slice pa ps.length pc, .slice ka ks.length kc]] _ _
  have HNM : Hid (nm.size ≤ 140737488351232) := Lib.hid HI.out.name_le.1
  obtain ⟨W0, hW0⟩ : ∃ W0, ((w.alloc (.cells #[Value.string nm, .slice pa ps.length pc, .slice ka ks.length kc] 27)).alloc (.cells #[Value.string ⟨#[]⟩, .slice none 0 0, .slice none 0 0] 27)) = W0 := ⟨_, rfl⟩
  have HB0 : Hid (Below w.heap.size w W0) := by
    show Below w.heap.size w W0
    rw [← hW0]; exact ((Below.refl w.heap.size w).alloc (Nat.le_refl _) (.cells #[Value.string nm, .slice pa ps.length pc, .slice ka ks.length kc] 27)).alloc (by simp) (.cells #[Value.string ⟨#[]⟩, .slice none 0 0, .slice none 0 0] 27)
  have S0 : Hid (W0.heap.size = w.heap.size + 2) := by show W0.heap.size = _; rw [← hW0]; simp
  have ZB : Hid (W0.heap[w.heap.size + 1]? = some (.cells #[Value.string ⟨#[]⟩, .slice none 0 0, .slice none 0 0] 27 (0, 0))) := by show W0.heap[w.heap.size + 1]? = _; rw [← hW0]; exact heap_alloc2_new _ _ _
  have X0 : Hid (W0.cell? ⟨w.heap.size, 0, none⟩ = some (.string nm) ∧ W0.cell? ⟨w.heap.size, 1, none⟩ = some (.slice pa ps.length pc) ∧ W0.cell? ⟨w.heap.size, 2, none⟩ = some (.slice ka ks.length kc)) := by
    refine ⟨?_, ?_, ?_⟩ <;> (rw [← hW0]; exact World.cell?_alloc2_first _ _ _ _)
  go_enter Tryz.func26, Tryz.ntmps26
  go_wp2_with fail
  clear hW0
  refine code_cut (R := fun a' W => ∃ g A1 c1 A2 c2, a' = { tmps := #[.agg #[.string nm, .slice pa ps.length pc, .slice ka ks.length kc], .pointer (some ⟨w.heap.size, 0, none⟩), .pointer (some ⟨w.heap.size + 1, 0, none⟩), .pointer (some ⟨g, 0, none⟩), undef, undef, undef, undef, .pointer (some ⟨w.heap.size, 0, none⟩), .string nm, .pointer (some ⟨w.heap.size, 1, none⟩), .slice pa ps.length pc, .slice A1 ps.length c1, .pointer (some ⟨w.heap.size, 2, none⟩), .slice ka ks.length kc, .slice A2 ks.length c2, .agg #[.string nm, .slice A1 ps.length c1, .slice A2 ks.length c2], undef, undef, undef, undef, undef, undef, undef, undef, undef, undef, undef, undef, undef, undef, undef, undef, undef, undef, undef, undef, undef, undef, undef, undef, undef, undef, undef, undef, undef, undef, undef, undef, undef], defers := [] } ∧ LaidO W0 W W0.heap.size g nm ps ks A1 c1 A2 c2) ?first ?rest
  case first =>
    refine wp_region_held_drew (S := fun W => W.cell? ⟨w.heap.size, 0, none⟩ = some (.string nm) ∧ W.cell? ⟨w.heap.size, 1, none⟩ = some (.slice pa ps.length pc) ∧ W.cell? ⟨w.heap.size, 2, none⟩ = some (.slice ka ks.length kc)) (by kernel_rfl) X0.out (fun hHeld => ?_)
    refine held_take 0 rfl (by kernel_rfl) (by kernel_rfl) (by kernel_rfl) (fun _ _ _ h => absurd h.1 (by intro h'; cases h')) (by rfl) hHeld (v := ?_) (fun w hSw => ?_) (fun _ => ?_)
    rotate_left
    · ((try dsimp only at hSw); go_simp; (try with_reducible rfl))
    simp only [Act.put, List.setIfInBounds_toArray, List.set_cons_zero, List.set_cons_succ]
    refine held_take 1 rfl (by kernel_rfl) (by kernel_rfl) (by kernel_rfl) (fun _ _ _ h => absurd h.1 (by intro h'; cases h')) (by rfl) hHeld (v := ?_) (fun w hSw => ?_) (fun _ => ?_)
    rotate_left
    · ((try dsimp only at hSw); go_simp; (try with_reducible rfl))
    simp only [Act.put, List.setIfInBounds_toArray, List.set_cons_zero, List.set_cons_succ]
    refine held_take 2 rfl (by kernel_rfl) (by kernel_rfl) (by kernel_rfl) (fun _ _ _ h => absurd h.1 (by intro h'; cases h')) (by rfl) hHeld (v := ?_) (fun w hSw => ?_) (fun _ => ?_)
    rotate_left
    · ((try dsimp only at hSw); go_simp; (try with_reducible rfl))
    simp only [Act.put, List.setIfInBounds_toArray, List.set_cons_zero, List.set_cons_succ]
    refine held_take 3 rfl (by kernel_rfl) (by kernel_rfl) (by kernel_rfl) (fun _ _ _ h => absurd h.1 (by intro h'; cases h')) (by rfl) hHeld (v := ?_) (fun w hSw => ?_) (fun _ => ?_)
    rotate_left
    · ((try dsimp only at hSw); go_simp; (try with_reducible rfl))
    simp only [Act.put, List.setIfInBounds_toArray, List.set_cons_zero, List.set_cons_succ]
    refine held_take 5 rfl (by kernel_rfl) (by kernel_rfl) (by kernel_rfl) (fun _ _ _ h => absurd h.1 (by intro h'; cases h')) (by rfl) hHeld (v := ?_) (fun w hSw => ?_) (fun _ => ?_)
    rotate_left
    · ((try dsimp only at hSw); go_simp; (try with_reducible rfl))
    simp only [Act.put, List.setIfInBounds_toArray, List.set_cons_zero, List.set_cons_succ]
    refine held_take 6 rfl (by kernel_rfl) (by kernel_rfl) (by kernel_rfl) (fun _ _ _ h => absurd h.1 (by intro h'; cases h')) (by rfl) hHeld (v := ?_) (fun w hSw => ?_) (fun _ => ?_)
    rotate_left
    · ((try dsimp only at hSw); go_simp; (try with_reducible rfl))
    simp only [Act.put, List.setIfInBounds_toArray, List.set_cons_zero, List.set_cons_succ]
    have HBd := Lib.hid ((Below.refl W0.heap.size W0).drew)
    refine held_two 4 9 (by kernel_rfl) rfl rfl (by rfl) (by rfl) (fun K hK => ?_) (fun K hK => ?_)
    · go_simp
      refine (C1.out _ (HI.out.on (HB0.out.trans (HBd.out.mono HB0.out.size)))).mono ?_
      rintro e w1 ⟨A1, c1, rfl, hr, hb⟩
      have HB1 := Lib.hid (HBd.out.trans (hb.mono HBd.out.size))
      have R1 := Lib.hid (own_from hr HBd.out.size)
      clear hr hb
      dsimp only
      refine hK.out _ _ ⟨(HB1.out.cell (p := ⟨w.heap.size, 0, none⟩) (by have := S0.out; show w.heap.size < _; omega)).trans X0.out.1, (HB1.out.cell (p := ⟨w.heap.size, 1, none⟩) (by have := S0.out; show w.heap.size < _; omega)).trans X0.out.2.1, (HB1.out.cell (p := ⟨w.heap.size, 2, none⟩) (by have := S0.out; show w.heap.size < _; omega)).trans X0.out.2.2⟩ (fun hHeld => ?_)
      clear hK K
      refine held_two 7 9 (by kernel_rfl) rfl rfl (by rfl) (by rfl) (fun K hK => ?_) (fun K hK => ?_)
      · go_simp
        refine (C2.out _ (HI.out.on (HB0.out.trans (HB1.out.mono HB0.out.size)))).mono ?_
        rintro e w2 ⟨A2, c2, rfl, hr, hb2⟩
        have HB2 := Lib.hid (HB1.out.trans (hb2.mono HB1.out.size))
        have R2 := Lib.hid (own_from hr HB1.out.size)
        have R1' := Lib.hid (own_on R1.out hb2)
        clear hr hb2
        dsimp only
        refine hK.out _ _ ⟨(HB2.out.cell (p := ⟨w.heap.size, 0, none⟩) (by have := S0.out; show w.heap.size < _; omega)).trans X0.out.1, (HB2.out.cell (p := ⟨w.heap.size, 1, none⟩) (by have := S0.out; show w.heap.size < _; omega)).trans X0.out.2.1, (HB2.out.cell (p := ⟨w.heap.size, 2, none⟩) (by have := S0.out; show w.heap.size < _; omega)).trans X0.out.2.2⟩ (fun hHeld => ?_)
        clear hK K
        refine held_take 8 rfl (by kernel_rfl) (by kernel_rfl) (by kernel_rfl) (fun _ _ _ h => absurd h.1 (by intro h'; cases h')) (by rfl) hHeld (v := ?_) (fun w hSw => ?_) (fun _ => ?_)
        rotate_left
        · ((try dsimp only at hSw); go_simp; (try with_reducible rfl))
        simp only [Act.put, List.setIfInBounds_toArray, List.set_cons_zero, List.set_cons_succ]
        refine held_call 9 (by kernel_rfl) rfl (by rfl) (fun K hK => ?_)
        go_simp
        have HB3 := Lib.hid (HB2.out.alloc HB2.out.size (.cells #[Value.string ⟨#[]⟩, .slice none 0 0, .slice none 0 0] 27))
        refine hK.out _ _ ⟨(HB3.out.cell (p := ⟨w.heap.size, 0, none⟩) (by have := S0.out; show w.heap.size < _; omega)).trans X0.out.1, (HB3.out.cell (p := ⟨w.heap.size, 1, none⟩) (by have := S0.out; show w.heap.size < _; omega)).trans X0.out.2.1, (HB3.out.cell (p := ⟨w.heap.size, 2, none⟩) (by have := S0.out; show w.heap.size < _; omega)).trans X0.out.2.2⟩ (fun hHeld => ?_)
        clear hK K
        refine held_call 10 (by kernel_rfl) rfl (by rfl) (fun K hK => ?_)
        go_simp
        have HB4 := Lib.hid (HB2.out.alloc HB2.out.size (.cells #[.string nm, .slice A1 ps.length c1, .slice A2 ks.length c2] 27))
        refine hK.out _ _ ⟨(HB4.out.cell (p := ⟨w.heap.size, 0, none⟩) (by have := S0.out; show w.heap.size < _; omega)).trans X0.out.1, (HB4.out.cell (p := ⟨w.heap.size, 1, none⟩) (by have := S0.out; show w.heap.size < _; omega)).trans X0.out.2.1, (HB4.out.cell (p := ⟨w.heap.size, 2, none⟩) (by have := S0.out; show w.heap.size < _; omega)).trans X0.out.2.2⟩ (fun hHeld => ?_)
        clear hK K
        have HA := Lib.hid (Below.alloc (Below.refl w2.heap.size w2) (Nat.le_refl _) (.cells #[.string nm, .slice A1 ps.length c1, .slice A2 ks.length c2] 27))
        refine wpAnyH_done (by kernel_rfl) ?_ _
        exact ⟨rfl, w2.heap.size, A1, c1, A2, c2, rfl, ⟨HB4.out, HB2.out.size, heap_alloc_new w2 _, own_on R1'.out HA.out, own_on R2.out HA.out, fun e => by have := (R2.out.lt _ e).2; omega⟩⟩
      · go_simp
        have HBA := Lib.hid (HB1.out.alloc HB1.out.size (.cells #[Value.string ⟨#[]⟩, .slice none 0 0, .slice none 0 0] 27))
        have HA := Lib.hid (Below.alloc (Below.refl w1.heap.size w1) (Nat.le_refl _) (.cells #[Value.string ⟨#[]⟩, .slice none 0 0, .slice none 0 0] 27))
        refine hK.out _ _ ⟨(HBA.out.cell (p := ⟨w.heap.size, 0, none⟩) (by have := S0.out; show w.heap.size < _; omega)).trans X0.out.1, (HBA.out.cell (p := ⟨w.heap.size, 1, none⟩) (by have := S0.out; show w.heap.size < _; omega)).trans X0.out.2.1, (HBA.out.cell (p := ⟨w.heap.size, 2, none⟩) (by have := S0.out; show w.heap.size < _; omega)).trans X0.out.2.2⟩ (fun hHeld => ?_)
        clear hK K
        refine held_call 7 (by kernel_rfl) rfl (by rfl) (fun K hK => ?_)
        go_simp
        refine (C2.out _ (HI.out.on (HB0.out.trans (HBA.out.mono HB0.out.size)))).mono ?_
        rintro e w2 ⟨A2, c2, rfl, hr, hb2⟩
        have HB2 := Lib.hid (HBA.out.trans (hb2.mono HBA.out.size))
        have NK : Hid ((Value.slice A2 ks.length c2).ownBlock ≠ some w1.heap.size) := fun e => by have := (hr.lt _ e).1; simp at this; omega
        have R2 := Lib.hid (own_from hr HBA.out.size)
        have R1' := Lib.hid (own_on (own_on R1.out HA.out) hb2)
        have BX := Lib.hid ((hb2.block w1.heap.size (by simp)).trans (heap_alloc_new w1 _))
        clear hr hb2
        dsimp only
        refine hK.out _ _ ⟨(HB2.out.cell (p := ⟨w.heap.size, 0, none⟩) (by have := S0.out; show w.heap.size < _; omega)).trans X0.out.1, (HB2.out.cell (p := ⟨w.heap.size, 1, none⟩) (by have := S0.out; show w.heap.size < _; omega)).trans X0.out.2.1, (HB2.out.cell (p := ⟨w.heap.size, 2, none⟩) (by have := S0.out; show w.heap.size < _; omega)).trans X0.out.2.2⟩ (fun hHeld => ?_)
        clear hK K
        refine held_take 8 rfl (by kernel_rfl) (by kernel_rfl) (by kernel_rfl) (fun _ _ _ h => absurd h.1 (by intro h'; cases h')) (by rfl) hHeld (v := ?_) (fun w hSw => ?_) (fun _ => ?_)
        rotate_left
        · ((try dsimp only at hSw); go_simp; (try with_reducible rfl))
        simp only [Act.put, List.setIfInBounds_toArray, List.set_cons_zero, List.set_cons_succ]
        have g0 := cell_of_row _ w1.heap.size 0 _ _ _ BX.out
        have e0 := frozen_of_row _ w1.heap.size 0 _ _ BX.out
        have g1 := cell_of_row _ w1.heap.size 1 _ _ _ BX.out
        have e1 := frozen_of_row _ w1.heap.size 1 _ _ BX.out
        have g2 := cell_of_row _ w1.heap.size 2 _ _ _ BX.out
        have e2 := frozen_of_row _ w1.heap.size 2 _ _ BX.out
        refine held_call 10 (by kernel_rfl) rfl (by rfl) (fun K hK => ?_)
        go_simp
        clear g0 g1 g2 e0 e1 e2
        have LD := Lib.hid (LaidO.wrote (nm := nm) HB2.out HB1.out.size BX.out rfl R1'.out R2.out NK.out)
        refine hK.out _ _ ⟨(LD.out.bel.cell (p := ⟨w.heap.size, 0, none⟩) (by have := S0.out; show w.heap.size < _; omega)).trans X0.out.1, (LD.out.bel.cell (p := ⟨w.heap.size, 1, none⟩) (by have := S0.out; show w.heap.size < _; omega)).trans X0.out.2.1, (LD.out.bel.cell (p := ⟨w.heap.size, 2, none⟩) (by have := S0.out; show w.heap.size < _; omega)).trans X0.out.2.2⟩ (fun hHeld => ?_)
        clear hK K
        refine wpAnyH_done (by kernel_rfl) ?_ _
        exact ⟨rfl, w1.heap.size, A1, c1, A2, c2, rfl, LD.out⟩
    · go_simp
      have HBA := Lib.hid (HBd.out.alloc HBd.out.size (.cells #[Value.string ⟨#[]⟩, .slice none 0 0, .slice none 0 0] 27))
      refine hK.out _ _ ⟨(HBA.out.cell (p := ⟨w.heap.size, 0, none⟩) (by have := S0.out; show w.heap.size < _; omega)).trans X0.out.1, (HBA.out.cell (p := ⟨w.heap.size, 1, none⟩) (by have := S0.out; show w.heap.size < _; omega)).trans X0.out.2.1, (HBA.out.cell (p := ⟨w.heap.size, 2, none⟩) (by have := S0.out; show w.heap.size < _; omega)).trans X0.out.2.2⟩ (fun hHeld => ?_)
      clear hK K
      refine held_call 4 (by kernel_rfl) rfl (by rfl) (fun K hK => ?_)
      go_simp
      refine (C1.out _ (HI.out.on (HB0.out.trans (HBA.out.mono HB0.out.size)))).mono ?_
      rintro e w1 ⟨A1, c1, rfl, hr, hb⟩
      have HB1 := Lib.hid (HBA.out.trans (hb.mono HBA.out.size))
      have R1 := Lib.hid (own_from hr HBA.out.size)
      have HS1 : Hid (W0.heap.size < w1.heap.size) := by have := hb.size; simp at this; show W0.heap.size < _; omega
      have BX := Lib.hid ((hb.block W0.heap.size (by simp)).trans (heap_alloc_new W0.drew _))
      clear hr hb
      dsimp only
      refine hK.out _ _ ⟨(HB1.out.cell (p := ⟨w.heap.size, 0, none⟩) (by have := S0.out; show w.heap.size < _; omega)).trans X0.out.1, (HB1.out.cell (p := ⟨w.heap.size, 1, none⟩) (by have := S0.out; show w.heap.size < _; omega)).trans X0.out.2.1, (HB1.out.cell (p := ⟨w.heap.size, 2, none⟩) (by have := S0.out; show w.heap.size < _; omega)).trans X0.out.2.2⟩ (fun hHeld => ?_)
      clear hK K
      refine held_call 7 (by kernel_rfl) rfl (by rfl) (fun K hK => ?_)
      go_simp
      refine (C2.out _ (HI.out.on (HB0.out.trans (HB1.out.mono HB0.out.size)))).mono ?_
      rintro e w2 ⟨A2, c2, rfl, hr, hb2⟩
      have HB2 := Lib.hid (HB1.out.trans (hb2.mono HB1.out.size))
      have NK : Hid ((Value.slice A2 ks.length c2).ownBlock ≠ some W0.heap.size) := fun e => by have := (hr.lt _ e).1; have := HS1.out; omega
      have R2 := Lib.hid (own_from hr HB1.out.size)
      have R1' := Lib.hid (own_on R1.out hb2)
      have BX2 := Lib.hid ((hb2.block W0.heap.size HS1.out).trans BX.out)
      clear hr hb2
      dsimp only
      refine hK.out _ _ ⟨(HB2.out.cell (p := ⟨w.heap.size, 0, none⟩) (by have := S0.out; show w.heap.size < _; omega)).trans X0.out.1, (HB2.out.cell (p := ⟨w.heap.size, 1, none⟩) (by have := S0.out; show w.heap.size < _; omega)).trans X0.out.2.1, (HB2.out.cell (p := ⟨w.heap.size, 2, none⟩) (by have := S0.out; show w.heap.size < _; omega)).trans X0.out.2.2⟩ (fun hHeld => ?_)
      clear hK K
      refine held_take 8 rfl (by kernel_rfl) (by kernel_rfl) (by kernel_rfl) (fun _ _ _ h => absurd h.1 (by intro h'; cases h')) (by rfl) hHeld (v := ?_) (fun w hSw => ?_) (fun _ => ?_)
      rotate_left
      · ((try dsimp only at hSw); go_simp; (try with_reducible rfl))
      simp only [Act.put, List.setIfInBounds_toArray, List.set_cons_zero, List.set_cons_succ]
      have g0 := cell_of_row _ W0.heap.size 0 _ _ _ BX2.out
      have e0 := frozen_of_row _ W0.heap.size 0 _ _ BX2.out
      have g1 := cell_of_row _ W0.heap.size 1 _ _ _ BX2.out
      have e1 := frozen_of_row _ W0.heap.size 1 _ _ BX2.out
      have g2 := cell_of_row _ W0.heap.size 2 _ _ _ BX2.out
      have e2 := frozen_of_row _ W0.heap.size 2 _ _ BX2.out
      refine held_call 10 (by kernel_rfl) rfl (by rfl) (fun K hK => ?_)
      go_simp
      clear g0 g1 g2 e0 e1 e2
      have LD := Lib.hid (LaidO.wrote (nm := nm) HB2.out (Nat.le_refl _) BX2.out rfl R1'.out R2.out NK.out)
      refine hK.out _ _ ⟨(LD.out.bel.cell (p := ⟨w.heap.size, 0, none⟩) (by have := S0.out; show w.heap.size < _; omega)).trans X0.out.1, (LD.out.bel.cell (p := ⟨w.heap.size, 1, none⟩) (by have := S0.out; show w.heap.size < _; omega)).trans X0.out.2.1, (LD.out.bel.cell (p := ⟨w.heap.size, 2, none⟩) (by have := S0.out; show w.heap.size < _; omega)).trans X0.out.2.2⟩ (fun hHeld => ?_)
      clear hK K
      refine wpAnyH_done (by kernel_rfl) ?_ _
      exact ⟨rfl, W0.heap.size, A1, c1, A2, c2, rfl, LD.out⟩
  case rest =>
    rintro a' W ⟨g, A1, c1, A2, c2, rfl, hlaid⟩
    have HL := Lib.hid hlaid
    have HP1 := Lib.hid (own_caps hlaid.rp)
    have HK1 := Lib.hid (own_caps hlaid.rk)
    have NPB := Lib.hid (box_no_prow hlaid.box hlaid.rp)
    have S1 : Hid (W0.heap.size ≤ W.heap.size ∧ g < W.heap.size) := ⟨hlaid.bel.size, hlaid.gh⟩
    clear hlaid
    have b1 := cell_of_row _ g 1 _ _ _ HL.out.box
    replace b1 : _ = some (Value.slice A1 ps.length c1) := b1
    obtain ⟨hp1, hp2⟩ := HP1.out
    obtain ⟨hk1, hk2⟩ := HK1.out
    dsimp only
    go_wp2_with fail
    clear b1
    go_loopw [20] (fun i wr => ∃ k : Nat, k ≤ ps.length ∧ i = .int .i64 k ∧ ∃ xs, M1 W W0.heap.size (.slice A1 ps.length c1) ps xs k wr) (fun i _ => ps.length - (intOf i).toNat)
    case atStart => exact ⟨0, Nat.zero_le _, rfl, ps, M1.start HL.out.rp⟩
    case round =>
      obtain ⟨k, hk, rfl, xs, hm1⟩ := hrel
      have H1 := Lib.hid hm1
      clear hm1
      have BXW := Lib.hid ((H1.out.chg.block g S1.out.2 NPB.out).trans HL.out.box)
      have b1 := cell_of_row _ g 1 _ _ _ BXW.out
      replace b1 : _ = some (Value.slice A1 ps.length c1) := b1
      by_cases hlt : k < ps.length
      · obtain ⟨gp, ea, glo, _, _, _, gfz⟩ := own_block HL.out.rp (by omega)
        obtain rfl : A1 = _ := ea
        have GPW : Hid (gp < W.heap.size) := (HL.out.rp.lt gp rfl).2
        have GPR : Hid (gp < wr.heap.size) := Nat.lt_of_lt_of_le GPW.out H1.out.chg.size
        have NPG : Hid (gp ≠ g) := fun e => NPB.out (by rw [← e]; rfl)
        have hkx : k < xs.length := by rw [H1.out.len]; exact hlt
        have hpr := (prow_own (P := xs) (by rw [H1.out.len]; exact H1.out.row)).2.2.2 (by omega)
        obtain ⟨bb, oo, eb, _, hrr⟩ := hpr
        obtain ⟨rfl, rfl⟩ : gp = bb ∧ 0 = oo := by simpa using eb
        obtain ⟨r0, r1⟩ := hrr k hkx
        rw [H1.out.todo k hkx hlt (Nat.le_refl _), Nat.zero_add] at r0 r1
        replace r1 : _ = some (Value.slice ps[k].addr ps[k].zs.length ps[k].cap) := r1
        have fzr : ∀ i, wr.frozen? ⟨gp, i, none⟩ = false := fun i => World.ownsRow.frozenAt H1.out.row i
        have hfz : Hid (∀ w2 : World, Below wr.heap.size wr w2 → w2.frozen? ⟨gp, k * 2 + 1, none⟩ = false ∧ w2.cell? ⟨gp, k * 2 + 1, none⟩ = some (Value.slice ps[k].addr ps[k].zs.length ps[k].cap)) := fun w2 hb => by
          refine ⟨(hb.frozen (p := ⟨gp, k * 2 + 1, none⟩) GPR.out).trans ?_, (hb.cell (p := ⟨gp, k * 2 + 1, none⟩) GPR.out).trans r1⟩
          exact fzr _
        have HV := Lib.hid (HI.out.prop (List.getElem_mem hlt))
        have HBR : Hid (Below w.heap.size w wr) := HB0.out.trans ((HL.out.bel.mono HB0.out.size).trans (H1.out.chg.below (by have := S0.out; have := S1.out; omega) (fun q e => by have := (HL.out.rp.lt q e).1; have := S0.out; omega)))
        have HA := Lib.hid (Below.alloc (Below.refl wr.heap.size wr) (Nat.le_refl _) (.cells #[Value.string ps[k].name, .slice ps[k].addr ps[k].zs.length ps[k].cap] 61))
        have a1 : ∀ o, (wr.alloc o).cell? ⟨g, 1, none⟩ = _ := fun o => Lib.cell?_alloc_some o b1
        clear glo gfz fzr hrr eb
        go_wp2_with fail
        have y1 : (wr.alloc (.cells #[Value.string ps[k].name, .slice ps[k].addr ps[k].zs.length ps[k].cap] 61)).cell? ⟨wr.heap.size, 1, none⟩ = some (.slice ps[k].addr ps[k].zs.length ps[k].cap) := World.cell?_alloc_new _ _ _ _
        refine wp_region_held_drew (S := fun W' => W'.cell? ⟨g, 1, none⟩ = some (.slice (some ⟨gp, 0, none⟩) ps.length c1) ∧ W'.cell? ⟨wr.heap.size, 1, none⟩ = some (.slice ps[k].addr ps[k].zs.length ps[k].cap)) (by kernel_rfl) ⟨a1 _, y1⟩ (fun hHeld => ?_)
        refine held_take 0 rfl (by kernel_rfl) (by kernel_rfl) (by kernel_rfl) (fun _ _ _ h => h) (by rfl) hHeld (v := ?_) (fun w hSw => ?_) (fun _ => ?_)
        rotate_left
        · ((try dsimp only at hSw); go_simp; (try with_reducible rfl))
        simp only [Act.put, List.setIfInBounds_toArray, List.set_cons_zero, List.set_cons_succ]
        refine held_take 1 rfl (by kernel_rfl) (by kernel_rfl) (by kernel_rfl) (fun _ _ _ h => h) (by rfl) hHeld (v := ?_) (fun w hSw => ?_) (fun _ => ?_)
        rotate_left
        · ((try dsimp only at hSw); go_simp; (try with_reducible rfl))
        simp only [Act.put, List.setIfInBounds_toArray, List.set_cons_zero, List.set_cons_succ]
        refine held_take 2 rfl (by kernel_rfl) (by kernel_rfl) (by kernel_rfl) (fun _ _ _ h => h) (by rfl) hHeld (v := ?_) (fun w hSw => ?_) (fun _ => ?_)
        rotate_left
        · ((try dsimp only at hSw); go_simp; (try with_reducible rfl))
        simp only [Act.put, List.setIfInBounds_toArray, List.set_cons_zero, List.set_cons_succ]
        refine held_take 3 rfl (by kernel_rfl) (by kernel_rfl) (by kernel_rfl) (fun _ _ _ h => h) (by rfl) hHeld (v := ?_) (fun w hSw => ?_) (fun _ => ?_)
        rotate_left
        · ((try dsimp only at hSw); go_simp; (try with_reducible rfl))
        simp only [Act.put, List.setIfInBounds_toArray, List.set_cons_zero, List.set_cons_succ]
        refine held_take 4 rfl (by kernel_rfl) (by kernel_rfl) (by kernel_rfl) (fun _ _ _ h => h) (by rfl) hHeld (v := ?_) (fun w hSw => ?_) (fun _ => ?_)
        rotate_left
        · ((try dsimp only at hSw); go_simp; (try with_reducible rfl))
        simp only [Act.put, List.setIfInBounds_toArray, List.set_cons_zero, List.set_cons_succ]
        refine held_call 5 (by kernel_rfl) rfl (by rfl) (fun K hK => ?_)
        go_simp
        refine (obclone_any ps[k].addr ps[k].zs.length ps[k].cap ps[k].zs _ (((HV.out.2.1.below HBR.out).more HBR.out.size).below HA.out.drew |>.more HA.out.size) HV.out.1.2).mono ?_
        rintro e w2 ⟨v', rfl, hown, hb2⟩
        have HB2 := Lib.hid (HA.out.drew.trans (hb2.mono HA.out.size))
        obtain ⟨A, c, rfl, q1, q2, q3, q4⟩ := own_val hown HV.out.2.1.2.1
        have HQ := Lib.hid (And.intro q1 (And.intro q2 (And.intro q3 q4)))
        have hs2 := hfz.out _ HB2.out
        have z1 := (HB2.out.cell (p := ⟨g, 1, none⟩) (Nat.lt_of_lt_of_le S1.out.2 H1.out.chg.size)).trans b1
        have z2 := (hb2.cell (p := ⟨wr.heap.size, 1, none⟩) (by simp)).trans y1
        clear hown q1 q2 q3 q4 hb2
        dsimp only
        refine hK.out _ _ ⟨z1, z2⟩ (fun hHeld => ?_)
        clear hK K
        refine held_take 6 rfl (by kernel_rfl) (by kernel_rfl) (by kernel_rfl) (fun _ _ _ h => h) (by rfl) hHeld (v := ?_) (fun w hSw => ?_) (fun _ => ?_)
        rotate_left
        · ((try dsimp only at hSw); go_simp; (try with_reducible rfl))
        simp only [Act.put, List.setIfInBounds_toArray, List.set_cons_zero, List.set_cons_succ]
        refine held_take 7 rfl (by kernel_rfl) (by kernel_rfl) (by kernel_rfl) (fun _ _ _ h => h) (by rfl) hHeld (v := ?_) (fun w hSw => ?_) (fun _ => ?_)
        rotate_left
        · ((try dsimp only at hSw); go_simp; (try with_reducible rfl))
        simp only [Act.put, List.setIfInBounds_toArray, List.set_cons_zero, List.set_cons_succ]
        refine held_call 8 (by kernel_rfl) rfl (by rfl) (fun K hK => ?_)
        go_simp
        have nb : ∀ {b i j : Nat}, gp ≠ b → (⟨gp, i, none⟩ : Addr) ≠ ⟨b, j, none⟩ := fun h e => h (by simpa using congrArg Addr.block e)
        refine hK.out _ _ ⟨(World.cell?_setCell_other _ _ _ _ (nb NPG.out)).trans z1, (World.cell?_setCell_other _ _ _ _ (nb (by have := GPR.out; omega))).trans z2⟩ (fun hHeld => ?_)
        clear hK K z1 z2 nb
        refine wpAnyH_done (by kernel_rfl) ?_ _
        go_wp2
        go_roundw
        case rel =>
          exact ⟨k + 1, by omega, by go_num, _, (H1.out.on HB2.out).store rfl GPW.out hlt (q := ⟨ps[k].name, A, c, ps[k].zs⟩) ⟨HV.out.1, HQ.out.1, HQ.out.2.1, HQ.out.2.2.1⟩ (fun h0 b o e => by
            have h1 := HQ.out.2.2.2 b o h0 e
            have h2 := H1.out.chg.size
            have h3 := h1.1
            simp at h3
            exact ⟨by omega, h1.2.1, h1.2.2⟩) rfl rfl⟩
        case measure => simp [intOf]; omega
      · have hkk : k = ps.length := by omega
        obtain ⟨W2, rfl⟩ : ∃ W2, W2 = wr := ⟨wr, rfl⟩
        have N1 : Hid (M1 W W0.heap.size (.slice A1 ps.length c1) ps xs ps.length W2) := hkk ▸ H1.out
        have RK2 : Hid (W2.ownsRow W0.heap.size 27 3 (.slice A2 ks.length c2) ks.length (ks.flatMap kC)) := own_same HL.out.rk (fun q e => N1.out.chg.block q (HL.out.rk.lt q e).2 (fun e' => own_ne_type HL.out.rp HL.out.rk prop_ne_node q e' e))
        have S2 : Hid (W.heap.size ≤ W2.heap.size) := N1.out.chg.size
        have b2 := cell_of_row _ g 2 _ _ _ BXW.out
        replace b2 : _ = some (Value.slice A2 ks.length c2) := b2
        clear hkk b1 H1
        go_wp2_with fail
        clear b2
        go_loopw [37] (fun i wr => ∃ k : Nat, k ≤ ks.length ∧ i = .int .i64 k ∧ ∃ ms G D, M2 W2 W0.heap.size (.slice A2 ks.length c2) ks ms k wr G D) (fun i _ => ks.length - (intOf i).toNat)
        case atStart => exact ⟨0, Nat.zero_le _, rfl, ks, _, _, M2.start RK2.out⟩
        case round =>
          obtain ⟨k, hk, rfl, ms, G, D, hm2⟩ := hrel
          have H2 := Lib.hid hm2
          clear hm2
          have BXR := Lib.hid ((H2.out.chg.block g (Nat.lt_of_lt_of_le S1.out.2 S2.out) HL.out.nk).trans BXW.out)
          have b2 := cell_of_row _ g 2 _ _ _ BXR.out
          replace b2 : _ = some (Value.slice A2 ks.length c2) := b2
          have HBR : Hid (Below w.heap.size w wr) := HB0.out.trans ((HL.out.bel.mono HB0.out.size).trans ((N1.out.chg.below (by have := S0.out; have := S1.out; omega) (fun q e => by have := (HL.out.rp.lt q e).1; have := S0.out; omega)).trans (H2.out.chg.below (by have := S0.out; have := S1.out; have := S2.out; omega) (fun q e => by have := (HL.out.rk.lt q e).1; have := S0.out; omega))))
          by_cases hlt : k < ks.length
          · obtain ⟨gk, ea, glo, _, _, _, gfz⟩ := own_block HL.out.rk (by omega)
            obtain rfl : A2 = _ := ea
            have GKW : Hid (gk < W2.heap.size) := (RK2.out.lt gk rfl).2
            have GKR : Hid (gk < wr.heap.size) := Nat.lt_of_lt_of_le GKW.out H2.out.chg.size
            have NKG : Hid (gk ≠ g) := fun e => HL.out.nk (by rw [← e]; rfl)
            have hkx : k < ms.length := by rw [H2.out.len]; exact hlt
            have hkr := (krow_own (P := ms) (by rw [H2.out.len]; exact H2.out.row)).2.2.2 (by omega)
            obtain ⟨bb, oo, eb, _, hrr⟩ := hkr
            obtain ⟨rfl, rfl⟩ : gk = bb ∧ 0 = oo := by simpa using eb
            obtain ⟨r0, r1, r2⟩ := hrr k hkx
            rw [H2.out.todo k hkx hlt (Nat.le_refl _), Nat.zero_add] at r0 r1 r2
            replace r1 : _ = some (Value.slice ks[k].pa ks[k].props.length ks[k].pc) := r1
            replace r2 : _ = some (Value.slice ks[k].ka ks[k].kids.length ks[k].kc) := r2
            have fzr : ∀ i, wr.frozen? ⟨gk, i, none⟩ = false := fun i => World.ownsRow.frozenAt H2.out.row i
            have hfz : Hid (∀ w2 : World, Below wr.heap.size wr w2 → (∀ i, w2.frozen? ⟨gk, i, none⟩ = false) ∧ w2.cell? ⟨gk, k * 3, none⟩ = some (Value.string ks[k].name) ∧ w2.cell? ⟨gk, k * 3 + 1, none⟩ = some (Value.slice ks[k].pa ks[k].props.length ks[k].pc) ∧ w2.cell? ⟨gk, k * 3 + 2, none⟩ = some (Value.slice ks[k].ka ks[k].kids.length ks[k].kc)) := fun w2 hb => by
              refine ⟨fun i => (hb.frozen (p := ⟨gk, i, none⟩) GKR.out).trans ?_, (hb.cell (p := ⟨gk, k * 3, none⟩) GKR.out).trans r0, (hb.cell (p := ⟨gk, k * 3 + 1, none⟩) GKR.out).trans r1, (hb.cell (p := ⟨gk, k * 3 + 2, none⟩) GKR.out).trans r2⟩
              exact fzr _
            have HA := Lib.hid (Below.alloc (Below.refl wr.heap.size wr) (Nat.le_refl _) (.cells #[Value.string ks[k].name, .slice ks[k].pa ks[k].props.length ks[k].pc, .slice ks[k].ka ks[k].kids.length ks[k].kc] 27))
            have a2 : ∀ o, (wr.alloc o).cell? ⟨g, 2, none⟩ = _ := fun o => Lib.cell?_alloc_some o b2
            clear glo gfz fzr hrr eb
            go_wp2_with fail
            have y0 : (wr.alloc (.cells #[Value.string ks[k].name, .slice ks[k].pa ks[k].props.length ks[k].pc, .slice ks[k].ka ks[k].kids.length ks[k].kc] 27)).cell? ⟨wr.heap.size, 0, none⟩ = some (.string ks[k].name) := World.cell?_alloc_new _ _ _ _
            have y1 : (wr.alloc (.cells #[Value.string ks[k].name, .slice ks[k].pa ks[k].props.length ks[k].pc, .slice ks[k].ka ks[k].kids.length ks[k].kc] 27)).cell? ⟨wr.heap.size, 1, none⟩ = some (.slice ks[k].pa ks[k].props.length ks[k].pc) := World.cell?_alloc_new _ _ _ _
            have y2 : (wr.alloc (.cells #[Value.string ks[k].name, .slice ks[k].pa ks[k].props.length ks[k].pc, .slice ks[k].ka ks[k].kids.length ks[k].kc] 27)).cell? ⟨wr.heap.size, 2, none⟩ = some (.slice ks[k].ka ks[k].kids.length ks[k].kc) := World.cell?_alloc_new _ _ _ _
            refine wp_region_held_drew (S := fun W' => W'.cell? ⟨g, 2, none⟩ = some (.slice (some ⟨gk, 0, none⟩) ks.length c2) ∧ W'.cell? ⟨wr.heap.size, 0, none⟩ = some (.string ks[k].name) ∧ W'.cell? ⟨wr.heap.size, 1, none⟩ = some (.slice ks[k].pa ks[k].props.length ks[k].pc) ∧ W'.cell? ⟨wr.heap.size, 2, none⟩ = some (.slice ks[k].ka ks[k].kids.length ks[k].kc)) (by kernel_rfl) ⟨a2 _, y0, y1, y2⟩ (fun hHeld => ?_)
            refine held_take 0 rfl (by kernel_rfl) (by kernel_rfl) (by kernel_rfl) (fun _ _ _ h => h) (by rfl) hHeld (v := ?_) (fun w hSw => ?_) (fun _ => ?_)
            rotate_left
            · ((try dsimp only at hSw); go_simp; (try with_reducible rfl))
            simp only [Act.put, List.setIfInBounds_toArray, List.set_cons_zero, List.set_cons_succ]
            refine held_take 1 rfl (by kernel_rfl) (by kernel_rfl) (by kernel_rfl) (fun _ _ _ h => h) (by rfl) hHeld (v := ?_) (fun w hSw => ?_) (fun _ => ?_)
            rotate_left
            · ((try dsimp only at hSw); go_simp; (try with_reducible rfl))
            simp only [Act.put, List.setIfInBounds_toArray, List.set_cons_zero, List.set_cons_succ]
            refine held_take 2 rfl (by kernel_rfl) (by kernel_rfl) (by kernel_rfl) (fun _ _ _ h => h) (by rfl) hHeld (v := ?_) (fun w hSw => ?_) (fun _ => ?_)
            rotate_left
            · ((try dsimp only at hSw); go_simp; (try with_reducible rfl))
            simp only [Act.put, List.setIfInBounds_toArray, List.set_cons_zero, List.set_cons_succ]
            refine held_take 3 rfl (by kernel_rfl) (by kernel_rfl) (by kernel_rfl) (fun _ _ _ h => h) (by rfl) hHeld (v := ?_) (fun w hSw => ?_) (fun _ => ?_)
            rotate_left
            · ((try dsimp only at hSw); go_simp; (try with_reducible rfl))
            simp only [Act.put, List.setIfInBounds_toArray, List.set_cons_zero, List.set_cons_succ]
            refine held_call 4 (by kernel_rfl) rfl (by rfl) (fun K hK => ?_)
            go_simp
            refine (IH.out ks[k] (List.getElem_mem hlt) ((wr.alloc (.cells #[Value.string ks[k].name, .slice ks[k].pa ks[k].props.length ks[k].pc, .slice ks[k].ka ks[k].kids.length ks[k].kc] 27)).drew) (((HI.out.kid (List.getElem_mem hlt)).under (HBR.out.trans (HA.out.drew.mono HBR.out.size))).more (Nat.le_trans HBR.out.size HA.out.size))).mono ?_
            rintro e w2 ⟨m, F, D2, rfl, q1, q2, q3, q4, q5, hb2⟩
            have HB2 := Lib.hid (HA.out.drew.trans (hb2.mono HA.out.size))
            have HQ := Lib.hid (And.intro q1 (And.intro q2 (And.intro q3 q4)))
            have HQU := Lib.hid q5
            obtain ⟨fz, s0, s1, s2⟩ := hfz.out _ HB2.out
            have fz0 := fz (k * 3)
            have fz1 := fz (k * 3 + 1)
            have fz2 := fz (k * 3 + 2)
            have z1 := (HB2.out.cell (p := ⟨g, 2, none⟩) (Nat.lt_of_lt_of_le (Nat.lt_of_lt_of_le S1.out.2 S2.out) H2.out.chg.size)).trans b2
            have z2 := (hb2.cell (p := ⟨wr.heap.size, 0, none⟩) (by simp)).trans y0
            have z3 := (hb2.cell (p := ⟨wr.heap.size, 1, none⟩) (by simp)).trans y1
            have z4 := (hb2.cell (p := ⟨wr.heap.size, 2, none⟩) (by simp)).trans y2
            clear q1 q2 q3 q4 q5 hb2 fz
            obtain ⟨mn, mpa, mpc, mps, mka, mkc, mks⟩ := m
            dsimp only [Nd.val, Nd.name, Nd.pv, Nd.kv, Nd.pa, Nd.pc, Nd.props, Nd.ka, Nd.kc, Nd.kids]
            refine hK.out _ _ ⟨z1, z2, z3, z4⟩ (fun hHeld => ?_)
            clear hK K
            refine held_take 5 rfl (by kernel_rfl) (by kernel_rfl) (by kernel_rfl) (fun _ _ _ h => h) (by rfl) hHeld (v := ?_) (fun w hSw => ?_) (fun _ => ?_)
            rotate_left
            · ((try dsimp only at hSw); go_simp; (try with_reducible rfl))
            simp only [Act.put, List.setIfInBounds_toArray, List.set_cons_zero, List.set_cons_succ]
            refine held_call 6 (by kernel_rfl) rfl (by rfl) (fun K hK => ?_)
            go_simp
            have nb : ∀ {b i j : Nat}, gk ≠ b → (⟨gk, i, none⟩ : Addr) ≠ ⟨b, j, none⟩ := fun h e => h (by simpa using congrArg Addr.block e)
            have nk : gk ≠ wr.heap.size := by have h1 := GKR.out; omega
            refine hK.out _ _ ⟨(World.cell?_setCell_other _ _ _ _ (nb NKG.out)).trans ((World.cell?_setCell_other _ _ _ _ (nb NKG.out)).trans ((World.cell?_setCell_other _ _ _ _ (nb NKG.out)).trans z1)), (World.cell?_setCell_other _ _ _ _ (nb nk)).trans ((World.cell?_setCell_other _ _ _ _ (nb nk)).trans ((World.cell?_setCell_other _ _ _ _ (nb nk)).trans z2)), (World.cell?_setCell_other _ _ _ _ (nb nk)).trans ((World.cell?_setCell_other _ _ _ _ (nb nk)).trans ((World.cell?_setCell_other _ _ _ _ (nb nk)).trans z3)), (World.cell?_setCell_other _ _ _ _ (nb nk)).trans ((World.cell?_setCell_other _ _ _ _ (nb nk)).trans ((World.cell?_setCell_other _ _ _ _ (nb nk)).trans z4))⟩ (fun hHeld => ?_)
            clear hK K z1 z2 z3 z4 nb nk
            refine wpAnyH_done (by kernel_rfl) ?_ _
            go_wp2
            go_roundw
            case rel =>
              obtain ⟨G', D', T3⟩ := H2.out.store HB2.out rfl GKW.out hlt HQ.out.2.1 (fun q e => by have h1 := HQ.out.2.2.1 q e; simp at h1; omega) (fun q e => by have h1 := HQ.out.2.2.2 q e; simp at h1; exact ⟨by omega, h1.2.1, h1.2.2⟩) (fun q e => HQU.out q e) HQ.out.1
              exact ⟨k + 1, by omega, by go_num, _, G', D', T3⟩
            case measure => simp [intOf]; omega
          · have hkk : k = ks.length := by omega
            have N2 : Hid (M2 W2 W0.heap.size (.slice A2 ks.length c2) ks ms ks.length wr G D) := hkk ▸ H2.out
            have ZR := Lib.hid ((H2.out.chg.block (w.heap.size + 1) (by have := S0.out; have := S1.out; have := S2.out; omega) (fun e => by have := (HL.out.rk.lt _ e).1; have := S0.out; omega)).trans ((N1.out.chg.block (w.heap.size + 1) (by have := S0.out; have := S1.out; omega) (fun e => by have := (HL.out.rp.lt _ e).1; have := S0.out; omega)).trans ((HL.out.bel.block (w.heap.size + 1) (by have := S0.out; omega)).trans ZB.out)))
            have b0 := cell_of_row _ g 0 _ _ _ BXR.out
            have b1 := cell_of_row _ g 1 _ _ _ BXR.out
            replace b0 : _ = some (Value.string nm) := b0
            replace b1 : _ = some (Value.slice A1 ps.length c1) := b1
            have t0 := cell_of_row _ (w.heap.size + 1) 0 _ _ _ ZR.out
            have t1 := cell_of_row _ (w.heap.size + 1) 1 _ _ _ ZR.out
            have t2 := cell_of_row _ (w.heap.size + 1) 2 _ _ _ ZR.out
            replace t0 : _ = some (Value.string ⟨#[]⟩) := t0
            replace t1 : _ = some (Value.slice none 0 0) := t1
            replace t2 : _ = some (Value.slice none 0 0) := t2
            have f0 := frozen_of_row _ (w.heap.size + 1) 0 _ _ ZR.out
            have f1 := frozen_of_row _ (w.heap.size + 1) 1 _ _ ZR.out
            have f2 := frozen_of_row _ (w.heap.size + 1) 2 _ _ ZR.out
            clear hkk
            go_wp2_with fail
            have BF := Lib.hid (heap_setCell_same _ (w.heap.size + 1) 2 _ _ (.slice A2 ks.length c2) (heap_setCell_same _ (w.heap.size + 1) 1 _ _ (.slice A1 ps.length c1) (heap_setCell_same _ (w.heap.size + 1) 0 _ _ (.string nm) ZR.out)))
            have d0 := cell_of_row _ (w.heap.size + 1) 0 _ _ _ BF.out
            have d1 := cell_of_row _ (w.heap.size + 1) 1 _ _ _ BF.out
            have d2 := cell_of_row _ (w.heap.size + 1) 2 _ _ _ BF.out
            replace d0 : _ = some (Value.string nm) := d0
            replace d1 : _ = some (Value.slice A1 ps.length c1) := d1
            replace d2 : _ = some (Value.slice A2 ks.length c2) := d2
            have HCF := Lib.hid ((((Chg.refl (fun q => q = w.heap.size + 1) wr).setCell (a := ⟨w.heap.size + 1, 0, none⟩) (.inl rfl) (.string nm)).setCell (a := ⟨w.heap.size + 1, 1, none⟩) (.inl rfl) (.slice A1 ps.length c1)).setCell (a := ⟨w.heap.size + 1, 2, none⟩) (.inl rfl) (.slice A2 ks.length c2))
            have HE : Hid (Value.agg #[.string nm, .slice A1 ps.length c1, .slice A2 ks.length c2] = (Nd.mk nm A1 c1 xs A2 c2 ms).val) := by
              show _ = Value.agg #[.string nm, .slice A1 xs.length c1, .slice A2 ms.length c2]
              rw [N1.out.len, N2.out.len]
            have HPP : Hid (pureN (Nd.mk nm A1 c1 xs A2 c2 ms) = pureN (Nd.mk nm pa pc ps ka kc ks)) := by
              show pureN (Nd.mk nm A1 c1 xs A2 c2 ms) = _
              rw [pureN_mk, pureN_mk]
              show PN.mk nm (xs.map PV.pure) (ms.map pureN) = PN.mk nm (ps.map PV.pure) (ks.map pureN)
              rw [N1.out.pure, N2.out.pure]
            have MO := Lib.hid (made_own (Nat.le_refl _) HNM.out HL.out N1.out N2.out)
            clear t0 t1 t2 f0 f1 f2 b0 b1 b2
            refine bodyPost_ret (v := .agg #[.string nm, .slice A1 ps.length c1, .slice A2 ks.length c2]) (by simp [results, Tryz.results26, go_sem, d0, d1, d2]; try rfl) rfl ?_
            obtain ⟨F, D', o1, o2, o3, o4⟩ := MO.out
            refine ⟨_, F, D', congrArg Ending.returned HE.out, HPP.out, o1.chg HCF.out (fun q e e' => ?_) (fun q e e' => ?_), fun q e => ?_, fun q e => ?_, fun q e => ((o4 q e).set _ _).set _ _ |>.set _ _, HBR.out.trans (HCF.out.below HBR.out.size (fun q e => by omega))⟩
            · have := (o2 q e).1
              have := S0.out
              omega
            · have := (o3 q e).1
              have := S0.out
              omega
            · have h1 := o2 q e
              have h2 := HCF.out.size
              have := S0.out
              omega
            · have h1 := o3 q e
              have h2 := HCF.out.size
              have := S0.out
              exact ⟨by omega, by omega, h1.2.2⟩
theorem cloneNode_own (n : Nd) (w : World) (h : n.In w w.heap.size) : Calls Tryz.prog 26 #[n.val] w fun e w' => ∃ m F D, e = .returned m.val ∧ pureN m = pureN n ∧ Own w' F D m ∧ (∀ q, F q → w.heap.size ≤ q ∧ q < w'.heap.size) ∧ (∀ q, D q → w.heap.size ≤ q ∧ q < w'.heap.size ∧ ¬ F q) ∧ Below w.heap.size w w' := by
  refine (cloneNode_unf n w h).mono ?_
  rintro e w' ⟨m, F, D, h1, h2, h3, h4, h5, _, h6⟩
  exact ⟨m, F, D, h1, h2, h3, h4, h5, h6⟩
end Go.Proofs.YtihlpcbebpnmkaaGreatDoor

/-! Layer 11: bytes of the call's own that are written in place: what keeps them bytes; a node whose values are such bytes. -/
namespace Go.Proofs.YtihlpcbebpnmkaaGreatDoor
open Go.RowKit Go.Deep Go.WideShapes Go.ChangeShapes
set_option linter.unusedVariables false
set_option linter.unusedSimpArgs false

/-- w' is w but for bytes in blocks of D, which are bytes still, and new blocks. -/
structure Wrote (D : Nat → Prop) (w w' : World) : Prop where
  chg : Chg D w w'
  frz : ∀ a : Addr, a.block < w.heap.size → w'.frozen? a = w.frozen? a
  byt : ∀ (a : Addr) (z : Int), a.block < w.heap.size → w.cell? a = some (.int .u8 z) → 0 ≤ z ∧ z < 256 → ∃ z', w'.cell? a = some (.int .u8 z') ∧ 0 ≤ z' ∧ z' < 256
  oth : ∀ (a : Addr) (v : Value), a.block < w.heap.size → w.cell? a = some v → (∀ z, v ≠ .int .u8 z) → w'.cell? a = some v
section
variable {D D' E : Nat → Prop} {w w' w2 : World}
theorem Wrote.refl (D : Nat → Prop) (w : World) : Wrote D w w := ⟨Chg.refl _ _, fun _ _ => rfl, fun a z _ h hz => ⟨z, h, hz⟩, fun _ _ _ h _ => h⟩
theorem Wrote.trans (h : Wrote D w w') (k : Wrote D w' w2) : Wrote D w w2 :=
  ⟨h.chg.trans k.chg (fun _ _ e => e), fun a ha => (k.frz a (Nat.lt_of_lt_of_le ha h.chg.size)).trans (h.frz a ha), fun a z ha hc hz => by
    obtain ⟨z1, h1, h2⟩ := h.byt a z ha hc hz
    exact k.byt a z1 (Nat.lt_of_lt_of_le ha h.chg.size) h1 h2,
  fun a v ha hc hv => k.oth a v (Nat.lt_of_lt_of_le ha h.chg.size) (h.oth a v ha hc hv) hv⟩
theorem Wrote.mono (h : Wrote D w w') (hd : ∀ g, D g → D' g) : Wrote D' w w' := ⟨h.chg.mono (fun g _ e => hd g e), h.frz, h.byt, h.oth⟩
theorem Wrote.of_below (D : Nat → Prop) (h : Below w.heap.size w w') : Wrote D w w' :=
  ⟨Chg.ofBelow h, fun a ha => h.frozen ha, fun a z ha hc hz => ⟨z, (h.cell ha).trans hc, hz⟩, fun a v ha hc _ => (h.cell ha).trans hc⟩
theorem Wrote.on (h : Wrote D w w') (hb : Below w'.heap.size w' w2) : Wrote D w w2 := h.trans (Wrote.of_below D hb)
theorem Wrote.size (h : Wrote D w w') : w.heap.size ≤ w'.heap.size := h.chg.size
theorem Wrote.below (h : Wrote D w w') {B : Nat} (hB : B ≤ w.heap.size) (hD : ∀ g, D g → B ≤ g) : Below B w w' := h.chg.below hB hD
theorem Wrote.setByte (w : World) {a : Addr} {u : Int} (ha : D a.block) (hc : w.cell? a = some (.int .u8 u)) {z : Int} (hz : 0 ≤ z ∧ z < 256) : Wrote D w (w.setCell a (.int .u8 z)) := by
  refine ⟨(Chg.refl D w).setCell (.inl ha) _, fun b _ => World.frozen?_setCell _ _ _ _, fun b x _ hb hx => ?_, fun b v _ hb hv => ?_⟩
  · by_cases e : b = a
    · subst e
      exact ⟨z, World.cell?_setCell_same' _ _ _ (by rw [hc]; rfl), hz⟩
    · exact ⟨x, (World.cell?_setCell_other _ _ _ _ (fun e' => e e'.symm)).trans hb, hx⟩
  · by_cases e : b = a
    · subst e
      rw [hc] at hb
      exact absurd (Option.some.inj hb).symm (hv _)
    · exact (World.cell?_setCell_other _ _ _ _ (fun e' => e e'.symm)).trans hb
/-- Bytes over bytes. -/
theorem Wrote.setCells (b : Nat) : ∀ (zs : List Int) (o : Nat) (w : World), D b → (∀ i, i < zs.length → ∃ u, w.cell? ⟨b, o + i, none⟩ = some (.int .u8 u)) → (∀ z ∈ zs, 0 ≤ z ∧ z < 256) → Wrote D w (w.setCells b o (zs.map (Value.int .u8)))
  | [], o, w, _, _, _ => by simp only [List.map_nil, World.setCells]; exact Wrote.refl _ _
  | z :: r, o, w, hb, hc, hz => by
    simp only [List.map_cons, World.setCells]
    obtain ⟨u, hu⟩ := hc 0 (by simp)
    rw [Nat.add_zero] at hu
    have h1 := Wrote.setByte (D := D) w (a := ⟨b, o, none⟩) hb hu (z := z) (hz z (by simp))
    refine h1.trans (Wrote.setCells b r (o + 1) _ hb (fun i hi => ?_) (fun x hx => hz x (by simp [hx])))
    obtain ⟨v, hv⟩ := hc (i + 1) (by simpa using hi)
    refine ⟨v, (World.cell?_setCell_other _ _ _ _ (fun e => ?_)).trans (by rw [← hv]; congr 2; omega)⟩
    have := congrArg Addr.off e
    simp at this
    omega

/-- A slice of bytes of the call's own, in a block of D. -/
def SlB (w : World) (D : Nat → Prop) (v : Value) : Prop :=
  ∃ A n c, v = .slice A n c ∧ n ≤ c ∧ c ≤ 9223372036854775807 ∧ n ≤ 140737488351232 ∧ (0 < n → ∃ b o, A = some ⟨b, o, none⟩ ∧ D b ∧ b < w.heap.size ∧ ∀ i, i < n → w.frozen? ⟨b, o + i, none⟩ = false ∧ ∃ z, w.cell? ⟨b, o + i, none⟩ = some (.int .u8 z) ∧ 0 ≤ z ∧ z < 256)
theorem SlB.nil (w : World) (D : Nat → Prop) : SlB w D (.slice none 0 0) := ⟨none, 0, 0, rfl, Nat.le_refl _, by omega, by omega, fun h => absurd h (by omega)⟩
theorem SlB.wrote {v : Value} (h : SlB w D v) (k : Wrote E w w') : SlB w' D v := by
  obtain ⟨A, n, c, e, h1, h2, h3, h4⟩ := h
  refine ⟨A, n, c, e, h1, h2, h3, fun h0 => ?_⟩
  obtain ⟨b, o, e1, hd, hb, hi⟩ := h4 h0
  refine ⟨b, o, e1, hd, Nat.lt_of_lt_of_le hb k.size, fun i hl => ?_⟩
  obtain ⟨q1, z, q2, q3⟩ := hi i hl
  exact ⟨(k.frz _ hb).trans q1, k.byt _ z hb q2 q3⟩
theorem SlB.mono {v : Value} (h : SlB w D v) (hd : ∀ g, D g → D' g) : SlB w D' v := by
  obtain ⟨A, n, c, e, h1, h2, h3, h4⟩ := h
  refine ⟨A, n, c, e, h1, h2, h3, fun h0 => ?_⟩
  obtain ⟨b, o, e1, hb, r⟩ := h4 h0
  exact ⟨b, o, e1, hd b hb, r⟩
/-- What bytes are there by now. -/
theorem SlB.shows {A : Option Addr} {n c : Nat} (h : SlB w D (.slice A n c)) : ∃ zs, Shows w w.heap.size A n zs := by
  obtain ⟨A', n', c', e, h1, h2, h3, h4⟩ := h
  simp only [Value.slice.injEq] at e
  obtain ⟨rfl, rfl, rfl⟩ := e
  rcases Nat.eq_zero_or_pos n with h0 | h0
  · subst h0
    exact ⟨[], rfl, by simp, fun h => absurd h (by omega)⟩
  · obtain ⟨b, o, rfl, _, hb, hi⟩ := h4 h0
    obtain ⟨F, hF⟩ := choose_lt (α := Int) (n := n) (p := fun i z => w.cell? ⟨b, o + i, none⟩ = some (.int .u8 z) ∧ 0 ≤ z ∧ z < 256) (fun i h => (hi i h).2)
    refine ⟨(List.range n).map F, by simp, fun z hz => ?_, fun _ => ⟨b, o, rfl, hb, fun i h => ?_⟩⟩
    · obtain ⟨i, h, rfl⟩ := List.mem_map.1 hz
      exact (hF i (List.mem_range.1 h)).2
    · rw [(hF i h).1]
      simp [List.getD, List.getElem?_range h]
theorem SlB.caps {A : Option Addr} {n c : Nat} (h : SlB w D (.slice A n c)) : n ≤ c ∧ c ≤ 9223372036854775807 ∧ n ≤ 140737488351232 := by
  obtain ⟨A', n', c', e, h1, h2, h3, h4⟩ := h
  simp only [Value.slice.injEq] at e
  obtain ⟨rfl, rfl, rfl⟩ := e
  exact ⟨h1, h2, h3⟩

/-- The node's values are bytes of the call's own in blocks of D; its rows lie elsewhere. What bytes they are isn't told. -/
inductive Lies (w : World) (D : Nat → Prop) : Nd → Prop where
  | mk (n : Nd) (h1 : n.name.size ≤ 140737488351232 ∧ n.props.length * 40 ≤ 140737488351232 ∧ n.kids.length * 64 ≤ 140737488351232) (h2 : n.props.length ≤ n.pc) (h3 : n.pc ≤ 9223372036854775807) (h4 : n.kids.length ≤ n.kc) (h5 : n.kc ≤ 9223372036854775807)
      (hp : PRow w w.heap.size n.pa n.props) (hv : ∀ p ∈ n.props, p.name.size ≤ 140737488351232 ∧ SlB w D p.val) (hk : KRow w w.heap.size n.ka n.kids)
      (fp : 0 < n.props.length → ∀ b o, n.pa = some ⟨b, o, none⟩ → ¬ D b) (fk : 0 < n.kids.length → ∀ b o, n.ka = some ⟨b, o, none⟩ → ¬ D b) (hk' : ∀ k ∈ n.kids, Lies w D k) : Lies w D n
theorem Lies.parts {n : Nd} (h : Lies w D n) : (n.name.size ≤ 140737488351232 ∧ n.props.length * 40 ≤ 140737488351232 ∧ n.kids.length * 64 ≤ 140737488351232) ∧ (n.props.length ≤ n.pc ∧ n.pc ≤ 9223372036854775807) ∧ (n.kids.length ≤ n.kc ∧ n.kc ≤ 9223372036854775807) ∧ PRow w w.heap.size n.pa n.props ∧
    (∀ p ∈ n.props, p.name.size ≤ 140737488351232 ∧ SlB w D p.val) ∧ KRow w w.heap.size n.ka n.kids ∧ (0 < n.props.length → ∀ b o, n.pa = some ⟨b, o, none⟩ → ¬ D b) ∧ (0 < n.kids.length → ∀ b o, n.ka = some ⟨b, o, none⟩ → ¬ D b) ∧ ∀ k ∈ n.kids, Lies w D k := by
  cases h with | mk _ h1 h2 h3 h4 h5 h6 h7 h8 h9 h10 h11 => exact ⟨h1, ⟨h2, h3⟩, ⟨h4, h5⟩, h6, h7, h8, h9, h10, h11⟩
theorem Lies.kid {n : Nd} (h : Lies w D n) {k : Nd} (hk : k ∈ n.kids) : Lies w D k := h.parts.2.2.2.2.2.2.2.2 k hk
/-- Bytes may be written; it lies as it lay. -/
theorem Lies.wrote {n : Nd} : Lies w D n → Wrote D w w' → Lies w' D n :=
  Nd.ind (p := fun n => Lies w D n → Wrote D w w' → Lies w' D n) (fun n ih h k => by
    obtain ⟨h1, h2, h3, h4, h5, h6, h7, h8, h9⟩ := h.parts
    refine .mk n h1 h2.1 h2.2 h3.1 h3.2 (fun h0 => ?_) (fun p hp => ⟨(h5 p hp).1, (h5 p hp).2.wrote k⟩) (fun h0 => ?_) h7 h8 (fun x hx => ih x hx (h9 x hx) k)
    · obtain ⟨b, o, e, hb, hc⟩ := h4 h0
      have hn := h7 h0 b o e
      exact ⟨b, o, e, Nat.lt_of_lt_of_le hb k.size, fun i hi => ⟨(k.chg.cell (a := ⟨b, o + i * 2, none⟩) hb hn).trans (hc i hi).1, (k.chg.cell (a := ⟨b, o + i * 2 + 1, none⟩) hb hn).trans (hc i hi).2⟩⟩
    · obtain ⟨b, o, e, hb, hc⟩ := h6 h0
      have hn := h8 h0 b o e
      exact ⟨b, o, e, Nat.lt_of_lt_of_le hb k.size, fun i hi => ⟨(k.chg.cell (a := ⟨b, o + i * 3, none⟩) hb hn).trans (hc i hi).1, (k.chg.cell (a := ⟨b, o + i * 3 + 1, none⟩) hb hn).trans (hc i hi).2.1, (k.chg.cell (a := ⟨b, o + i * 3 + 2, none⟩) hb hn).trans (hc i hi).2.2⟩⟩) n
/-- The same node, but for what the bytes are. -/
inductive Like : Nd → Nd → Prop where
  | mk (n m : Nd) (hn : m.name = n.name) (hpa : m.pa = n.pa) (hpc : m.pc = n.pc) (hka : m.ka = n.ka) (hkc : m.kc = n.kc) (hpl : m.props.length = n.props.length) (hkl : m.kids.length = n.kids.length)
      (hp : ∀ i (h : i < n.props.length) (h' : i < m.props.length), m.props[i].name = n.props[i].name ∧ m.props[i].addr = n.props[i].addr ∧ m.props[i].cap = n.props[i].cap ∧ m.props[i].zs.length = n.props[i].zs.length)
      (hk : ∀ i (h : i < n.kids.length) (h' : i < m.kids.length), Like n.kids[i] m.kids[i]) : Like n m
theorem Like.parts {n m : Nd} (h : Like n m) : m.name = n.name ∧ (m.pa = n.pa ∧ m.pc = n.pc ∧ m.ka = n.ka ∧ m.kc = n.kc) ∧ m.props.length = n.props.length ∧ m.kids.length = n.kids.length ∧
    (∀ i (h : i < n.props.length) (h' : i < m.props.length), m.props[i].name = n.props[i].name ∧ m.props[i].addr = n.props[i].addr ∧ m.props[i].cap = n.props[i].cap ∧ m.props[i].zs.length = n.props[i].zs.length) ∧
    ∀ i (h : i < n.kids.length) (h' : i < m.kids.length), Like n.kids[i] m.kids[i] := by
  cases h with | mk _ _ h1 h2 h3 h4 h5 h6 h7 h8 h9 => exact ⟨h1, ⟨h2, h3, h4, h5⟩, h6, h7, h8, h9⟩
theorem Like.pv {n m : Nd} (h : Like n m) : m.pv = n.pv := by rw [Nd.pv, Nd.pv, h.parts.2.1.1, h.parts.2.1.2.1, h.parts.2.2.1]
theorem Like.kv {n m : Nd} (h : Like n m) : m.kv = n.kv := by rw [Nd.kv, Nd.kv, h.parts.2.1.2.2.1, h.parts.2.1.2.2.2, h.parts.2.2.2.1]
theorem Like.val {n m : Nd} (h : Like n m) : m.val = n.val := by rw [Nd.val, Nd.val, h.parts.1, h.pv, h.kv]
theorem Like.refl : ∀ n : Nd, Like n n := Nd.ind (fun n ih => .mk n n rfl rfl rfl rfl rfl rfl rfl (fun _ _ _ => ⟨rfl, rfl, rfl, rfl⟩) (fun i h _ => ih _ (List.getElem_mem h)))
theorem heftN_mk (n : Nd) : heftN n = 16 + n.name.size + (n.props.map heftP).sum + heftL n.kids := by cases n; rw [heftN]; rfl
theorem heftL_eq : ∀ (l m : List Nd), m.length = l.length → (∀ i (h : i < l.length) (h' : i < m.length), heftN m[i] = heftN l[i]) → heftL m = heftL l
  | [], [], _, _ => rfl
  | [], _ :: _, h, _ => by simp at h
  | _ :: _, [], h, _ => by simp at h
  | x :: l, y :: m, h, hi => by
    rw [heftL, heftL, heftL_eq l m (by simpa using h) (fun i h1 h2 => hi (i + 1) (by simpa using h1) (by simpa using h2))]
    have := hi 0 (by simp) (by simp)
    simp only [List.getElem_cons_zero] at this
    rw [this]
theorem sum_eq : ∀ (l m : List PV), m.length = l.length → (∀ i (h : i < l.length) (h' : i < m.length), heftP m[i] = heftP l[i]) → (m.map heftP).sum = (l.map heftP).sum
  | [], [], _, _ => rfl
  | [], _ :: _, h, _ => by simp at h
  | _ :: _, [], h, _ => by simp at h
  | x :: l, y :: m, h, hi => by
    rw [List.map_cons, List.map_cons, List.sum_cons, List.sum_cons, sum_eq l m (by simpa using h) (fun i h1 h2 => hi (i + 1) (by simpa using h1) (by simpa using h2))]
    have := hi 0 (by simp) (by simp)
    simp only [List.getElem_cons_zero] at this
    rw [this]
theorem Like.heft : ∀ (n : Nd) {m : Nd}, Like n m → heftN m = heftN n :=
  Nd.ind (p := fun n => ∀ {m : Nd}, Like n m → heftN m = heftN n) (fun n ih m h => by
    obtain ⟨h1, h2, h3, h4, h5, h6⟩ := h.parts
    rw [heftN_mk, heftN_mk, h1, sum_eq n.props m.props h3 (fun i a b => by
      obtain ⟨q1, _, _, q4⟩ := h5 i a b
      simp only [heftP, q1, q4]), heftL_eq n.kids m.kids h4 (fun i a b => ih _ (List.getElem_mem a) (h6 i a b))])
theorem Like.trans : ∀ (n : Nd) {m k : Nd}, Like n m → Like m k → Like n k :=
  Nd.ind (p := fun n => ∀ {m k : Nd}, Like n m → Like m k → Like n k) (fun n ih m k a b => by
    obtain ⟨a1, ⟨a2, a3, a4, a5⟩, a6, a7, a8, a9⟩ := a.parts
    obtain ⟨b1, ⟨b2, b3, b4, b5⟩, b6, b7, b8, b9⟩ := b.parts
    refine .mk n k (b1.trans a1) (b2.trans a2) (b3.trans a3) (b4.trans a4) (b5.trans a5) (b6.trans a6) (b7.trans a7) (fun i h h' => ?_) (fun i h h' => ?_)
    · have hm : i < m.props.length := by omega
      obtain ⟨p1, p2, p3, p4⟩ := a8 i h hm
      obtain ⟨q1, q2, q3, q4⟩ := b8 i hm h'
      exact ⟨q1.trans p1, q2.trans p2, q3.trans p3, q4.trans p4⟩
    · have hm : i < m.kids.length := by omega
      exact ih _ (List.getElem_mem h) (a9 i h hm) (b9 i hm h'))
theorem Like.names {n m : Nd} (h : Like n m) : m.props.map PV.name = n.props.map PV.name ∧ m.kids.map Nd.name = n.kids.map Nd.name := by
  obtain ⟨h1, h2, h3, h4, h5, h6⟩ := h.parts
  constructor
  · refine List.ext_getElem (by simp [h3]) (fun i a b => ?_)
    rw [List.getElem_map, List.getElem_map]
    exact (h5 i (by simpa using b) (by simpa using a)).1
  · refine List.ext_getElem (by simp [h4]) (fun i a b => ?_)
    rw [List.getElem_map, List.getElem_map]
    exact (h6 i (by simpa using b) (by simpa using a)).parts.1
theorem list_choose {α : Type} [Inhabited α] {p : Nat → α → Prop} (n : Nat) (h : ∀ i, i < n → ∃ x, p i x) : ∃ l : List α, l.length = n ∧ ∀ i (hi : i < l.length), p i l[i] := by
  obtain ⟨F, hF⟩ := choose_lt (α := α) (n := n) (p := p) h
  exact ⟨(List.range n).map F, by simp, fun i hi => by simpa using hF i (by simpa using hi)⟩
/-- As it lies now it is a node. -/
theorem Lies.in_ {n : Nd} : Lies w D n → ∃ m, m.In w w.heap.size ∧ Like n m :=
  Nd.ind (p := fun n => Lies w D n → ∃ m, m.In w w.heap.size ∧ Like n m) (fun n ih h => by
    obtain ⟨h1, h2, h3, h4, h5, h6, h7, h8, h9⟩ := h.parts
    obtain ⟨P, hP, hPi⟩ := list_choose (α := PV) (p := fun i q => ∀ h : i < n.props.length, q.In w w.heap.size ∧ q.name = n.props[i].name ∧ q.addr = n.props[i].addr ∧ q.cap = n.props[i].cap ∧ q.zs.length = n.props[i].zs.length) n.props.length (fun i hi => by
      obtain ⟨q1, q2⟩ := h5 _ (List.getElem_mem hi)
      obtain ⟨zs, hz⟩ := q2.shows
      have hc := q2.caps
      refine ⟨⟨n.props[i].name, n.props[i].addr, n.props[i].cap, zs⟩, fun _ => ⟨⟨⟨q1, by show zs.length ≤ _; rw [hz.1]; exact hc.2.2⟩, by show Shows w w.heap.size _ zs.length zs; rw [hz.1]; exact hz, by show zs.length ≤ _; rw [hz.1]; exact hc.1, hc.2.1⟩, rfl, rfl, rfl, hz.1⟩⟩)
    obtain ⟨K, hK, hKi⟩ := list_choose (α := Nd) (p := fun i k => ∀ h : i < n.kids.length, k.In w w.heap.size ∧ Like n.kids[i] k) n.kids.length (fun i hi => by
      obtain ⟨m, a, b⟩ := ih _ (List.getElem_mem hi) (h9 _ (List.getElem_mem hi))
      exact ⟨m, fun _ => ⟨a, b⟩⟩)
    have pval : ∀ i (a : i < n.props.length) (b : i < P.length), P[i].val = n.props[i].val := fun i a b => by
      obtain ⟨_, _, q3, q4, q5⟩ := hPi i b a
      rw [PV.val, PV.val, q3, q4, q5]
    refine ⟨.mk n.name n.pa n.pc P n.ka n.kc K, .mk _ ⟨h1.1, by show P.length * 40 ≤ _; rw [hP]; exact h1.2.1, by show K.length * 64 ≤ _; rw [hK]; exact h1.2.2⟩ (by show P.length ≤ _; rw [hP]; exact h2.1) h2.2 (by show K.length ≤ _; rw [hK]; exact h3.1) h3.2 ?_ ?_ ?_ ?_, .mk n _ rfl rfl rfl rfl rfl hP hK (fun i a b => (hPi i b a).2) (fun i a b => (hKi i b a).2)⟩
    · intro h0
      obtain ⟨b, o, e, hb, hc⟩ := h4 (by rw [← hP]; exact h0)
      refine ⟨b, o, e, hb, fun i hi => ?_⟩
      have hi' : i < n.props.length := by rw [← hP]; exact hi
      show w.cell? _ = some (Value.string (P[i]'hi).name) ∧ w.cell? _ = some (P[i]'hi).val
      rw [pval i hi' hi, (hPi i hi hi').2.1]
      exact hc i hi'
    · intro p hp
      obtain ⟨i, hi, rfl⟩ := List.getElem_of_mem hp
      exact (hPi i hi (by rw [← hP]; exact hi)).1
    · intro h0
      obtain ⟨b, o, e, hb, hc⟩ := h6 (by rw [← hK]; exact h0)
      refine ⟨b, o, e, hb, fun i hi => ?_⟩
      have hi' : i < n.kids.length := by rw [← hK]; exact hi
      have hl := (hKi i hi hi').2
      show w.cell? _ = some (Value.string (K[i]'hi).name) ∧ w.cell? _ = some (K[i]'hi).pv ∧ w.cell? _ = some (K[i]'hi).kv
      rw [hl.pv, hl.kv, hl.parts.1]
      exact hc i hi'
    · intro k hk
      obtain ⟨i, hi, rfl⟩ := List.getElem_of_mem hk
      exact (hKi i hi (by rw [← hK]; exact hi)).1) n
/-- A node of the call's own, with values that may be written, lies so. -/
theorem Own.lies {n : Nd} {w : World} {D : Nat → Prop} (hu : ∀ g, D g → Unf w g) : ∀ {F : Nat → Prop}, Own w F D n → (∀ g, D g → ¬ F g) → hpN (pureN n) ≤ 1099511627776 → Lies w D n :=
  Nd.ind (p := fun n => ∀ {F : Nat → Prop}, Own w F D n → (∀ g, D g → ¬ F g) → hpN (pureN n) ≤ 1099511627776 → Lies w D n) (fun n ih F h hF hh => by
    have hin := h.in_ hh
    obtain ⟨h1, h2, h3, h4, h5, h6, G, h7, h8, h9⟩ := h.parts
    refine .mk n hin.name_le hin.plen.1 hin.plen.2 hin.klen.1 hin.klen.2 hin.prow (fun p hp => ?_) hin.krow (fun h0 b o e hd => hF b hd (h4 b (by rw [Nd.pv, e]; rfl))) (fun h0 b o e hd => hF b hd (h5 b (by rw [Nd.kv, e]; rfl))) (fun k hk => ?_)
    · obtain ⟨a1, a2⟩ := h6 p hp
      obtain ⟨b1, b2, b3, b4⟩ := a1
      refine ⟨b1.1, p.addr, p.zs.length, p.cap, rfl, b3, b4, b1.2, fun h0 => ?_⟩
      obtain ⟨b, o, e, hb, hc⟩ := b2.at_ h0
      have hd := a2 h0 b o e
      exact ⟨b, o, e, hd, hb, fun i hi => ⟨hu b hd _, _, hc i hi, b2.byte i⟩⟩
    · obtain ⟨i, hi, rfl⟩ := List.getElem_of_mem hk
      refine ih _ hk (h9 i hi) (fun g e e' => hF g e (h7 i g e').1) ?_
      have := hpL_mem (List.mem_map.2 ⟨_, hk, rfl⟩ : pureN n.kids[i] ∈ n.kids.map pureN)
      rw [hp_parts] at hh
      omega) n
end
end Go.Proofs.YtihlpcbebpnmkaaGreatDoor

/-! Layer 3: what is asked of a node itself. -/
namespace Go.Proofs.YtihlpcbebpnmkaaGreatDoor
open Go.RowKit
set_option linter.unusedVariables false
set_option linter.unusedSimpArgs false

/-- A property whose name is none. -/
def misP (p : PV) : Bool := !propB p.name
/-- May a node at that depth bear its name? -/
noncomputable def nameOk (n : Nd) (d : Int) : Bool := if d = 1 then n.name.toList.isEmpty else nodeB n.name
/-- The first error of a node itself. -/
noncomputable def aloneE (n : Nd) (d : Int) : Int :=
  if 16 < d then 6 else if nameOk n d = false then 5 else if n.props.any misP = true then 5 else if twiceB (n.props.map PV.name) = true then 9 else if twiceB (n.kids.map Nd.name) = true then 9 else 0

theorem isMis_any (p : PV) (B : Nat) (w : World) (hp : p.In w B) (q : Bool) (hq : misP p = q) :
    Calls Tryz.prog 77 #[.agg #[.string p.name, p.val]] w fun e w' => e = .returned (.bool q) ∧ Below w.heap.size w w' := by
  have C := Lib.hid (fun w => propB_any p.name w hp.1.1 (!q) (by rw [← hq, misP, Bool.not_not]))
  clear hp hq
  obtain ⟨x, a, c, zs⟩ := p
  replace C : Hid (∀ w, Calls Tryz.prog 106 #[.string x] w _) := C
  show Calls _ _ #[.agg #[.string x, .slice a zs.length c]] _ _
  go_enter Tryz.func77, Tryz.ntmps77
  go_wp2_with fail
  refine (C.out _).mono ?_
  rintro e w' ⟨rfl, rfl⟩
  go_wp2
  go_ret
  exact ⟨by simp, (Below.refl _ _).alloc (Nat.le_refl _) _⟩

/-- None of the first k is bad. -/
def Good {α : Type} (f : α → Bool) (l : List α) (k : Nat) : Prop := ∀ j (hj : j < l.length), j < k → f l[j] = false
theorem Good.zero {α : Type} (f : α → Bool) (l : List α) : Good f l 0 := fun _ _ h => absurd h (Nat.not_lt_zero _)
theorem Good.succ {α : Type} {f : α → Bool} {l : List α} {k : Nat} (h : Good f l k) (hk : k < l.length) (he : f l[k] = false) : Good f l (k + 1) := fun j hj hlt => by
  rcases Nat.lt_succ_iff_lt_or_eq.1 hlt with h' | rfl
  · exact h j hj h'
  · exact he
theorem Good.all {α : Type} {f : α → Bool} {l : List α} {k : Nat} (h : Good f l k) (hk : ¬ k < l.length) : l.any f = false := by
  rw [List.any_eq_false]
  intro x hx
  obtain ⟨i, hi, rfl⟩ := List.getElem_of_mem hx
  rw [h i hi (by omega)]
  simp
theorem any_at {α : Type} {f : α → Bool} {l : List α} {k : Nat} (hk : k < l.length) (he : f l[k] = true) : l.any f = true := List.any_eq_true.2 ⟨_, List.getElem_mem hk, he⟩

set_option maxHeartbeats 2000000 in
theorem idxMis_any (n : Nd) (w : World) (hin : n.In w w.heap.size) (r : Bool) (hr : n.props.any misP = r) :
    Calls Tryz.prog 57 #[n.pv, .func (.func 77) #[] #[]] w fun e w' => (∃ i : Int, e = .returned (.int .i64 i) ∧ decide (0 ≤ i) = r) ∧ Below w.heap.size w w' := by
  obtain ⟨nm, pa, pc, ps, ka, kc, ks⟩ := n
  have HI := Lib.hid hin
  have HR := Lib.hid (show ps.any misP = r from hr)
  obtain ⟨hl, hm⟩ : ps.length ≤ pc ∧ pc ≤ 9223372036854775807 := hin.plen
  clear hin hr
  show Calls _ _ #[.slice pa ps.length pc, _] _ _
  go_enter Tryz.func57, Tryz.ntmps57
  go_wp2_with fail
  go_loopw [8] (fun i wr => ∃ k : Nat, k ≤ ps.length ∧ i = .int .i64 k ∧ Good misP ps k ∧ Below w.heap.size w wr) (fun i _ => ps.length - (intOf i).toNat)
  case atStart => exact ⟨0, Nat.zero_le _, rfl, Good.zero _ _, Below.refl _ _⟩
  case round =>
    obtain ⟨k, hk, rfl, hgood, hb⟩ := hrel
    have HA := Lib.hid hgood
    have HB := Lib.hid hb
    clear hgood hb
    by_cases hlt : k < ps.length
    · obtain ⟨b, o, e, hb, c0, c1⟩ := (HI.out.under HB.out).pcell (i := k) hlt
      obtain rfl : pa = _ := e
      replace c0 : _ = some (Value.string ps[k].name) := c0
      replace c1 : _ = some (Value.slice ps[k].addr ps[k].zs.length ps[k].cap) := c1
      obtain ⟨q, hq⟩ : ∃ q, misP ps[k] = q := ⟨_, rfl⟩
      have C := Lib.hid (isMis_any ps[k] _ wr ((HI.out.prop (List.getElem_mem hlt)).keep (fun _ hp => HB.out.cell hp)) q hq)
      have HQ := Lib.hid hq
      clear hq
      cases q
      · go_wp2_with fail
        refine C.out.mono ?_
        rintro e w' ⟨rfl, hb'⟩
        have HB2 := Lib.hid (HB.out.trans (hb'.mono HB.out.size))
        clear hb'
        go_wp2
        go_roundw
        case rel => exact ⟨k + 1, by omega, by go_num, HA.out.succ hlt HQ.out, HB2.out⟩
        case measure => simp [intOf]; omega
      · obtain rfl : r = true := by rw [← HR.out]; exact any_at hlt HQ.out
        go_wp2_with fail
        refine C.out.mono ?_
        rintro e w' ⟨rfl, hb'⟩
        have HB2 := Lib.hid (HB.out.trans (hb'.mono HB.out.size))
        clear hb'
        go_wp2
        go_ret
        exact ⟨⟨k, rfl, by simp⟩, HB2.out⟩
    · obtain rfl : r = false := by rw [← HR.out]; exact HA.out.all hlt
      go_wp2
      go_ret
      exact ⟨⟨-1, rfl, by simp⟩, HB.out⟩

theorem containsMis_any (n : Nd) (w : World) (hin : n.In w w.heap.size) (r : Bool) (hr : n.props.any misP = r) :
    Calls Tryz.prog 76 #[n.pv, .func (.func 77) #[] #[]] w fun e w' => e = .returned (.bool r) ∧ Below w.heap.size w w' := by
  have C := Lib.hid (idxMis_any n w hin r hr)
  clear hin hr
  obtain ⟨nm, pa, pc, ps, ka, kc, ks⟩ := n
  show Calls _ _ #[.slice pa ps.length pc, _] _ _
  go_enter Tryz.func76, Tryz.ntmps76
  go_wp2_with fail
  refine C.out.mono ?_
  rintro e w' ⟨⟨i, rfl, hi⟩, hb⟩
  have HB := Lib.hid hb
  have HV := Lib.hid hi
  clear hb hi
  go_wp2
  go_ret
  exact ⟨congrArg (fun b => Ending.returned (.bool b)) HV.out, HB.out⟩

theorem mayBe_any (n : Nd) (d : Int) (w : World) (hin : n.In w w.heap.size) (r : Bool) (hr : nameOk n d = r) :
    Calls Tryz.prog 75 #[n.val, .int .i64 d] w fun e w' => e = .returned (.bool r) ∧ Below w.heap.size w w' := by
  have hs := hin.name_le.1
  obtain ⟨nm, pa, pc, ps, ka, kc, ks⟩ := n
  replace hs : nm.size ≤ 140737488351232 := hs
  clear hin
  show Calls _ _ #[.agg #[.string nm, .slice pa ps.length pc, .slice ka ks.length kc], .int .i64 d] _ _
  have HB := Lib.hid ((Below.refl w.heap.size w).alloc (Nat.le_refl _) (.cells #[Value.string nm, .slice pa ps.length pc, .slice ka ks.length kc] 27))
  by_cases hd : d = 1
  · subst hd
    have hr' : nm.toList.isEmpty = r := by rw [← hr, nameOk, if_pos rfl]; rfl
    have HR := Lib.hid hr'
    clear hr hr'
    go_enter Tryz.func75, Tryz.ntmps75
    go_wp2
    go_ret
    exact ⟨congrArg (fun b => Ending.returned (.bool b)) HR.out, HB.out⟩
  · have hd1 : (d == 1) = false := by rw [beq_eq_false_iff_ne]; exact hd
    have C := Lib.hid (fun w => nodeB_any nm w hs r (by rw [← hr, nameOk, if_neg hd]; rfl))
    clear hr hd
    go_enter Tryz.func75, Tryz.ntmps75
    go_wp2_with fail
    refine (C.out _).mono ?_
    rintro e w' ⟨rfl, hb⟩
    have HB2 := Lib.hid (HB.out.trans (hb.mono HB.out.size))
    clear hb
    go_wp2
    go_ret
    exact ⟨rfl, HB2.out⟩
end Go.Proofs.YtihlpcbebpnmkaaGreatDoor
