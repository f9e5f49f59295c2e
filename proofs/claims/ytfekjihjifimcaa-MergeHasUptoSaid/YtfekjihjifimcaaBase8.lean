/-
  Base, part 8: what the proofs of this claim lean on.
-/
import Derived.Test.YtfekjihjifimcaaBase3
import Derived.Test.YtfekjihjifimcaaBase2
import Derived.Laws.OwnMore
import Derived.Great.BuildSlice
import Derived.Lib.SlFresh
import Derived.Deep.DrawnRows

/-! A node whose memory is the call's own, to be written: its rows, what they lead to, and what may be done with it. -/
namespace Go.Proofs.Ytfekjihjifimcaa
open Go.RowKit
set_option linter.unusedVariables false
set_option linter.unusedSimpArgs false

/-- w' is w but for blocks of F, and new ones. -/
structure Chg (F : Nat → Prop) (w w' : World) : Prop where
  os : w'.os = w.os
  tape : w'.tape = w.tape
  output : w'.output = w.output
  size : w.heap.size ≤ w'.heap.size
  block : ∀ k, k < w.heap.size → ¬ F k → w'.heap[k]? = w.heap[k]?
section
variable {F F' : Nat → Prop} {w w' w2 : World}
theorem Chg.refl (F : Nat → Prop) (w : World) : Chg F w w := ⟨rfl, rfl, rfl, Nat.le_refl _, fun _ _ _ => rfl⟩
theorem Chg.trans (h : Chg F w w') (k : Chg F' w' w2) (hF : ∀ g, g < w.heap.size → F' g → F g) : Chg F w w2 :=
  ⟨k.os.trans h.os, k.tape.trans h.tape, k.output.trans h.output, Nat.le_trans h.size k.size, fun g hg hn => (k.block g (Nat.lt_of_lt_of_le hg h.size) (fun e => hn (hF g hg e))).trans (h.block g hg hn)⟩
theorem Chg.mono (h : Chg F w w') (hF : ∀ g, g < w.heap.size → F g → F' g) : Chg F' w w' := ⟨h.os, h.tape, h.output, h.size, fun g hg hn => h.block g hg (fun e => hn (hF g hg e))⟩
theorem Chg.ofBelow (h : Below w.heap.size w w') : Chg F w w' := ⟨h.os, h.tape, h.output, h.size, fun g hg _ => h.block g hg⟩
theorem Chg.ofGrown {row : Option Nat} (h : w.grownBy w' row) (hr : ∀ g, row = some g → F g) : Chg F w w' := ⟨h.os, h.tape, h.output, h.size, fun g hg hn => h.block g hg (fun e => hn (hr g e.symm))⟩
theorem Chg.below (h : Chg F w w') {B : Nat} (hB : B ≤ w.heap.size) (hF : ∀ g, F g → B ≤ g) : Below B w w' := ⟨h.os, h.tape, h.output, h.size, fun g hg => h.block g (by omega) (fun e => by have := hF g e; omega)⟩
theorem Chg.alloc (h : Chg F w w') (o : Obj) : Chg F w (w'.alloc o) := h.trans (F' := F) (Chg.ofBelow ((Below.refl _ w').alloc (Nat.le_refl _) o)) (fun _ _ h => h)
theorem Chg.drew (h : Chg F w w') : Chg F w w'.drew := ⟨h.os, h.tape, h.output, h.size, h.block⟩
theorem Chg.setCell (h : Chg F w w') {a : Addr} (ha : F a.block ∨ w.heap.size ≤ a.block) (v : Value) : Chg F w (w'.setCell a v) :=
  ⟨h.os, h.tape, h.output, by simpa using h.size, fun g hg hn => (heap_setCell_other w' a g v (fun e => by rcases ha with ha | ha; exact hn (e ▸ ha); omega)).trans (h.block g hg hn)⟩
theorem Chg.cell (h : Chg F w w') {a : Addr} (ha : a.block < w.heap.size) (hn : ¬ F a.block) : w'.cell? a = w.cell? a := World.cell?_of_block (h.block _ ha hn)
theorem Chg.frozen (h : Chg F w w') {a : Addr} (ha : a.block < w.heap.size) (hn : ¬ F a.block) : w'.frozen? a = w.frozen? a := World.frozen?_of_block (h.block _ ha hn)
end

section
variable {w w' : World} {E D D' F F' G' : Nat → Prop} {B : Nat}
theorem own_same {e : TypeId} {sz n : Nat} {v : Value} {xs : List Value} (h : w.ownsRow B e sz v n xs) (hk : ∀ g, v.ownBlock = some g → w'.heap[g]? = w.heap[g]?) : w'.ownsRow B e sz v n xs := by
  refine ⟨h.1, ?_⟩
  rcases h.2 with hn | ⟨g, cap, cur, rfl, hb, hg, r⟩
  · exact .inl hn
  · exact .inr ⟨g, cap, cur, rfl, hb, (hk g rfl).trans hg, r⟩
theorem own_ne_type {e e' : TypeId} {sz sz' n n' : Nat} {v v' : Value} {xs xs' : List Value} (h : w.ownsRow B e sz v n xs) (h' : w.ownsRow B e' sz' v' n' xs') (hne : e ≠ e') : ∀ g, v.ownBlock = some g → v'.ownBlock ≠ some g := fun g h1 h2 => by
  rcases h.2 with ⟨rfl, _⟩ | ⟨g1, cap, cur, rfl, _, hg, _⟩
  · cases h1
  rcases h'.2 with ⟨rfl, _⟩ | ⟨g2, cap', cur', rfl, _, hg', _⟩
  · cases h2
  have e1 : g1 = g := by simpa [Value.ownBlock] using h1
  have e2 : g2 = g := by simpa [Value.ownBlock] using h2
  subst e1 e2
  rw [hg] at hg'
  injection hg' with hg'
  injection hg' with _ ht
  exact hne ht
theorem PV.In.chg {p : PV} (hin : p.In w w.heap.size) (ha : p.At D) (hc : Chg E w w') (hd : ∀ g, D g → ¬ E g) : p.In w' w'.heap.size :=
  (hin.at_ (D := fun g => D g ∧ g < w.heap.size) (PV.At.lows hin ha) (fun a h => hc.cell h.2 (hd _ h.1))).more hc.size
theorem PV.At.mono' {p : PV} (h : p.At D) (hd : ∀ g, D g → D' g) : p.At D' := fun h0 b o e => hd _ (h h0 b o e)

/-- The node's rows are the call's own, in blocks of F; its values lie in blocks of D. -/
inductive Own (w : World) : (Nat → Prop) → (Nat → Prop) → Nd → Prop where
  | mk (F D : Nat → Prop) (n : Nd) (hnm : n.name.size ≤ 140737488351232)
      (hp : w.ownsRow 0 32 2 n.pv n.props.length (n.props.flatMap pC)) (hk : w.ownsRow 0 25 3 n.kv n.kids.length (n.kids.flatMap kC))
      (fp : ∀ g, n.pv.ownBlock = some g → F g) (fk : ∀ g, n.kv.ownBlock = some g → F g)
      (hv : ∀ p ∈ n.props, p.In w w.heap.size ∧ p.At D)
      (G : Nat → Nat → Prop) (hG : ∀ i g, G i g → F g ∧ n.pv.ownBlock ≠ some g ∧ n.kv.ownBlock ≠ some g) (hd : ∀ i j g, G i g → G j g → i = j)
      (hkids : ∀ i (h : i < n.kids.length), Own w (G i) D n.kids[i]) : Own w F D n
theorem Own.parts {n : Nd} (h : Own w F D n) : n.name.size ≤ 140737488351232 ∧ w.ownsRow 0 32 2 n.pv n.props.length (n.props.flatMap pC) ∧ w.ownsRow 0 25 3 n.kv n.kids.length (n.kids.flatMap kC) ∧
    (∀ g, n.pv.ownBlock = some g → F g) ∧ (∀ g, n.kv.ownBlock = some g → F g) ∧ (∀ p ∈ n.props, p.In w w.heap.size ∧ p.At D) ∧
    ∃ G : Nat → Nat → Prop, (∀ i g, G i g → F g ∧ n.pv.ownBlock ≠ some g ∧ n.kv.ownBlock ≠ some g) ∧ (∀ i j g, G i g → G j g → i = j) ∧ ∀ i (h : i < n.kids.length), Own w (G i) D n.kids[i] := by
  cases h with | mk _ _ _ h1 h2 h3 h4 h5 h6 G h7 h8 h9 => exact ⟨h1, h2, h3, h4, h5, h6, G, h7, h8, h9⟩
theorem ind_at {l : List Nd} {i : Nat} (h : i < l.length) : l[i] ∈ l := List.getElem_mem h
theorem Own.mono {n : Nd} : ∀ {F F' : Nat → Prop}, Own w F D n → (∀ g, F g → F' g) → (∀ g, D g → D' g) → Own w F' D' n :=
  Nd.ind (p := fun n => ∀ {F F' : Nat → Prop}, Own w F D n → (∀ g, F g → F' g) → (∀ g, D g → D' g) → Own w F' D' n) (fun n ih F F' h hF hD => by
    obtain ⟨h1, h2, h3, h4, h5, h6, G, h7, h8, h9⟩ := h.parts
    exact .mk F' D' n h1 h2 h3 (fun g e => hF g (h4 g e)) (fun g e => hF g (h5 g e)) (fun p hp => ⟨(h6 p hp).1, (h6 p hp).2.mono' hD⟩) G (fun i g e => ⟨hF g (h7 i g e).1, (h7 i g e).2⟩) h8 (fun i hi => ih _ (ind_at hi) (h9 i hi) (fun _ h => h) hD)) n
/-- What turns elsewhere leaves the node. -/
theorem Own.chg {n : Nd} : ∀ {F : Nat → Prop}, Own w F D n → Chg E w w' → (∀ g, F g → ¬ E g) → (∀ g, D g → ¬ E g) → Own w' F D n :=
  Nd.ind (p := fun n => ∀ {F : Nat → Prop}, Own w F D n → Chg E w w' → (∀ g, F g → ¬ E g) → (∀ g, D g → ¬ E g) → Own w' F D n) (fun n ih F h hc hF hD => by
    obtain ⟨h1, h2, h3, h4, h5, h6, G, h7, h8, h9⟩ := h.parts
    exact .mk F D n h1 (own_same h2 (fun g e => hc.block g (h2.lt g e).2 (hF g (h4 g e)))) (own_same h3 (fun g e => hc.block g (h3.lt g e).2 (hF g (h5 g e)))) h4 h5 (fun p hp => ⟨(h6 p hp).1.chg (h6 p hp).2 hc hD, (h6 p hp).2⟩) G h7 h8 (fun i hi => ih _ (ind_at hi) (h9 i hi) hc (fun g e => hF g (h7 i g e).1) hD)) n
theorem prow_own {A : Option Addr} {n c : Nat} {P : List PV} (h : w.ownsRow B 32 2 (.slice A n c) P.length (P.flatMap pC)) : n = P.length ∧ P.length ≤ c ∧ c ≤ 9223372036854775807 ∧ PRow w w.heap.size A P := by
  rcases h.2 with ⟨e, e0⟩ | ⟨g, cap, cur, e, _, hg, h1, h2, _⟩
  · simp only [Value.slice.injEq] at e
    obtain ⟨rfl, rfl, rfl⟩ := e
    exact ⟨e0.symm, by omega, by omega, fun h => absurd h (by omega)⟩
  · simp only [Value.slice.injEq] at e
    obtain ⟨rfl, rfl, rfl⟩ := e
    refine ⟨rfl, h1, h2, fun h0 => ⟨g, 0, rfl, (Array.getElem?_eq_some_iff.1 hg).1, fun i hi => ?_⟩⟩
    have c0 := h.cells (g := g) rfl (i * 2) (.string P[i].name) (flat_at pC_len P i 0 hi (by omega))
    have c1 := h.cells (g := g) rfl (i * 2 + 1) P[i].val (flat_at pC_len P i 1 hi (by omega))
    rw [addr_add, Nat.zero_add] at c0 c1
    rw [Nat.zero_add]
    exact ⟨c0, c1⟩
theorem krow_own {A : Option Addr} {n c : Nat} {P : List Nd} (h : w.ownsRow B 25 3 (.slice A n c) P.length (P.flatMap kC)) : n = P.length ∧ P.length ≤ c ∧ c ≤ 9223372036854775807 ∧ KRow w w.heap.size A P := by
  rcases h.2 with ⟨e, e0⟩ | ⟨g, cap, cur, e, _, hg, h1, h2, _⟩
  · simp only [Value.slice.injEq] at e
    obtain ⟨rfl, rfl, rfl⟩ := e
    exact ⟨e0.symm, by omega, by omega, fun h => absurd h (by omega)⟩
  · simp only [Value.slice.injEq] at e
    obtain ⟨rfl, rfl, rfl⟩ := e
    refine ⟨rfl, h1, h2, fun h0 => ⟨g, 0, rfl, (Array.getElem?_eq_some_iff.1 hg).1, fun i hi => ?_⟩⟩
    have c0 := h.cells (g := g) rfl (i * 3) (.string P[i].name) (flat_at kC_len P i 0 hi (by omega))
    have c1 := h.cells (g := g) rfl (i * 3 + 1) P[i].pv (flat_at kC_len P i 1 hi (by omega))
    have c2 := h.cells (g := g) rfl (i * 3 + 2) P[i].kv (flat_at kC_len P i 2 hi (by omega))
    rw [addr_add, Nat.zero_add] at c0 c1 c2
    rw [Nat.zero_add]
    exact ⟨c0, c1, c2⟩
theorem hpN_pos : ∀ n : PN, 16 ≤ hpN n
  | .mk n ps ks => by rw [hpN]; omega
theorem hp_parts (n : Nd) : hpN (pureN n) = 16 + n.name.size + szPs (n.props.map PV.pure) + hpL (n.kids.map pureN) := by
  rw [pureN_mk, hpN]
/-- Such a node lies in memory, as any other one. -/
theorem Own.in_ {n : Nd} : ∀ {F : Nat → Prop}, Own w F D n → hpN (pureN n) ≤ 1099511627776 → n.In w w.heap.size :=
  Nd.ind (p := fun n => ∀ {F : Nat → Prop}, Own w F D n → hpN (pureN n) ≤ 1099511627776 → n.In w w.heap.size) (fun n ih F h hh => by
    obtain ⟨h1, h2, h3, h4, h5, h6, G, h7, h8, h9⟩ := h.parts
    rw [hp_parts] at hh
    have l1 := szPs_len (n.props.map PV.pure)
    have l2 := hpL_len (n.kids.map pureN)
    rw [List.length_map] at l1 l2
    obtain ⟨_, p1, p2, p3⟩ := prow_own h2
    obtain ⟨_, k1, k2, k3⟩ := krow_own h3
    refine .mk n ⟨h1, by omega, by omega⟩ p1 p2 k1 k2 p3 (fun p hp => (h6 p hp).1) k3 (fun k hk => ?_)
    obtain ⟨i, hi, rfl⟩ := List.getElem_of_mem hk
    refine ih _ hk (h9 i hi) ?_
    have := hpL_mem (List.mem_map.2 ⟨_, hk, rfl⟩ : pureN n.kids[i] ∈ n.kids.map pureN)
    omega) n
theorem own_at {sz n c : Nat} {e : TypeId} {A : Option Addr} {xs : List Value} (h : w.ownsRow B e sz (.slice A n c) n xs) {b o : Nat} (he : A = some ⟨b, o, none⟩) : (Value.slice A n c).ownBlock = some b := by rw [he]; rfl
theorem Own.at_ {n : Nd} : ∀ {F : Nat → Prop}, Own w F D n → n.At (fun g => F g ∨ D g) :=
  Nd.ind (p := fun n => ∀ {F : Nat → Prop}, Own w F D n → n.At (fun g => F g ∨ D g)) (fun n ih F h => by
    obtain ⟨h1, h2, h3, h4, h5, h6, G, h7, h8, h9⟩ := h.parts
    refine .mk n (fun _ b o e => .inl (h4 b (by rw [Nd.pv, e]; rfl))) (fun p hp => (h6 p hp).2.mono' (fun _ h => .inr h)) (fun _ b o e => .inl (h5 b (by rw [Nd.kv, e]; rfl))) (fun k hk => ?_)
    obtain ⟨i, hi, rfl⟩ := List.getElem_of_mem hk
    exact Nd.At.mono (fun g hg => hg.imp (fun e => (h7 i g e).1) id) (ih _ hk (h9 i hi))) n

theorem prop_ne_node : 32 ≠ 25 := by decide
/-- Other properties. -/
theorem Own.props {n : Nd} (h : Own w F D n) (hb : ∀ g, F g → g < w.heap.size) (hc : Chg E w w') (hE : ∀ g, E g → ¬ D g ∧ (F g → n.pv.ownBlock = some g)) {A' : Option Addr} {c' : Nat} {P' : List PV}
    (hr : w'.ownsRow 0 32 2 (.slice A' P'.length c') P'.length (P'.flatMap pC)) (hF' : ∀ g, (Value.slice A' P'.length c').ownBlock = some g → F' g ∧ (n.pv.ownBlock = some g ∨ w.heap.size ≤ g))
    (hv : ∀ p ∈ P', p.In w' w'.heap.size ∧ p.At D') (hFF : ∀ g, F g → F' g) (hDD : ∀ g, D g → D' g) : Own w' F' D' (.mk n.name A' c' P' n.ka n.kc n.kids) := by
  obtain ⟨h1, h2, h3, h4, h5, h6, G, h7, h8, h9⟩ := h.parts
  have nk := own_ne_type h2 h3 prop_ne_node
  refine .mk F' D' _ h1 hr (own_same h3 (fun g e => hc.block g (h3.lt g e).2 (fun e' => nk g ((hE g e').2 (h5 g e)) e))) (fun g e => (hF' g e).1) (fun g e => hFF g (h5 g e)) hv G (fun i g e => ⟨hFF g (h7 i g e).1, fun e' => ?_, (h7 i g e).2.2⟩) h8 (fun i hi => ?_)
  · rcases (hF' g e').2 with e2 | e2
    · exact (h7 i g e).2.1 e2
    · have := hb g (h7 i g e).1
      omega
  · exact ((h9 i hi).chg hc (fun g e e' => (h7 i g e).2.1 ((hE g e').2 (h7 i g e).1)) (fun g e e' => (hE g e').1 e)).mono (fun _ h => h) hDD
/-- Another node in a kid's place. -/
theorem Own.kid {n : Nd} (h : Own w F D n) (hb : ∀ g, F g → g < w.heap.size) {i : Nat} (hi : i < n.kids.length) :
    ∃ Gi : Nat → Prop, (∀ g, Gi g → F g ∧ n.pv.ownBlock ≠ some g ∧ n.kv.ownBlock ≠ some g) ∧ Own w Gi D n.kids[i] ∧
      ∀ (w' : World) (G' D' : Nat → Prop) (k' : Nd) (E : Nat → Prop), Chg E w w' → (∀ g, E g → ¬ D g ∧ (F g → Gi g ∨ n.kv.ownBlock = some g)) → w'.ownsRow 0 25 3 n.kv n.kids.length ((n.kids.set i k').flatMap kC) → Own w' G' D' k' →
        (∀ g, G' g → Gi g ∨ w.heap.size ≤ g) → (∀ g, D g → D' g) → Own w' (fun g => F g ∨ G' g) D' (.mk n.name n.pa n.pc n.props n.ka n.kc (n.kids.set i k')) := by
  obtain ⟨h1, h2, h3, h4, h5, h6, G, h7, h8, h9⟩ := h.parts
  have nk := own_ne_type h2 h3 prop_ne_node
  refine ⟨G i, h7 i, h9 i hi, fun w' G' D' k' E hc hE hr hk' hG' hDD => ?_⟩
  refine .mk _ D' _ h1 ?_ ?_ (fun g e => .inl (h4 g e)) (fun g e => .inl (h5 g ?_)) (fun p hp => ?_) (fun j => if j = i then G' else G j) (fun j g e => ?_) (fun j k g ej ek => ?_) (fun j hj => ?_)
  · refine own_same h2 (fun g e => hc.block g (h2.lt g e).2 (fun e' => ?_))
    rcases (hE g e').2 (h4 g e) with e2 | e2
    · exact (h7 i g e2).2.1 e
    · exact nk g e e2
  · show w'.ownsRow 0 _ 3 (.slice n.ka (n.kids.set i k').length n.kc) (n.kids.set i k').length _
    rw [List.length_set]
    exact hr
  · have e' : (Value.slice n.ka (n.kids.set i k').length n.kc).ownBlock = some g := e
    rw [List.length_set] at e'
    exact e'
  · exact ⟨(h6 p hp).1.chg (h6 p hp).2 hc (fun g e e' => (hE g e').1 e), (h6 p hp).2.mono' hDD⟩
  · have kb : ∀ {x}, (Nd.mk n.name n.pa n.pc n.props n.ka n.kc (n.kids.set i k')).kv.ownBlock = x → n.kv.ownBlock = x := fun e => by
      have e' : (Value.slice n.ka (n.kids.set i k').length n.kc).ownBlock = _ := e
      rw [List.length_set] at e'
      exact e'
    by_cases hji : j = i
    · rw [if_pos hji] at e
      rcases hG' g e with e2 | e2
      · exact ⟨.inr e, (h7 i g e2).2.1, fun e' => (h7 i g e2).2.2 (kb e')⟩
      · exact ⟨.inr e, fun e' => by have := (h2.lt g e').2; omega, fun e' => by have := (h3.lt g (kb e')).2; omega⟩
    · rw [if_neg hji] at e
      exact ⟨.inl (h7 j g e).1, (h7 j g e).2.1, fun e' => (h7 j g e).2.2 (kb e')⟩
  · have key : ∀ j, j ≠ i → G j g → G' g → False := fun j hj e e' => by
      rcases hG' g e' with e2 | e2
      · exact hj (h8 j i g e e2)
      · have := hb g (h7 j g e).1
        omega
    by_cases hji : j = i
    · rw [if_pos hji] at ej
      by_cases hki : k = i
      · omega
      · rw [if_neg hki] at ek
        exact absurd (key k hki ek ej) id
    · rw [if_neg hji] at ej
      by_cases hki : k = i
      · rw [if_pos hki] at ek
        exact absurd (key j hji ej ek) id
      · rw [if_neg hki] at ek
        exact h8 j k g ej ek
  · have hj' : j < (n.kids.set i k').length := hj
    show Own w' _ D' ((n.kids.set i k')[j]'hj')
    rw [List.getElem_set]
    by_cases hji : j = i
    · rw [if_pos hji, if_pos hji.symm]
      exact hk'
    · rw [if_neg hji, if_neg (Ne.symm hji)]
      rw [List.length_set] at hj'
      refine ((h9 j hj').chg hc (fun g e e' => ?_) (fun g e e' => (hE g e').1 e)).mono (fun _ h => h) hDD
      rcases (hE g e').2 (h7 j g e).1 with e2 | e2
      · exact hji (h8 j i g e e2)
      · exact (h7 j g e).2.2 e2
/-- One more node right below it. -/
theorem Own.addKid {n : Nd} (h : Own w F D n) (hb : ∀ g, F g → g < w.heap.size) (hc : Chg E w w') (hE : ∀ g, E g → ¬ D g ∧ (F g → n.kv.ownBlock = some g)) {A' : Option Addr} {c' : Nat} {k : Nd}
    (hr : w'.ownsRow 0 25 3 (.slice A' (n.kids ++ [k]).length c') (n.kids ++ [k]).length ((n.kids ++ [k]).flatMap kC)) (hF' : ∀ g, (Value.slice A' (n.kids ++ [k]).length c').ownBlock = some g → F' g ∧ ¬ G' g ∧ (n.kv.ownBlock = some g ∨ w.heap.size ≤ g))
    (hk : Own w' G' D' k) (hG : ∀ g, G' g → F' g ∧ ¬ F g) (hFF : ∀ g, F g → F' g) (hDD : ∀ g, D g → D' g) : Own w' F' D' (.mk n.name n.pa n.pc n.props A' c' (n.kids ++ [k])) := by
  obtain ⟨h1, h2, h3, h4, h5, h6, G, h7, h8, h9⟩ := h.parts
  have nk := own_ne_type h2 h3 prop_ne_node
  have far : ∀ j g, G j g → ¬ G' g := fun j g e e' => (hG g e').2 (h7 j g e).1
  refine .mk F' D' _ h1 (own_same h2 (fun g e => hc.block g (h2.lt g e).2 (fun e' => nk g e ((hE g e').2 (h4 g e))))) hr (fun g e => hFF g (h4 g e)) (fun g e => (hF' g e).1) (fun p hp => ⟨(h6 p hp).1.chg (h6 p hp).2 hc (fun g e e' => (hE g e').1 e), (h6 p hp).2.mono' hDD⟩)
    (fun j => if j = n.kids.length then G' else if j < n.kids.length then G j else fun _ => False) (fun j g e => ?_) (fun j i g ej ei => ?_) (fun j hj => ?_)
  · by_cases hj : j = n.kids.length
    · rw [if_pos hj] at e
      exact ⟨(hG g e).1, fun e' => (hG g e).2 (h4 g e'), fun e' => (hF' g e').2.1 e⟩
    · rw [if_neg hj] at e
      split at e
      · refine ⟨hFF g (h7 j g e).1, (h7 j g e).2.1, fun e' => ?_⟩
        rcases (hF' g e').2.2 with e2 | e2
        · exact (h7 j g e).2.2 e2
        · have := hb g (h7 j g e).1
          omega
      · cases e
  · have one : ∀ j, (if j = n.kids.length then G' else if j < n.kids.length then G j else fun _ => False) g → (j = n.kids.length ∧ G' g) ∨ (j ≠ n.kids.length ∧ G j g) := fun j e => by
      by_cases hj : j = n.kids.length
      · rw [if_pos hj] at e
        exact .inl ⟨hj, e⟩
      · rw [if_neg hj] at e
        split at e
        · exact .inr ⟨hj, e⟩
        · cases e
    rcases one j ej with ⟨e1, e2⟩ | ⟨e1, e2⟩
    · rcases one i ei with ⟨e3, e4⟩ | ⟨e3, e4⟩
      · omega
      · exact absurd e2 (far i g e4)
    · rcases one i ei with ⟨e3, e4⟩ | ⟨e3, e4⟩
      · exact absurd e4 (far j g e2)
      · exact h8 j i g e2 e4
  · have hj' : j < (n.kids ++ [k]).length := hj
    show Own w' _ D' ((n.kids ++ [k])[j]'hj')
    by_cases he : j = n.kids.length
    · subst he
      rw [if_pos rfl]
      simpa using hk
    · have hl : j < n.kids.length := by simp at hj'; omega
      rw [if_neg he, if_pos hl, List.getElem_append_left hl]
      exact ((h9 j hl).chg hc (fun g e e' => (h7 j g e).2.2 ((hE g e').2 (h7 j g e).1)) (fun g e e' => (hE g e').1 e)).mono (fun _ h => h) hDD
end
end Go.Proofs.Ytfekjihjifimcaa

/-! slices.Clone of properties, of nodes; bytes.Clone: rows of the call's own. -/
namespace Go.Proofs.Ytfekjihjifimcaa
open Go.RowKit
set_option linter.unusedVariables false
set_option linter.unusedSimpArgs false

section
variable {α : Type} {f : α → List Value} {sz : Nat}
/-- What a flat row holds at any place. -/
theorem flat_get (hf : ∀ a, (f a).length = sz) (h0 : 0 < sz) {l : List α} {j : Nat} {u : Value} (h : (l.flatMap f)[j]? = some u) : ∃ i r, ∃ hi : i < l.length, r < sz ∧ j = i * sz + r ∧ (f l[i])[r]? = some u := by
  have hj : j < l.length * sz := by
    rw [← flat_len hf l]
    rcases Nat.lt_or_ge j (l.flatMap f).length with h' | h'
    · exact h'
    · rw [List.getElem?_eq_none h'] at h; cases h
  have hi : j / sz < l.length := (Nat.div_lt_iff_lt_mul h0).2 hj
  have hr : j % sz < sz := Nat.mod_lt _ h0
  have e : j = j / sz * sz + j % sz := by rw [Nat.mul_comm]; exact (Nat.div_add_mod j sz).symm
  refine ⟨j / sz, j % sz, hi, hr, e, ?_⟩
  rw [← flat_at hf l _ _ hi hr, ← e]
  exact h
end
/-- 'append' onto an empty row of the call's own: the cells of a row that came in. -/
theorem clone_run (w : World) (t e : TypeId) (sz bytes : Nat) (i0 : TypeInfo) (z : Value) (ht : Try.prog.underlying t = some (.slice e)) (hi0 : Try.prog.info? e = some i0) (hz0 : i0.zero = some z) (hz1 : i0.size = sz) (hz2 : i0.bytes = bytes) (hzc : z.cells.size = sz) (hs0 : 0 < sz)
    (ad : Addr) (n c : Nat) (news : List Value) (hl : news.length = n * sz) (hc : ∀ (j : Nat) (u : Value), news[j]? = some u → w.cell? (ad.add j) = some u) (ho : ∀ u ∈ news, u.oneCell' = true) (hb : n * bytes ≤ 140737488351232) (hn : n ≤ 140737488351232) :
    ∃ v' w', (Builtin.append_ #[t, t] t #[.slice (some ⟨w.heap.size, 0, none⟩) 0 0, .slice (some ad) n c]).run Try.prog (w.alloc (.cells #[] e)) = .ok v' w' ∧ w'.ownsRow w.heap.size e sz v' n news ∧ Below w.heap.size w w' := by
  have h0 : (w.alloc (.cells #[] e)).ownsRow w.heap.size e sz (.slice (some ⟨w.heap.size, 0, none⟩) 0 0) 0 [] := World.ownsRow_made w #[] 0 (Nat.le_refl _) (Nat.zero_le _) (by simp)
  have hcell : ∀ (j : Nat) (u : Value), news[j]? = some u → (w.alloc (.cells #[] e)).cell? (ad.add j) = some u := fun j u hu => Lib.cell?_alloc_some _ (hc j u hu)
  obtain ⟨v', w', h1, h2, h3, h4⟩ := run_append_own_at (P := Try.prog) (w.alloc (.cells #[] e)) w.heap.size t t e i0 z sz bytes ht hi0 hz0 hz1 hz2 hzc hs0 _ 0 [] h0 ad n c news hl hcell ho (by unfold maxLen; omega) (by rw [Nat.zero_add]; omega) (by simp)
  refine ⟨v', w', h1, by simpa using h2, ((Below.refl w.heap.size w).alloc (Nat.le_refl _) _).grown h3 (by simp) ?_⟩
  intro k hk
  simp [Value.ownBlock] at hk
  omega
set_option maxHeartbeats 1000000 in
theorem obclone_any (A : Option Addr) (n c : Nat) (zs : List Int) (w : World) (hs : Shows w w.heap.size A n zs) (hn : n ≤ 140737488351232) :
    Calls Try.prog 20 #[.slice A n c] w fun e w' => ∃ v', e = .returned v' ∧ w'.ownsRow w.heap.size 5 1 v' n (u8s zs) ∧ Below w.heap.size w w' := by
  obtain ⟨i0, hi0, hz0, hz1, hz2⟩ := info_any info_u8
  have HS := Lib.hid hs
  clear hs
  have q : ∀ (w : World) (a : Option Addr) (n c n' c' : Nat), (binOp .eql 30 (.slice a n c) (.slice none n' c')).run Try.prog w = .ok (.bool a.isNone) w := fun w a n c n' c' => Lib.run_eql_slice_nil w _ _ a n c n' c' Try.underlying30
  have u22 : ∀ w, Sem.run Try.prog (underlying 30) w = .ok (TypeDesc.slice 5) w := run_underlying Try.underlying30
  rcases A with _ | ad
  · have hn0 : n = 0 := by
      rcases Nat.eq_zero_or_pos n with h | h
      · exact h
      · obtain ⟨b, o, e, _⟩ := HS.out.2.2 h
        cases e
    have hz0' : zs = [] := List.eq_nil_of_length_eq_zero (HS.out.1.trans hn0)
    subst hn0 hz0'
    go_enter Try.func20, Try.ntmps20
    go_wp2
    go_ret
    exact ⟨_, rfl, World.ownsRow_nil _ _ _ _, Below.refl _ _⟩
  · have HB0 := Lib.hid ((Below.refl w.heap.size w).alloc (Nat.le_refl _) (.cells #[] 5))
    obtain ⟨v', w', hrun, hown, hgr, _⟩ := run_append_shown (w.alloc (.cells #[] 5)) i0 hi0 hz0 hz1 hz2 w.heap.size (.slice (some ⟨w.heap.size, 0, none⟩) 0 0) 0 [] (World.ownsRow_made w #[] 0 (Nat.le_refl _) (Nat.zero_le _) rfl) w.heap.size (some ad) n c zs (HS.out.below HB0.out) (by omega) (by simp) 30
    have HO := Lib.hid hown
    have HG := Lib.hid hgr
    have HR := Lib.hid hrun
    clear hown hgr hrun hi0 hz0 hz1 hz2
    go_enter Try.func20, Try.ntmps20
    go_wp2_with (at_builtin; refine Lib.wpList_append_run_sl _ rfl _ _ 30 rfl _ _ rfl rfl HR.out ?_)
    go_ret
    refine ⟨_, rfl, ?_, HB0.out.grown HG.out (by simp) ?_⟩
    · have := HO.out
      rw [Nat.zero_add] at this
      simpa using this
    · intro k hk
      simp [Value.ownBlock] at hk
      omega


set_option maxHeartbeats 1000000 in
theorem cloneProps_own (A : Option Addr) (cp : Nat) (l : List PV) (w : World) (hrow : PRow w w.heap.size A l) (hsz : l.length * 40 ≤ 140737488351232) :
    Calls Try.prog 18 #[.slice A l.length cp] w fun e w' => ∃ A' c', e = .returned (.slice A' l.length c') ∧ w'.ownsRow w.heap.size 32 2 (.slice A' l.length c') l.length (l.flatMap pC) ∧ Below w.heap.size w w' := by
  obtain ⟨i0, hi0, hz0, hz1, hz2⟩ := info_any info_prop
  have hf : ∀ a, (pC a).length = 2 := fun _ => rfl
  have q : ∀ (w : World) (a : Option Addr) (n c n' c' : Nat), (binOp .eql 22 (.slice a n c) (.slice none n' c')).run Try.prog w = .ok (.bool a.isNone) w := fun w a n c n' c' => Lib.run_eql_slice_nil w _ _ a n c n' c' Try.underlying22
  have u22 : ∀ w, Sem.run Try.prog (underlying 22) w = .ok (TypeDesc.slice 32) w := run_underlying Try.underlying22
  rcases A with _ | ad
  · have hn0 : l.length = 0 := by
      rcases Nat.eq_zero_or_pos l.length with h | h
      · exact h
      · obtain ⟨b, o, e, _⟩ := hrow h
        cases e
    have HZ := Lib.hid hn0
    clear hn0 hsz hi0 hz0 hz1 hz2 hrow
    go_enter Try.func18, Try.ntmps18
    go_wp2
    go_ret
    obtain rfl : l = [] := List.eq_nil_of_length_eq_zero HZ.out
    exact ⟨none, 0, rfl, World.ownsRow_nil _ _ _ _, Below.refl _ _⟩
  · obtain ⟨v', w', hrun, hown, hbel⟩ := clone_run w 22 32 2 40 i0 _ Try.underlying22 hi0 hz0 hz1 hz2 rfl (by omega) ad l.length cp (l.flatMap pC) (flat_len hf l)
      (fun j u hu => by
        obtain ⟨i, r, hi, hr, rfl, hu'⟩ := flat_get hf (by omega) hu
        obtain ⟨b, o, e, _, hc⟩ := hrow (by omega)
        obtain rfl : ad = ⟨b, o, none⟩ := Option.some.inj e
        rw [addr_add, ← Nat.add_assoc]
        obtain ⟨c0, c1⟩ := hc i hi
        match r, hr, hu' with
        | 0, _, hu' => rw [← Option.some.inj hu']; exact c0
        | 1, _, hu' => rw [← Option.some.inj hu']; exact c1)
      (fun u hu => by
        obtain ⟨x, _, hx⟩ := List.mem_flatMap.1 hu
        simp only [pC, List.mem_cons, List.not_mem_nil, or_false] at hx
        rcases hx with rfl | rfl <;> rfl)
      hsz (by omega)
    obtain ⟨A', c', rfl, h1, h2⟩ : ∃ A' c', v' = .slice A' l.length c' ∧ l.length ≤ c' ∧ c' ≤ 9223372036854775807 := by
      rcases hown.2 with ⟨rfl, e0⟩ | ⟨g, cap, cur, rfl, _, _, h1, h2, _⟩
      · exact ⟨none, 0, by rw [e0], by omega, by omega⟩
      · exact ⟨_, cap, rfl, h1, h2⟩
    have HR := Lib.hid hrun
    have HF := Lib.hid (And.intro hown hbel)
    clear hrun hown hbel h1 h2 hi0 hz0 hz1 hz2 hsz hrow
    go_enter Try.func18, Try.ntmps18
    go_wp2_with (at_builtin; refine Lib.wpList_append_run_sl _ rfl _ _ 22 rfl _ _ rfl rfl HR.out ?_)
    go_ret
    exact ⟨A', c', rfl, HF.out⟩

set_option maxHeartbeats 1000000 in
theorem cloneKids_own (A : Option Addr) (cp : Nat) (l : List Nd) (w : World) (hrow : KRow w w.heap.size A l) (hsz : l.length * 64 ≤ 140737488351232) :
    Calls Try.prog 19 #[.slice A l.length cp] w fun e w' => ∃ A' c', e = .returned (.slice A' l.length c') ∧ w'.ownsRow w.heap.size 25 3 (.slice A' l.length c') l.length (l.flatMap kC) ∧ Below w.heap.size w w' := by
  obtain ⟨i0, hi0, hz0, hz1, hz2⟩ := info_any info_node
  have hf : ∀ a, (kC a).length = 3 := fun _ => rfl
  have q : ∀ (w : World) (a : Option Addr) (n c n' c' : Nat), (binOp .eql 23 (.slice a n c) (.slice none n' c')).run Try.prog w = .ok (.bool a.isNone) w := fun w a n c n' c' => Lib.run_eql_slice_nil w _ _ a n c n' c' Try.underlying23
  have u22 : ∀ w, Sem.run Try.prog (underlying 23) w = .ok (TypeDesc.slice 25) w := run_underlying Try.underlying23
  rcases A with _ | ad
  · have hn0 : l.length = 0 := by
      rcases Nat.eq_zero_or_pos l.length with h | h
      · exact h
      · obtain ⟨b, o, e, _⟩ := hrow h
        cases e
    have HZ := Lib.hid hn0
    clear hn0 hsz hi0 hz0 hz1 hz2 hrow
    go_enter Try.func19, Try.ntmps19
    go_wp2
    go_ret
    obtain rfl : l = [] := List.eq_nil_of_length_eq_zero HZ.out
    exact ⟨none, 0, rfl, World.ownsRow_nil _ _ _ _, Below.refl _ _⟩
  · obtain ⟨v', w', hrun, hown, hbel⟩ := clone_run w 23 25 3 64 i0 _ Try.underlying23 hi0 hz0 hz1 hz2 rfl (by omega) ad l.length cp (l.flatMap kC) (flat_len hf l)
      (fun j u hu => by
        obtain ⟨i, r, hi, hr, rfl, hu'⟩ := flat_get hf (by omega) hu
        obtain ⟨b, o, e, _, hc⟩ := hrow (by omega)
        obtain rfl : ad = ⟨b, o, none⟩ := Option.some.inj e
        rw [addr_add, ← Nat.add_assoc]
        obtain ⟨c0, c1, c2⟩ := hc i hi
        match r, hr, hu' with
        | 0, _, hu' => rw [← Option.some.inj hu']; exact c0
        | 1, _, hu' => rw [← Option.some.inj hu']; exact c1
        | 2, _, hu' => rw [← Option.some.inj hu']; exact c2)
      (fun u hu => by
        obtain ⟨x, _, hx⟩ := List.mem_flatMap.1 hu
        simp only [kC, List.mem_cons, List.not_mem_nil, or_false] at hx
        rcases hx with rfl | rfl | rfl <;> rfl)
      hsz (by omega)
    obtain ⟨A', c', rfl, h1, h2⟩ : ∃ A' c', v' = .slice A' l.length c' ∧ l.length ≤ c' ∧ c' ≤ 9223372036854775807 := by
      rcases hown.2 with ⟨rfl, e0⟩ | ⟨g, cap, cur, rfl, _, _, h1, h2, _⟩
      · exact ⟨none, 0, by rw [e0], by omega, by omega⟩
      · exact ⟨_, cap, rfl, h1, h2⟩
    have HR := Lib.hid hrun
    have HF := Lib.hid (And.intro hown hbel)
    clear hrun hown hbel h1 h2 hi0 hz0 hz1 hz2 hsz hrow
    go_enter Try.func19, Try.ntmps19
    go_wp2_with (at_builtin; refine Lib.wpList_append_run_sl _ rfl _ _ 23 rfl _ _ rfl rfl HR.out ?_)
    go_ret
    exact ⟨A', c', rfl, HF.out⟩
end Go.Proofs.Ytfekjihjifimcaa

/-! CloneNode: the same node, and all below it, in memory of the call's own: no two rows of it lie in one block. -/
namespace Go.Proofs.Ytfekjihjifimcaa
open Go.RowKit
set_option linter.unusedVariables false
set_option linter.unusedSimpArgs false
attribute [local go_sem ↓] Go.wp_at_zero Go.wp_at_succ

theorem own_from {w : World} {b b' : Nat} {e : TypeId} {sz n : Nat} {v : Value} {xs : List Value} (h : w.ownsRow b e sz v n xs) (hb : b' ≤ b) : w.ownsRow b' e sz v n xs := by
  refine ⟨h.1, ?_⟩
  rcases h.2 with hn | ⟨g, cap, cur, e1, h1, r⟩
  · exact .inl hn
  · exact .inr ⟨g, cap, cur, e1, Nat.le_trans hb h1, r⟩
/-- What stands behind the first statement: the clone's box at g, its two rows. -/
structure LaidO (w0 W : World) (B g : Nat) (nm : ByteArray) (ps : List PV) (ks : List Nd) (A1 : Option Addr) (c1 : Nat) (A2 : Option Addr) (c2 : Nat) : Prop where
  bel : Below w0.heap.size w0 W
  gl : w0.heap.size ≤ g
  box : W.heap[g]? = some (.cells #[.string nm, .slice A1 ps.length c1, .slice A2 ks.length c2] 25 (0, 0))
  rp : W.ownsRow B 32 2 (.slice A1 ps.length c1) ps.length (ps.flatMap pC)
  rk : W.ownsRow B 25 3 (.slice A2 ks.length c2) ks.length (ks.flatMap kC)
  nk : (Value.slice A2 ks.length c2).ownBlock ≠ some g
theorem LaidO.gh {w0 W : World} {B g : Nat} {nm : ByteArray} {ps : List PV} {ks : List Nd} {A1 : Option Addr} {c1 : Nat} {A2 : Option Addr} {c2 : Nat} (h : LaidO w0 W B g nm ps ks A1 c1 A2 c2) : g < W.heap.size := (Array.getElem?_eq_some_iff.1 h.box).1
/-- A box is no row of properties. -/
theorem box_no_prow {W : World} {B g n : Nat} {v : Value} {cur : Array Value} {xs : List Value} (hb : W.heap[g]? = some (.cells cur 25 (0, 0))) (h : W.ownsRow B 32 2 v n xs) : v.ownBlock ≠ some g := fun e => by
  rcases h.2 with ⟨rfl, _⟩ | ⟨g1, cap, cur1, rfl, _, hg, _⟩
  · cases e
  have e1 : g1 = g := by simpa [Value.ownBlock] using e
  subst e1
  rw [hb] at hg
  injection hg with hg
  injection hg with _ ht
  exact absurd ht.symm prop_ne_node

/-- The first k properties' values are the call's own. -/
structure M1 (W : World) (B : Nat) (v : Value) (ps xs : List PV) (k : Nat) (wr : World) : Prop where
  len : xs.length = ps.length
  pure : xs.map PV.pure = ps.map PV.pure
  todo : ∀ j (h : j < xs.length) (h' : j < ps.length), k ≤ j → xs[j] = ps[j]
  done : ∀ j (h : j < xs.length), j < k → xs[j].In wr wr.heap.size ∧ xs[j].At (fun g => W.heap.size ≤ g)
  row : wr.ownsRow B 32 2 v ps.length (xs.flatMap pC)
  chg : Chg (fun g => v.ownBlock = some g) W wr
theorem M1.start {W : World} {B : Nat} {v : Value} {ps : List PV} (h : W.ownsRow B 32 2 v ps.length (ps.flatMap pC)) : M1 W B v ps ps 0 W :=
  ⟨rfl, rfl, fun _ _ _ _ => rfl, fun _ _ h => absurd h (Nat.not_lt_zero _), h, Chg.refl _ _⟩
theorem M1.on {W wr w2 : World} {B k : Nat} {v : Value} {ps xs : List PV} (h : M1 W B v ps xs k wr) (hb : Below wr.heap.size wr w2) : M1 W B v ps xs k w2 :=
  ⟨h.len, h.pure, h.todo, fun j hj hk => ⟨((h.done j hj hk).1.keep (fun _ hp => hb.cell hp)).more hb.size, (h.done j hj hk).2⟩, own_on h.row hb, h.chg.trans (F' := fun g => v.ownBlock = some g) (Chg.ofBelow hb) (fun _ _ e => e)⟩
theorem pC_set1 (xs : List PV) (k : Nat) (hk : k < xs.length) (q : PV) (hn : q.name = xs[k].name) : (xs.flatMap pC).set (k * 2 + 1) q.val = (xs.set k q).flatMap pC := by
  rw [← flat_set2 xs k hk q, hn]
  congr 1
  symm
  apply List.ext_getElem?
  intro j
  by_cases hj : k * 2 = j
  · subst hj
    have e := flat_at pC_len xs k 0 hk (by omega)
    rw [Nat.add_zero] at e
    rw [List.getElem?_set_self (by have := (List.getElem?_eq_some_iff.1 (e.trans (rfl : (pC xs[k])[0]? = some (.string xs[k].name)))).1; exact this), e]
    rfl
  · rw [List.getElem?_set_ne hj]
theorem M1.store {W wr : World} {B k : Nat} {v : Value} {ps xs : List PV} (h : M1 W B v ps xs k wr) {gp c : Nat} (hv : v = .slice (some ⟨gp, 0, none⟩) ps.length c) (hgp : gp < W.heap.size) (hk : k < ps.length) {q : PV} (hq : q.In wr wr.heap.size) (ha : q.At (fun g => W.heap.size ≤ g)) (hn : q.name = ps[k].name) (hz : q.zs = ps[k].zs) :
    M1 W B v ps (xs.set k q) (k + 1) (wr.setCell ⟨gp, k * 2 + 1, none⟩ q.val) := by
  have hkx : k < xs.length := by rw [h.len]; exact hk
  have e := h.todo k hkx hk (Nat.le_refl _)
  obtain ⟨o1, g1⟩ := (hv ▸ h.row).stored (k * 2 + 1) q.val
  rw [pC_set1 xs k hkx q (by rw [e]; exact hn)] at o1
  have ob : v.ownBlock = some gp := by rw [hv]; rfl
  have hc : Chg (fun g => v.ownBlock = some g) wr (wr.setCell ⟨gp, k * 2 + 1, none⟩ q.val) := Chg.ofGrown g1 (fun g e => by injection e with e; rw [← e]; exact ob)
  have far : ∀ g, W.heap.size ≤ g → ¬ v.ownBlock = some g := fun g hg e => by rw [ob] at e; injection e with e; omega
  refine ⟨by rw [List.length_set]; exact h.len, ?_, fun j hj hj' hkj => ?_, fun j hj hkj => ?_, hv ▸ o1, h.chg.trans hc (fun _ _ e => e)⟩
  · rw [List.map_set, ← h.pure]
    apply List.ext_getElem?
    intro j
    by_cases hj : k = j
    · subst hj
      rw [List.getElem?_set_self (by simpa using hkx), List.getElem?_map, List.getElem?_eq_getElem hkx, e]
      show some (q.name, q.zs) = some (ps[k].name, ps[k].zs)
      rw [hn, hz]
    · rw [List.getElem?_set_ne hj]
  · rw [List.getElem_set, if_neg (by omega)]
    exact h.todo j (by simpa using hj) hj' (by omega)
  · rw [List.getElem_set]
    split
    · exact ⟨hq.chg ha hc far, ha⟩
    · have d := h.done j (by simpa using hj) (by omega)
      exact ⟨d.1.chg d.2 hc far, d.2⟩

/-- The first k nodes right below are the call's own. -/
structure M2 (W : World) (B : Nat) (v : Value) (ks ms : List Nd) (k : Nat) (wr : World) (G : Nat → Nat → Prop) (D : Nat → Prop) : Prop where
  len : ms.length = ks.length
  pure : ms.map pureN = ks.map pureN
  todo : ∀ j (h : j < ms.length) (h' : j < ks.length), k ≤ j → ms[j] = ks[j]
  row : wr.ownsRow B 25 3 v ks.length (ms.flatMap kC)
  chg : Chg (fun g => v.ownBlock = some g) W wr
  own : ∀ j (h : j < ms.length), j < k → Own wr (G j) D ms[j]
  hG : ∀ j g, G j g → W.heap.size ≤ g ∧ g < wr.heap.size
  hd : ∀ i j g, G i g → G j g → i = j
  hD : ∀ g, D g → W.heap.size ≤ g ∧ g < wr.heap.size ∧ ∀ j, ¬ G j g
  hk : ∀ j g, G j g → j < k
theorem M2.start {W : World} {B : Nat} {v : Value} {ks : List Nd} (h : W.ownsRow B 25 3 v ks.length (ks.flatMap kC)) : M2 W B v ks ks 0 W (fun _ _ => False) (fun _ => False) :=
  ⟨rfl, rfl, fun _ _ _ _ => rfl, h, Chg.refl _ _, fun _ _ h => absurd h (Nat.not_lt_zero _), fun _ _ h => h.elim, fun _ _ _ h => h.elim, fun _ h => h.elim, fun _ _ h => h.elim⟩
theorem M2.on {W wr w2 : World} {B k : Nat} {v : Value} {ks ms : List Nd} {G : Nat → Nat → Prop} {D : Nat → Prop} (h : M2 W B v ks ms k wr G D) (hb : Below wr.heap.size wr w2) : M2 W B v ks ms k w2 G D :=
  ⟨h.len, h.pure, h.todo, own_on h.row hb, h.chg.trans (F' := fun g => v.ownBlock = some g) (Chg.ofBelow hb) (fun _ _ e => e), fun j hj hk => (h.own j hj hk).chg (E := fun _ => False) (Chg.ofBelow hb) (fun _ _ e => e) (fun _ _ e => e),
    fun j g e => ⟨(h.hG j g e).1, Nat.lt_of_lt_of_le (h.hG j g e).2 hb.size⟩, h.hd, fun g e => ⟨(h.hD g e).1, Nat.lt_of_lt_of_le (h.hD g e).2.1 hb.size, (h.hD g e).2.2⟩, h.hk⟩
theorem M2.store {W w1 wr : World} {B k : Nat} {v : Value} {ks ms : List Nd} {G : Nat → Nat → Prop} {D : Nat → Prop} (h0 : M2 W B v ks ms k w1 G D) (hbw : Below w1.heap.size w1 wr) {gk c : Nat} (hv : v = .slice (some ⟨gk, 0, none⟩) ks.length c) (hgk : gk < W.heap.size) (hk : k < ks.length) {q : Nd} {Fq Dq : Nat → Prop} (hq : Own wr Fq Dq q) (hF : ∀ g, Fq g → w1.heap.size ≤ g ∧ g < wr.heap.size) (hD : ∀ g, Dq g → w1.heap.size ≤ g ∧ g < wr.heap.size ∧ ¬ Fq g) (hp : pureN q = pureN ks[k]) :
    ∃ G' D', M2 W B v ks (ms.set k q) (k + 1) (((wr.setCell ⟨gk, k * 3, none⟩ (.string q.name)).setCell ⟨gk, k * 3 + 1, none⟩ q.pv).setCell ⟨gk, k * 3 + 2, none⟩ q.kv) G' D' := by
  have h := h0.on hbw
  have hkx : k < ms.length := by rw [h.len]; exact hk
  have e := h.todo k hkx hk (Nat.le_refl _)
  obtain ⟨o1, g1⟩ := (hv ▸ h.row).stored (k * 3) (.string q.name)
  obtain ⟨o2, g2⟩ := o1.stored (k * 3 + 1) q.pv
  obtain ⟨o3, g3⟩ := o2.stored (k * 3 + 2) q.kv
  rw [flat_set3 ms k hkx q] at o3
  have ob : v.ownBlock = some gk := by rw [hv]; rfl
  have hc : Chg (fun g => v.ownBlock = some g) wr (((wr.setCell ⟨gk, k * 3, none⟩ (.string q.name)).setCell ⟨gk, k * 3 + 1, none⟩ q.pv).setCell ⟨gk, k * 3 + 2, none⟩ q.kv) := Chg.ofGrown ((g1.thenG g2).thenG g3) (fun g e => by injection e with e; rw [← e]; exact ob)
  have w1W := h0.chg.size
  have far : ∀ g, W.heap.size ≤ g → ¬ v.ownBlock = some g := fun g hg e => by rw [ob] at e; injection e with e; omega
  have sz := hc.size
  have bw := hbw.size
  have one : ∀ i g, (if i = k then Fq else G i) g → (i = k ∧ Fq g) ∨ (i ≠ k ∧ G i g) := fun i g e => by
    by_cases hi : i = k
    · rw [if_pos hi] at e; exact .inl ⟨hi, e⟩
    · rw [if_neg hi] at e; exact .inr ⟨hi, e⟩
  refine ⟨fun j => if j = k then Fq else G j, fun g => D g ∨ Dq g, by rw [List.length_set]; exact h.len, ?_, fun j hj hj' hkj => ?_, hv ▸ o3, h.chg.trans hc (fun _ _ e => e), fun j hj hkj => ?_, fun j g e => ?_, fun i j g ei ej => ?_, fun g e => ?_, fun j g e => ?_⟩
  · rw [List.map_set, ← h.pure]
    apply List.ext_getElem?
    intro j
    by_cases hj : k = j
    · subst hj
      rw [List.getElem?_set_self (by simpa using hkx), List.getElem?_map, List.getElem?_eq_getElem hkx, e, hp]
      rfl
    · rw [List.getElem?_set_ne hj]
  · rw [List.getElem_set, if_neg (by omega)]
    exact h.todo j (by simpa using hj) hj' (by omega)
  · rw [List.getElem_set]
    by_cases hjk : k = j
    · rw [if_pos hjk, if_pos hjk.symm]
      exact (hq.chg hc (fun g e => far g (by have := (hF g e).1; omega)) (fun g e => far g (by have := (hD g e).1; omega))).mono (fun _ h => h) (fun _ h => .inr h)
    · rw [if_neg hjk, if_neg (Ne.symm hjk)]
      exact ((h.own j (by simpa using hj) (by omega)).chg hc (fun g e => far g (h.hG j g e).1) (fun g e => far g (h.hD g e).1)).mono (fun _ h => h) (fun _ h => .inl h)
  · rcases one j g e with ⟨_, e'⟩ | ⟨_, e'⟩
    · have := hF g e'
      omega
    · have := h.hG j g e'
      omega
  · rcases one i g ei with ⟨hi, ei⟩ | ⟨hi, ei⟩
    · rcases one j g ej with ⟨hj, ej⟩ | ⟨hj, ej⟩
      · omega
      · have h1 := hF g ei
        have h2 := h0.hG j g ej
        omega
    · rcases one j g ej with ⟨hj, ej⟩ | ⟨hj, ej⟩
      · have h1 := hF g ej
        have h2 := h0.hG i g ei
        omega
      · exact h.hd i j g ei ej
  · have key : ∀ j, ¬ (if j = k then Fq else G j) g := fun j e' => by
      rcases one j g e' with ⟨hj, e'⟩ | ⟨hj, e'⟩
      · rcases e with e | e
        · have h1 := hF g e'
          have h2 := h0.hD g e
          omega
        · exact (hD g e).2.2 e'
      · rcases e with e | e
        · exact (h.hD g e).2.2 j e'
        · have h1 := (hD g e).1
          have h2 := h0.hG j g e'
          omega
    rcases e with e | e
    · have := h.hD g e
      exact ⟨this.1, by omega, key⟩
    · have := hD g e
      exact ⟨by omega, by omega, key⟩
  · rcases one j g e with ⟨hj, e⟩ | ⟨hj, e⟩
    · omega
    · have := h.hk j g e
      omega

/-- What has been made is a node of the call's own. -/
theorem made_own {w0 W W2 wr : World} {B g : Nat} {nm : ByteArray} {ps xs : List PV} {ks ms : List Nd} {A1 A2 : Option Addr} {c1 c2 : Nat} {G : Nat → Nat → Prop} {D : Nat → Prop} (hB : B ≤ w0.heap.size)
    (hnm : nm.size ≤ 140737488351232) (HL : LaidO w0 W B g nm ps ks A1 c1 A2 c2) (h1 : M1 W B (.slice A1 ps.length c1) ps xs ps.length W2) (h2 : M2 W2 B (.slice A2 ks.length c2) ks ms ks.length wr G D) :
    ∃ F D', Own wr F D' (.mk nm A1 c1 xs A2 c2 ms) ∧ (∀ q, F q → B ≤ q ∧ q < wr.heap.size) ∧ (∀ q, D' q → B ≤ q ∧ q < wr.heap.size ∧ ¬ F q) := by
  have s0 := HL.bel.size
  have s1 := h1.chg.size
  have s2 := h2.chg.size
  have nk := own_ne_type h1.row (own_same HL.rk (w' := W2) (fun q e => h1.chg.block q (HL.rk.lt q e).2 (fun e' => own_ne_type HL.rp HL.rk prop_ne_node q e' e))) prop_ne_node
  have lp := fun q e => h1.row.lt q e
  have lk := fun q e => HL.rk.lt q e
  have lp' : ∀ q, (Value.slice A1 ps.length c1).ownBlock = some q → B ≤ q ∧ q < W.heap.size := fun q e => HL.rp.lt q e
  have e1 : (Nd.mk nm A1 c1 xs A2 c2 ms).pv = .slice A1 ps.length c1 := by show Value.slice A1 xs.length c1 = _; rw [h1.len]
  have e2 : (Nd.mk nm A1 c1 xs A2 c2 ms).kv = .slice A2 ks.length c2 := by show Value.slice A2 ms.length c2 = _; rw [h2.len]
  have l1 : (Nd.mk nm A1 c1 xs A2 c2 ms).props.length = ps.length := h1.len
  have l2 : (Nd.mk nm A1 c1 xs A2 c2 ms).kids.length = ks.length := h2.len
  refine ⟨fun q => (Value.slice A1 ps.length c1).ownBlock = some q ∨ (Value.slice A2 ks.length c2).ownBlock = some q ∨ ∃ j, G j q, fun q => D q ∨ (W.heap.size ≤ q ∧ q < W2.heap.size), .mk _ _ _ hnm ?_ ?_ (fun q e => ?_) (fun q e => ?_) (fun p hp => ?_) G (fun i q e => ?_) h2.hd (fun i hi => ?_), fun q e => ?_, fun q e => ?_⟩
  · rw [e1, l1]
    exact own_from (own_same h1.row (fun q e => h2.chg.block q (h1.row.lt q e).2 (fun e' => nk q e e'))) (Nat.zero_le _)
  · rw [e2, l2]
    exact own_from h2.row (Nat.zero_le _)
  · rw [e1] at e; exact .inl e
  · rw [e2] at e; exact .inr (.inl e)
  · obtain ⟨j, hj, rfl⟩ := List.getElem_of_mem hp
    have hj' : j < xs.length := hj
    have d := h1.done j hj' (by rw [← h1.len]; exact hj')
    have d2 : xs[j].At (fun q => W.heap.size ≤ q ∧ q < W2.heap.size) := PV.At.lows d.1 d.2
    refine ⟨d.1.chg d2 h2.chg (fun q hq e => ?_), d2.mono' (fun q h => .inr h)⟩
    have := (lk q e).2
    omega
  · refine ⟨.inr (.inr ⟨i, e⟩), fun e' => ?_, fun e' => ?_⟩
    · rw [e1] at e'
      have := (lp' q e').2
      have := (h2.hG i q e).1
      omega
    · rw [e2] at e'
      have := (lk q e').2
      have := (h2.hG i q e).1
      omega
  · have hi' : i < ms.length := hi
    exact (h2.own i hi' (by rw [← h2.len]; exact hi')).mono (fun _ h => h) (fun _ h => .inl h)
  · rcases e with e | e | ⟨j, e⟩
    · have := lp' q e
      omega
    · have := lk q e
      omega
    · have := h2.hG j q e
      omega
  · have key : ∀ q, W.heap.size ≤ q → (∀ j, ¬ G j q) → ¬ ((Value.slice A1 ps.length c1).ownBlock = some q ∨ (Value.slice A2 ks.length c2).ownBlock = some q ∨ ∃ j, G j q) := fun q hq hj e => by
      rcases e with e | e | ⟨j, e⟩
      · have := (lp' q e).2
        omega
      · have := (lk q e).2
        omega
      · exact hj j e
    rcases e with e | ⟨ea, eb⟩
    · have := h2.hD q e
      exact ⟨by omega, this.2.1, key q (by omega) this.2.2⟩
    · refine ⟨by omega, by omega, key q ea (fun j e => ?_)⟩
      have := (h2.hG j q e).1
      omega
end Go.Proofs.Ytfekjihjifimcaa

/-! Which one of a row is the first of each name: a map that the call makes. -/
namespace Go.Proofs.Ytfekjihjifimcaa
open Go.RowKit Go.Maps Go.WideMaps
set_option linter.unusedVariables false
set_option linter.unusedSimpArgs false

/-- The map says of each name which one is the first. -/
def FirstsM (l : List ByteArray) (D : DataW Unit) : Prop := ∀ s, Maps.has D (keyL s) = decide (0 ≤ idxOf l s) ∧ (0 ≤ idxOf l s → D.atKey (keyL s) (.lit (.int .i64 0)) = .lit (.int .i64 (idxOf l s)))
theorem keyL_inj {x s : ByteArray} (h : keyL x = keyL s) : x = s := WideShapes.bytes_inj (Lit.string.inj h)
theorem idxOf_snoc : ∀ (l : List ByteArray) (x s : ByteArray), idxOf (l ++ [x]) s = if 0 ≤ idxOf l s then idxOf l s else if x = s then (l.length : Int) else -1
  | [], x, s => by simp [idxOf]
  | y :: l, x, s => by
    rw [List.cons_append, idxOf, idxOf, idxOf_snoc l x s]
    by_cases hy : y = s
    · rw [if_pos hy, if_pos hy]; simp
    · rw [if_neg hy, if_neg hy]
      rcases idxOf_neg_or l s with h | h
      · rw [h]
        by_cases hx : x = s
        · simp [hx]; omega
        · simp [hx]
      · have e1 : ¬ idxOf l s < 0 := by omega
        simp only [h, if_true, if_neg e1]
        rw [if_pos (by omega)]
theorem firstsM_zero : FirstsM [] (.map []) := fun s => ⟨by simp [Maps.has_eq, idxOf], fun h => absurd h (by simp [idxOf])⟩
theorem firstsM_keep {l : List ByteArray} {D : DataW Unit} (h : FirstsM l D) {x : ByteArray} (hx : 0 ≤ idxOf l x) : FirstsM (l ++ [x]) D := fun s => by
  have e : idxOf (l ++ [x]) s = idxOf l s := by
    rw [idxOf_snoc]
    by_cases hs : 0 ≤ idxOf l s
    · rw [if_pos hs]
    · rw [if_neg hs, if_neg (fun (e : x = s) => hs (by rw [← e]; exact hx))]
      rcases idxOf_neg_or l s with h' | h'
      · exact h'.symm
      · exact absurd h' hs
  rw [e]
  exact h s
theorem firstsM_put {l : List ByteArray} {D : DataW Unit} (h : FirstsM l D) (hD : IsMap D) {x : ByteArray} (hx : idxOf l x < 0) : FirstsM (l ++ [x]) (D.put (keyL x) (.lit (.int .i64 l.length))) := fun s => by
  rw [idxOf_snoc]
  by_cases hs : x = s
  · subst hs
    rw [if_neg (by omega), if_pos rfl]
    have hk : WideAt.IsKeyLit (keyL x) := by trivial
    exact ⟨by rw [has_put_same hD hk]; simp, fun _ => atKey_put_same hD hk _ _⟩
  · have hk : keyL s ≠ keyL x := fun e => hs (keyL_inj e).symm
    have e : (if 0 ≤ idxOf l s then idxOf l s else if x = s then (l.length : Int) else -1) = idxOf l s := by
      by_cases h0 : 0 ≤ idxOf l s
      · rw [if_pos h0]
      · rw [if_neg h0, if_neg hs]
        rcases idxOf_neg_or l s with h' | h'
        · exact h'.symm
        · exact absurd h' h0
    rw [e, has_put_other hk, atKey_put_other hk]
    exact h s
theorem take_snoc {α : Type} {l : List α} {k : Nat} (hk : k < l.length) : l.take (k + 1) = l.take k ++ [l[k]] := by
  rw [List.take_add_one, List.getElem?_eq_getElem hk]; rfl
theorem zeroI (w : World) : (zeroValue 3).run Try.prog w = .ok (.int .i64 0) w := by kernel_rfl
theorem elemI {z : Int} (h0 : 0 ≤ z) (h1 : z ≤ 9223372036854775807) : plainElem (H := Unit) Try.prog 3 (.int .i64 z) = some (.lit (.int .i64 z), []) := plainElem_int Try.underlying3 (by simp [Lit.wf, IntKind.min, IntKind.max, IntKind.signed, IntKind.bits]; omega)
theorem ownsMap_same {w w' : World} {b n : Nat} {k : TypeId} {R : Value → Option (DataW Unit × List MemPlace)} {D : DataW Unit} (h : w.ownsMap Try.prog k R b n D) (hb : w'.heap[b]? = w.heap[b]?) : w'.ownsMap Try.prog k R b n D := by
  obtain ⟨es, clock, h1, h2⟩ := h
  exact ⟨es, clock, hb.trans h1, h2⟩

theorem run_makeMap_int (w : World) (n : Int) : (Instr.makeMap 48 (some (.int .i64 n))).run Try.prog w = .ok (.map (some w.heap.size)) (w.alloc (.map #[] 0)) := by
  simp [Instr.makeMap, run_underlying Try.underlying48, asInt, asIntOf, Result.andThen]

theorem mpropName_any (p : PV) (w : World) : Calls Try.prog 24 #[.agg #[.string p.name, p.val]] w fun e w' => e = .returned (.string p.name) ∧ Below w.heap.size w w' := by
  obtain ⟨x, a, c, zs⟩ := p
  show Calls _ _ #[.agg #[.string x, .slice a zs.length c]] _ _
  go_enter Try.func24, Try.ntmps24
  go_wp2
  go_ret
  exact ⟨rfl, (Below.refl _ _).alloc (Nat.le_refl _) _⟩
theorem mnodeName_any (n : Nd) (w : World) : Calls Try.prog 26 #[n.val] w fun e w' => e = .returned (.string n.name) ∧ Below w.heap.size w w' := by
  obtain ⟨nm, pa, pc, ps, ka, kc, ks⟩ := n
  show Calls _ _ #[.agg #[.string nm, .slice pa ps.length pc, .slice ka ks.length kc]] _ _
  go_enter Try.func26, Try.ntmps26
  go_wp2
  go_ret
  exact ⟨rfl, (Below.refl _ _).alloc (Nat.le_refl _) _⟩

set_option maxRecDepth 20000 in
set_option maxHeartbeats 4000000 in
theorem firstsP_any (A : Option Addr) (c : Nat) (ps : List PV) (w : World) (hrow : PRow w w.heap.size A ps) (hn : ∀ p ∈ ps, p.name.size ≤ 140737488351232) (hlen : ps.length ≤ 1099511627776) :
    Calls Try.prog 23 #[.slice A ps.length c, .func (.func 24) #[] #[]] w fun e w' => (∃ D, e = .returned (.map (some w.heap.size)) ∧ w.heap.size < w'.heap.size ∧ FirstsM (ps.map PV.name) D ∧ w'.ownsMap Try.prog 9 (plainElem Try.prog 3) w.heap.size ps.length D) ∧ Below w.heap.size w w' := by
  have hmm := run_makeMap_int
  have HI := Lib.hid hrow
  have HN := Lib.hid hn
  have HM := Lib.hid (show (ps.map PV.name).length = ps.length from List.length_map _)
  clear hrow hn
  go_enter Try.func23, Try.ntmps23
  go_wp2_with fail
  go_loopw [15] (fun i wr => ∃ k : Nat, k ≤ ps.length ∧ i = .int .i64 k ∧ (∃ D, FirstsM ((ps.map PV.name).take k) D ∧ wr.ownsMap Try.prog 9 (plainElem Try.prog 3) w.heap.size k D) ∧ Below w.heap.size w wr ∧ w.heap.size < wr.heap.size) (fun i _ => ps.length - (intOf i).toNat)
  case atStart => exact ⟨0, Nat.zero_le _, rfl, ⟨.map [], by rw [List.take_zero]; exact firstsM_zero, World.ownsMap_made _ _ _ _⟩, (Below.refl _ _).alloc (Nat.le_refl _) _, by simp⟩
  case round =>
    obtain ⟨k, hk, rfl, ⟨D, hfm, hown⟩, hb, hz⟩ := hrel
    have HF := Lib.hid hfm
    have HB := Lib.hid hb
    have HO := Lib.hid hown
    have HZ := Lib.hid hz
    clear hfm hb hown hz
    by_cases hlt : k < ps.length
    · obtain ⟨b, o, e, hb, hcc⟩ := (HI.out.keep (fun _ hp => HB.out.cell hp)) (by omega)
      obtain rfl : A = _ := e
      obtain ⟨c0, c1⟩ := hcc k hlt
      replace c0 : _ = some (Value.string ps[k].name) := c0
      replace c1 : _ = some (Value.slice ps[k].addr ps[k].zs.length ps[k].cap) := c1
      clear hcc
      have hxm : Hid ((ps.map PV.name)[k]'(by rw [HM.out]; exact hlt) = ps[k].name) := List.getElem_map _
      have HK := Lib.hid (key_ok (HN.out _ (List.getElem_mem hlt)))
      have HA := Lib.hid (Below.alloc (Below.refl wr.heap.size wr) (Nat.le_refl _) (.cells #[Value.string ps[k].name, .slice ps[k].addr ps[k].zs.length ps[k].cap] 32))
      have HC := Lib.hid (mpropName_any ps[k])
      have HTS : Hid ((ps.map PV.name).take (k + 1) = (ps.map PV.name).take k ++ [ps[k].name]) := by
        show (ps.map PV.name).take (k + 1) = _
        rw [take_snoc (by rw [HM.out]; exact hlt), hxm.out]
      have HTL : Hid (((ps.map PV.name).take k).length = k) := by
        show ((ps.map PV.name).take k).length = k
        rw [List.length_take, HM.out]; omega
      by_cases hmem : 0 ≤ idxOf ((ps.map PV.name).take k) ps[k].name
      · have hhas : Maps.has D (keyL ps[k].name) = true := by rw [(HF.out _).1]; simpa using hmem
        have HFK := Lib.hid (firstsM_keep HF.out hmem)
        clear hmem
        go_wp2_with fail
        refine (HC.out _).mono ?_
        rintro e w1 ⟨rfl, hb1⟩
        have HB1 := Lib.hid (HA.out.trans (hb1.mono HA.out.size))
        have HO1 := Lib.hid (ownsMap_below HO.out HB1.out HZ.out)
        clear hb1
        go_wp2_with (first | (at_lookup; refine wpList_lookup_own_ok_int _ rfl _ _ 48 rfl 9 3 .i64 lawS Try.underlying48 Try.underlying3 (zeroI _) w.heap.size k _ rfl HO1.out _ _ rfl HK.out ?_; intro cc hat hwc; clear hat hwc) | fail)
        go_roundw
        case rel => exact ⟨k + 1, by omega, by go_num, ⟨D, by rw [HTS.out]; exact HFK.out, HO1.out.mono (Nat.le_succ _)⟩, HB.out.trans (HB1.out.mono HB.out.size), by have h1 := HZ.out; have h2 := HB1.out.size; omega⟩
        case measure => simp [intOf]; omega
      · have hhas : Maps.has D (keyL ps[k].name) = false := by rw [(HF.out _).1]; simpa using hmem
        have HFP := Lib.hid (firstsM_put HF.out HO.out.isMap (by omega : idxOf ((ps.map PV.name).take k) ps[k].name < 0))
        clear hmem
        go_wp2_with fail
        refine (HC.out _).mono ?_
        rintro e w1 ⟨rfl, hb1⟩
        have HB1 := Lib.hid (HA.out.trans (hb1.mono HA.out.size))
        have HO1 := Lib.hid (ownsMap_below HO.out HB1.out HZ.out)
        have d0 : w1.cell? ⟨wr.heap.size, 0, none⟩ = some (Value.string ps[k].name) := ((hb1.cell (p := ⟨wr.heap.size, 0, none⟩) (by simp)).trans (World.cell?_alloc_new _ _ _ _))
        have d1 : w1.cell? ⟨wr.heap.size, 1, none⟩ = some (Value.slice ps[k].addr ps[k].zs.length ps[k].cap) := ((hb1.cell (p := ⟨wr.heap.size, 1, none⟩) (by simp)).trans (World.cell?_alloc_new _ _ _ _))
        clear hb1
        go_wp2_with (first | (at_lookup; refine wpList_lookup_own_ok_int _ rfl _ _ 48 rfl 9 3 .i64 lawS Try.underlying48 Try.underlying3 (zeroI _) w.heap.size k _ rfl HO1.out _ _ rfl HK.out ?_; intro cc hat hwc; clear hat hwc) | fail)
        refine (HC.out _).mono ?_
        rintro e w2 ⟨rfl, hb2⟩
        have HB2 := Lib.hid (HB1.out.trans (hb2.mono HB1.out.size))
        have HO2 := Lib.hid (ownsMap_below HO.out HB2.out HZ.out)
        clear hb2
        go_wp2_with (first | (at_mapUpdate; refine wpList_mapUpdate_own _ rfl _ _ _ 48 rfl 9 3 lawS Try.underlying48 (plainElem Try.prog 3) w.heap.size k _ rfl HO2.out (by unfold maxLen; omega) _ _ _ rfl rfl HK.out (.lit (.int .i64 k)) [] (elemI (by omega) (by omega)) ?_; intro w3 hown3 hgrow3) | fail)
        go_roundw
        case rel => exact ⟨k + 1, by omega, by go_num, ⟨_, by rw [HTS.out]; have h := HFP.out; rw [HTL.out] at h; exact h, hown3⟩, (HB.out.trans (HB2.out.mono HB.out.size)).grown hgrow3 (by have h1 := HB.out.size; have h2 := HB2.out.size; omega) (fun j hj => by cases hj; exact Nat.le_refl _), by have h1 := HZ.out; have h2 := HB2.out.size; have h3 := hgrow3.size; omega⟩
        case measure => simp [intOf]; omega
    · obtain rfl : k = ps.length := by omega
      go_wp2
      go_ret
      exact ⟨⟨D, rfl, HZ.out, by have h := HF.out; rw [List.take_of_length_le (by rw [HM.out]; exact Nat.le_refl _)] at h; exact h, HO.out⟩, HB.out⟩

set_option maxRecDepth 20000 in
set_option maxHeartbeats 4000000 in
theorem firstsN_any (A : Option Addr) (c : Nat) (ps : List Nd) (w : World) (hrow : KRow w w.heap.size A ps) (hn : ∀ p ∈ ps, p.name.size ≤ 140737488351232) (hlen : ps.length ≤ 1099511627776) :
    Calls Try.prog 25 #[.slice A ps.length c, .func (.func 26) #[] #[]] w fun e w' => (∃ D, e = .returned (.map (some w.heap.size)) ∧ w.heap.size < w'.heap.size ∧ FirstsM (ps.map Nd.name) D ∧ w'.ownsMap Try.prog 9 (plainElem Try.prog 3) w.heap.size ps.length D) ∧ Below w.heap.size w w' := by
  have hmm := run_makeMap_int
  have HI := Lib.hid hrow
  have HN := Lib.hid hn
  have HM := Lib.hid (show (ps.map Nd.name).length = ps.length from List.length_map _)
  clear hrow hn
  go_enter Try.func25, Try.ntmps25
  go_wp2_with fail
  go_loopw [15] (fun i wr => ∃ k : Nat, k ≤ ps.length ∧ i = .int .i64 k ∧ (∃ D, FirstsM ((ps.map Nd.name).take k) D ∧ wr.ownsMap Try.prog 9 (plainElem Try.prog 3) w.heap.size k D) ∧ Below w.heap.size w wr ∧ w.heap.size < wr.heap.size) (fun i _ => ps.length - (intOf i).toNat)
  case atStart => exact ⟨0, Nat.zero_le _, rfl, ⟨.map [], by rw [List.take_zero]; exact firstsM_zero, World.ownsMap_made _ _ _ _⟩, (Below.refl _ _).alloc (Nat.le_refl _) _, by simp⟩
  case round =>
    obtain ⟨k, hk, rfl, ⟨D, hfm, hown⟩, hb, hz⟩ := hrel
    have HF := Lib.hid hfm
    have HB := Lib.hid hb
    have HO := Lib.hid hown
    have HZ := Lib.hid hz
    clear hfm hb hown hz
    by_cases hlt : k < ps.length
    · obtain ⟨b, o, e, hb, hcc⟩ := (HI.out.keep (fun _ hp => HB.out.cell hp)) (by omega)
      obtain rfl : A = _ := e
      obtain ⟨c0, c1, c2⟩ := hcc k hlt
      replace c0 : _ = some (Value.string ps[k].name) := c0
      replace c1 : _ = some (Value.slice ps[k].pa ps[k].props.length ps[k].pc) := c1
      replace c2 : _ = some (Value.slice ps[k].ka ps[k].kids.length ps[k].kc) := c2
      clear hcc
      have hxm : Hid ((ps.map Nd.name)[k]'(by rw [HM.out]; exact hlt) = ps[k].name) := List.getElem_map _
      have HK := Lib.hid (key_ok (HN.out _ (List.getElem_mem hlt)))
      have HA := Lib.hid (Below.alloc (Below.refl wr.heap.size wr) (Nat.le_refl _) (.cells #[Value.string ps[k].name, .slice ps[k].pa ps[k].props.length ps[k].pc, .slice ps[k].ka ps[k].kids.length ps[k].kc] 25))
      have HC := Lib.hid (mnodeName_any ps[k])
      have HTS : Hid ((ps.map Nd.name).take (k + 1) = (ps.map Nd.name).take k ++ [ps[k].name]) := by
        show (ps.map Nd.name).take (k + 1) = _
        rw [take_snoc (by rw [HM.out]; exact hlt), hxm.out]
      have HTL : Hid (((ps.map Nd.name).take k).length = k) := by
        show ((ps.map Nd.name).take k).length = k
        rw [List.length_take, HM.out]; omega
      by_cases hmem : 0 ≤ idxOf ((ps.map Nd.name).take k) ps[k].name
      · have hhas : Maps.has D (keyL ps[k].name) = true := by rw [(HF.out _).1]; simpa using hmem
        have HFK := Lib.hid (firstsM_keep HF.out hmem)
        clear hmem
        go_wp2_with fail
        refine (HC.out _).mono ?_
        rintro e w1 ⟨rfl, hb1⟩
        have HB1 := Lib.hid (HA.out.trans (hb1.mono HA.out.size))
        have HO1 := Lib.hid (ownsMap_below HO.out HB1.out HZ.out)
        clear hb1
        go_wp2_with (first | (at_lookup; refine wpList_lookup_own_ok_int _ rfl _ _ 48 rfl 9 3 .i64 lawS Try.underlying48 Try.underlying3 (zeroI _) w.heap.size k _ rfl HO1.out _ _ rfl HK.out ?_; intro cc hat hwc; clear hat hwc) | fail)
        go_roundw
        case rel => exact ⟨k + 1, by omega, by go_num, ⟨D, by rw [HTS.out]; exact HFK.out, HO1.out.mono (Nat.le_succ _)⟩, HB.out.trans (HB1.out.mono HB.out.size), by have h1 := HZ.out; have h2 := HB1.out.size; omega⟩
        case measure => simp [intOf]; omega
      · have hhas : Maps.has D (keyL ps[k].name) = false := by rw [(HF.out _).1]; simpa using hmem
        have HFP := Lib.hid (firstsM_put HF.out HO.out.isMap (by omega : idxOf ((ps.map Nd.name).take k) ps[k].name < 0))
        clear hmem
        go_wp2_with fail
        refine (HC.out _).mono ?_
        rintro e w1 ⟨rfl, hb1⟩
        have HB1 := Lib.hid (HA.out.trans (hb1.mono HA.out.size))
        have HO1 := Lib.hid (ownsMap_below HO.out HB1.out HZ.out)
        have d0 : w1.cell? ⟨wr.heap.size, 0, none⟩ = some (Value.string ps[k].name) := ((hb1.cell (p := ⟨wr.heap.size, 0, none⟩) (by simp)).trans (World.cell?_alloc_new _ _ _ _))
        have d1 : w1.cell? ⟨wr.heap.size, 1, none⟩ = some (Value.slice ps[k].pa ps[k].props.length ps[k].pc) := ((hb1.cell (p := ⟨wr.heap.size, 1, none⟩) (by simp)).trans (World.cell?_alloc_new _ _ _ _))
        have d2 : w1.cell? ⟨wr.heap.size, 2, none⟩ = some (Value.slice ps[k].ka ps[k].kids.length ps[k].kc) := ((hb1.cell (p := ⟨wr.heap.size, 2, none⟩) (by simp)).trans (World.cell?_alloc_new _ _ _ _))
        clear hb1
        go_wp2_with (first | (at_lookup; refine wpList_lookup_own_ok_int _ rfl _ _ 48 rfl 9 3 .i64 lawS Try.underlying48 Try.underlying3 (zeroI _) w.heap.size k _ rfl HO1.out _ _ rfl HK.out ?_; intro cc hat hwc; clear hat hwc) | fail)
        refine (HC.out _).mono ?_
        rintro e w2 ⟨rfl, hb2⟩
        have HB2 := Lib.hid (HB1.out.trans (hb2.mono HB1.out.size))
        have HO2 := Lib.hid (ownsMap_below HO.out HB2.out HZ.out)
        clear hb2
        go_wp2_with (first | (at_mapUpdate; refine wpList_mapUpdate_own _ rfl _ _ _ 48 rfl 9 3 lawS Try.underlying48 (plainElem Try.prog 3) w.heap.size k _ rfl HO2.out (by unfold maxLen; omega) _ _ _ rfl rfl HK.out (.lit (.int .i64 k)) [] (elemI (by omega) (by omega)) ?_; intro w3 hown3 hgrow3) | fail)
        go_roundw
        case rel => exact ⟨k + 1, by omega, by go_num, ⟨_, by rw [HTS.out]; have h := HFP.out; rw [HTL.out] at h; exact h, hown3⟩, (HB.out.trans (HB2.out.mono HB.out.size)).grown hgrow3 (by have h1 := HB.out.size; have h2 := HB2.out.size; omega) (fun j hj => by cases hj; exact Nat.le_refl _), by have h1 := HZ.out; have h2 := HB2.out.size; have h3 := hgrow3.size; omega⟩
        case measure => simp [intOf]; omega
    · obtain rfl : k = ps.length := by omega
      go_wp2
      go_ret
      exact ⟨⟨D, rfl, HZ.out, by have h := HF.out; rw [List.take_of_length_le (by rw [HM.out]; exact Nat.le_refl _)] at h; exact h, HO.out⟩, HB.out⟩
end Go.Proofs.Ytfekjihjifimcaa

/-! A node at a place, of the call's own, while properties are laid over it. -/
namespace Go.Proofs.Ytfekjihjifimcaa
open Go.RowKit
set_option linter.unusedVariables false
set_option linter.unusedSimpArgs false

/-- The node n at ⟨pb, o⟩ of w has other properties in W. -/
structure Lay1 (w : World) (pb o : Nat) (t : TypeId) (cur : Array Value) (n : Nd) (F D : Nat → Prop) (W : World) (A' : Option Addr) (c' : Nat) (P' : List PV) (F' D' : Nat → Prop) : Prop where
  own : Own W F' D' (.mk n.name A' c' P' n.ka n.kc n.kids)
  hF : ∀ g, F g → F' g
  hF' : ∀ g, F' g → (F g ∨ w.heap.size ≤ g) ∧ g < W.heap.size
  hD : ∀ g, D g → D' g
  hD' : ∀ g, D' g → (D g ∨ w.heap.size ≤ g) ∧ g < W.heap.size ∧ ¬ F' g
  box : W.heap[pb]? = some (.cells (cur.setIfInBounds (o + 1) (.slice A' P'.length c')) t (0, 0))
  chg : Chg (fun g => F g ∨ g = pb) w W
  pbw : pb < w.heap.size
  pbF : ¬ F pb
  pbD : ¬ D pb
  oin : o + 1 < cur.size
section
variable {w W W2 : World} {pb o c' : Nat} {t : TypeId} {cur : Array Value} {n : Nd} {F D F' D' E : Nat → Prop} {A' : Option Addr} {P' : List PV}
theorem Lay1.pbF' (h : Lay1 w pb o t cur n F D W A' c' P' F' D') : ¬ F' pb := fun e => (h.hF' pb e).1.elim h.pbF (fun e' => by have := h.pbw; omega)
theorem Lay1.pbD' (h : Lay1 w pb o t cur n F D W A' c' P' F' D') : ¬ D' pb := fun e => (h.hD' pb e).1.elim h.pbD (fun e' => by have := h.pbw; omega)
theorem Lay1.start (hown : Own w F D n) (hb : ∀ g, F g → g < w.heap.size) (hdb : ∀ g, D g → g < w.heap.size ∧ ¬ F g) (hbox : w.heap[pb]? = some (.cells cur t (0, 0))) (hc : cur[o + 1]? = some n.pv) (hpF : ¬ F pb) (hpD : ¬ D pb) :
    Lay1 w pb o t cur n F D w n.pa n.pc n.props F D := by
  have ho : o + 1 < cur.size := (Array.getElem?_eq_some_iff.1 hc).1
  refine ⟨by cases n; exact hown, fun _ h => h, fun g h => ⟨.inl h, hb g h⟩, fun _ h => h, fun g h => ⟨.inl h, (hdb g h).1, (hdb g h).2⟩, ?_, Chg.refl _ _, (Array.getElem?_eq_some_iff.1 hbox).1, hpF, hpD, ho⟩
  have : cur.setIfInBounds (o + 1) (.slice n.pa n.props.length n.pc) = cur := by
    apply Array.ext_getElem?
    intro i
    by_cases hi : o + 1 = i
    · subst hi
      rw [Array.getElem?_setIfInBounds_self_of_lt ho, hc]; rfl
    · rw [Array.getElem?_setIfInBounds_ne hi]
  rw [this]
  exact hbox
theorem Lay1.kept (h : Lay1 w pb o t cur n F D W A' c' P' F' D') (hc : Chg E W W2) (hE : ∀ g, E g → w.heap.size ≤ g ∧ ¬ F' g ∧ ¬ D' g) : Lay1 w pb o t cur n F D W2 A' c' P' F' D' :=
  ⟨h.own.chg hc (fun g e e' => (hE g e').2.1 e) (fun g e e' => (hE g e').2.2 e), h.hF, fun g e => ⟨(h.hF' g e).1, Nat.lt_of_lt_of_le (h.hF' g e).2 hc.size⟩, h.hD, fun g e => ⟨(h.hD' g e).1, Nat.lt_of_lt_of_le (h.hD' g e).2.1 hc.size, (h.hD' g e).2.2⟩,
    (hc.block pb (Nat.lt_of_lt_of_le h.pbw h.chg.size) (fun e => by have := (hE pb e).1; have := h.pbw; omega)).trans h.box, h.chg.trans hc (fun g hg e => by have := (hE g e).1; omega), h.pbw, h.pbF, h.pbD, h.oin⟩
theorem Lay1.on (h : Lay1 w pb o t cur n F D W A' c' P' F' D') (hb : Below W.heap.size W W2) : Lay1 w pb o t cur n F D W2 A' c' P' F' D' := h.kept (E := fun _ => False) (Chg.ofBelow hb) (fun _ e => e.elim)
theorem Lay1.cell (h : Lay1 w pb o t cur n F D W A' c' P' F' D') : W.cell? ⟨pb, o + 1, none⟩ = some (.slice A' P'.length c') ∧ W.frozen? ⟨pb, o + 1, none⟩ = false := by
  refine ⟨?_, frozen_of_row W pb _ _ _ h.box⟩
  rw [cell_of_row W pb (o + 1) _ _ _ h.box, Array.getElem?_setIfInBounds_self_of_lt h.oin]
theorem Lay1.caps (h : Lay1 w pb o t cur n F D W A' c' P' F' D') : P'.length ≤ c' ∧ c' ≤ 9223372036854775807 := by
  obtain ⟨_, hp, _⟩ := h.own.parts
  exact ⟨(prow_own hp).2.1, (prow_own hp).2.2.1⟩
/-- The j-th property's place. -/
theorem Lay1.at_ (h : Lay1 w pb o t cur n F D W A' c' P' F' D') {j : Nat} (hj : j < P'.length) : ∃ gp, A' = some ⟨gp, 0, none⟩ ∧ F' gp ∧ gp ≠ pb ∧ gp < W.heap.size ∧ (∀ i, W.frozen? ⟨gp, i, none⟩ = false) ∧ W.cell? ⟨gp, j * 2, none⟩ = some (.string P'[j].name) ∧ W.cell? ⟨gp, j * 2 + 1, none⟩ = some P'[j].val := by
  obtain ⟨_, hp, _, fp, _⟩ := h.own.parts
  replace hp : W.ownsRow 0 32 2 (.slice A' P'.length c') P'.length (P'.flatMap pC) := hp
  obtain ⟨_, _, _, hr⟩ := prow_own hp
  obtain ⟨g, o', e, hg, hc⟩ := hr (by omega)
  have e0 : o' = 0 := by
    rcases hp.2 with ⟨e1, _⟩ | ⟨g1, cap, cur1, e1, _⟩
    · rw [e] at e1; simp at e1
    · rw [e] at e1; simp at e1; omega
  subst e0
  subst e
  have hF := fp g rfl
  obtain ⟨c0, c1⟩ := hc j hj
  rw [Nat.zero_add] at c0 c1
  exact ⟨g, rfl, hF, fun e => h.pbF' (e ▸ hF), hg, fun i => World.ownsRow.frozenAt hp i, c0, c1⟩
/-- A value takes the place of the j-th property's. -/
theorem Lay1.put {W1 : World} (h1 : Lay1 w pb o t cur n F D W1 A' c' P' F' D') (hb : Below W1.heap.size W1 W) {j gp : Nat} (hj : j < P'.length) (hA : A' = some ⟨gp, 0, none⟩) {q : PV} (hq : q.In W W.heap.size) (ha : q.At (fun g => W1.heap.size ≤ g)) (hn : q.name = P'[j].name) :
    Lay1 w pb o t cur n F D (W.setCell ⟨gp, j * 2 + 1, none⟩ q.val) A' c' (P'.set j q) F' (fun g => D' g ∨ (W1.heap.size ≤ g ∧ g < W.heap.size)) := by
  have h := h1.on hb
  subst hA
  obtain ⟨_, hp, _, fp, _, hv, _⟩ := h.own.parts
  replace hp : W.ownsRow 0 32 2 (.slice (some ⟨gp, 0, none⟩) P'.length c') P'.length (P'.flatMap pC) := hp
  have hFg : F' gp := fp gp rfl
  have hgp : gp ≠ pb := fun e => h.pbF' (e ▸ hFg)
  obtain ⟨o1, g1⟩ := hp.stored (j * 2 + 1) q.val
  rw [pC_set1 P' j hj q hn] at o1
  have hc : Chg (fun g => g = gp) W (W.setCell ⟨gp, j * 2 + 1, none⟩ q.val) := Chg.ofGrown g1 (fun g e => by injection e with e; exact e.symm)
  have ng : ∀ g, (D' g ∨ (W1.heap.size ≤ g ∧ g < W.heap.size)) → ¬ g = gp := fun g e e' => by
    subst e'
    rcases e with e | e
    · exact (h.hD' g e).2.2 hFg
    · have := (h1.hF' g hFg).2
      omega
  have hq2 : q.At (fun g => D' g ∨ (W1.heap.size ≤ g ∧ g < W.heap.size)) := (PV.At.lows hq ha).mono' (fun g e => .inr e)
  have hs := h1.chg.size
  refine ⟨?_, h.hF, fun g e => ⟨(h.hF' g e).1, Nat.lt_of_lt_of_le (h.hF' g e).2 hc.size⟩, fun g e => .inl (h.hD g e), fun g e => ⟨?_, ?_, fun e' => ?_⟩, ?_, h.chg.trans hc (fun g hg e => ?_), h.pbw, h.pbF, h.pbD, h.oin⟩
  · have l : (P'.set j q).length = P'.length := List.length_set
    refine h.own.props (E := fun g => g = gp) (fun g e => (h.hF' g e).2) hc (fun g e => ⟨fun e' => ng g (.inl e') e, fun _ => by rw [e]; rfl⟩) (by rw [l]; exact o1) (fun g e => ?_) (fun p hp' => ?_) (fun _ e => e) (fun _ e => .inl e)
    · have e' : gp = g := by simpa [Value.ownBlock] using e
      subst e'
      exact ⟨hFg, .inl rfl⟩
    · rcases List.mem_or_eq_of_mem_set hp' with hm | rfl
      · exact ⟨(hv p hm).1.chg (hv p hm).2 hc (fun g e => ng g (.inl e)), (hv p hm).2.mono' (fun _ e => .inl e)⟩
      · exact ⟨hq.chg hq2 hc ng, hq2⟩
  · rcases e with e | e
    · exact (h.hD' g e).1
    · exact .inr (by omega)
  · have := hc.size
    rcases e with e | e
    · have := (h.hD' g e).2.1; omega
    · omega
  · rcases e with e | e
    · exact (h.hD' g e).2.2 e'
    · have := (h1.hF' g e').2; omega
  · rw [List.length_set]
    exact (hc.block pb (Nat.lt_of_lt_of_le h.pbw h.chg.size) (fun e => hgp e.symm)).trans h.box
  · subst e
    rcases (h.hF' g hFg).1 with e' | e'
    · exact .inl e'
    · omega
/-- A new property comes behind the others. -/
theorem Lay1.app (h : Lay1 w pb o t cur n F D W A' c' P' F' D') (nm : ByteArray) (hnm : nm.size ≤ 140737488351232) (hbig : P'.length ≤ 1099511627776) (ty : TypeId) :
    ∃ g' c'' w2, (Builtin.append_ #[22, 22] ty #[.slice A' P'.length c', .slice (some ⟨W.heap.size, 0, none⟩) 1 1]).run Try.prog (W.alloc (.cells #[.string nm, .slice none 0 0] 32)) = .ok (.slice (some ⟨g', 0, none⟩) (P'.length + 1) c'') w2 ∧
      Chg F' W w2 ∧ w2.cell? ⟨pb, o + 1, none⟩ = some (.slice A' P'.length c') ∧ w2.frozen? ⟨pb, o + 1, none⟩ = false ∧
      Lay1 w pb o t cur n F D (w2.setCell ⟨pb, o + 1, none⟩ (.slice (some ⟨g', 0, none⟩) (P'.length + 1) c'')) (some ⟨g', 0, none⟩) c'' (P' ++ [⟨nm, none, 0, []⟩]) (fun g => F' g ∨ g = g') D' ∧ (F' g' ∨ g' = W.heap.size + 1) := by
  obtain ⟨i0, hi0, hz0, hz1, hz2⟩ := info_any info_prop
  obtain ⟨_, hp, _, fp, fk, hv, _⟩ := h.own.parts
  replace hp : W.ownsRow 0 32 2 (.slice A' P'.length c') P'.length (P'.flatMap pC) := hp
  have hr : W.ownsRow 0 32 2 (.slice A' P'.length c') P'.length (flat2 (P'.map (fun p : PV => (Value.string p.name, p.val)))) := by rw [flat_pr2]; exact hp
  obtain ⟨A2, c'', w2, run, o2, b2, g2, e2⟩ := app_pair Try.underlying22 hi0 hz0 hz1 hz2 rfl hr (.string nm, .slice none 0 0) rfl rfl (by omega) (by omega) (Nat.zero_le _) ty
  obtain ⟨g', cp, ef⟩ := Joins.ownsRow_form o2 (Nat.succ_pos _)
  simp only [Value.slice.injEq, true_and] at ef
  obtain ⟨rfl, rfl⟩ := ef
  rw [show (P'.map (fun p : PV => (Value.string p.name, p.val)) ++ [(.string nm, .slice none 0 0)]) = (P' ++ [(⟨nm, none, 0, []⟩ : PV)]).map (fun p : PV => (Value.string p.name, p.val)) by rw [List.map_append]; rfl, flat_pr2] at o2
  have e3 : F' g' ∨ g' = W.heap.size + 1 := by
    rcases e2 with e | e
    · exact .inl (fp g' (by show (Value.slice A' P'.length c').ownBlock = _; rw [← e]; rfl))
    · exact .inr (by simpa [Value.ownBlock] using e)
  have e4 : (Value.slice A' P'.length c').ownBlock = some g' ∨ W.heap.size ≤ g' := by
    rcases e2 with e | e
    · exact .inl (by rw [← e]; rfl)
    · exact .inr (by have : g' = W.heap.size + 1 := by simpa [Value.ownBlock] using e
                     omega)
  have hgp : g' ≠ pb := fun e => by
    rcases e3 with e' | e'
    · exact h.pbF' (e ▸ e')
    · have := h.pbw; have := h.chg.size; omega
  have g2s : g' < w2.heap.size := (o2.lt g' rfl).2
  have c2 : Chg F' W w2 := Chg.ofGrown g2 (fun g e => fp g e)
  have pbW : pb < W.heap.size := Nat.lt_of_lt_of_le h.pbw h.chg.size
  have box2 := (c2.block pb pbW h.pbF').trans h.box
  have box3 := heap_setCell_same w2 pb (o + 1) _ _ (.slice (some ⟨g', 0, none⟩) (P'.length + 1) c'') box2
  have c3 : Chg (fun g => (Value.slice A' P'.length c').ownBlock = some g ∨ g = pb) W (w2.setCell ⟨pb, o + 1, none⟩ (.slice (some ⟨g', 0, none⟩) (P'.length + 1) c'')) := (Chg.ofGrown g2 (fun g e => .inl e)).setCell (.inl (.inr rfl)) _
  have zin : ∀ V : World, (⟨nm, none, 0, []⟩ : PV).In V V.heap.size := fun V => ⟨⟨hnm, by simp⟩, Shows.nil _ _, Nat.le_refl _, by simp⟩
  have zat : ∀ E : Nat → Prop, (⟨nm, none, 0, []⟩ : PV).At E := fun E h0 => absurd h0 (by simp)
  refine ⟨g', c'', w2, run, c2, by rw [cell_of_row w2 pb _ _ _ (0, 0) box2, Array.getElem?_setIfInBounds_self_of_lt h.oin], frozen_of_row w2 pb _ _ _ box2, ⟨?_, fun g e => .inl (h.hF g e), fun g e => ?_, h.hD, fun g e => ⟨(h.hD' g e).1, Nat.lt_of_lt_of_le (h.hD' g e).2.1 c3.size, fun e' => ?_⟩, ?_, h.chg.trans c3 (fun g hg e => ?_), h.pbw, h.pbF, h.pbD, h.oin⟩, e3⟩
  · have l : (P' ++ [(⟨nm, none, 0, []⟩ : PV)]).length = P'.length + 1 := by simp
    refine h.own.props (fun g e => (h.hF' g e).2) c3 (fun g e => ⟨fun e' => ?_, fun e' => ?_⟩) (by
      rw [l]
      exact own_same o2 (fun g e => heap_setCell_other _ _ _ _ (fun e' => hgp (by
        have : g' = g := by simpa [Value.ownBlock] using e
        rw [this, e'])))) (fun g e => ?_) (fun p hp' => ?_) (fun _ e => .inl e) (fun _ e => e)
    · rcases e with e | rfl
      · exact (h.hD' g e').2.2 (fp g e)
      · exact h.pbD' e'
    · rcases e with e | rfl
      · exact e
      · exact absurd e' h.pbF'
    · have : g' = g := by simpa [Value.ownBlock] using e
      subst this
      exact ⟨.inr rfl, e4⟩
    · rcases List.mem_append.1 hp' with hm | hm
      · exact ⟨(hv p hm).1.chg (hv p hm).2 c3 (fun g e e' => by
          rcases e' with e' | rfl
          · exact (h.hD' g e).2.2 (fp g e')
          · exact h.pbD' e), (hv p hm).2⟩
      · rw [List.mem_singleton.1 hm]
        exact ⟨zin _, zat _⟩
  · rcases e with e | rfl
    · exact ⟨(h.hF' g e).1, Nat.lt_of_lt_of_le (h.hF' g e).2 c3.size⟩
    · refine ⟨?_, by simpa using g2s⟩
      rcases e3 with e' | e'
      · exact (h.hF' g e').1
      · have := h.chg.size; exact .inr (by omega)
  · rcases e' with e' | rfl
    · exact (h.hD' g e).2.2 e'
    · rcases e3 with e' | e'
      · exact (h.hD' g e).2.2 e'
      · have := (h.hD' g e).2.1; omega
  · rw [box3, Array.setIfInBounds_setIfInBounds, List.length_append]
    rfl
  · rcases e with e | e
    · rcases (h.hF' g (fp g e)).1 with e' | e'
      · exact .inl e'
      · omega
    · exact .inr e
end
end Go.Proofs.Ytfekjihjifimcaa
