/-
  Base, part 3: what the proofs of this claim lean on.
-/
import Derived.Test.YtfekjihjifimcaaBase2
import Derived.Test.YtfekjihjifimcaaBase1

/-! Layer 10: a node that is being made: a property, or a node right below it, takes another one's place, or comes behind (written by mkmops.py). -/
namespace Go.Proofs.Ytfekjihjifimcaa
open Go.RowKit
set_option linter.unusedVariables false
set_option linter.unusedSimpArgs false

theorem _root_.Go.World.grownBy.thenG {w w1 w2 : World} {r : Option Nat} (h : w.grownBy w1 r) (k : w1.grownBy w2 r) : w.grownBy w2 r :=
  ⟨k.os.trans h.os, k.tape.trans h.tape, k.output.trans h.output, Nat.le_trans h.size k.size, fun b hb hne => (k.block b (Nat.lt_of_lt_of_le hb h.size) hne).trans (h.block b hb hne)⟩
section
variable {W0 w w' : World} {B go : Nat} {D : Nat → Prop} {nm : ByteArray} {pv kv : Value} {P : List PV} {K : List Nd}

/-! ### Prop -/
theorem flat_set2 : ∀ (P : List PV) (k : Nat) (hk : k < P.length) (p : PV), ((P.flatMap pC).set (k * 2) (.string p.name)).set (k * 2 + 1) p.val = (P.set k p).flatMap pC
  | x :: r, 0, _, p => by simp [pC]
  | x :: r, k + 1, hk, p => by
    have ih := flat_set2 r k (by simpa using hk) p
    rw [List.set_cons_succ, List.flatMap_cons, List.flatMap_cons, ← ih]
    have e : (k + 1) * 2 = k * 2 + 2 := by omega
    rw [e]
    rfl
theorem flat_pr2 (P : List PV) : flat2 (P.map (fun p : PV => (Value.string p.name, p.val))) = P.flatMap pC := by
  unfold flat2
  rw [List.flatMap_map]
  rfl
theorem MS.atProp (h : MS W0 w B go D nm pv kv P K) {k : Nat} (hk : k < P.length) (p : PV) (hp : p.In w w.heap.size) (ha : p.At (FreeM D B go pv kv)) :
    ∃ g c, pv = .slice (some ⟨g, 0, none⟩) P.length c ∧ (∀ j, w.frozen? ⟨g, j, none⟩ = false) ∧ (w.cell? ⟨g, k * 2, none⟩ = some (.string P[k].name) ∧ w.cell? ⟨g, k * 2 + 1, none⟩ = some P[k].val) ∧ c ≤ 9223372036854775807 ∧ P.length ≤ c ∧
      MS W0 ((w.setCell ⟨g, k * 2, none⟩ (.string p.name)).setCell ⟨g, k * 2 + 1, none⟩ p.val) B go D nm pv kv (P.set k p) K := by
  obtain ⟨g, c, e⟩ := h.pform
  have hr := h.prow
  rw [e] at hr
  have hob : pv.ownBlock = some g := by rw [e]; rfl
  have hlt := h.prow.lt g hob
  obtain ⟨o1, g1⟩ := hr.stored (k * 2) (.string p.name)
  obtain ⟨o2, g2⟩ := o1.stored (k * 2 + 1) p.val
  rw [flat_set2 P k hk p] at o2
  have hg : w.grownBy ((w.setCell ⟨g, k * 2, none⟩ (.string p.name)).setCell ⟨g, k * 2 + 1, none⟩ p.val) (some g) := (g1.thenG g2)
  clear g1 g2
  have cells := hr.cells (g := g) rfl
  have c0 := cells (k * 2) (.string P[k].name) (flat_at pC_len P k 0 hk (by omega))
  rw [addr_add, Nat.zero_add] at c0
  have c1 := cells (k * 2 + 1) P[k].val (flat_at pC_len P k 1 hk (by omega))
  rw [addr_add, Nat.zero_add] at c1
  have hcc : P.length ≤ c ∧ c ≤ 9223372036854775807 := by
    rcases hr.2 with ⟨e', _⟩ | ⟨_, cp, cur, e', _, _, h1, h2, _⟩
    · cases e'
    · simp only [Value.slice.injEq, true_and] at e'
      obtain ⟨_, rfl⟩ := e'
      exact ⟨h1, h2⟩
  have nf : ∀ q, some g = some q → ¬ FreeM D B go pv kv q := fun q hq hf => by
    injection hq with hq
    subst hq
    exact hf.2.1 hob
  refine ⟨g, c, e, fun j => hr.frozenAt j, ⟨c0, c1⟩, hcc.2, hcc.1, h.below.grown hg h.size (fun q hq => by injection hq with hq; subst hq; exact hlt.1), h.lo, (hg.block go h.golt (fun e' => h.pgo (by rw [hob, e']))).trans h.box, (by rw [List.length_set, e]; exact o2), h.krow.kept hg (.inr (h.pk g hob)), (by rw [List.length_set]; exact h.pform), h.kform, h.pgo, h.kgo, h.pk, fun q hq => ?_, fun q hq => ?_⟩
  · rcases List.mem_or_eq_of_mem_set hq with hq | rfl
    · exact ⟨PV.In.grown hg nf (h.props q hq).1 (h.props q hq).2, (h.props q hq).2⟩
    · exact ⟨PV.In.grown hg nf hp ha, ha⟩
  · exact ⟨Nd.In.grown hg nf (h.kids q hq).1 (h.kids q hq).2, (h.kids q hq).2⟩
theorem MS.appProp (h : MS W0 w B go D nm pv kv P K) (p : PV) (hp : p.In w w.heap.size) (ha : p.At (FreeM D B go pv kv)) (hbig : P.length ≤ 1099511627776) (ty : TypeId) :
    ∃ g' c' w2, (Builtin.append_ #[22, 22] ty #[pv, .slice (some ⟨w.heap.size, 0, none⟩) 1 1]).run Try.prog (w.alloc (.cells #[.string p.name, p.val] 32)) = .ok (.slice (some ⟨g', 0, none⟩) (P.length + 1) c') w2 ∧
      w2.cell? ⟨go, 1, none⟩ = some pv ∧ w2.frozen? ⟨go, 1, none⟩ = false ∧ Below B w w2 ∧ MS W0 (w2.setCell ⟨go, 1, none⟩ (.slice (some ⟨g', 0, none⟩) (P.length + 1) c')) B go D nm (.slice (some ⟨g', 0, none⟩) (P.length + 1) c') kv (P ++ [p]) K := by
  obtain ⟨i0, hi0, hz0, hz1, hz2⟩ := info_any info_prop
  have hr : w.ownsRow B 32 2 pv P.length (flat2 (P.map (fun p : PV => (Value.string p.name, p.val)))) := by rw [flat_pr2]; exact h.prow
  obtain ⟨A', c', w2, run, o2, b2, g2, e2⟩ := app_pair Try.underlying22 hi0 hz0 hz1 hz2 rfl hr (.string p.name, p.val) rfl rfl (by omega) (by omega) h.size ty
  obtain ⟨g', cp, ef⟩ := Joins.ownsRow_form o2 (Nat.succ_pos _)
  simp only [Value.slice.injEq, true_and] at ef
  obtain ⟨rfl, rfl⟩ := ef
  rw [show (P.map (fun p : PV => (Value.string p.name, p.val)) ++ [(.string p.name, p.val)]) = (P ++ [p]).map (fun p : PV => (Value.string p.name, p.val)) by rw [List.map_append]; rfl, flat_pr2] at o2
  have hgo := h.golt
  have e3 : some g' = pv.ownBlock ∨ g' = w.heap.size + 1 := by
    rcases e2 with e | e
    · exact .inl e
    · exact .inr (by simpa [Value.ownBlock] using e)
  have lt : ∀ q, pv.ownBlock = some q → q < w.heap.size := fun q hq => (h.prow.lt q hq).2
  have lk : ∀ q, kv.ownBlock = some q → q < w.heap.size := fun q hq => (h.krow.lt q hq).2
  have n1 : some g' ≠ some go := fun e => by
    rcases e3 with e' | e'
    · exact h.pgo (e'.symm.trans e)
    · injection e with e; omega
  have box2 := (g2.block go hgo (fun e => h.pgo e.symm)).trans h.box
  have box3 := heap_setCell_same w2 go 1 _ _ (.slice (some ⟨g', 0, none⟩) (P.length + 1) c') box2
  have hgo2 : go < w2.heap.size := Nat.lt_of_lt_of_le hgo g2.size
  have g3 : w2.grownBy (w2.setCell ⟨go, 1, none⟩ (.slice (some ⟨g', 0, none⟩) (P.length + 1) c')) (some go) := ⟨rfl, rfl, rfl, by simp, fun k _ hk => heap_setCell_other w2 ⟨go, 1, none⟩ k _ (fun e => hk (by simp [e]))⟩
  have nf2 : ∀ q, pv.ownBlock = some q → ¬ FreeM D B go pv kv q := fun q hq hf => hf.2.1 hq
  have nf3 : ∀ q, some go = some q → ¬ FreeM D B go pv kv q := fun q hq hf => by injection hq with hq; exact hf.1 hq.symm
  have fr : ∀ q, FreeM D B go pv kv q ∧ q < w.heap.size → FreeM D B go (.slice (some ⟨g', 0, none⟩) (P.length + 1) c') kv q := fun q ⟨hf, hq⟩ => ⟨hf.1, fun e => (by
    rcases e3 with e' | e'
    · exact hf.2.1 (e'.symm.trans e)
    · have : g' = q := by simpa [Value.ownBlock] using e
      omega), hf.2.2⟩
  refine ⟨g', c', w2, run, (by rw [cell_of_row w2 go _ _ _ (0, 0) box2]; rfl), frozen_of_row w2 go _ _ _ box2, b2, ((h.below.trans b2).setCell (p := ⟨go, 1, none⟩) h.lo _), h.lo, box3, (by rw [List.length_append]; exact o2.kept g3 (.inr (fun e => n1 (by simpa [Value.ownBlock] using e)))), (h.krow.kept g2 (by cases hv : kv.ownBlock with
    | none => exact .inl rfl
    | some q => exact .inr (fun e => h.pk q e.symm hv))).kept g3 (.inr h.kgo), ⟨g', c', by rw [List.length_append]; rfl⟩, h.kform, (fun e => n1 (by simpa [Value.ownBlock] using e)), h.kgo, (fun q hq hk => by
    have hq' : g' = q := by simpa [Value.ownBlock] using hq
    subst hq'
    rcases e3 with e' | e'
    · exact h.pk _ e'.symm hk
    · have := lk _ hk; omega), fun q hq => ?_, fun q hq => ?_⟩
  · have hq2 : q.In w w.heap.size ∧ q.At (FreeM D B go pv kv) := by
      rcases List.mem_append.1 hq with hq | hq
      · exact h.props q hq
      · rw [List.mem_singleton.1 hq]; exact ⟨hp, ha⟩
    exact ⟨PV.In.grown g3 nf3 (PV.In.grown g2 nf2 hq2.1 hq2.2) hq2.2, PV.At.mono (PV.At.lows hq2.1 hq2.2) fr⟩
  · exact ⟨Nd.In.grown g3 nf3 (Nd.In.grown g2 nf2 (h.kids q hq).1 (h.kids q hq).2) (h.kids q hq).2, Nd.At.mono fr (Nd.At.lows (h.kids q hq).1 (h.kids q hq).2)⟩

/-! ### Kid -/
theorem flat_set3 : ∀ (K : List Nd) (k : Nat) (hk : k < K.length) (p : Nd), (((K.flatMap kC).set (k * 3) (.string p.name)).set (k * 3 + 1) p.pv).set (k * 3 + 2) p.kv = (K.set k p).flatMap kC
  | x :: r, 0, _, p => by simp [kC]
  | x :: r, k + 1, hk, p => by
    have ih := flat_set3 r k (by simpa using hk) p
    rw [List.set_cons_succ, List.flatMap_cons, List.flatMap_cons, ← ih]
    have e : (k + 1) * 3 = k * 3 + 3 := by omega
    rw [e]
    rfl
theorem flat_pr3 (K : List Nd) : flatT (K.map (fun k : Nd => (Value.string k.name, k.pv, k.kv))) = K.flatMap kC := by
  unfold flatT
  rw [List.flatMap_map]
  rfl
theorem MS.atKid (h : MS W0 w B go D nm pv kv P K) {k : Nat} (hk : k < K.length) (p : Nd) (hp : p.In w w.heap.size) (ha : p.At (FreeM D B go pv kv)) :
    ∃ g c, kv = .slice (some ⟨g, 0, none⟩) K.length c ∧ (∀ j, w.frozen? ⟨g, j, none⟩ = false) ∧ (w.cell? ⟨g, k * 3, none⟩ = some (.string K[k].name) ∧ w.cell? ⟨g, k * 3 + 1, none⟩ = some K[k].pv ∧ w.cell? ⟨g, k * 3 + 2, none⟩ = some K[k].kv) ∧ c ≤ 9223372036854775807 ∧ K.length ≤ c ∧
      MS W0 (((w.setCell ⟨g, k * 3, none⟩ (.string p.name)).setCell ⟨g, k * 3 + 1, none⟩ p.pv).setCell ⟨g, k * 3 + 2, none⟩ p.kv) B go D nm pv kv P (K.set k p) := by
  obtain ⟨g, c, e⟩ := h.kform
  have hr := h.krow
  rw [e] at hr
  have hob : kv.ownBlock = some g := by rw [e]; rfl
  have hlt := h.krow.lt g hob
  obtain ⟨o1, g1⟩ := hr.stored (k * 3) (.string p.name)
  obtain ⟨o2, g2⟩ := o1.stored (k * 3 + 1) p.pv
  obtain ⟨o3, g3⟩ := o2.stored (k * 3 + 2) p.kv
  rw [flat_set3 K k hk p] at o3
  have hg : w.grownBy (((w.setCell ⟨g, k * 3, none⟩ (.string p.name)).setCell ⟨g, k * 3 + 1, none⟩ p.pv).setCell ⟨g, k * 3 + 2, none⟩ p.kv) (some g) := ((g1.thenG g2).thenG g3)
  clear g1 g2 g3
  have cells := hr.cells (g := g) rfl
  have c0 := cells (k * 3) (.string K[k].name) (flat_at kC_len K k 0 hk (by omega))
  rw [addr_add, Nat.zero_add] at c0
  have c1 := cells (k * 3 + 1) K[k].pv (flat_at kC_len K k 1 hk (by omega))
  rw [addr_add, Nat.zero_add] at c1
  have c2 := cells (k * 3 + 2) K[k].kv (flat_at kC_len K k 2 hk (by omega))
  rw [addr_add, Nat.zero_add] at c2
  have hcc : K.length ≤ c ∧ c ≤ 9223372036854775807 := by
    rcases hr.2 with ⟨e', _⟩ | ⟨_, cp, cur, e', _, _, h1, h2, _⟩
    · cases e'
    · simp only [Value.slice.injEq, true_and] at e'
      obtain ⟨_, rfl⟩ := e'
      exact ⟨h1, h2⟩
  have nf : ∀ q, some g = some q → ¬ FreeM D B go pv kv q := fun q hq hf => by
    injection hq with hq
    subst hq
    exact hf.2.2.1 hob
  refine ⟨g, c, e, fun j => hr.frozenAt j, ⟨c0, c1, c2⟩, hcc.2, hcc.1, h.below.grown hg h.size (fun q hq => by injection hq with hq; subst hq; exact hlt.1), h.lo, (hg.block go h.golt (fun e' => h.kgo (by rw [hob, e']))).trans h.box, h.prow.kept hg (.inr (fun e' => h.pk g e' hob)), (by rw [List.length_set, e]; exact o3), h.pform, (by rw [List.length_set]; exact h.kform), h.pgo, h.kgo, h.pk, fun q hq => ?_, fun q hq => ?_⟩
  · exact ⟨PV.In.grown hg nf (h.props q hq).1 (h.props q hq).2, (h.props q hq).2⟩
  · rcases List.mem_or_eq_of_mem_set hq with hq | rfl
    · exact ⟨Nd.In.grown hg nf (h.kids q hq).1 (h.kids q hq).2, (h.kids q hq).2⟩
    · exact ⟨Nd.In.grown hg nf hp ha, ha⟩
theorem MS.appKid (h : MS W0 w B go D nm pv kv P K) (p : Nd) (hp : p.In w w.heap.size) (ha : p.At (FreeM D B go pv kv)) (hbig : K.length ≤ 1099511627776) (ty : TypeId) :
    ∃ g' c' w2, (Builtin.append_ #[23, 23] ty #[kv, .slice (some ⟨w.heap.size, 0, none⟩) 1 1]).run Try.prog (w.alloc (.cells #[.string p.name, p.pv, p.kv] 25)) = .ok (.slice (some ⟨g', 0, none⟩) (K.length + 1) c') w2 ∧
      w2.cell? ⟨go, 2, none⟩ = some kv ∧ w2.frozen? ⟨go, 2, none⟩ = false ∧ Below B w w2 ∧ MS W0 (w2.setCell ⟨go, 2, none⟩ (.slice (some ⟨g', 0, none⟩) (K.length + 1) c')) B go D nm pv (.slice (some ⟨g', 0, none⟩) (K.length + 1) c') P (K ++ [p]) := by
  obtain ⟨i0, hi0, hz0, hz1, hz2⟩ := info_any info_node
  have hr : w.ownsRow B 25 3 kv K.length (flatT (K.map (fun k : Nd => (Value.string k.name, k.pv, k.kv)))) := by rw [flat_pr3]; exact h.krow
  obtain ⟨A', c', w2, run, o2, b2, g2, e2⟩ := app_triple Try.underlying23 hi0 hz0 hz1 hz2 rfl hr (.string p.name, p.pv, p.kv) rfl rfl rfl (by omega) (by omega) h.size ty
  obtain ⟨g', cp, ef⟩ := Joins.ownsRow_form o2 (Nat.succ_pos _)
  simp only [Value.slice.injEq, true_and] at ef
  obtain ⟨rfl, rfl⟩ := ef
  rw [show (K.map (fun k : Nd => (Value.string k.name, k.pv, k.kv)) ++ [(.string p.name, p.pv, p.kv)]) = (K ++ [p]).map (fun k : Nd => (Value.string k.name, k.pv, k.kv)) by rw [List.map_append]; rfl, flat_pr3] at o2
  have hgo := h.golt
  have e3 : some g' = kv.ownBlock ∨ g' = w.heap.size + 1 := by
    rcases e2 with e | e
    · exact .inl e
    · exact .inr (by simpa [Value.ownBlock] using e)
  have lt : ∀ q, pv.ownBlock = some q → q < w.heap.size := fun q hq => (h.prow.lt q hq).2
  have lk : ∀ q, kv.ownBlock = some q → q < w.heap.size := fun q hq => (h.krow.lt q hq).2
  have n1 : some g' ≠ some go := fun e => by
    rcases e3 with e' | e'
    · exact h.kgo (e'.symm.trans e)
    · injection e with e; omega
  have box2 := (g2.block go hgo (fun e => h.kgo e.symm)).trans h.box
  have box3 := heap_setCell_same w2 go 2 _ _ (.slice (some ⟨g', 0, none⟩) (K.length + 1) c') box2
  have hgo2 : go < w2.heap.size := Nat.lt_of_lt_of_le hgo g2.size
  have g3 : w2.grownBy (w2.setCell ⟨go, 2, none⟩ (.slice (some ⟨g', 0, none⟩) (K.length + 1) c')) (some go) := ⟨rfl, rfl, rfl, by simp, fun k _ hk => heap_setCell_other w2 ⟨go, 2, none⟩ k _ (fun e => hk (by simp [e]))⟩
  have nf2 : ∀ q, kv.ownBlock = some q → ¬ FreeM D B go pv kv q := fun q hq hf => hf.2.2.1 hq
  have nf3 : ∀ q, some go = some q → ¬ FreeM D B go pv kv q := fun q hq hf => by injection hq with hq; exact hf.1 hq.symm
  have fr : ∀ q, FreeM D B go pv kv q ∧ q < w.heap.size → FreeM D B go pv (.slice (some ⟨g', 0, none⟩) (K.length + 1) c') q := fun q ⟨hf, hq⟩ => ⟨hf.1, hf.2.1, fun e => (by
    rcases e3 with e' | e'
    · exact hf.2.2.1 (e'.symm.trans e)
    · have : g' = q := by simpa [Value.ownBlock] using e
      omega), hf.2.2.2⟩
  refine ⟨g', c', w2, run, (by rw [cell_of_row w2 go _ _ _ (0, 0) box2]; rfl), frozen_of_row w2 go _ _ _ box2, b2, ((h.below.trans b2).setCell (p := ⟨go, 2, none⟩) h.lo _), h.lo, box3, (h.prow.kept g2 (by cases hv : pv.ownBlock with
    | none => exact .inl rfl
    | some q => exact .inr (fun e => h.pk q hv e.symm))).kept g3 (.inr h.pgo), (by rw [List.length_append]; exact o2.kept g3 (.inr (fun e => n1 (by simpa [Value.ownBlock] using e)))), h.pform, ⟨g', c', by rw [List.length_append]; rfl⟩, h.pgo, (fun e => n1 (by simpa [Value.ownBlock] using e)), (fun q hq hk => by
    have hq' : g' = q := by simpa [Value.ownBlock] using hk
    subst hq'
    rcases e3 with e' | e'
    · exact h.pk _ hq e'.symm
    · have := lt _ hq; omega), fun q hq => ?_, fun q hq => ?_⟩
  · exact ⟨PV.In.grown g3 nf3 (PV.In.grown g2 nf2 (h.props q hq).1 (h.props q hq).2) (h.props q hq).2, PV.At.mono (PV.At.lows (h.props q hq).1 (h.props q hq).2) fr⟩
  · have hq2 : q.In w w.heap.size ∧ q.At (FreeM D B go pv kv) := by
      rcases List.mem_append.1 hq with hq | hq
      · exact h.kids q hq
      · rw [List.mem_singleton.1 hq]; exact ⟨hp, ha⟩
    exact ⟨Nd.In.grown g3 nf3 (Nd.In.grown g2 nf2 hq2.1 hq2.2) hq2.2, Nd.At.mono fr (Nd.At.lows hq2.1 hq2.2)⟩
end
end Go.Proofs.Ytfekjihjifimcaa

/-! Layer 10: the document's Merge begins: two empty rows, what is there put behind each, and a block for the node, in whatever order. -/
namespace Go.Proofs.Ytfekjihjifimcaa
open Go.RowKit
set_option linter.unusedVariables false
set_option linter.unusedSimpArgs false

/-- An empty row that the call has made. -/
def EmptyT (W : World) (B : Nat) (e : TypeId) (sz : Nat) (u : Value) : Prop := ∃ g, u = .slice (some ⟨g, 0, none⟩) 0 0 ∧ W.ownsRow B e sz u 0 []
theorem EmptyT.new (W : World) (B sz : Nat) (hB : B ≤ W.heap.size) (e : TypeId) : EmptyT (W.alloc (.cells #[] e)) B e sz (.slice (some ⟨W.heap.size, 0, none⟩) 0 0) :=
  ⟨_, rfl, World.ownsRow_made W #[] 0 hB (Nat.zero_le _) (by simp)⟩
theorem EmptyT.on {W W' : World} {B sz : Nat} {e : TypeId} {u : Value} (h : EmptyT W B e sz u) (hb : Below W.heap.size W W') : EmptyT W' B e sz u := by
  obtain ⟨g, e1, h⟩ := h
  exact ⟨g, e1, own_on h hb⟩
/-- append onto an empty row. -/
theorem run_append_emptyT {W : World} {B sz bytes : Nat} {t e : TypeId} {u : Value} {i0 : TypeInfo} {z : Value} (ht : Try.prog.underlying t = some (.slice e)) (hi : Try.prog.info? e = some i0) (hz : i0.zero = some z) (hs1 : i0.size = sz) (hby : i0.bytes = bytes) (hzs : z.cells.size = sz) (hb8 : bytes ≤ 64)
    (h : EmptyT W B e sz u) (hB : B ≤ W.heap.size) (A : Option Addr) (m c : Nat) (news : List Value) (hl : news.length = m * sz) (hc : 0 < m → ∃ b o, A = some ⟨b, o, none⟩ ∧ ∀ j v, news[j]? = some v → W.cell? ⟨b, o + j, none⟩ = some v) (hm : m ≤ 1099511627776) (ty : TypeId) :
    ∃ g c' W', (Builtin.append_ #[t, t] ty #[u, .slice A m c]).run Try.prog W = .ok (.slice (some ⟨g, 0, none⟩) m c') W' ∧ W'.ownsRow B e sz (.slice (some ⟨g, 0, none⟩) m c') m news ∧ Below W.heap.size W W' ∧ (u.ownBlock = some g ∨ g = W.heap.size) := by
  obtain ⟨g, rfl, hown⟩ := h
  rcases Nat.eq_zero_or_pos m with rfl | h0
  · obtain rfl : news = [] := List.eq_nil_of_length_eq_zero (by simpa using hl)
    refine ⟨g, 0, W, ?_, hown, Below.refl _ _, .inl rfl⟩
    rcases A with _ | ad
    · simp [Builtin.append_, run_underlying ht, sizeOf, typeInfo, hi, Builtin.lenOf, Builtin.firstCells, storeCells]
    · have hf := run_firstCells_some (P := Try.prog) W i0.size 0 ad 0 c [] (by simp) (by simp)
      simp [Builtin.append_, run_underlying ht, sizeOf, typeInfo, hi, Builtin.lenOf, hf, storeCells]
  · obtain ⟨b, o, rfl, hcell⟩ := hc h0
    have hr := run_append_grow (P := Try.prog) W t ty e i0 z ht hi hz ⟨g, 0, none⟩ 0 0 [] (by simp) (by simp) ⟨b, o, none⟩ m c news (by rw [hs1]; exact hl) (fun j u hu => by rw [addr_add]; exact hcell j u hu) (by omega) (by omega) (by
        rw [hby]
        exact growslice_fits (by omega) (by rw [Nat.zero_add]; have := Nat.mul_le_mul hm hb8; omega))
    have hge := grownCap_ge W (0 + m) 0 e
    have hcm : grownCap W (0 + m) 0 e ≤ maxLen := grownCap_le_maxLen W (0 + m) 0 e (by unfold maxLen; omega)
    rw [Nat.zero_add] at hr hge hcm
    refine ⟨_, _, _, hr, ⟨hl, .inr ⟨W.heap.size, _, _, rfl, hB, heap_alloc_new W.drew _, hge, hcm, ?_, ?_⟩⟩, (Below.refl _ W).drew.alloc (by simp) _, .inr rfl⟩
    · simp only [Array.size_append, List.size_toArray, size_zeroCells, hzs, List.length_nil, hl, Nat.zero_add, ← Nat.add_mul]
      congr 1
      omega
    · have : ([].toArray ++ news.toArray ++ Builtin.zeroCells z.cells (grownCap W m 0 e - m)).toList = news ++ (Builtin.zeroCells z.cells (grownCap W m 0 e - m)).toList := by simp
      rw [this, ← hl]
      exact List.take_left

/-- What is known while some of the first operations have come. -/
structure MF (W0 W : World) (B : Nat) (P : List PV) (K : List Nd) (b2 b5 b6 b9 b11 : Bool) (u12 u15 u16 u19 u5 : Value) : Prop where
  below : Below B W0 W
  size : B ≤ W.heap.size
  i52 : b5 = true → b2 = true
  i96 : b9 = true → b6 = true
  i95 : b9 = true → b5 = true
  f2 : b2 = true → EmptyT W B 32 2 u12
  f5 : b5 = true → W.ownsRow B 32 2 u15 P.length (P.flatMap pC) ∧ ∃ g c, u15 = .slice (some ⟨g, 0, none⟩) P.length c
  f6 : b6 = true → EmptyT W B 25 3 u16
  f9 : b9 = true → W.ownsRow B 25 3 u19 K.length (K.flatMap kC) ∧ ∃ g c, u19 = .slice (some ⟨g, 0, none⟩) K.length c
  f11 : b11 = true → ∃ g, u5 = .pointer (some ⟨g, 0, none⟩) ∧ B ≤ g ∧ W.heap[g]? = some (.cells #[.string ⟨#[]⟩, .slice none 0 0, .slice none 0 0] 25 (0, 0)) ∧ (b6 = true → u16.ownBlock ≠ some g) ∧ (b9 = true → u19.ownBlock ≠ some g)

section
variable {W0 W W' : World} {B : Nat} {P : List PV} {K : List Nd} {b2 b5 b6 b9 b11 : Bool} {u12 u15 u16 u19 u5 : Value}
theorem MF.on (h : MF W0 W B P K b2 b5 b6 b9 b11 u12 u15 u16 u19 u5) (hb : Below W.heap.size W W') : MF W0 W' B P K b2 b5 b6 b9 b11 u12 u15 u16 u19 u5 :=
  ⟨h.below.trans (hb.mono h.size), Nat.le_trans h.size hb.size, h.i52, h.i96, h.i95, fun e => (h.f2 e).on hb, fun e => ⟨own_on (h.f5 e).1 hb, (h.f5 e).2⟩, fun e => (h.f6 e).on hb, fun e => ⟨own_on (h.f9 e).1 hb, (h.f9 e).2⟩, fun e => by
    obtain ⟨g, h1, h2, h3, h4⟩ := h.f11 e
    exact ⟨g, h1, h2, (hb.block g (Array.getElem?_eq_some_iff.1 h3).1).trans h3, h4⟩⟩
theorem MF.start (hb : Below B W0 W) (hs : B ≤ W.heap.size) : MF W0 W B P K false false false false false u12 u15 u16 u19 u5 :=
  ⟨hb, hs, (fun h => by cases h), (fun h => by cases h), (fun h => by cases h), (fun h => by cases h), (fun h => by cases h), (fun h => by cases h), (fun h => by cases h), (fun h => by cases h)⟩
theorem MF.op2 (h : MF W0 W B P K false b5 b6 b9 b11 u12 u15 u16 u19 u5) : MF W0 (W.alloc (.cells #[] 32)) B P K true b5 b6 b9 b11 (.slice (some ⟨W.heap.size, 0, none⟩) 0 0) u15 u16 u19 u5 := by
  have k := h.on ((Below.refl _ W).alloc (Nat.le_refl _) (.cells #[] 32))
  exact ⟨k.below, k.size, fun _ => rfl, k.i96, k.i95, fun _ => EmptyT.new W B 2 h.size _, k.f5, k.f6, k.f9, k.f11⟩
theorem MF.op6 (h : MF W0 W B P K b2 b5 false b9 b11 u12 u15 u16 u19 u5) : MF W0 (W.alloc (.cells #[] 25)) B P K b2 b5 true b9 b11 u12 u15 (.slice (some ⟨W.heap.size, 0, none⟩) 0 0) u19 u5 := by
  have k := h.on ((Below.refl _ W).alloc (Nat.le_refl _) (.cells #[] 25))
  refine ⟨k.below, k.size, k.i52, fun _ => rfl, k.i95, k.f2, k.f5, fun _ => EmptyT.new W B 3 h.size _, k.f9, fun e => ?_⟩
  obtain ⟨g, h1, h2, h3, h4⟩ := h.f11 e
  obtain ⟨g', h1', _, h3', _, h5'⟩ := k.f11 e
  have hlt := (Array.getElem?_eq_some_iff.1 h3).1
  exact ⟨g, h1, h2, by rw [h1] at h1'; injection h1' with h1'; injection h1' with h1'; injection h1' with h1'; rw [h1']; exact h3', fun _ e => (by simp [Value.ownBlock] at e; omega), h4.2⟩
theorem MF.op11 (h : MF W0 W B P K b2 b5 b6 b9 false u12 u15 u16 u19 u5) : MF W0 (W.alloc (.cells #[.string ⟨#[]⟩, .slice none 0 0, .slice none 0 0] 25)) B P K b2 b5 b6 b9 true u12 u15 u16 u19 (.pointer (some ⟨W.heap.size, 0, none⟩)) := by
  have k := h.on ((Below.refl _ W).alloc (Nat.le_refl _) (.cells #[.string ⟨#[]⟩, .slice none 0 0, .slice none 0 0] 25))
  refine ⟨k.below, k.size, k.i52, k.i96, k.i95, k.f2, k.f5, k.f6, k.f9, fun _ => ⟨W.heap.size, rfl, h.size, heap_alloc_new W _, fun e e2 => ?_, fun e e2 => ?_⟩⟩
  · obtain ⟨g, _, ho⟩ := h.f6 e
    have := (ho.lt _ e2).2
    omega
  · have := ((h.f9 e).1.lt _ e2).2
    omega
theorem MF.op5 (h : MF W0 W B P K true false b6 b9 b11 u12 u15 u16 u19 u5) {A : Option Addr} (c : Nat) (hr : PRow W W.heap.size A P) (hm : P.length ≤ 1099511627776) (ty : TypeId) :
    ∃ v' W', (Builtin.append_ #[22, 22] ty #[u12, .slice A P.length c]).run Try.prog W = .ok v' W' ∧ MF W0 W' B P K true true b6 b9 b11 u12 v' u16 u19 u5 := by
  obtain ⟨i0, hi0, hz0, hz1, hz2⟩ := info_any info_prop
  obtain ⟨g, c', W', h1, h2, h3, _⟩ := run_append_emptyT Try.underlying22 hi0 hz0 hz1 hz2 rfl (by omega) (h.f2 rfl) h.size A P.length c (P.flatMap pC) (flat_len pC_len P) (fun h0 => by
    obtain ⟨b, o, e, _, hc⟩ := hr h0
    refine ⟨b, o, e, fun j v hv => ?_⟩
    have hj : j < P.length * 2 := by rw [← flat_len pC_len P]; exact (List.getElem?_eq_some_iff.1 hv).1
    obtain ⟨i, r, rfl, hi, hr⟩ : ∃ i r, j = i * 2 + r ∧ i < P.length ∧ r < 2 := ⟨j / 2, j % 2, by omega, by omega, by omega⟩
    rw [flat_at pC_len P i r hi hr] at hv
    obtain ⟨c0, c1⟩ := hc i hi
    rcases (by omega : r = 0 ∨ r = 1) with rfl | rfl
    · rw [← hv]; exact c0
    · rw [← hv, ← Nat.add_assoc]; exact c1) hm ty
  have k := h.on h3
  exact ⟨_, W', h1, k.below, k.size, fun _ => rfl, k.i96, fun _ => rfl, k.f2, fun _ => ⟨h2, g, c', rfl⟩, k.f6, k.f9, k.f11⟩
theorem MF.op9 (h : MF W0 W B P K b2 true true false b11 u12 u15 u16 u19 u5) {A : Option Addr} (c : Nat) (hr : KRow W W.heap.size A K) (hm : K.length ≤ 1099511627776) (ty : TypeId) :
    ∃ v' W', (Builtin.append_ #[23, 23] ty #[u16, .slice A K.length c]).run Try.prog W = .ok v' W' ∧ MF W0 W' B P K b2 true true true b11 u12 u15 u16 v' u5 := by
  obtain ⟨i0, hi0, hz0, hz1, hz2⟩ := info_any info_node
  obtain ⟨g, c', W', h1, h2, h3, h4⟩ := run_append_emptyT Try.underlying23 hi0 hz0 hz1 hz2 rfl (by omega) (h.f6 rfl) h.size A K.length c (K.flatMap kC) (flat_len kC_len K) (fun h0 => by
    obtain ⟨b, o, e, _, hc⟩ := hr h0
    refine ⟨b, o, e, fun j v hv => ?_⟩
    have hj : j < K.length * 3 := by rw [← flat_len kC_len K]; exact (List.getElem?_eq_some_iff.1 hv).1
    obtain ⟨i, r, rfl, hi, hr⟩ : ∃ i r, j = i * 3 + r ∧ i < K.length ∧ r < 3 := ⟨j / 3, j % 3, by omega, by omega, by omega⟩
    rw [flat_at kC_len K i r hi hr] at hv
    obtain ⟨c0, c1, c2⟩ := hc i hi
    rcases (by omega : r = 0 ∨ r = 1 ∨ r = 2) with rfl | rfl | rfl
    · rw [← hv]; exact c0
    · rw [← hv, ← Nat.add_assoc]; exact c1
    · rw [← hv, ← Nat.add_assoc]; exact c2) hm ty
  have k := h.on h3
  refine ⟨_, W', h1, k.below, k.size, k.i52, fun _ => rfl, fun _ => rfl, k.f2, k.f5, k.f6, fun _ => ⟨h2, g, c', rfl⟩, fun e => ?_⟩
  obtain ⟨g', e1, e2, e3, e4, _⟩ := k.f11 e
  obtain ⟨g2, d1, d2, d3, _, _⟩ := h.f11 e
  have : g2 = g' := by rw [d1] at e1; injection e1 with e1; injection e1 with e1; injection e1 with e1
  subst this
  have hlt := (Array.getElem?_eq_some_iff.1 d3).1
  refine ⟨g2, e1, e2, e3, e4, fun _ e => ?_⟩
  have e' : g = g2 := by simpa [Value.ownBlock] using e
  subst e'
  rcases h4 with h4 | h4
  · exact e4 rfl h4
  · omega
/-- All of them have come, and the node is laid. -/
theorem MF.done (h : MF W0 W B P K b2 true b6 true true u12 u15 u16 u19 u5) {D : Nat → Prop} (nm : ByteArray) (hP : ∀ p ∈ P, p.In W0 B ∧ p.At (fun g => D g ∧ g < B)) (hK : ∀ k ∈ K, k.In W0 B ∧ k.At (fun g => D g ∧ g < B)) :
    ∃ g, u5 = .pointer (some ⟨g, 0, none⟩) ∧ (∀ i, W.frozen? ⟨g, i, none⟩ = false) ∧ W.cell? ⟨g, 0, none⟩ = some (.string ⟨#[]⟩) ∧ W.cell? ⟨g, 1, none⟩ = some (.slice none 0 0) ∧ W.cell? ⟨g, 2, none⟩ = some (.slice none 0 0) ∧
      MS W0 (((W.setCell ⟨g, 0, none⟩ (.string nm)).setCell ⟨g, 1, none⟩ u15).setCell ⟨g, 2, none⟩ u19) B g D nm u15 u19 P K := by
  obtain ⟨g, e, hB, hg, _, hk⟩ := h.f11 rfl
  obtain ⟨o5, e5⟩ := h.f5 rfl
  obtain ⟨o9, e9⟩ := h.f9 rfl
  have hk := hk rfl
  have hg1 := heap_setCell_same W g 0 _ _ (.string nm) hg
  have hg2 := heap_setCell_same _ g 1 _ _ u15 hg1
  have hg3 := heap_setCell_same _ g 2 _ _ u19 hg2
  have gb : W.grownBy (((W.setCell ⟨g, 0, none⟩ (.string nm)).setCell ⟨g, 1, none⟩ u15).setCell ⟨g, 2, none⟩ u19) (some g) := ⟨rfl, rfl, rfl, by simp, fun k _ hk => by
    have ne : ∀ {o : Nat}, k ≠ (⟨g, o, none⟩ : Addr).block := fun e => hk (by rw [e])
    rw [heap_setCell_other _ _ _ _ (fun e => hk (by rw [e])), heap_setCell_other _ _ _ _ (fun e => hk (by rw [e])), heap_setCell_other _ _ _ _ (fun e => hk (by rw [e]))]⟩
  have pg : u15.ownBlock ≠ some g := fun e' => by
    obtain ⟨g', c', e5⟩ := e5
    rw [e5] at o5 e'
    have : g' = g := by simpa [Value.ownBlock] using e'
    subst this
    rcases o5.2 with ⟨e0, _⟩ | ⟨_, cap, cur, e0, _, hh, _⟩
    · cases e0
    · simp only [Value.slice.injEq, Option.some.injEq, Addr.mk.injEq, and_true, true_and] at e0
      obtain ⟨rfl, _⟩ := e0
      rw [hg] at hh
      injection hh with hh
      injection hh with _ ht
      exact absurd ht (by decide)
  have pk : ∀ q, u15.ownBlock = some q → u19.ownBlock ≠ some q := fun q h5 h9 => by
    obtain ⟨g1, c1, e5⟩ := e5
    obtain ⟨g2, c2, e9⟩ := e9
    rw [e5] at o5 h5
    rw [e9] at o9 h9
    have e1 : g1 = q := by simpa [Value.ownBlock] using h5
    have e2 : g2 = q := by simpa [Value.ownBlock] using h9
    subst e1
    subst e2
    rcases o5.2 with ⟨e0, _⟩ | ⟨_, cap, cur, e0, _, hh, _⟩
    · cases e0
    rcases o9.2 with ⟨e0', _⟩ | ⟨_, cap', cur', e0', _, hh', _⟩
    · cases e0'
    simp only [Value.slice.injEq, Option.some.injEq, Addr.mk.injEq, and_true, true_and] at e0 e0'
    obtain ⟨rfl, _⟩ := e0
    obtain ⟨rfl, _⟩ := e0'
    rw [hh] at hh'
    injection hh' with hh'
    injection hh' with _ ht
    exact absurd ht (by decide)
  have lo : ∀ {v : Value} {t sz n xs}, W.ownsRow B t sz v n xs → ∀ q, v.ownBlock = some q → B ≤ q := fun ho q hq => (ho.lt q hq).1
  have fr : ∀ q, (D q ∧ q < B) → FreeM D B g u15 u19 q := fun q ⟨h1, h2⟩ => ⟨by omega, fun e => by have := lo o5 q e; omega, fun e => by have := lo o9 q e; omega, .inl h1⟩
  have hb : Below B W0 (((W.setCell ⟨g, 0, none⟩ (.string nm)).setCell ⟨g, 1, none⟩ u15).setCell ⟨g, 2, none⟩ u19) := h.below.grown gb h.size (fun q hq => by injection hq with hq; omega)
  have hsz : B ≤ (((W.setCell ⟨g, 0, none⟩ (.string nm)).setCell ⟨g, 1, none⟩ u15).setCell ⟨g, 2, none⟩ u19).heap.size := Nat.le_trans h.size gb.size
  refine ⟨g, e, fun i => frozen_of_row W g i _ _ hg, ?_, ?_, ?_, hb, hB, hg3, o5.kept gb (.inr pg), o9.kept gb (.inr hk), e5, e9, pg, hk, pk, fun p hp => ⟨((hP p hp).1.keep (fun _ hq => hb.cell hq)).more hsz, PV.At.mono (hP p hp).2 fr⟩, fun k hk => ⟨((hK k hk).1.under hb).more hsz, Nd.At.mono fr (hK k hk).2⟩⟩
  all_goals (rw [cell_of_row W g _ _ _ (0, 0) hg]; rfl)
end

/-- A frame in which six temporaries have come. -/
def SixM (a : Act) (u12 u15 u16 u19 u20 u5 : Value) : Act := (((((a.put (some 12) u12).put (some 15) u15).put (some 16) u16).put (some 19) u19).put (some 20) u20).put (some 5) u5
section
variable (a : Act) (u12 u15 u16 u19 u20 u5 v : Value)
theorem sixm12 : (SixM a u12 u15 u16 u19 u20 u5).put (some 12) v = SixM a v u15 u16 u19 u20 u5 := by
  unfold SixM
  rw [put_swap _ _ 5 12 _ (by decide), put_swap _ _ 20 12 _ (by decide), put_swap _ _ 19 12 _ (by decide), put_swap _ _ 16 12 _ (by decide), put_swap _ _ 15 12 _ (by decide), put_put]
theorem sixm15 : (SixM a u12 u15 u16 u19 u20 u5).put (some 15) v = SixM a u12 v u16 u19 u20 u5 := by
  unfold SixM
  rw [put_swap _ _ 5 15 _ (by decide), put_swap _ _ 20 15 _ (by decide), put_swap _ _ 19 15 _ (by decide), put_swap _ _ 16 15 _ (by decide), put_put]
theorem sixm16 : (SixM a u12 u15 u16 u19 u20 u5).put (some 16) v = SixM a u12 u15 v u19 u20 u5 := by
  unfold SixM
  rw [put_swap _ _ 5 16 _ (by decide), put_swap _ _ 20 16 _ (by decide), put_swap _ _ 19 16 _ (by decide), put_put]
theorem sixm19 : (SixM a u12 u15 u16 u19 u20 u5).put (some 19) v = SixM a u12 u15 u16 v u20 u5 := by
  unfold SixM
  rw [put_swap _ _ 5 19 _ (by decide), put_swap _ _ 20 19 _ (by decide), put_put]
theorem sixm20 : (SixM a u12 u15 u16 u19 u20 u5).put (some 20) v = SixM a u12 u15 u16 u19 v u5 := by
  unfold SixM
  rw [put_swap _ _ 5 20 _ (by decide), put_put]
theorem sixm5 : (SixM a u12 u15 u16 u19 u20 u5).put (some 5) v = SixM a u12 u15 u16 u19 u20 v := by
  unfold SixM
  rw [put_put]
theorem sixm_at12 (h : 12 < a.tmps.size) : (SixM a u12 u15 u16 u19 u20 u5).eval (.tmp 12) = u12 := by simp [SixM, Act.put, Act.eval, h]
theorem sixm_at15 (h : 15 < a.tmps.size) : (SixM a u12 u15 u16 u19 u20 u5).eval (.tmp 15) = u15 := by simp [SixM, Act.put, Act.eval, h]
theorem sixm_at16 (h : 16 < a.tmps.size) : (SixM a u12 u15 u16 u19 u20 u5).eval (.tmp 16) = u16 := by simp [SixM, Act.put, Act.eval, h]
theorem sixm_at19 (h : 19 < a.tmps.size) : (SixM a u12 u15 u16 u19 u20 u5).eval (.tmp 19) = u19 := by simp [SixM, Act.put, Act.eval, h]
theorem sixm_far (t : Nat) (h1 : t ≠ 12) (h2 : t ≠ 15) (h3 : t ≠ 16) (h4 : t ≠ 19) (h5 : t ≠ 20) (h6 : t ≠ 5) : (SixM a u12 u15 u16 u19 u20 u5).eval (.tmp t) = a.eval (.tmp t) := by
  simp [SixM, Act.put, Act.eval, Array.getElem?_setIfInBounds_ne, Ne.symm h1, Ne.symm h2, Ne.symm h3, Ne.symm h4, Ne.symm h5, Ne.symm h6]
end
end Go.Proofs.Ytfekjihjifimcaa

/-! Layer 3: which property, or which node right below, has a name. -/
namespace Go.Proofs.Ytfekjihjifimcaa
open Go.RowKit
set_option linter.unusedVariables false
set_option linter.unusedSimpArgs false

set_option maxHeartbeats 1000000 in
theorem reffind_any (n : Nd) (s : ByteArray) (w : World) (hin : n.In w w.heap.size) (r : Int) (hr : r = idxOf (n.props.map PV.name) s) :
    Calls Try.prog 12 #[n.val, .string s] w fun e w' => e = .returned (.int .i64 r) ∧ Below w.heap.size w w' := by
  obtain ⟨nm, pa, pc, ps, ka, kc, ks⟩ := n
  have HI := Lib.hid hin
  have HR := Lib.hid hr
  obtain ⟨hl, hm⟩ : ps.length ≤ pc ∧ pc ≤ 9223372036854775807 := hin.plen
  have HM := Lib.hid (show (ps.map PV.name).length = ps.length from List.length_map _)
  clear hin hr
  show Calls _ _ #[.agg #[.string nm, .slice pa ps.length pc, .slice ka ks.length kc], .string s] _ _
  go_enter Try.func12, Try.ntmps12
  go_wp2_with fail
  go_loop [9] (fun i => ∃ k : Nat, k ≤ ps.length ∧ i = .int .i64 k ∧ Missed (ps.map PV.name) s k) (fun i => ps.length - (intOf i).toNat)
  case atStart => exact ⟨0, Nat.zero_le _, rfl, Missed.zero _ _⟩
  case round =>
    obtain ⟨k, hk, rfl, hmiss⟩ := hrel
    have HA := Lib.hid hmiss
    clear hmiss
    by_cases hlt : k < ps.length
    · have HB := Lib.hid ((Below.refl w.heap.size w).alloc (Nat.le_refl _) (.cells #[Value.string nm, .slice pa ps.length pc, .slice ka ks.length kc] 25))
      obtain ⟨b, o, e, hb, c0, c1⟩ := (HI.out.under HB.out).pcell (i := k) hlt
      obtain rfl : pa = _ := e
      replace c0 : _ = some (Value.string ps[k].name) := c0
      clear c1
      have hxm : Hid ((ps.map PV.name)[k]'(by rw [HM.out]; exact hlt) = ps[k].name) := List.getElem_map _
      obtain ⟨x, hx⟩ : ∃ x, x = ps[k].name := ⟨_, rfl⟩
      rw [← hx] at c0 hxm
      clear hx
      by_cases hxs : x = s
      · subst hxs
        obtain rfl : r = k := by rw [HR.out]; exact HA.out.hit _ hxm.out
        go_wp2
        go_ret
        exact ⟨rfl, HB.out⟩
      · have hne := str_ne hxs
        have HF := Lib.hid (HA.out.succ (by rw [HM.out]; exact hlt) (by rw [hxm.out]; exact hxs))
        clear hxs
        go_wp2
        go_round
        case rel => exact ⟨k + 1, by omega, by go_num, HF⟩
        case measure => simp [intOf]; omega
    · obtain rfl : r = -1 := by rw [HR.out]; exact HA.out.all (by rw [HM.out]; exact hlt)
      go_wp2
      go_ret
      exact ⟨rfl, (Below.refl _ _).alloc (Nat.le_refl _) _⟩
set_option maxHeartbeats 1000000 in
theorem refkid_any (n : Nd) (s : ByteArray) (w : World) (hin : n.In w w.heap.size) (r : Int) (hr : r = idxOf (n.kids.map Nd.name) s) :
    Calls Try.prog 13 #[n.val, .string s] w fun e w' => e = .returned (.int .i64 r) ∧ Below w.heap.size w w' := by
  obtain ⟨nm, pa, pc, ps, ka, kc, ks⟩ := n
  have HI := Lib.hid hin
  have HR := Lib.hid hr
  obtain ⟨hl, hm⟩ : ks.length ≤ kc ∧ kc ≤ 9223372036854775807 := hin.klen
  have HM := Lib.hid (show (ks.map Nd.name).length = ks.length from List.length_map _)
  clear hin hr
  show Calls _ _ #[.agg #[.string nm, .slice pa ps.length pc, .slice ka ks.length kc], .string s] _ _
  go_enter Try.func13, Try.ntmps13
  go_wp2_with fail
  go_loop [9] (fun i => ∃ k : Nat, k ≤ ks.length ∧ i = .int .i64 k ∧ Missed (ks.map Nd.name) s k) (fun i => ks.length - (intOf i).toNat)
  case atStart => exact ⟨0, Nat.zero_le _, rfl, Missed.zero _ _⟩
  case round =>
    obtain ⟨k, hk, rfl, hmiss⟩ := hrel
    have HA := Lib.hid hmiss
    clear hmiss
    by_cases hlt : k < ks.length
    · have HB := Lib.hid ((Below.refl w.heap.size w).alloc (Nat.le_refl _) (.cells #[Value.string nm, .slice pa ps.length pc, .slice ka ks.length kc] 25))
      obtain ⟨b, o, e, hb, c0, c1, c2⟩ := (HI.out.under HB.out).kcell (i := k) hlt
      obtain rfl : ka = _ := e
      replace c0 : _ = some (Value.string ks[k].name) := c0
      clear c1 c2
      have hxm : Hid ((ks.map Nd.name)[k]'(by rw [HM.out]; exact hlt) = ks[k].name) := List.getElem_map _
      obtain ⟨x, hx⟩ : ∃ x, x = ks[k].name := ⟨_, rfl⟩
      rw [← hx] at c0 hxm
      clear hx
      by_cases hxs : x = s
      · subst hxs
        obtain rfl : r = k := by rw [HR.out]; exact HA.out.hit _ hxm.out
        go_wp2
        go_ret
        exact ⟨rfl, HB.out⟩
      · have hne := str_ne hxs
        have HF := Lib.hid (HA.out.succ (by rw [HM.out]; exact hlt) (by rw [hxm.out]; exact hxs))
        clear hxs
        go_wp2
        go_round
        case rel => exact ⟨k + 1, by omega, by go_num, HF⟩
        case measure => simp [intOf]; omega
    · obtain rfl : r = -1 := by rw [HR.out]; exact HA.out.all (by rw [HM.out]; exact hlt)
      go_wp2
      go_ret
      exact ⟨rfl, (Below.refl _ _).alloc (Nat.le_refl _) _⟩

end Go.Proofs.Ytfekjihjifimcaa
