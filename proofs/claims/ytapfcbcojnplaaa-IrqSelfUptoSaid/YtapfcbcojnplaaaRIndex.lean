/-
  Layer 8: the program's Index.
-/
import Derived.Test.YtapfcbcojnplaaaRClone
import Derived.Test.YtapfcbcojnplaaaBase5
namespace Go.Proofs.Ytapfcbcojnplaaa
open Go.RowKit
set_option linter.unusedVariables false
set_option linter.unusedSimpArgs false
attribute [local go_sem] Oper.semAt_some

/-- A pair of values shows a handle and a place, whose numbers lie in a block that is not one of M's, not the list's own, and not the variable's. -/
def RefO (M : Nat → Prop) (own : Option Nat) (w : World) (lb : Nat) (x : Value × Value) (r : Int × List Nat) : Prop :=
  x.1 = .int .u32 r.1 ∧ ∃ A c, x.2 = .slice A r.2.length c ∧ r.2.length ≤ c ∧ c ≤ 9223372036854775807 ∧
    (0 < r.2.length → ∃ b o, A = some ⟨b, o, none⟩ ∧ lb ≠ b ∧ b < w.heap.size ∧ ¬ M b ∧ own ≠ some b ∧ ∀ i, i < r.2.length → w.cell? ⟨b, o + i, none⟩ = (ints r.2)[i]?)
theorem RefO.keep {M M' : Nat → Prop} {own own' : Option Nat} {w w' : World} {lb : Nat} {x : Value × Value} {r : Int × List Nat} (h : RefO M own w lb x r) (hs : w.heap.size ≤ w'.heap.size)
    (hk : ∀ b, b < w.heap.size → lb ≠ b → ¬ M b → own ≠ some b → w'.heap[b]? = w.heap[b]? ∧ ¬ M' b ∧ own' ≠ some b) : RefO M' own' w' lb x r := by
  obtain ⟨h1, A, c, h2, h3, h4, h5⟩ := h
  refine ⟨h1, A, c, h2, h3, h4, fun h0 => ?_⟩
  obtain ⟨b, o, e, k1, k2, k3, k4, k5⟩ := h5 h0
  obtain ⟨g1, g2, g3⟩ := hk b k2 k1 k3 k4
  exact ⟨b, o, e, k1, Nat.lt_of_lt_of_le k2 hs, g2, g3, fun i hi => (World.cell?_of_block g1).trans (k5 i hi)⟩
theorem RefO.refV {M : Nat → Prop} {own : Option Nat} {w : World} {lb : Nat} {x : Value × Value} {r : Int × List Nat} (h : RefO M own w lb x r) : RefV w w.heap.size x r := by
  obtain ⟨h1, A, c, h2, h3, h4, h5⟩ := h
  refine ⟨h1, A, c, h2, ⟨by simp, fun h0 => ?_⟩, h3, h4⟩
  obtain ⟨b, o, e, _, k2, _, _, k5⟩ := h5 h0
  exact ⟨b, o, e, k2, k5⟩
/-- append at an operation, in a round. -/
theorem wpin_app {F : Fence} {n : Nat} {P : Program} {w w' : World} {o : Oper} {a : Act} {K : Act → World → Prop} {Q : Exit → Act → World → Prop} {t u : TypeId} (s x : Operand) (ho : o.op = .call { callee := .builtin .append, args := #[s, x], argTypes := #[t, u] })
    (y z : Value) (hs : a.eval s = y) (hx : a.eval x = z) {v : Value} (hr : (Builtin.append_ #[t, u] o.type #[y, z]).run P w = .ok v w') (hK : K (a.put o.dst v) w') : o.wpIn F n P a w K Q := by
  unfold Oper.wpIn
  refine ⟨?_, ?_⟩
  · simp [Oper.about, ho, resolve, Target.leads, Sem.run_pure]
  · rw [Oper.semAt_plain F _ _ (by rw [ho]; intro c hc'; cases hc')]
    simp only [execOp, ho, resolve, invoke, builtin, Sem.run_bind, Sem.run_pure, Result.andThen_ok, List.map_toArray, List.map_cons, List.map_nil, hs, hx, hr]
    exact hK
theorem tbox_cells {W : World} {g : Nat} {a b c d e : Value} (h : W.heap[g]? = some (.cells #[a, b, c, d, e] 29 (0, 0))) (o : Obj) : (W.alloc o).cell? ⟨g, 0, none⟩ = some a ∧ (W.alloc o).cell? ⟨g, 1, none⟩ = some b ∧ (W.alloc o).cell? ⟨g, 2, none⟩ = some c ∧ (W.alloc o).cell? ⟨g, 3, none⟩ = some d ∧ (W.alloc o).cell? ⟨g, 4, none⟩ = some e :=
  ⟨Lib.cell?_alloc_some o ((Lib.cell_of_heap h 0).trans rfl), Lib.cell?_alloc_some o ((Lib.cell_of_heap h 1).trans rfl), Lib.cell?_alloc_some o ((Lib.cell_of_heap h 2).trans rfl), Lib.cell?_alloc_some o ((Lib.cell_of_heap h 3).trans rfl), Lib.cell?_alloc_some o ((Lib.cell_of_heap h 4).trans rfl)⟩

end Go.Proofs.Ytapfcbcojnplaaa
