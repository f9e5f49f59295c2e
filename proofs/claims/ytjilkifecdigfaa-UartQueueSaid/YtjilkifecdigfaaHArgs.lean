/-
  Arguments that came in: places, numbers of 32 bits, bytes, pairs of numbers of 64 bits.
-/
import Derived.Test.YtjilkifecdigfaaQRow
import Derived.ChangeSame
import Derived.ChangeSlices
import Derived.OpenShut
import Derived.ProofKit
namespace Go.Proofs.Ytjilkifecdigfaa
open Go.RowKit Go.ChangeShapes Go.WideShapes Go.Deep
set_option linter.unusedVariables false
set_option linter.unusedSimpArgs false

theorem pair_of {α : Type} {l : List α} (h : l.length = 2) : ∃ a b, l = [a, b] := by
  match l, h with
  | [a, b], _ => exact ⟨a, b, rfl⟩
/-- A row of numbers of a kind, as the row's reading gives it. -/
theorem cel_of_nums {k : IntKind} {w : World} {a : Option Addr} {len cap : Nat} {l : List Int}
    (h : (a = none ∧ len = 0 ∧ cap = 0 ∧ l = []) ∨ ∃ x, a = some x ∧ len ≤ cap ∧ cap ≤ maxLen ∧ l.length = cap ∧ (∀ i, i < l.length → w.cell? (x.add i) = some (.int k (l.getD i 0))) ∧ ∀ n ∈ l, (Lit.int k n).wf = true) :
    Cel w w.heap.size a len ((l.take len).map (Value.int k)) ∧ (l.take len).length = len ∧ len ≤ cap ∧ cap ≤ 9223372036854775807 ∧ ∀ z ∈ l.take len, (Lit.int k z).wf = true := by
  rcases h with ⟨rfl, rfl, rfl, rfl⟩ | ⟨x, rfl, hl, hm, hz, hcell, hwz⟩
  · exact ⟨Cel.nil _ _ _, rfl, Nat.le_refl _, by omega, by simp⟩
  · have hlen : (l.take len).length = len := by rw [List.length_take]; omega
    refine ⟨⟨by rw [List.length_map, hlen], fun hn => ?_⟩, hlen, hl, by unfold maxLen at hm; exact hm, fun z hz' => hwz z (List.mem_of_mem_take hz')⟩
    obtain ⟨b, o, spot⟩ := x
    have hc := hcell 0 (by omega)
    have hspot : spot = none := by simpa [Addr.add] using World.cell?_spot hc
    subst hspot
    refine ⟨b, o, rfl, ?_, fun i hi => ?_⟩
    · rw [addr_add] at hc
      exact World.block_lt_of_cell? w _ hc
    · have hci := hcell i (by omega)
      rw [addr_add] at hci
      rw [hci, List.getElem?_map, List.getElem?_take_of_lt hi]
      simp [List.getD, List.getElem?_eq_getElem (show i < l.length by omega)]
section
variable {H : Type} {enc : TypeId × Value → H} {W : World} {base : Nat} {v : Value} {d : DataW H} {p : List MemPlace}
set_option maxRecDepth 100000 in
theorem open_nums {t e : TypeId} {k : IntKind} (ht : Try.prog.underlying t = some (.slice e)) (he : Try.prog.underlying e = some (.int k)) (hc : Try.prog.cellsOf e = 1) (hv : Value.okWide Try.prog W .any base t v) (h : DataW.Trod enc Try.prog W 0 (fun _ => true) true t v d p) :
    ∃ (a : Option Addr) (len cap : Nat) (vs : List Int), v = .slice a len cap ∧ Cel W W.heap.size a len (vs.map (Value.int k)) ∧ vs.length = len ∧ len ≤ cap ∧ cap ≤ 9223372036854775807 ∧ ∀ z ∈ vs, (Lit.int k z).wf = true := by
  obtain ⟨a0, len0, cap0, rfl⟩ := okWide_slice ht hv
  obtain ⟨fuel, hf⟩ := h
  rcases open_ints ht he hc hf with ⟨hcs, _⟩ | ⟨x, l, c, zs, hcs, _, hl, hm, hz, _, hcell, hwz⟩
  · simp [Value.cells] at hcs
    obtain ⟨rfl, rfl, rfl⟩ := hcs
    exact ⟨none, 0, 0, _, rfl, cel_of_nums (k := k) (l := []) (.inl ⟨rfl, rfl, rfl, rfl⟩)⟩
  · simp [Value.cells] at hcs
    obtain ⟨rfl, rfl, rfl⟩ := hcs
    exact ⟨some x, len0, cap0, _, rfl, cel_of_nums (k := k) (l := zs) (.inr ⟨_, rfl, hl, hm, by simpa using hz, hcell, hwz⟩)⟩
set_option maxRecDepth 100000 in
theorem open_u8s (hv : Value.okWide Try.prog W .any base 33 v) (h : DataW.Trod enc Try.prog W 0 (fun _ => true) true 33 v d p) :
    ∃ (a : Option Addr) (len cap : Nat) (zs : List Int), v = .slice a len cap ∧ Shows W W.heap.size a len zs ∧ len ≤ cap ∧ cap ≤ 9223372036854775807 := by
  obtain ⟨a0, len0, cap0, rfl⟩ := okWide_slice Try.underlying33 hv
  obtain ⟨fuel, hf⟩ := h
  rcases open_ints Try.underlying33 Try.underlying5 (by kernel_rfl) hf with ⟨hcs, _⟩ | ⟨x, l, c, zs, hcs, _, hl, hm, hz, _, hcell, hwz⟩
  · simp [Value.cells] at hcs
    obtain ⟨rfl, rfl, rfl⟩ := hcs
    exact ⟨none, 0, 0, [], rfl, Shows.nil _ _, Nat.le_refl _, by omega⟩
  · simp [Value.cells] at hcs
    obtain ⟨rfl, rfl, rfl⟩ := hcs
    have h1 := Shows.of_row (w := W) (a := some x) (len := len0) (cap := cap0) (l := zs) (.inr ⟨_, rfl, hl, hm, by simpa using hz, hcell, hwz⟩)
    exact ⟨some x, len0, cap0, _, rfl, h1.1, h1.2.1, by have := h1.2.2; unfold maxLen at this; exact this⟩
set_option maxRecDepth 100000 in
/-- A struct of two numbers of 64 bits. -/
theorem open_pair64 {t u : TypeId} {f0 f1 : Field} (ht : Try.prog.underlying t = some (.struct #[f0, f1])) (hu : Try.prog.underlying u = some (.int .u64)) (hv : Value.okWide Try.prog W .any base t v) (h : DataW.Trod enc Try.prog W 0 (fun _ => true) true t v d p)
    (h0 : f0.type = u := by rfl) (h1 : f1.type = u := by rfl) (o0 : f0.offset = 0 := by rfl) (o1 : f1.offset = 1 := by rfl) (hcu : Try.prog.cellsOf u = 1 := by kernel_rfl) (hct : Try.prog.cellsOf t = 2 := by kernel_rfl) :
    ∃ x y : Int, v = .agg #[.int .u64 x, .int .u64 y] ∧ 0 ≤ x ∧ x ≤ 18446744073709551615 ∧ 0 ≤ y ∧ y ≤ 18446744073709551615 := by
  obtain ⟨cs, rfl, hsz⟩ := okWide_struct ht hv
  obtain ⟨fuel, hf⟩ := h
  obtain ⟨y0, y1, n, _, hl, g0, g1⟩ := trod_struct2 ht hf
  rw [hct] at hl
  obtain ⟨c0, c1, hcs⟩ := pair_of hl
  rw [hcs, h0, o0, hcu] at g0
  rw [hcs, h1, o1, hcu] at g1
  obtain ⟨a, e0, _, w0⟩ := DataW.trod_int hu g0
  obtain ⟨c, e1, _, w1⟩ := DataW.trod_int hu g1
  simp only [List.drop_succ_cons, List.drop_zero, List.take_succ_cons, List.take_zero, List.cons.injEq, and_true] at e0 e1
  subst e0 e1
  refine ⟨a, c, ?_, (bounds_u64 w0).1, (bounds_u64 w0).2, (bounds_u64 w1).1, (bounds_u64 w1).2⟩
  have e : cs = #[.int .u64 a, .int .u64 c] := Array.toList_inj.1 (by simpa [Value.cells] using hcs)
  rw [e]
end
end Go.Proofs.Ytjilkifecdigfaa
