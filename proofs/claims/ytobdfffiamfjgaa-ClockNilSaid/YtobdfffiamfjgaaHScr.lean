/-
  A script that came in.
-/
import Derived.Test.YtobdfffiamfjgaaVPlay
import Derived.Test.YtobdfffiamfjgaaTTree
import Derived.ProofKit
import Derived.OpenShut
import Derived.ChangeSame
import Derived.ChangeSlices
namespace Go.Proofs.Ytobdfffiamfjgaa
open Go.RowKit Go.ChangeShapes Go.WideShapes Go.Deep
set_option linter.unusedVariables false
set_option linter.unusedSimpArgs false

instance : Inhabited OpS := ⟨⟨0, 0, 0, 0, 0, false⟩⟩
theorem six_list {α : Type} {l : List α} (h : l.length = 6) : ∃ a b c d e f, l = [a, b, c, d, e, f] := by
  match l, h with
  | [a, b, c, d, e, f], _ => exact ⟨a, b, c, d, e, f, rfl⟩
section
variable {H : Type} {enc : TypeId × Value → H} {W : World} {base : Nat} {v : Value} {d : DataW H} {p : List MemPlace}
set_option maxRecDepth 100000 in
theorem open_op {t : TypeId} {f0 f1 f2 f3 f4 f5 : Field} {fuel : Nat} {cs : List Value} {spare : Nat → Bool} {held : Bool} {x : DataW H × List MemPlace} (ht : Try.prog.underlying t = some (.struct #[f0, f1, f2, f3, f4, f5])) (h : DataW.trod enc Try.prog W base spare held fuel t cs = some x)
    (h0 : f0.type = 5) (h1 : f1.type = 30) (h2 : f2.type = 3) (h3 : f3.type = 30) (h4 : f4.type = 3) (h5 : f5.type = 4) (o0 : f0.offset = 0) (o1 : f1.offset = 1) (o2 : f2.offset = 2) (o3 : f3.offset = 3) (o4 : f4.offset = 4) (o5 : f5.offset = 5) (hct : Try.prog.cellsOf t = 6) :
    ∃ x : OpS, cs = x.cells.toList ∧ x.ok := by
  obtain ⟨xs, n, _, rfl, hl, hlen, hf⟩ := DataW.trod_struct ht h
  obtain ⟨y0, y1, y2, y3, y4, y5, rfl⟩ := six_list (by simpa using hlen)
  have g0 := hf 0 f0 rfl
  have g1 := hf 1 f1 rfl
  have g2 := hf 2 f2 rfl
  have g3 := hf 3 f3 rfl
  have g4 := hf 4 f4 rfl
  have g5 := hf 5 f5 rfl
  rw [hct] at hl
  obtain ⟨c0, c1, c2, c3, c4, c5, rfl⟩ := six_list hl
  have k8 : Try.prog.cellsOf 5 = 1 := by kernel_rfl
  have k64 : Try.prog.cellsOf 30 = 1 := by kernel_rfl
  have ki : Try.prog.cellsOf 3 = 1 := by kernel_rfl
  have kb : Try.prog.cellsOf 4 = 1 := by kernel_rfl
  rw [h0, o0, k8] at g0
  rw [h1, o1, k64] at g1
  rw [h2, o2, ki] at g2
  rw [h3, o3, k64] at g3
  rw [h4, o4, ki] at g4
  rw [h5, o5, kb] at g5
  obtain ⟨a0, e0, _, w0⟩ := DataW.trod_int Try.underlying5 g0
  obtain ⟨a1, e1, _, w1⟩ := DataW.trod_int Try.underlying30 g1
  obtain ⟨a2, e2, _, w2⟩ := DataW.trod_int Try.underlying3 g2
  obtain ⟨a3, e3, _, w3⟩ := DataW.trod_int Try.underlying30 g3
  obtain ⟨a4, e4, _, w4⟩ := DataW.trod_int Try.underlying3 g4
  obtain ⟨a5, e5, _⟩ := DataW.trod_bool Try.underlying4 g5
  simp only [List.drop_succ_cons, List.drop_zero, List.take_succ_cons, List.take_zero, List.cons.injEq, and_true] at e0 e1 e2 e3 e4 e5
  subst e0 e1 e2 e3 e4 e5
  exact ⟨⟨a0, a1, a2, a3, a4, a5⟩, rfl, bounds_u8 w0, bounds_u64 w1, bounds_u64 w3, bounds_i64 w4⟩
set_option maxRecDepth 100000 in
theorem open_script {t e : TypeId} {f0 f1 f2 f3 f4 f5 : Field} (ht : Try.prog.underlying t = some (.slice e)) (he : Try.prog.underlying e = some (.struct #[f0, f1, f2, f3, f4, f5])) (hv : Value.okWide Try.prog W .any base t v) (h : DataW.Trod enc Try.prog W 0 (fun _ => true) true t v d p) (hw : ∀ z ∈ DataW.weights Try.prog t d, z ≤ 140737488351232)
    (h0 : f0.type = 5) (h1 : f1.type = 30) (h2 : f2.type = 3) (h3 : f3.type = 30) (h4 : f4.type = 3) (h5 : f5.type = 4) (o0 : f0.offset = 0) (o1 : f1.offset = 1) (o2 : f2.offset = 2) (o3 : f3.offset = 3) (o4 : f4.offset = 4) (o5 : f5.offset = 5) (hct : Try.prog.cellsOf e = 6) :
    ∃ (a : Option Addr) (len cap : Nat) (xs : List OpS), v = .slice a len cap ∧ Scr W W.heap.size a len xs ∧ (∀ x ∈ xs, x.ok) ∧ len ≤ cap ∧ cap ≤ 9223372036854775807 := by
  obtain ⟨a0, len0, cap0, rfl⟩ := okWide_slice ht hv
  obtain ⟨fuel, hf⟩ := h
  obtain ⟨a, cap, l, hcs, hl1, hl2, _, hg, hrow⟩ := open_row (c := 6) (fun x : OpS => x.cells.toList) OpS.ok ht hct (by omega) (fun _ => rfl) (fun n cs y _ hy _ => open_op he hy h0 h1 h2 h3 h4 h5 o0 o1 o2 o3 o4 o5 hct) hf hw
  simp [Value.cells] at hcs
  obtain ⟨rfl, rfl, rfl⟩ := hcs
  refine ⟨a0, l.length, cap0, l, rfl, ⟨rfl, fun hn => ?_⟩, hg, hl1, hl2⟩
  obtain ⟨b, o, e, hb, hc⟩ := hrow hn
  exact ⟨b, o, e, hb, fun i hi => ⟨hc i hi 0 (by omega), hc i hi 1 (by omega), hc i hi 2 (by omega), hc i hi 3 (by omega), hc i hi 4 (by omega), hc i hi 5 (by omega)⟩⟩
set_option maxRecDepth 100000 in
theorem open_opv {e : TypeId} {f0 f1 f2 f3 f4 f5 : Field} (he : Try.prog.underlying e = some (.struct #[f0, f1, f2, f3, f4, f5])) (hv : Value.okWide Try.prog W .any base e v) (h : DataW.Trod enc Try.prog W 0 (fun _ => true) true e v d p)
    (h0 : f0.type = 5) (h1 : f1.type = 30) (h2 : f2.type = 3) (h3 : f3.type = 30) (h4 : f4.type = 3) (h5 : f5.type = 4) (o0 : f0.offset = 0) (o1 : f1.offset = 1) (o2 : f2.offset = 2) (o3 : f3.offset = 3) (o4 : f4.offset = 4) (o5 : f5.offset = 5) (hct : Try.prog.cellsOf e = 6) :
    ∃ x : OpS, v = .agg x.cells ∧ x.ok := by
  obtain ⟨cs, rfl, hsz⟩ := okWide_struct he hv
  obtain ⟨fuel, hf⟩ := h
  obtain ⟨x, hc, hok⟩ := open_op he hf h0 h1 h2 h3 h4 h5 o0 o1 o2 o3 o4 o5 hct
  refine ⟨x, ?_, hok⟩
  have e : cs = x.cells := Array.toList_inj.1 (by simpa [Value.cells] using hc)
  rw [e]
end
end Go.Proofs.Ytobdfffiamfjgaa
