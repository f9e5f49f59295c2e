/-
  DecodeHeaders: for every ten cells, and whatever many noughts behind them, the program's Header answers what the document says: the ten, or the error. No condition.
-/
import Derived.Test.YtnopcnbeklbfoaaRows
import Derived.Test.YtnopcnbeklbfoaaLHeaders
import Derived.Deep.Slices
import Derived.ProofKit
import Derived.OpenShut
import Derived.ShutString
import Derived.ChangeOld
import Derived.SizedLaws
namespace Go.Proofs.Ytnopcnbeklbfoaa.decodeHeaders
open Go.ChangeShapes Go.WideShapes Go.ChangeAt Go.RowKit
open Go.ChangeMaps (open_string shut_string)
set_option linter.unusedVariables false

theorem own : ownKnob Try.prog.godebug = none := by kernel_rfl
theorem laidOut : laidOutB Try.prog = true := by kernel_rfl

theorem Try.cellsTen : Try.prog.cellsOf 23 = 10 := by kernel_rfl
theorem Try.cellsOne : Try.prog.cellsOf 22 = 1 := by kernel_rfl

set_option maxRecDepth 100000 in
/-- Ten cells that came in. -/
theorem open_ten {H : Type} {enc : TypeId × Value → H} {W : World} {base : Nat} {v : Value} {d : DataW H} {p : List MemPlace} (hv : Value.okWide Try.prog W .any base 23 v) (h : DataW.Trod enc Try.prog W 0 (fun _ => true) true 23 v d p) :
    ∃ f : Nat → Int, v = .agg (filled f 10) ∧ ∀ i, 0 ≤ f i ∧ f i ≤ 4294967295 := by
  obtain ⟨cs, rfl, hsz⟩ : ∃ cs, v = .agg cs ∧ cs.size = Try.prog.cellsOf 23 := by
    simp only [Value.okWide, Try.underlying23] at hv
    obtain ⟨cs, h1, h2, _⟩ := hv
    exact ⟨cs, h1, h2⟩
  obtain ⟨fuel, hf⟩ := h
  obtain ⟨xs, m, _, _, hl, hn, he⟩ := DataW.trod_array Try.underlying23 hf
  rw [Try.cellsTen] at hl hsz
  rw [Try.cellsOne] at he
  obtain ⟨F, hF⟩ := Go.Deep.choose_lt (α := Int) (n := 10) (p := fun i a => cs[i]? = some (.int .u32 a) ∧ 0 ≤ a ∧ a ≤ 4294967295) (fun i hi => by
    have hx := he i hi
    rw [List.getElem?_eq_getElem (show i < xs.length by omega)] at hx
    obtain ⟨a, e, _, hw⟩ := DataW.trod_int Try.underlying22 hx
    refine ⟨a, ?_, bounds_u32 hw⟩
    have e2 : (Value.agg cs).cells.toList = cs.toList := rfl
    rw [e2] at e
    have e3 := congrArg (fun l => l[0]?) e
    simp only [List.getElem?_take_of_lt (show 0 < 1 by decide), List.getElem?_drop, Nat.add_zero, Nat.mul_one, List.getElem?_cons_zero] at e3
    rw [← Array.getElem?_toList]
    exact e3)
  refine ⟨fun i => if i < 10 then F i else 0, ?_, fun i => ?_⟩
  · refine congrArg Value.agg ?_
    apply Array.ext_getElem?
    intro i
    rcases Nat.lt_or_ge i 10 with hi | hi
    · rw [(hF i hi).1]
      simp [filled, hi]
    · rw [Array.getElem?_eq_none (by omega), Array.getElem?_eq_none (by rw [filled_size]; exact hi)]
  · by_cases h : i < 10
    · simp only [if_pos h]; exact (hF i h).2
    · simp only [if_neg h]; omega

set_option maxRecDepth 100000 in
theorem lifted (os : Os) (started : os.Started) (H : Type) (enc : TypeId × Value → H) :
    ReturnsInHanded {} Try.checked os 3 .any (Rows.decodeHeadersSpec.pre6 enc Try.prog Try.f3 Rows.decodeHeadersRow.domain false) (Rows.decodeHeadersSpec.post enc Try.prog Try.f3 false true false false) := by
  refine returnsInHanded_of_change_sized (C := Try.checked) own started (by kernel_rfl) Try.func3
    (ChangeSpec.witness6 (enc := enc) (C := Try.checked) false ⟨#[], #[.agg #[.int .u32 0, .int .u32 0, .int .u32 0, .int .u32 0, .int .u32 0, .int .u32 0, .int .u32 0, .int .u32 0, .int .u32 0, .int .u32 0], .int .u16 0], []⟩ 8 (by kernel_rfl) (by kernel_rfl) (by kernel_rfl) (by kernel_rfl)) ?_
  intro W base args ds gs before hval0 hW hcnd hsz _
  have hval : ∀ (j : Nat) t v, Try.f3.params[j]? = some t → args[j]? = some v → Value.okWide Try.prog W .any base t v := hval0
  have hW' := hW
  obtain ⟨p, q, hA0, hV, rfl, hfz, hnd⟩ := hW
  have hA : DataW.TrodAll enc Try.prog W 0 (fun _ => true) true Try.f3.params.toList args.toList ds p := hA0
  rw [Try.params3] at hA hval
  obtain ⟨v0, vs0, d0, ds0, p0, q0, hargs, rfl, rfl, h0, r0⟩ := trodAll_cons hA
  obtain ⟨v1, vs1, d1, ds1, p1, q1, rfl, rfl, rfl, h1, r1⟩ := trodAll_cons r0
  obtain ⟨rfl, rfl, rfl⟩ := trodAll_nil r1
  obtain rfl : args = #[v0, v1] := by cases args; simp_all
  obtain ⟨rfl, rfl⟩ := trodVars_none hV
  have k0 := h0
  have lt0 : ∀ x ∈ p0, x.block < W.heap.size := by obtain ⟨m, hm⟩ := k0; exact DataW.trod_lt m _ _ _ hm
  obtain ⟨f, rfl, hf⟩ := open_ten (hval 0 23 v0 rfl rfl) h0
  obtain ⟨a1, rfl, rfl, rfl, w1⟩ := open_int Try.underlying24 (hval 1 24 v1 rfl rfl) h1
  obtain ⟨b1, b2⟩ := bounds_u16 w1
  obtain ⟨m, rfl⟩ := Int.eq_ofNat_of_zero_le b1
  clear hA0 hval0
  rw [filled_all] at hW' ⊢
  refine (decodeHeaders_true f m W hf (by omega)).mono fun e W' ⟨he, bel⟩ => ?_
  subst he
  rw [filled_all] at k0
  exact ⟨_, rfl, _, _, _, [], _, [], hW', trodAll_mk1 (shut_bool Try.underlying4 _), (trodAll_cons_mk (Below.trod laidOut (by kernel_rfl) (of_decide_eq_true (by kernel_rfl)) k0 bel lt0) (trodAll_cons_mk (shut_int Try.underlying24 w1) trodAll_mk0)), rfl, bel.frame _, fun h => by cases h⟩

theorem over : Rows.decodeHeadersRow.holds Try.pinned (OpenSpec.ofChange Rows.decodeHeadersSpec) :=
  OpenClaim.holds_of_wide 3 Try.f3 rfl rfl rfl rfl rfl rfl rfl ⟨rfl, rfl, rfl, rfl, rfl⟩ rfl rfl rfl rfl rfl (by kernel_rfl) Try.func3 (by kernel_rfl)
    (of_decide_eq_true (by kernel_rfl)) (by unfold Func.isWrapper; first | (rw [if_pos (by decide +kernel)]; kernel_rfl) | (rw [if_neg (by decide +kernel)]; exact ⟨rfl, rfl⟩))
    (fun os started H enc _ => lifted os started H enc)

/-- The statement. -/
theorem proved : Rows.DecodeHeadersSaid := over
#print axioms proved
end Go.Proofs.Ytnopcnbeklbfoaa.decodeHeaders
