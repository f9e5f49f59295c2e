/-
  IrqSelf: a line at a controller comes to itself; one that comes to a controller comes to one; where the arguments are together of bulk at most 1048576.
-/
import Derived.Test.YtapfcbcojnplaaaRows
import Derived.Test.YtapfcbcojnplaaaBase4
import Derived.Test.YtapfcbcojnplaaaIAwake
import Derived.Test.YtapfcbcojnplaaaBase5
import Derived.ProofKit
import Derived.OpenShut
import Derived.ShutString
import Derived.ChangeOld
import Derived.SizedLaws
import Derived.JoinedCond
import Derived.Deep.CondSized
namespace Go.Proofs.Ytapfcbcojnplaaa.irqSelf
open Go.ChangeShapes Go.WideShapes Go.ChangeAt Go.RowKit
open Go.ChangeMaps (open_string shut_string)
set_option linter.unusedVariables false

theorem own : ownKnob Try.prog.godebug = none := by kernel_rfl
theorem laidOut : laidOutB Try.prog = true := by kernel_rfl

set_option maxRecDepth 100000 in
/-- A tree that came in, as it lies in memory. -/
theorem open_tree {H : Type} {enc : TypeId × Value → H} {W : World} {base : Nat} {v : Value} {d : DataW H} {p : List MemPlace} (hv : Value.okWide Try.prog W .any base 29 v) (h : DataW.Trod enc Try.prog W 0 (fun _ => true) true 29 v d p)
    (hw : ∀ z ∈ DataW.weights Try.prog 29 d, z ≤ 140737488351232) : ∃ t : Tr, v = t.val ∧ t.In W W.heap.size ∧ heftN t.root ≤ 16 * Rows.uptoBulk d ∧ t.rs.length ≤ Rows.uptoBulk d := by
  obtain ⟨cs, rfl, hsz⟩ := okWide_struct Try.underlying29 hv
  obtain ⟨fuel, hf⟩ := h
  obtain ⟨t, hc, hin, hh, hr⟩ := bulk_tr hf hw
  refine ⟨t, ?_, hin, hh, hr⟩
  have e : cs = #[.int .u32 t.boot, t.rv, .string t.root.name, t.root.pv, t.root.kv] := Array.toList_inj.1 (by simpa [Value.cells] using hc)
  rw [e]
  rfl

set_option maxRecDepth 100000 in
theorem lifted (os : Os) (started : os.Started) (H : Type) (enc : TypeId × Value → H) (F : Stop.Interp) :
    ReturnsInHanded {} Try.checked os 3 .any ((Rows.OpenSpec.upto Rows.irqSelfSpec).pre6 enc Try.prog Try.f3 Rows.irqSelfUptoRow.domain false) (((Rows.OpenSpec.upto Rows.irqSelfSpec).at F).post enc Try.prog Try.f3 false true false false) := by
  refine returnsInHanded_of_cond_sized (C := Try.checked) (s := Rows.OpenSpec.upto Rows.irqSelfSpec) (k := Rows.uptoSmall) rfl own started (by kernel_rfl) Try.func3
    (OpenSpec.witness (enc := enc) (C := Try.checked) (s := Rows.OpenSpec.upto Rows.irqSelfSpec) (k := Rows.uptoSmall) rfl false ⟨#[], #[.agg #[.int .u32 0, .slice none 0 0, .string ⟨#[]⟩, .slice none 0 0, .slice none 0 0], .agg #[.slice none 0 0, .int .u32 0]], []⟩ 8 (by kernel_rfl) (by kernel_rfl) (by kernel_rfl)
      (x := ([.agg [.lit (.int .u32 0), .nil, .agg [.lit (.string []), .nil, .nil]], .agg [.nil, .lit (.int .u32 0)]], [], [])) (by kernel_rfl) rfl (by kernel_rfl)) ?_
  intro W base args ds gs before hval0 hW hcnd hk hsz _
  have hval : ∀ (j : Nat) t v, Try.f3.params[j]? = some t → args[j]? = some v → Value.okWide Try.prog W .any base t v := hval0
  have hW' := hW
  obtain ⟨p, q, hA0, hV, rfl, hfz, hnd⟩ := hW
  have hA : DataW.TrodAll enc Try.prog W 0 (fun _ => true) true Try.f3.params.toList args.toList ds p := hA0
  rw [Try.params3] at hA hval
  obtain ⟨v0, vs0, d0, ds0, p0, q0, hargs, rfl, rfl, h0, r0⟩ := trodAll_cons hA
  obtain ⟨v1, vs1, d1, ds1, p1, q1, rfl, rfl, rfl, h1, r1⟩ := trodAll_cons r0
  obtain ⟨rfl, rfl, rfl⟩ := trodAll_nil r1
  obtain rfl : args = #[v0, v1] := by cases args; simp_all
  obtain ⟨rfl, rfl⟩ := trodVars_none hV
  have k0 := h0
  have lt0 : ∀ x ∈ p0, x.block < W.heap.size := by obtain ⟨m, hm⟩ := k0; exact DataW.trod_lt m _ _ _ hm
  have k1 := h1
  have lt1 : ∀ x ∈ p1, x.block < W.heap.size := by obtain ⟨m, hm⟩ := k1; exact DataW.trod_lt m _ _ _ hm
  have hwt0 : ∀ z ∈ DataW.weights Try.prog 29 d0, z ≤ 140737488351232 := fun z hz => by
    have h := List.all_eq_true.1 hsz z (by
      show z ∈ DataW.weightsEach Try.prog (29 :: _) (d0 :: _)
      rw [DataW.weightsEach]
      exact List.mem_append_left _ hz)
    exact of_decide_eq_true h
  have hb0 : Rows.uptoBulk d0 ≤ 1048576 := by
    have h : Rows.uptoBulkAll _ ≤ 1048576 := of_decide_eq_true hk
    simp only [List.append_nil, Rows.uptoBulkAll] at h
    omega
  obtain ⟨t0, rfl, hin0, hheft0, hrs0⟩ := open_tree (hval 0 29 v0 rfl rfl) h0 hwt0
  obtain ⟨a1, len1, cap1, vs1, ln1, rfl, cel1, lv1, lc1, mc1, lo1, hi1⟩ := open_line Try.underlying32 (hval 1 32 v1 rfl rfl) h1
  clear hA0 hval0 hk
  refine (irqSelf_true awake14 throughOK t0 vs1 a1 len1 cap1 ln1 W hin0 cel1 lc1 mc1 (by omega) ⟨lo1, hi1⟩).mono fun e W' ⟨he, bel⟩ => ?_
  subst he
  exact ⟨_, rfl, _, _, _, [], _, [], hW', trodAll_mk1 (shut_bool Try.underlying4 _), (trodAll_cons_mk (Below.trod laidOut (by kernel_rfl) (of_decide_eq_true (by kernel_rfl)) k0 bel lt0) (trodAll_cons_mk (Below.trod laidOut (by kernel_rfl) (of_decide_eq_true (by kernel_rfl)) k1 bel lt1) trodAll_mk0)), rfl, bel.frame _, fun h => by cases h⟩

theorem over : Rows.irqSelfUptoRow.holds Try.pinned (Rows.OpenSpec.upto Rows.irqSelfSpec) :=
  OpenClaim.holds_of_cond 3 Try.f3 rfl rfl rfl rfl rfl rfl rfl ⟨rfl, rfl, rfl, rfl, rfl⟩ rfl rfl rfl rfl rfl (by kernel_rfl) Try.func3 (by kernel_rfl)
    (of_decide_eq_true (by kernel_rfl)) (by unfold Func.isWrapper; first | (rw [if_pos (by decide +kernel)]; kernel_rfl) | (rw [if_neg (by decide +kernel)]; exact ⟨rfl, rfl⟩))
    (fun os started H enc _ F => lifted os started H enc F)

/-- The statement. -/
theorem proved : Rows.IrqSelfUptoSaid := over
#print axioms proved
end Go.Proofs.Ytapfcbcojnplaaa.irqSelf
