/-
  Of how many cells the addresses and sizes below a node are: the document's answer.
-/
import Derived.Test.YtgogkcmdcfcikaaQOne
import Derived.Test.YtgogkcmdcfcikaaReg
import Derived.OwnWalk
namespace Go.Proofs.Ytgogkcmdcfcikaa
open Go.RowKit
set_option linter.unusedVariables false
set_option linter.unusedSimpArgs false

/-- What a node's property says of cells; -1: nothing that may be. -/
def cntV (n : Nd) (s : ByteArray) (d : Int) : Int := if (oneV n s).2.2 ≠ 0 ∨ 2 < (oneV n s).1 then -1 else if (oneV n s).2.1 = false then d else (oneV n s).1
def nmAddr : ByteArray := ⟨#[35, 97, 100, 100, 114, 101, 115, 115, 45, 99, 101, 108, 108, 115]⟩
def nmSize : ByteArray := ⟨#[35, 115, 105, 122, 101, 45, 99, 101, 108, 108, 115]⟩
theorem oneV_bound {w : World} {B : Nat} {n : Nd} (h : n.In w B) (s : ByteArray) : 0 ≤ (oneV n s).1 ∧ (oneV n s).1 ≤ 4294967295 := by
  unfold oneV
  split
  · exact ⟨by decide, by decide⟩
  · rename_i p hp
    split
    · exact numTo_u32 (h.prop (List.mem_of_find?_eq_some hp)).2.1 0
    · exact ⟨by decide, by decide⟩

set_option maxHeartbeats 2000000 in
theorem refcnt_all (n : Nd) (s : ByteArray) (d : Int) (w : World) (hin : n.In w w.heap.size) :
    Calls Try.prog 19 #[n.val, .string s, .int .i64 d] w fun e w' => e = .returned (.int .i64 (cntV n s d)) ∧ Below w.heap.size w w' := by
  have C := Lib.hid (fun W hW => refone_all n s W hW)
  have hb := oneV_bound hin s
  have HV : Hid (cntV n s d = if (oneV n s).2.2 ≠ 0 ∨ 2 < (oneV n s).1 then -1 else if (oneV n s).2.1 = false then d else (oneV n s).1) := Lib.hid rfl
  have HI := Lib.hid hin
  obtain ⟨O, hO⟩ : ∃ O, oneV n s = O := ⟨_, rfl⟩
  rw [hO] at C hb HV
  obtain ⟨v, ok, E⟩ := O
  obtain ⟨r, hr⟩ : ∃ r, cntV n s d = r := ⟨_, rfl⟩
  rw [hr] at HV ⊢
  obtain ⟨v0, v1⟩ : 0 ≤ v ∧ v ≤ 4294967295 := hb
  replace HV : Hid (r = if E ≠ 0 ∨ 2 < v then -1 else if ok = false then d else v) := HV
  clear hin hO hr
  obtain ⟨nm, pa, pc, ps, ka, kc, ks⟩ := n
  simp only [Nd.val, Nd.pv, Nd.kv, Nd.name, Nd.pa, Nd.pc, Nd.props, Nd.ka, Nd.kc, Nd.kids, oneVal] at C ⊢
  have HB := Lib.hid ((Below.refl w.heap.size w).alloc (Nat.le_refl _) (.cells #[Value.string nm, .slice pa ps.length pc, .slice ka ks.length kc] 25))
  by_cases hE : E = 0
  · subst hE
    by_cases hv : 2 < v
    · have q1 : decide ((2 : Int) < v) = true := decide_eq_true hv
      have HR : Hid (r = -1) := Lib.hid (by rw [HV.out, if_pos (.inr hv)])
      clear hv
      go_enter Try.func19, Try.ntmps19
      go_wp2_with fail
      refine (C.out _ (Nd.In.more HB.out.size (HI.out.under HB.out))).mono ?_
      rintro e w1 ⟨rfl, hb⟩
      have HB1 := Lib.hid (HB.out.trans (hb.mono HB.out.size))
      clear hb
      go_wp2
      go_ret
      exact ⟨by rw [HR.out]; rfl, HB1.out⟩
    · have q1 : decide ((2 : Int) < v) = false := decide_eq_false hv
      cases ok
      · have HR : Hid (r = d) := Lib.hid (by rw [HV.out, if_neg (by simp; omega)]; rfl)
        clear hv
        go_enter Try.func19, Try.ntmps19
        go_wp2_with fail
        refine (C.out _ (Nd.In.more HB.out.size (HI.out.under HB.out))).mono ?_
        rintro e w1 ⟨rfl, hb⟩
        have HB1 := Lib.hid (HB.out.trans (hb.mono HB.out.size))
        clear hb
        go_wp2
        go_ret
        exact ⟨by rw [HR.out]; rfl, HB1.out⟩
      · have HR : Hid (r = v) := Lib.hid (by rw [HV.out, if_neg (by simp; omega)]; rfl)
        have hcv : IntKind.i64.wrap v = v := by rw [IntKind.wrap_i64]; omega
        clear hv
        go_enter Try.func19, Try.ntmps19
        go_wp2_with fail
        refine (C.out _ (Nd.In.more HB.out.size (HI.out.under HB.out))).mono ?_
        rintro e w1 ⟨rfl, hb⟩
        have HB1 := Lib.hid (HB.out.trans (hb.mono HB.out.size))
        clear hb
        go_wp2
        go_ret
        exact ⟨by rw [HR.out]; rfl, HB1.out⟩
  · have q0 : (E != 0) = true := by rw [bne_iff_ne]; exact hE
    have HR : Hid (r = -1) := Lib.hid (by rw [HV.out, if_pos (.inl hE)])
    clear hE
    go_enter Try.func19, Try.ntmps19
    go_wp2_with fail
    refine (C.out _ (Nd.In.more HB.out.size (HI.out.under HB.out))).mono ?_
    rintro e w1 ⟨rfl, hb⟩
    have HB1 := Lib.hid (HB.out.trans (hb.mono HB.out.size))
    clear hb
    go_wp2
    go_ret
    exact ⟨by rw [HR.out]; rfl, HB1.out⟩

set_option maxRecDepth 20000 in
set_option maxHeartbeats 4000000 in
theorem refcounts_all (n : Nd) (w : World) (hin : n.In w w.heap.size) :
    Calls Try.prog 10 #[n.val] w fun e w' => e = .returned (.tuple #[.int .i64 (cntV n nmAddr 2), .int .i64 (cntV n nmSize 1), .bool (decide (0 ≤ cntV n nmAddr 2) && decide (0 ≤ cntV n nmSize 1))]) ∧ Below w.heap.size w w' := by
  have CA := Lib.hid (fun W hW => refcnt_all n nmAddr 2 W hW)
  have CS := Lib.hid (fun W hW => refcnt_all n nmSize 1 W hW)
  have HI := Lib.hid hin
  obtain ⟨va, hva⟩ : ∃ v, cntV n nmAddr 2 = v := ⟨_, rfl⟩
  obtain ⟨vs, hvs⟩ : ∃ v, cntV n nmSize 1 = v := ⟨_, rfl⟩
  rw [hva] at CA ⊢
  rw [hvs] at CS ⊢
  clear hin hva hvs
  obtain ⟨nm, pa, pc, ps, ka, kc, ks⟩ := n
  simp only [Nd.val, Nd.pv, Nd.kv, Nd.name, Nd.pa, Nd.pc, Nd.props, Nd.ka, Nd.kc, Nd.kids, nmAddr, nmSize] at CA CS ⊢
  have HB := Lib.hid ((Below.refl w.heap.size w).alloc (Nat.le_refl _) (.cells #[Value.string nm, .slice pa ps.length pc, .slice ka ks.length kc] 25))
  have BX : Hid (∀ W, Below (w.heap.size + 1) (w.alloc (.cells #[Value.string nm, .slice pa ps.length pc, .slice ka ks.length kc] 25)) W → (W.cell? ⟨w.heap.size, 0, none⟩ = some (.string nm) ∧ W.cell? ⟨w.heap.size, 1, none⟩ = some (.slice pa ps.length pc) ∧ W.cell? ⟨w.heap.size, 2, none⟩ = some (.slice ka ks.length kc))) := Lib.hid (fun W h =>
    ⟨(h.cell (Nat.lt_succ_self _)).trans (World.cell?_alloc_new _ _ _ _), (h.cell (Nat.lt_succ_self _)).trans (World.cell?_alloc_new _ _ _ _), (h.cell (Nat.lt_succ_self _)).trans (World.cell?_alloc_new _ _ _ _)⟩)
  have IN := Lib.hid (fun W (h : Below w.heap.size w W) => Nd.In.more h.size (HI.out.under h))
  have HX0 := Lib.hid ((Below.refl (w.heap.size + 1) (w.alloc (.cells #[Value.string nm, .slice pa ps.length pc, .slice ka ks.length kc] 25))).drew)
  have HZ0 := Lib.hid (HB.out.drew)
  go_enter Try.func10, Try.ntmps10
  go_wp2_with fail
  refine wp_region_held_drew (S := fun W => W.cell? ⟨w.heap.size, 0, none⟩ = some (.string nm) ∧ W.cell? ⟨w.heap.size, 1, none⟩ = some (.slice pa ps.length pc) ∧ W.cell? ⟨w.heap.size, 2, none⟩ = some (.slice ka ks.length kc)) (by kernel_rfl) (BX.out _ HX0.out) (fun hHeld => ?_)
  refine held_take 0 rfl (by kernel_rfl) (by kernel_rfl) (by kernel_rfl) (fun _ _ _ h => h) (by rfl) hHeld (v := ?_) (fun w hSw => ?_) (fun _ => ?_)
  rotate_left
  · ((try dsimp only at hSw); go_simp; (try with_reducible rfl))
  simp only [Act.put, List.setIfInBounds_toArray, List.set_cons_zero, List.set_cons_succ]
  refine held_take 2 rfl (by kernel_rfl) (by kernel_rfl) (by kernel_rfl) (fun _ _ _ h => h) (by rfl) hHeld (v := ?_) (fun w hSw => ?_) (fun _ => ?_)
  rotate_left
  · ((try dsimp only at hSw); go_simp; (try with_reducible rfl))
  simp only [Act.put, List.setIfInBounds_toArray, List.set_cons_zero, List.set_cons_succ]
  refine held_call 1 (by kernel_rfl) rfl (by rfl) (fun K hK => ?_)
  go_simp
  refine (CA.out _ (IN.out _ HZ0.out)).mono ?_
  rintro e w3 ⟨rfl, hb⟩
  have HZ3 := Lib.hid (HZ0.out.trans (hb.mono HZ0.out.size))
  have HX3 := Lib.hid (HX0.out.trans (hb.mono (by simp)))
  clear hb
  dsimp only
  refine hK.out _ _ (BX.out _ HX3.out) (fun hHeld => ?_)
  clear hK K
  refine held_call 3 (by kernel_rfl) rfl (by rfl) (fun K hK => ?_)
  go_simp
  refine (CS.out _ (IN.out _ HZ3.out)).mono ?_
  rintro e w4 ⟨rfl, hb⟩
  have HZ4 := Lib.hid (HZ3.out.trans (hb.mono HZ3.out.size))
  have HX4 := Lib.hid (HX3.out.trans (hb.mono (by have := HX3.out.size; simpa using this)))
  clear hb
  dsimp only
  refine hK.out _ _ (BX.out _ HX4.out) (fun hHeld => ?_)
  clear hK K
  refine held_take 4 rfl (by kernel_rfl) (by kernel_rfl) (by kernel_rfl) (fun _ _ _ h => h) (by rfl) hHeld (v := ?_) (fun w hSw => ?_) (fun _ => ?_)
  rotate_left
  · ((try dsimp only at hSw); go_simp; (try with_reducible rfl))
  simp only [Act.put, List.setIfInBounds_toArray, List.set_cons_zero, List.set_cons_succ]
  refine held_take 5 rfl (by kernel_rfl) (by kernel_rfl) (by kernel_rfl) (fun _ _ _ h => h) (by rfl) hHeld (v := ?_) (fun w hSw => ?_) (fun _ => ?_)
  rotate_left
  · ((try dsimp only at hSw); go_simp; (try with_reducible rfl))
  simp only [Act.put, List.setIfInBounds_toArray, List.set_cons_zero, List.set_cons_succ]
  refine wpAnyH_done (by kernel_rfl) ?_ _
  clear hHeld
  by_cases ha : 0 ≤ va
  · have q1 : decide (0 ≤ va) = true := decide_eq_true ha
    have HO : Hid ((decide (0 ≤ va) && decide (0 ≤ vs)) = decide (0 ≤ vs)) := Lib.hid (by rw [q1, Bool.true_and])
    clear ha
    go_wp2
    go_ret3
    exact ⟨by rw [HO.out]; rfl, HZ4.out⟩
  · have q1 : decide (0 ≤ va) = false := decide_eq_false ha
    have HO : Hid ((decide (0 ≤ va) && decide (0 ≤ vs)) = false) := Lib.hid (by rw [q1, Bool.false_and])
    clear ha
    go_wp2
    go_ret3
    exact ⟨by rw [HO.out]; rfl, HZ4.out⟩
theorem refcounts_any (n : Nd) (w : World) (hin : n.In w w.heap.size) (hz : heftN n ≤ 1073741824) :
    Calls Try.prog 10 #[n.val] w fun e w' => e = .returned (.tuple #[.int .i64 (cntV n nmAddr 2), .int .i64 (cntV n nmSize 1), .bool (decide (0 ≤ cntV n nmAddr 2) && decide (0 ≤ cntV n nmSize 1))]) ∧ Below w.heap.size w w' := refcounts_all n w hin
end Go.Proofs.Ytgogkcmdcfcikaa
