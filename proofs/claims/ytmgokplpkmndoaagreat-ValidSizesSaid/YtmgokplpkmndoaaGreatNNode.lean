/-
  name.Node and name.Prop: what the program answers, as a test on the bytes.
-/
import Derived.Test.YtmgokplpkmndoaaGreatNCut
namespace Go.Proofs.YtmgokplpkmndoaaGreat
open Go.RowKit
set_option linter.unusedVariables false
set_option linter.unusedSimpArgs false

def nodeMarks : List UInt8 := [44, 46, 95, 43, 45]
def propMarks : List UInt8 := [44, 46, 95, 43, 45, 63, 35]
def firstB (l : List UInt8) : Bool := letB (l.getD 0 0).toNat || decide ((l.getD 0 0).toNat = 95)
def baseB (l : List UInt8) : Bool := madeB nodeMarks l && firstB l

theorem first_at (s : ByteArray) (h : 0 < s.size) : s.data.toList.getD 0 0 = s[0] := by
  rw [List.getD, elem_at s 0 h]; rfl
theorem made_pos {m l : List UInt8} (h : madeB m l = true) : 0 < l.length := by
  unfold madeB at h
  rw [Bool.and_eq_true, Bool.and_eq_true, decide_eq_true_eq] at h
  omega

set_option maxHeartbeats 400000 in
theorem base_any (s : ByteArray) (w : World) (hs : s.size ≤ 140737488351232) (r : Bool) (hr : r = baseB s.data.toList) :
    Calls Tryz.prog 137 #[.string s] w fun e w' => e = .returned (.bool r) ∧ w = w' := by
  cases hm : madeB nodeMarks s.data.toList
  · obtain rfl : r = false := by rw [hr, baseB, hm]; rfl
    have C := Lib.hid (made_any s ⟨#[44, 46, 95, 43, 45]⟩ w hs false hm.symm)
    clear hr hm
    go_enter Tryz.func137, Tryz.ntmps137
    go_wp2_with (go_at_call 138; refine C.out.mono ?_; rintro e w' ⟨rfl, rfl⟩)
    go_ret
    exact ⟨rfl, rfl⟩
  · have C := Lib.hid (made_any s ⟨#[44, 46, 95, 43, 45]⟩ w hs true hm.symm)
    have h0 : 0 < s.size := made_pos hm
    have hf := first_at s h0
    have hb := byte_le s[0]
    cases hl : letB (s[0].toNat : Int)
    · have HE : r = ((s[0].toNat : Int) == 95) := by
        rw [hr, baseB, hm, firstB, hf, hl, Bool.true_and, Bool.false_or, Bool.eq_iff_iff]; simp; omega
      have C2 := Lib.hid (letter_any s[0].toNat w hb false hl.symm)
      have HR := Lib.hid HE
      clear hr hm hf HE hl
      go_enter Tryz.func137, Tryz.ntmps137
      go_wp2_with (first | (go_at_call 138; refine C.out.mono ?_; rintro e w' ⟨rfl, rfl⟩) | (go_at_call 156; refine C2.out.mono ?_; rintro e w' ⟨rfl, rfl⟩))
      go_ret
      exact ⟨congrArg (fun b => Ending.returned (.bool b)) HR.out.symm, rfl⟩
    · obtain rfl : r = true := by rw [hr, baseB, hm, firstB, hf, hl]; rfl
      have C2 := Lib.hid (letter_any s[0].toNat w hb true hl.symm)
      clear hr hm hf hl
      go_enter Tryz.func137, Tryz.ntmps137
      go_wp2_with (first | (go_at_call 138; refine C.out.mono ?_; rintro e w' ⟨rfl, rfl⟩) | (go_at_call 156; refine C2.out.mono ?_; rintro e w' ⟨rfl, rfl⟩))
      go_ret
      exact ⟨rfl, rfl⟩

/-- A node's name, without an @. -/
theorem node_none (s : ByteArray) (w : World) (h : NoCut s) (hs : s.size ≤ 140737488351232) (r : Bool) (hr : r = baseB s.data.toList) :
    Calls Tryz.prog 102 #[.string s] w fun e w' => e = .returned (.bool r) ∧ w = w' := by
  have C := Lib.hid (cut_none s w h)
  have C2 := Lib.hid (base_any s w hs r hr)
  clear h hr
  go_enter Tryz.func102, Tryz.ntmps102
  cases r
  all_goals
    go_wp2_with (first | (go_at_call 136; refine C.out.mono ?_; rintro e w' ⟨rfl, rfl⟩) | (go_at_call 137; refine C2.out.mono ?_; rintro e w' ⟨rfl, rfl⟩))
    go_ret
    exact ⟨rfl, rfl⟩

/-- A node's name, with an @ at i. -/
theorem node_some (s : ByteArray) (i : Nat) (w : World) (h : CutAt s i) (hs : s.size ≤ 140737488351232) (r1 r2 : Bool) (hr1 : r1 = baseB (s.extract 0 i).data.toList) (hr2 : r2 = madeB nodeMarks (s.extract (i + 1) s.size).data.toList) :
    Calls Tryz.prog 102 #[.string s] w fun e w' => e = .returned (.bool (r1 && r2)) ∧ w' = w.drewN 1 := by
  have C := Lib.hid (cut_some s i w h hs)
  have C2 := Lib.hid (base_any (s.extract 0 i) (w.drewN 1) (by rw [ByteArray.size_extract]; omega) r1 hr1)
  have C3 := Lib.hid (made_any (s.extract (i + 1) s.size) ⟨#[44, 46, 95, 43, 45]⟩ (w.drewN 1) (by rw [ByteArray.size_extract]; omega) r2 hr2)
  clear h hr1 hr2
  go_enter Tryz.func102, Tryz.ntmps102
  cases r1
  all_goals
    go_wp2_with (first | (go_at_call 136; refine C.out.mono ?_; rintro e w' ⟨rfl, rfl⟩) | (go_at_call 137; refine C2.out.mono ?_; rintro e w' ⟨rfl, rfl⟩) | (go_at_call 138; refine C3.out.mono ?_; rintro e w' ⟨rfl, rfl⟩))
    go_ret
    exact ⟨rfl, rfl⟩
end Go.Proofs.YtmgokplpkmndoaaGreat
