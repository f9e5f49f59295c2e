/-
  Layer 15, ValidForms and ValidSizes: out of what the program's Check, Cause and Size answer.
-/
import Derived.Test.YtmgokplpkmndoaaGreatHIndex
import Derived.Test.YtmgokplpkmndoaaGreatTCheck
namespace Go.Proofs.YtmgokplpkmndoaaGreat
open Go.RowKit
set_option linter.unusedVariables false
set_option linter.unusedSimpArgs false

def Awake15 : Prop := ∀ w : World, Calls Tryz.prog 4 #[] w fun e w' => e = .returned (.bool true) ∧ Below w.heap.size w w'
/-- What is wrong with a tree, or with its handles. -/
noncomputable def wantV (t : Tr) : Int := if checkE t ≠ 0 then checkE t else (refsOf t.root).2
/-- What Cause answers of what the program's Check answers. -/
def CauseOf (want : Int) (e2 : Ending) : Prop := ∃ (er : Int) (A : Option Addr) (m c : Nat), e2 = .returned (.tuple #[.int .i64 er, .slice A m c]) ∧ (want ≠ 0 → er = want ∧ m = 0)
def sizeV (k : Int) : Int := if k = 3 ∨ k = 4 ∨ k = 6 ∨ k = 7 then 16 else if k = 5 then 32 else 0
def SizeOK : Prop := ∀ (k : Int) (w : World), Calls Tryz.prog 5 #[.int .i64 k] w fun e w' => e = .returned (.int .u64 (sizeV k)) ∧ Below w.heap.size w w'

set_option maxHeartbeats 2000000 in
theorem validSizes_true (hK : Awake15) (hS : SizeOK) (k : Int) (w : World) : Calls Tryz.prog 3 #[.int .i64 k] w fun e w' => e = .returned (.bool true) ∧ Below w.heap.size w w' := by
  have HK := Lib.hid hK
  have HS := Lib.hid (hS k)
  obtain ⟨V, hV⟩ : ∃ V, sizeV k = V := ⟨_, rfl⟩
  rw [hV] at HS
  have qv : (V == V) = true := by simp
  have H : Hid ((V = 16 ∧ (k = 3 ∨ k = 4 ∨ k = 6 ∨ k = 7)) ∨ (V = 32 ∧ k = 5) ∨ (V = 0 ∧ k ≠ 3 ∧ k ≠ 4 ∧ k ≠ 5 ∧ k ≠ 6 ∧ k ≠ 7)) := Lib.hid (by
    unfold sizeV at hV
    by_cases h : k = 3 ∨ k = 4 ∨ k = 6 ∨ k = 7
    · rw [if_pos h] at hV; exact .inl ⟨hV.symm, h⟩
    · rw [if_neg h] at hV
      by_cases h5 : k = 5
      · rw [if_pos h5] at hV; exact .inr (.inl ⟨hV.symm, h5⟩)
      · rw [if_neg h5] at hV; exact .inr (.inr ⟨hV.symm, by omega⟩))
  clear hV hK hS
  go_enter Tryz.func3, Tryz.ntmps3
  go_wp2_with fail
  refine (HK.out _).mono ?_
  rintro e w1 ⟨rfl, hb⟩
  have HB1 := Lib.hid hb
  clear hb
  rcases H.out with ⟨rfl, rfl | rfl | rfl | rfl⟩ | ⟨rfl, rfl⟩ | ⟨rfl, k3, k4, k5, k6, k7⟩
  rotate_right
  · have q3 : (k == 3) = false := by rw [beq_eq_false_iff_ne]; exact k3
    have q4 : (k == 4) = false := by rw [beq_eq_false_iff_ne]; exact k4
    have q5 : (k == 5) = false := by rw [beq_eq_false_iff_ne]; exact k5
    have q6 : (k == 6) = false := by rw [beq_eq_false_iff_ne]; exact k6
    have q7 : (k == 7) = false := by rw [beq_eq_false_iff_ne]; exact k7
    clear k3 k4 k5 k6 k7 H
    go_wp2_with fail
    refine (HS.out _).mono ?_
    rintro e w2 ⟨rfl, hb⟩
    have HB2 := Lib.hid (HB1.out.trans (hb.mono HB1.out.size))
    clear hb
    go_wp2
    go_ret
    exact ⟨rfl, HB2.out⟩
  all_goals
    clear H
    go_wp2_with fail
    refine (HS.out _).mono ?_
    rintro e w2 ⟨rfl, hb⟩
    have HB2 := Lib.hid (HB1.out.trans (hb.mono HB1.out.size))
    clear hb
    go_wp2
    go_ret
    exact ⟨rfl, HB2.out⟩

end Go.Proofs.YtmgokplpkmndoaaGreat
