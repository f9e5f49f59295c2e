/-
  Layer 15: Size.
-/
import Derived.Test.YtmgokplpkmndoaaGreatLValid
namespace Go.Proofs.YtmgokplpkmndoaaGreat
open Go.RowKit
set_option linter.unusedVariables false
set_option linter.unusedSimpArgs false

set_option maxRecDepth 20000 in
set_option maxHeartbeats 4000000 in
theorem vsize_any (k : Int) (w : World) : Calls Tryz.prog 5 #[.int .i64 k] w fun e w' => e = .returned (.int .u64 (sizeV k)) ∧ w' = w := by
  obtain ⟨V, hV⟩ : ∃ V, sizeV k = V := ⟨_, rfl⟩
  rw [hV]
  unfold sizeV at hV
  go_enter Tryz.func5, Tryz.ntmps5
  by_cases h3 : k = 3
  · subst h3; obtain rfl : V = 16 := by rw [← hV]; rfl
    go_wp2
    go_ret
    exact ⟨rfl, rfl⟩
  by_cases h4 : k = 4
  · subst h4; obtain rfl : V = 16 := by rw [← hV]; rfl
    go_wp2
    go_ret
    exact ⟨rfl, rfl⟩
  by_cases h6 : k = 6
  · subst h6; obtain rfl : V = 16 := by rw [← hV]; rfl
    go_wp2
    go_ret
    exact ⟨rfl, rfl⟩
  by_cases h7 : k = 7
  · subst h7; obtain rfl : V = 16 := by rw [← hV]; rfl
    go_wp2
    go_ret
    exact ⟨rfl, rfl⟩
  by_cases h5 : k = 5
  · subst h5; obtain rfl : V = 32 := by rw [← hV]; rfl
    go_wp2
    go_ret
    exact ⟨rfl, rfl⟩
  obtain rfl : V = 0 := by rw [← hV, if_neg (by omega), if_neg h5]
  have q3 : (k == 3) = false := by rw [beq_eq_false_iff_ne]; exact h3
  have q4 : (k == 4) = false := by rw [beq_eq_false_iff_ne]; exact h4
  have q5 : (k == 5) = false := by rw [beq_eq_false_iff_ne]; exact h5
  have q6 : (k == 6) = false := by rw [beq_eq_false_iff_ne]; exact h6
  have q7 : (k == 7) = false := by rw [beq_eq_false_iff_ne]; exact h7
  clear h3 h4 h5 h6 h7 hV
  go_wp2
  go_ret
  exact ⟨rfl, rfl⟩
theorem sizeOK : SizeOK := fun k w => (vsize_any k w).mono fun e w' ⟨a, b⟩ => ⟨a, b ▸ Below.refl _ _⟩

end Go.Proofs.YtmgokplpkmndoaaGreat
