/-
  Layer 8: a copy of a place; the handles of a tree whose handles are right.
-/
import Derived.Test.YtapfcbcojnplaaaRCheck
import Derived.Test.YtapfcbcojnplaaaBase4
namespace Go.Proofs.Ytapfcbcojnplaaa
open Go.RowKit
set_option linter.unusedVariables false
set_option linter.unusedSimpArgs false

theorem refs_hand (R : Nd) : ∀ (l : List (List Nat)) (acc r : List (Int × List Nat)), refsFrom R acc l = (r, 0) → r = acc ++ l.filterMap (hOf R)
  | [], acc, r, h => by
    rw [refsFrom] at h
    have h' := (Prod.mk.inj h).1
    rw [← h']; simp
  | p :: l, acc, r, h => by
    rw [refsFrom] at h
    by_cases h0 : (refStep R acc p).2 = 0
    · rw [if_pos h0] at h
      have ih := refs_hand R l _ r h
      have hs : (refStep R acc p).1 = acc ++ (hOf R p).toList := by
        unfold refStep at h0 ⊢
        unfold hOf
        split at h0
        · rename_i hn; rw [hn]; simp
        · rename_i n hn
          rw [hn]
          simp only
          by_cases g1 : (oneV n phName).2.2 ≠ 0
          · rw [if_pos g1] at h0; exact absurd h0 g1
          rw [if_neg g1] at h0 ⊢
          by_cases g2 : (oneV n phName).2.1 = false
          · rw [if_pos g2, g2]; simp
          rw [if_neg g2] at h0 ⊢
          have g2' : (oneV n phName).2.1 = true := by simpa using g2
          by_cases g3 : (oneV n phName).1 = 0 ∨ (oneV n phName).1 = 4294967295
          · rw [if_pos g3] at h0; exact absurd h0 (by decide)
          rw [if_neg g3] at h0 ⊢
          by_cases g4 : acc.any (fun x => decide (x.1 = (oneV n phName).1)) = true
          · rw [if_pos g4] at h0; exact absurd h0 (by decide)
          rw [if_neg g4, g2']
          simp
      rw [ih, hs, List.append_assoc]
      congr 1
      cases hh : hOf R p <;> rw [List.filterMap_cons, hh] <;> rfl
    · rw [if_neg h0] at h
      exact absurd (Prod.mk.inj h).2 h0
/-- All handles of a tree whose handles are right. -/
theorem refs_all {R : Nd} (h : (refsOf R).2 = 0) : (refsOf R).1 = (placesN R []).filterMap (hOf R) := by
  have := refs_hand R (placesN R []) [] (refsOf R).1 (by rw [← h]; rfl)
  simpa using this

end Go.Proofs.Ytapfcbcojnplaaa
