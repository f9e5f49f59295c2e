/-
  Layer 8: a copy of a place; the handles of a tree whose handles are right.
-/
import Derived.Test.YtihlpcbebpnmkaaGreatDoorRCheck
import Derived.Test.YtihlpcbebpnmkaaGreatDoorBase3
namespace Go.Proofs.YtihlpcbebpnmkaaGreatDoor
open Go.RowKit
set_option linter.unusedVariables false
set_option linter.unusedSimpArgs false

theorem refs_hand (R : Nd) : ∀ (l : List (List Nat)) (acc r : List (Int × List Nat)), refsFrom R acc l = (r, 0) → r = acc ++ l.filterMap (hOf R)
  | [], acc, r, h => by
    rw [refsFrom] at h
    have h' := (Prod.mk.inj h).1
    rw [← h']; simp
  | p :: l, acc, r, h => by
    rw [refsFrom] at h
    by_cases h0 : (refStep R acc p).2 = 0
    · rw [if_pos h0] at h
      have ih := refs_hand R l _ r h
      have hs : (refStep R acc p).1 = acc ++ (hOf R p).toList := by
        unfold refStep at h0 ⊢
        unfold hOf
        split at h0
        · rename_i hn; rw [hn]; simp
        · rename_i n hn
          rw [hn]
          simp only
          by_cases g1 : (oneV n phName).2.2 ≠ 0
          · rw [if_pos g1] at h0; exact absurd h0 g1
          rw [if_neg g1] at h0 ⊢
          by_cases g2 : (oneV n phName).2.1 = false
          · rw [if_pos g2, g2]; simp
          rw [if_neg g2] at h0 ⊢
          have g2' : (oneV n phName).2.1 = true := by simpa using g2
          by_cases g3 : (oneV n phName).1 = 0 ∨ (oneV n phName).1 = 4294967295
          · rw [if_pos g3] at h0; exact absurd h0 (by decide)
          rw [if_neg g3] at h0 ⊢
          by_cases g4 : acc.any (fun x => decide (x.1 = (oneV n phName).1)) = true
          · rw [if_pos g4] at h0; exact absurd h0 (by decide)
          rw [if_neg g4, g2']
          simp
      rw [ih, hs, List.append_assoc]
      congr 1
      cases hh : hOf R p <;> rw [List.filterMap_cons, hh] <;> rfl
    · rw [if_neg h0] at h
      exact absurd (Prod.mk.inj h).2 h0
/-- All handles of a tree whose handles are right. -/
theorem refs_all {R : Nd} (h : (refsOf R).2 = 0) : (refsOf R).1 = (placesN R []).filterMap (hOf R) := by
  have := refs_hand R (placesN R []) [] (refsOf R).1 (by rw [← h]; rfl)
  simpa using this

set_option maxRecDepth 20000 in
set_option maxHeartbeats 2000000 in
theorem iclone_any (A : Option Addr) (n c : Nat) (p : List Nat) (W : World) (hp : Cel W W.heap.size A n (ints p)) (hnc : n ≤ c) (hc : c ≤ 9223372036854775807) (hn : n ≤ 1099511627776) :
    Calls Tryz.prog 67 #[.slice A n c] W fun e W' => (∃ v, e = .returned v ∧ W'.ownsRow W.heap.size 3 1 v n (ints p)) ∧ Below W.heap.size W W' := by
  have hl : p.length = n := by have := hp.1; rwa [List.length_map] at this
  have q : ∀ (w : World) (a : Option Addr) (n c n' c' : Nat), (binOp .eql 39 (.slice a n c) (.slice none n' c')).run Tryz.prog w = .ok (.bool a.isNone) w := fun w a n c n' c' => Lib.run_eql_slice_nil w _ _ a n c n' c' Tryz.underlying39
  have u22 : ∀ w, Sem.run Tryz.prog (underlying 39) w = .ok (TypeDesc.slice 3) w := run_underlying Tryz.underlying39
  rcases A with _ | a
  · have h0 : n = 0 := by
      rcases Nat.eq_zero_or_pos n with h | h
      · exact h
      · obtain ⟨b, o, e, _⟩ := hp.2 h; cases e
    subst h0
    obtain rfl : p = [] := List.eq_nil_of_length_eq_zero hl
    clear hp hl
    go_enter Tryz.func67, Tryz.ntmps67
    go_wp2
    go_ret
    exact ⟨⟨_, rfl, World.ownsRow_nil _ _ _ _⟩, Below.refl _ _⟩
  · have h0 := own_new W W.heap.size (Nat.le_refl _)
    have hal := (Below.refl W.heap.size W).alloc (Nat.le_refl _) (.cells #[] 3)
    have hp' := (hp.below hal).more (B' := (W.alloc (.cells #[] 3)).heap.size) (by simp)
    obtain ⟨v', w7, r7, g1, g2, g3⟩ := app_ints (xs := []) c h0 hp' (by simp; omega) (by simp) 39
    have H1 : Hid (w7.ownsRow W.heap.size 3 1 v' n (ints p)) := Lib.hid (by rw [List.length_map] at g1; rw [List.nil_append, hl] at g1; exact g1)
    have H2 : Hid (Below W.heap.size W w7) := Lib.hid (hal.grown g2 (by simp) (fun k hk => by simp [Value.ownBlock] at hk; omega))
    clear hp hp' h0 hal g1 g2 g3 hl
    go_enter Tryz.func67, Tryz.ntmps67
    go_wp2_with (at_builtin; refine Lib.wpList_append_run_sl _ rfl _ _ _ rfl _ _ rfl rfl r7 ?_)
    go_ret
    exact ⟨⟨_, rfl, H1.out⟩, H2.out⟩
end Go.Proofs.YtihlpcbebpnmkaaGreatDoor
