/-
  words.Cell: four bytes put in.
-/
import Derived.Test.YtpadmalmijmilaaWPut
import Derived.Test.YtpadmalmijmilaaWGet
import Derived.Test.YtpadmalmijmilaaReg
namespace Go.Proofs.Ytpadmalmijmilaa
open Go.RowKit
set_option linter.unusedVariables false
set_option linter.unusedSimpArgs false

set_option maxHeartbeats 400000 in
theorem cellp_no (A : Option Addr) (n c : Nat) (at_ v : Int) (w : World) (h : ¬ (0 ≤ at_ ∧ 4 ≤ n - at_)) (hn : n ≤ 10000) (ha : -9223372036854775808 ≤ at_ ∧ at_ ≤ 9223372036854775807) :
    Calls Try.prog 17 #[.slice A n c, .int .i64 at_, .int .u32 v] w fun e w' => e = .returned (.tuple #[.slice none 0 0, .bool false]) ∧ w = w' := by
  have HH := Lib.hid (holds_any A n c at_ 4 w hn (by omega) ha false (by simp; omega))
  clear h
  go_enter Try.func17, Try.ntmps17
  go_wp2_with (go_at_call 22; refine HH.out.mono ?_; rintro e w' ⟨rfl, rfl⟩)
  go_ret2
  exact ⟨rfl, rfl⟩

set_option maxHeartbeats 1000000 in
theorem cellp_yes (A : Option Addr) (n c a : Nat) (zs : List Int) (v : Int) (w : World) (hs : Shows w w.heap.size A n zs) (h : a + 4 ≤ n) (hn : n ≤ 10000) (hnc : n ≤ c) (hc63 : c ≤ maxLen) (v0 : 0 ≤ v) (v1 : v ≤ 4294967295) :
    Calls Try.prog 17 #[.slice A n c, .int .i64 a, .int .u32 v] w fun e w' => ∃ A' c', e = .returned (.tuple #[.slice A' n c', .bool true]) ∧ Shows w' w'.heap.size A' n (zs.take a ++ (four v ++ zs.drop (a + 4))) ∧ n ≤ c' ∧ c' ≤ maxLen ∧ Below w.heap.size w w' := by
  have HH := Lib.hid (holds_any A n c a 4 w hn (by omega) (by omega) true (by simp; omega))
  have hs1 := hs.upto (h := a) (by omega)
  have hs2 := hs.from_ (l := a + 4) h hnc
  have hb1 : ∀ o, Below w.heap.size w (w.drew.alloc o) := fun o => (Below.refl _ w).drew.alloc (Nat.le_refl _) o
  have H := concat_new (w.drew.alloc (.cells #[.int .u8 (v / 16777216), .int .u8 (v / 65536 % 256), .int .u8 (v / 256 % 256), .int .u8 (v % 256)] 5)) (w.heap.size + 1) (by simp) [(A, a, c, zs.take a), (some ⟨w.heap.size, 0, none⟩, 4, 4, four v), (cutAt A c (a + 4), n - (a + 4), c - (a + 4), zs.drop (a + 4))] 3
    #[Value.slice A a c, Value.slice (some ⟨w.heap.size, 0, none⟩) 4 4, Value.slice (cutAt A c (a + 4)) (n - (a + 4)) (c - (a + 4))] 22 rfl (by omega) rfl
    (fun p hp => by
      simp only [List.mem_cons, List.not_mem_nil, or_false] at hp
      rcases hp with rfl | rfl | rfl
      · exact (hs1.below (hb1 _)).more (by simp)
      · exact (four_shows w.drew v v0 v1).more (by simp)
      · exact (hs2.below (hb1 _)).more (by simp))
    (by simp [sumLen]; omega)
  have es : sumLen [(A, a, c, zs.take a), (some ⟨w.heap.size, 0, none⟩, 4, 4, four v), (cutAt A c (a + 4), n - (a + 4), c - (a + 4), zs.drop (a + 4))] = n := by simp [sumLen]; omega
  rw [es] at H
  have HK := Lib.hid H
  have HB := Lib.hid hb1
  have ew : IntKind.i64.wrap ((a : Int) + 4) = (a : Int) + 4 := IntWalk.i64_in _ (by omega)
  have r1 := run_upto (P := Try.prog) Try.underlying22 size_u8 A n c (a : Int) a rfl (by omega)
  have r2 := run_from (P := Try.prog) Try.underlying22 size_u8 A n c ((a : Int) + 4) (a + 4) (by omega) h
  clear hs hs1 hs2 hb1 H es hnc hc63 h hn
  go_enter Try.func17, Try.ntmps17
  go_wp2_with (go_at_call 22; refine HH.out.mono ?_; rintro e w' ⟨rfl, rfl⟩)
  refine wp_region_held_drew (S := fun _ => True) (by kernel_rfl) trivial (fun hHeld => ?_)
  refine held_take 0 rfl (by kernel_rfl) (by kernel_rfl) (by kernel_rfl) (fun _ _ _ h => h) (by rfl) hHeld (v := ?_) (fun w hSw => ?_) (fun _ => ?_)
  rotate_left
  · ((try dsimp only at hSw); go_simp; (try with_reducible rfl))
  simp only [Act.put, List.setIfInBounds_toArray, List.set_cons_zero, List.set_cons_succ]
  refine held_take 1 rfl (by kernel_rfl) (by kernel_rfl) (by kernel_rfl) (fun _ _ _ h => h) (by rfl) hHeld (v := ?_) (fun w hSw => ?_) (fun _ => ?_)
  rotate_left
  · ((try dsimp only at hSw); go_simp; (try with_reducible rfl))
  simp only [Act.put, List.setIfInBounds_toArray, List.set_cons_zero, List.set_cons_succ]
  refine held_take 2 rfl (by kernel_rfl) (by kernel_rfl) (by kernel_rfl) (fun _ _ _ h => h) (by rfl) hHeld (v := ?_) (fun w hSw => ?_) (fun _ => ?_)
  rotate_left
  · ((try dsimp only at hSw); go_simp; (try with_reducible rfl))
  simp only [Act.put, List.setIfInBounds_toArray, List.set_cons_zero, List.set_cons_succ]
  refine held_take 3 rfl (by kernel_rfl) (by kernel_rfl) (by kernel_rfl) (fun _ _ _ h => h) (by rfl) hHeld (v := ?_) (fun w hSw => ?_) (fun _ => ?_)
  rotate_left
  · ((try dsimp only at hSw); go_simp; (try with_reducible rfl))
  simp only [Act.put, List.setIfInBounds_toArray, List.set_cons_zero, List.set_cons_succ]
  refine held_take 5 rfl (by kernel_rfl) (by kernel_rfl) (by kernel_rfl) (fun _ _ _ h => h) (by rfl) hHeld (v := ?_) (fun w hSw => ?_) (fun _ => ?_)
  rotate_left
  · ((try dsimp only at hSw); go_simp; (try with_reducible rfl))
  simp only [Act.put, List.setIfInBounds_toArray, List.set_cons_zero, List.set_cons_succ]
  refine held_take 6 rfl (by kernel_rfl) (by kernel_rfl) (by kernel_rfl) (fun _ _ _ h => h) (by rfl) hHeld (v := ?_) (fun w hSw => ?_) (fun _ => ?_)
  rotate_left
  · ((try dsimp only at hSw); go_simp; (try with_reducible rfl))
  simp only [Act.put, List.setIfInBounds_toArray, List.set_cons_zero, List.set_cons_succ]
  refine held_take 7 rfl (by kernel_rfl) (by kernel_rfl) (by kernel_rfl) (fun _ _ _ h => h) (by rfl) hHeld (v := ?_) (fun w hSw => ?_) (fun _ => ?_)
  rotate_left
  · ((try dsimp only at hSw); go_simp; (try with_reducible rfl))
  simp only [Act.put, List.setIfInBounds_toArray, List.set_cons_zero, List.set_cons_succ]
  refine held_take 8 rfl (by kernel_rfl) (by kernel_rfl) (by kernel_rfl) (fun _ _ _ h => h) (by rfl) hHeld (v := ?_) (fun w hSw => ?_) (fun _ => ?_)
  rotate_left
  · ((try dsimp only at hSw); go_simp; (try with_reducible rfl))
  simp only [Act.put, List.setIfInBounds_toArray, List.set_cons_zero, List.set_cons_succ]
  refine held_call 4 (by kernel_rfl) rfl (by rfl) (fun K hK => ?_)
  go_simp
  refine (cell_any v _ v0 v1).mono ?_
  rintro e w4 ⟨rfl, rfl⟩
  dsimp only
  refine hK.out _ _ trivial (fun _ => ?_)
  clear hK K
  refine held_call 9 (by kernel_rfl) rfl (by rfl) (fun K hK => ?_)
  go_simp
  refine hK.out _ _ trivial (fun _ => ?_)
  clear hK K
  refine held_call 10 (by kernel_rfl) rfl (by rfl) (fun K hK => ?_)
  go_simp
  refine (calls_world rfl HK.out).mono ?_
  rintro e w5 ⟨A', c', rfl, h1, h2, h3, h4⟩
  have HO := Lib.hid (And.intro h1 (And.intro h2 (And.intro h3 h4)))
  clear h1 h2 h3 h4
  dsimp only
  refine hK.out _ _ trivial (fun _ => ?_)
  clear hK K
  refine held_take 11 rfl (by kernel_rfl) (by kernel_rfl) (by kernel_rfl) (fun _ _ _ h => h) (by rfl) hHeld (v := ?_) (fun w hSw => ?_) (fun _ => ?_)
  rotate_left
  · ((try dsimp only at hSw); go_simp; (try with_reducible rfl))
  simp only [Act.put, List.setIfInBounds_toArray, List.set_cons_zero, List.set_cons_succ]
  refine held_take 12 rfl (by kernel_rfl) (by kernel_rfl) (by kernel_rfl) (fun _ _ _ h => h) (by rfl) hHeld (v := ?_) (fun w hSw => ?_) (fun _ => ?_)
  rotate_left
  · ((try dsimp only at hSw); go_simp; (try with_reducible rfl))
  simp only [Act.put, List.setIfInBounds_toArray, List.set_cons_zero, List.set_cons_succ]
  refine wpAnyH_done (by kernel_rfl) ?_ _
  go_wp2
  go_ret2
  obtain ⟨h1, h2, h3, h4⟩ := HO.out
  simp only [joined, List.append_nil] at h1
  exact ⟨A', c', rfl, h1, h2, h3, (HB.out _).trans (h4.mono (by simp))⟩
end Go.Proofs.Ytpadmalmijmilaa
