/-
  Layer 1, WordsCell: for every slice of bytes, every place and number, words.Cell puts the four bytes in, or tells that there is no such place.
-/
import Derived.Test.YtpadmalmijmilaaWBytes
import Derived.Test.YtpadmalmijmilaaWCell
namespace Go.Proofs.Ytpadmalmijmilaa
open Go.RowKit
set_option linter.unusedVariables false
set_option linter.unusedSimpArgs false

set_option maxHeartbeats 1000000 in
theorem wordsCell_yes (A : Option Addr) (n c a : Nat) (zs : List Int) (v : Int) (w : World) (hs : Shows w w.heap.size A n zs) (h : a + 4 ≤ n) (hn : n ≤ 10000) (hnc : n ≤ c) (hcm : c ≤ maxLen) (v0 : 0 ≤ v) (v1 : v ≤ 4294967295) :
    Calls Try.prog 6 #[.slice A n c, .int .i64 a, .int .u32 v] w fun e w' => e = .returned (.bool true) ∧ Below w.heap.size w w' := by
  have C1 := Lib.hid (fun W (hW : Shows W W.heap.size A n zs) => cellp_yes A n c a zs v W hW h hn hnc hcm v0 v1)
  have C2 := Lib.hid (fun W (hW : Shows W W.heap.size A n zs) => number_yes A n c 4 a zs W _ hW h hn (by omega) (by omega))
  have HP := Lib.hid (And.intro h (And.intro hnc hcm))
  have HS := Lib.hid hs
  have hl := hs.1
  have s1 : ¬ 9223372036854775807 < (strOfNums (zs.take a)).size + (strOfNums (four v)).size := by rw [strOfNums_size, strOfNums_size, List.length_take]; simp [four]; omega
  have s2 : ¬ 9223372036854775807 < (strOfNums (zs.take a ++ four v)).size + (strOfNums (zs.drop (a + 4))).size := by rw [strOfNums_size, strOfNums_size, List.length_append, List.length_take, List.length_drop]; simp [four]; omega
  have q1 := strOfNums_append (zs.take a) (four v)
  have q2 := strOfNums_append (zs.take a ++ four v) (zs.drop (a + 4))
  rw [List.append_assoc] at q2
  have ew : IntKind.u64.wrap v = v := IntWalk.u64_in v ⟨v0, by omega⟩
  have ei : IntKind.i64.wrap ((a : Int) + 4) = (a : Int) + 4 := IntWalk.i64_in _ (by omega)
  have r1 := run_upto (P := Try.prog) Try.underlying22 size_u8 A n c (a : Int) a rfl (by omega)
  have r2 := run_from (P := Try.prog) Try.underlying22 size_u8 A n c ((a : Int) + 4) (a + 4) (by omega) h
  clear hs h hnc hcm hl
  go_enter Try.func6, Try.ntmps6
  go_wp2_with fail
  refine (awake_yes _).mono ?_
  rintro e w1 ⟨rfl, hb1⟩
  have HS1 := Lib.hid ((HS.out.below hb1).more hb1.size)
  have HB1 := Lib.hid hb1
  clear hb1
  go_wp2_with fail
  refine (C1.out _ HS1.out).mono ?_
  rintro e w2 ⟨A', c', rfl, h1, h2, h3, h4⟩
  have HT2 := Lib.hid h1
  have HS2 := Lib.hid ((HS1.out.below h4).more h4.size)
  have HB2 := Lib.hid (HB1.out.trans (h4.mono HB1.out.size))
  clear h1 h2 h3 h4 HS1 HB1
  go_wp2_with fail
  refine (C2.out _ HS2.out).mono ?_
  rintro e w3 ⟨rfl, rfl⟩
  go_wp2_with fail
  have e1 := run_string (w := w2.drew) HT2.out c'
  have e2 := run_string (w := w2.drew) (HS2.out.upto (h := a) (by have := HP.out; omega)) c
  have e3 := run_string (w := w2.drew) (HS2.out.from_ (l := a + 4) HP.out.1 HP.out.2.1) (c - (a + 4))
  refine wp_region_held_drew (S := fun W => (convert 22 9 (.slice A' n c')).run Try.prog W = .ok (.string (strOfNums (zs.take a ++ (four v ++ zs.drop (a + 4))))) W ∧ (convert 22 9 (.slice A a c)).run Try.prog W = .ok (.string (strOfNums (zs.take a))) W ∧ (convert 22 9 (.slice (cutAt A c (a + 4)) (n - (a + 4)) (c - (a + 4)))).run Try.prog W = .ok (.string (strOfNums (zs.drop (a + 4)))) W) (by kernel_rfl) ⟨e1, e2, e3⟩ (fun hHeld => ?_)
  clear e1 e2 e3
  refine held_take 0 rfl (by kernel_rfl) (by kernel_rfl) (by kernel_rfl) (fun _ _ _ h => h) (by rfl) hHeld (v := ?_) (fun w hSw => ?_) (fun _ => ?_)
  rotate_left
  · ((try dsimp only at hSw); go_simp; (try with_reducible rfl))
  simp only [Act.put, List.setIfInBounds_toArray, List.set_cons_zero, List.set_cons_succ]
  refine held_take 1 rfl (by kernel_rfl) (by kernel_rfl) (by kernel_rfl) (fun _ _ _ h => h) (by rfl) hHeld (v := ?_) (fun w hSw => ?_) (fun _ => ?_)
  rotate_left
  · ((try dsimp only at hSw); go_simp; (try with_reducible rfl))
  simp only [Act.put, List.setIfInBounds_toArray, List.set_cons_zero, List.set_cons_succ]
  refine held_take 2 rfl (by kernel_rfl) (by kernel_rfl) (by kernel_rfl) (fun _ _ _ h => h) (by rfl) hHeld (v := ?_) (fun w hSw => ?_) (fun _ => ?_)
  rotate_left
  · ((try dsimp only at hSw); go_simp; (try with_reducible rfl))
  simp only [Act.put, List.setIfInBounds_toArray, List.set_cons_zero, List.set_cons_succ]
  refine held_take 3 rfl (by kernel_rfl) (by kernel_rfl) (by kernel_rfl) (fun _ _ _ h => h) (by rfl) hHeld (v := ?_) (fun w hSw => ?_) (fun _ => ?_)
  rotate_left
  · ((try dsimp only at hSw); go_simp; (try with_reducible rfl))
  simp only [Act.put, List.setIfInBounds_toArray, List.set_cons_zero, List.set_cons_succ]
  refine held_take 4 rfl (by kernel_rfl) (by kernel_rfl) (by kernel_rfl) (fun _ _ _ h => h) (by rfl) hHeld (v := ?_) (fun w hSw => ?_) (fun _ => ?_)
  rotate_left
  · ((try dsimp only at hSw); go_simp; (try with_reducible rfl))
  simp only [Act.put, List.setIfInBounds_toArray, List.set_cons_zero, List.set_cons_succ]
  refine held_take 5 rfl (by kernel_rfl) (by kernel_rfl) (by kernel_rfl) (fun _ _ _ h => h) (by rfl) hHeld (v := ?_) (fun w hSw => ?_) (fun _ => ?_)
  rotate_left
  · ((try dsimp only at hSw); go_simp; (try with_reducible rfl))
  simp only [Act.put, List.setIfInBounds_toArray, List.set_cons_zero, List.set_cons_succ]
  refine held_take 6 rfl (by kernel_rfl) (by kernel_rfl) (by kernel_rfl) (fun _ _ _ h => h) (by rfl) hHeld (v := ?_) (fun w hSw => ?_) (fun _ => ?_)
  rotate_left
  · ((try dsimp only at hSw); go_simp; (try with_reducible rfl))
  simp only [Act.put, List.setIfInBounds_toArray, List.set_cons_zero, List.set_cons_succ]
  refine held_take 7 rfl (by kernel_rfl) (by kernel_rfl) (by kernel_rfl) (fun _ _ _ h => h) (by rfl) hHeld (v := ?_) (fun w hSw => ?_) (fun _ => ?_)
  rotate_left
  · ((try dsimp only at hSw); go_simp; (try with_reducible rfl))
  simp only [Act.put, List.setIfInBounds_toArray, List.set_cons_zero, List.set_cons_succ]
  refine held_take 8 rfl (by kernel_rfl) (by kernel_rfl) (by kernel_rfl) (fun _ _ _ h => h) (by rfl) hHeld (v := ?_) (fun w hSw => ?_) (fun _ => ?_)
  rotate_left
  · ((try dsimp only at hSw); go_simp; (try with_reducible rfl))
  simp only [Act.put, List.setIfInBounds_toArray, List.set_cons_zero, List.set_cons_succ]
  refine held_take 9 rfl (by kernel_rfl) (by kernel_rfl) (by kernel_rfl) (fun _ _ _ h => h) (by rfl) hHeld (v := ?_) (fun w hSw => ?_) (fun _ => ?_)
  rotate_left
  · ((try dsimp only at hSw); go_simp; (try with_reducible rfl))
  simp only [Act.put, List.setIfInBounds_toArray, List.set_cons_zero, List.set_cons_succ]
  refine held_take 13 rfl (by kernel_rfl) (by kernel_rfl) (by kernel_rfl) (fun _ _ _ h => h) (by rfl) hHeld (v := ?_) (fun w hSw => ?_) (fun _ => ?_)
  rotate_left
  · ((try dsimp only at hSw); go_simp; (try with_reducible rfl))
  simp only [Act.put, List.setIfInBounds_toArray, List.set_cons_zero, List.set_cons_succ]
  refine held_take 14 rfl (by kernel_rfl) (by kernel_rfl) (by kernel_rfl) (fun _ _ _ h => h) (by rfl) hHeld (v := ?_) (fun w hSw => ?_) (fun _ => ?_)
  rotate_left
  · ((try dsimp only at hSw); go_simp; (try with_reducible rfl))
  simp only [Act.put, List.setIfInBounds_toArray, List.set_cons_zero, List.set_cons_succ]
  refine held_take 15 rfl (by kernel_rfl) (by kernel_rfl) (by kernel_rfl) (fun _ _ _ h => h) (by rfl) hHeld (v := ?_) (fun w hSw => ?_) (fun _ => ?_)
  rotate_left
  · ((try dsimp only at hSw); go_simp; (try with_reducible rfl))
  simp only [Act.put, List.setIfInBounds_toArray, List.set_cons_zero, List.set_cons_succ]
  refine held_take 16 rfl (by kernel_rfl) (by kernel_rfl) (by kernel_rfl) (fun _ _ _ h => h) (by rfl) hHeld (v := ?_) (fun w hSw => ?_) (fun _ => ?_)
  rotate_left
  · ((try dsimp only at hSw); go_simp; (try with_reducible rfl))
  simp only [Act.put, List.setIfInBounds_toArray, List.set_cons_zero, List.set_cons_succ]
  refine held_take 17 rfl (by kernel_rfl) (by kernel_rfl) (by kernel_rfl) (fun _ _ _ h => h) (by rfl) hHeld (v := ?_) (fun w hSw => ?_) (fun _ => ?_)
  rotate_left
  · ((try dsimp only at hSw); go_simp; (try with_reducible rfl))
  simp only [Act.put, List.setIfInBounds_toArray, List.set_cons_zero, List.set_cons_succ]
  refine held_call 10 (by kernel_rfl) rfl (by rfl) (fun K hK => ?_)
  go_simp
  refine (bytes_four v _ v0 v1).mono ?_
  rintro e w4 ⟨b4, rfl, hs4, hb4⟩
  have HB4 := Lib.hid ((Below.refl _ w2).drew.trans hb4)
  have f1 := run_string (HT2.out.below HB4.out) c'
  have f2 := run_string ((HS2.out.upto (h := a) (by have := HP.out; omega)).below HB4.out) c
  have f3 := run_string ((HS2.out.from_ (l := a + 4) HP.out.1 HP.out.2.1).below HB4.out) (c - (a + 4))
  have f4 := run_string hs4 4
  clear hb4 hs4
  dsimp only
  refine hK.out _ _ ⟨f1, f2, f3⟩ (fun _ => ?_)
  clear hK K hHeld
  refine held_more (S' := fun W => ((convert 22 9 (.slice A' n c')).run Try.prog W = .ok (.string (strOfNums (zs.take a ++ (four v ++ zs.drop (a + 4))))) W ∧ (convert 22 9 (.slice A a c)).run Try.prog W = .ok (.string (strOfNums (zs.take a))) W ∧ (convert 22 9 (.slice (cutAt A c (a + 4)) (n - (a + 4)) (c - (a + 4)))).run Try.prog W = .ok (.string (strOfNums (zs.drop (a + 4)))) W) ∧ (convert 22 9 (.slice (some ⟨b4, 0, none⟩) 4 4)).run Try.prog W = .ok (.string (strOfNums (four v))) W) (fun _ h => h.1) _ _ _ _ ?_
  have hHeld : (fun W => ((convert 22 9 (.slice A' n c')).run Try.prog W = .ok (.string (strOfNums (zs.take a ++ (four v ++ zs.drop (a + 4))))) W ∧ (convert 22 9 (.slice A a c)).run Try.prog W = .ok (.string (strOfNums (zs.take a))) W ∧ (convert 22 9 (.slice (cutAt A c (a + 4)) (n - (a + 4)) (c - (a + 4)))).run Try.prog W = .ok (.string (strOfNums (zs.drop (a + 4)))) W) ∧ (convert 22 9 (.slice (some ⟨b4, 0, none⟩) 4 4)).run Try.prog W = .ok (.string (strOfNums (four v))) W) w4 := ⟨⟨f1, f2, f3⟩, f4⟩
  clear f1 f2 f3 f4
  refine held_take 11 rfl (by kernel_rfl) (by kernel_rfl) (by kernel_rfl) (fun _ _ _ h => h) (by rfl) hHeld (v := ?_) (fun w hSw => ?_) (fun _ => ?_)
  rotate_left
  · ((try dsimp only at hSw); go_simp; (try with_reducible rfl))
  simp only [Act.put, List.setIfInBounds_toArray, List.set_cons_zero, List.set_cons_succ]
  refine held_take 12 rfl (by kernel_rfl) (by kernel_rfl) (by kernel_rfl) (fun _ _ _ h => h) (by rfl) hHeld (v := ?_) (fun w hSw => ?_) (fun _ => ?_)
  rotate_left
  · ((try dsimp only at hSw); go_simp; (try with_reducible rfl))
  simp only [Act.put, List.setIfInBounds_toArray, List.set_cons_zero, List.set_cons_succ]
  refine held_take 18 rfl (by kernel_rfl) (by kernel_rfl) (by kernel_rfl) (fun _ _ _ h => h) (by rfl) hHeld (v := ?_) (fun w hSw => ?_) (fun _ => ?_)
  rotate_left
  · ((try dsimp only at hSw); go_simp; (try with_reducible rfl))
  simp only [Act.put, List.setIfInBounds_toArray, List.set_cons_zero, List.set_cons_succ]
  refine held_take 19 rfl (by kernel_rfl) (by kernel_rfl) (by kernel_rfl) (fun _ _ _ h => h) (by rfl) hHeld (v := ?_) (fun w hSw => ?_) (fun _ => ?_)
  rotate_left
  · ((try dsimp only at hSw); go_simp; (try with_reducible rfl))
  simp only [Act.put, List.setIfInBounds_toArray, List.set_cons_zero, List.set_cons_succ]
  refine held_take 20 rfl (by kernel_rfl) (by kernel_rfl) (by kernel_rfl) (fun _ _ _ h => h) (by rfl) hHeld (v := ?_) (fun w hSw => ?_) (fun _ => ?_)
  rotate_left
  · ((try dsimp only at hSw); go_simp; (try with_reducible rfl))
  simp only [Act.put, List.setIfInBounds_toArray, List.set_cons_zero, List.set_cons_succ]
  refine held_take 21 rfl (by kernel_rfl) (by kernel_rfl) (by kernel_rfl) (fun _ _ _ h => h) (by rfl) hHeld (v := ?_) (fun w hSw => ?_) (fun _ => ?_)
  rotate_left
  · ((try dsimp only at hSw); go_simp; (try with_reducible rfl))
  simp only [Act.put, List.setIfInBounds_toArray, List.set_cons_zero, List.set_cons_succ]
  refine wpAnyH_done (by kernel_rfl) ?_ _
  go_wp2
  go_ret
  exact ⟨rfl, HB2.out.trans (HB4.out.mono HB2.out.size)⟩

set_option maxHeartbeats 1000000 in
theorem wordsCell_true (A : Option Addr) (n c : Nat) (zs : List Int) (at_ v : Int) (w : World) (hs : Shows w w.heap.size A n zs ∧ n ≤ c ∧ c ≤ maxLen) (ha : (Lit.int .i64 at_).wf = true) (hv : (Lit.int .u32 v).wf = true) :
    Calls Try.prog 6 #[.slice A n c, .int .i64 at_, .int .u32 v] w fun e w' => e = .returned (.bool true) ∧ Below w.heap.size w w' := by
  obtain ⟨hs, hnc, hcm⟩ := hs
  have hb := bounds_i64 ha
  have hv := bounds_u32 hv
  by_cases hn : n ≤ 10000
  · by_cases h4 : 0 ≤ at_ ∧ 4 ≤ (n : Int) - at_
    · obtain ⟨a, rfl⟩ := Int.eq_ofNat_of_zero_le h4.1
      exact wordsCell_yes A n c a zs v w hs (by omega) hn hnc hcm hv.1 hv.2
    · have C1 := Lib.hid (fun W => cellp_no A n c at_ v W h4 hn hb)
      have C3 := Lib.hid (fun W => number_no A n c at_ 4 W (by omega) (by omega) (by omega) hb)
      clear hs h4 ha hcm hnc
      go_enter Try.func6, Try.ntmps6
      go_wp2_with fail
      refine (awake_yes _).mono ?_
      rintro e w1 ⟨rfl, hb1⟩
      go_wp2_with fail
      refine (C1.out _).mono ?_
      rintro e w2 ⟨rfl, rfl⟩
      go_wp2_with fail
      refine (C3.out _).mono ?_
      rintro e w2 ⟨rfl, rfl⟩
      go_wp2
      go_ret
      exact ⟨rfl, hb1⟩
  · clear hs ha hcm hnc
    go_enter Try.func6, Try.ntmps6
    go_wp2_with fail
    refine (awake_yes _).mono ?_
    rintro e w1 ⟨rfl, hb1⟩
    go_wp2_with fail
    refine (awake_yes _).mono ?_
    rintro e w2 ⟨rfl, hb2⟩
    have HB := Lib.hid (hb1.trans (hb2.mono hb1.size))
    clear hb1 hb2
    go_wp2
    go_ret
    exact ⟨rfl, HB.out⟩
end Go.Proofs.Ytpadmalmijmilaa
