/-
  Layer 1, WordsPut: for every slice of bytes and all numbers, what is put behind the bytes is the document's bytes behind them.
-/
import Derived.Test.YtpadmalmijmilaaWBytes
import Derived.Test.YtpadmalmijmilaaReg
import Derived.Deep.DrawnRows
namespace Go.Proofs.Ytpadmalmijmilaa
open Go.RowKit
set_option linter.unusedVariables false
set_option linter.unusedSimpArgs false
attribute [local go_sem ↓] Go.wp_at_zero Go.wp_at_succ

set_option maxHeartbeats 1000000 in
theorem wordsPut_small (A : Option Addr) (n c : Nat) (zs : List Int) (v x : Int) (w : World) (hs : Shows w w.heap.size A n zs) (hn : n ≤ 10000) (v0 : 0 ≤ v) (v1 : v ≤ 4294967295) (x0 : 0 ≤ x) (x1 : x ≤ 18446744073709551615) :
    Calls Try.prog 4 #[.slice A n c, .int .u32 v, .int .u64 x] w fun e w' => e = .returned (.bool true) ∧ Below w.heap.size w w' := by
  have HS := Lib.hid hs
  have HN := Lib.hid hn
  clear hs
  go_enter Try.func4, Try.ntmps4
  go_wp2_with fail
  refine (awake_yes _).mono ?_
  rintro e w1 ⟨rfl, hb1⟩
  have HS1 := Lib.hid ((HS.out.below hb1).more hb1.size)
  have HB1 := Lib.hid hb1
  clear hb1
  go_wp2_with fail
  refine (put_any A n c zs v w1 HS1.out HN.out v0 v1).mono ?_
  rintro e w2 ⟨A1, c1, rfl, hs1, hc1, hd1, hb2⟩
  have HT1 := Lib.hid hs1
  have HS2 := Lib.hid ((HS1.out.below hb2).more hb2.size)
  have HB2 := Lib.hid (HB1.out.trans (hb2.mono HB1.out.size))
  clear hs1 hc1 hd1 hb2
  go_wp2_with fail
  refine (put64_any A n c zs x w2 HS2.out HN.out x0 x1).mono ?_
  rintro e w3 ⟨A2, c2, rfl, hs1, hc1, hd1, hb2⟩
  have HT2 := Lib.hid hs1
  have HT1' := Lib.hid ((HT1.out.below hb2).more hb2.size)
  have HS3 := Lib.hid ((HS2.out.below hb2).more hb2.size)
  have HB3 := Lib.hid (HB2.out.trans (hb2.mono HB2.out.size))
  clear hs1 hc1 hd1 hb2 HB1 HB2 HS1 HS2 HT1
  go_wp2_with fail
  have e1 := run_string (w := w3.drew) HS3.out c
  have e2 := run_string (w := w3.drew) HT1'.out c1
  have e3 := run_string (w := w3.drew) HT2.out c2
  have ew : IntKind.u64.wrap v = v := IntWalk.u64_in v ⟨v0, by omega⟩
  have zl := HS3.out.1
  have s1 : ¬ 9223372036854775807 < (strOfNums zs).size + (strOfNums (four v)).size := by rw [strOfNums_size, strOfNums_size, zl]; simp [four]; omega
  have s2 : ¬ 9223372036854775807 < (strOfNums zs).size + (strOfNums (four (x / 4294967296) ++ four (x % 4294967296))).size := by rw [strOfNums_size, strOfNums_size, zl]; simp [four]; omega
  have q1 := strOfNums_append zs (four v)
  have q2 := strOfNums_append zs (four (x / 4294967296) ++ four (x % 4294967296))
  clear zl
  refine wp_region_held_drew (S := fun W => (convert 22 9 (.slice A n c)).run Try.prog W = .ok (.string (strOfNums zs)) W ∧ (convert 22 9 (.slice A1 (n + 4) c1)).run Try.prog W = .ok (.string (strOfNums (zs ++ four v))) W ∧ (convert 22 9 (.slice A2 (n + 8) c2)).run Try.prog W = .ok (.string (strOfNums (zs ++ (four (x / 4294967296) ++ four (x % 4294967296))))) W) (by kernel_rfl) ⟨e1, e2, e3⟩ (fun hHeld => ?_)
  clear e1 e2 e3
  refine held_take 0 rfl (by kernel_rfl) (by kernel_rfl) (by kernel_rfl) (fun _ _ _ h => h) (by rfl) hHeld (v := ?_) (fun w hSw => ?_) (fun _ => ?_)
  rotate_left
  · ((try dsimp only at hSw); go_simp; (try with_reducible rfl))
  simp only [Act.put, List.setIfInBounds_toArray, List.set_cons_zero, List.set_cons_succ]
  refine held_take 1 rfl (by kernel_rfl) (by kernel_rfl) (by kernel_rfl) (fun _ _ _ h => h) (by rfl) hHeld (v := ?_) (fun w hSw => ?_) (fun _ => ?_)
  rotate_left
  · ((try dsimp only at hSw); go_simp; (try with_reducible rfl))
  simp only [Act.put, List.setIfInBounds_toArray, List.set_cons_zero, List.set_cons_succ]
  refine held_take 2 rfl (by kernel_rfl) (by kernel_rfl) (by kernel_rfl) (fun _ _ _ h => h) (by rfl) hHeld (v := ?_) (fun w hSw => ?_) (fun _ => ?_)
  rotate_left
  · ((try dsimp only at hSw); go_simp; (try with_reducible rfl))
  simp only [Act.put, List.setIfInBounds_toArray, List.set_cons_zero, List.set_cons_succ]
  refine held_take 3 rfl (by kernel_rfl) (by kernel_rfl) (by kernel_rfl) (fun _ _ _ h => h) (by rfl) hHeld (v := ?_) (fun w hSw => ?_) (fun _ => ?_)
  rotate_left
  · ((try dsimp only at hSw); go_simp; (try with_reducible rfl))
  simp only [Act.put, List.setIfInBounds_toArray, List.set_cons_zero, List.set_cons_succ]
  refine held_take 4 rfl (by kernel_rfl) (by kernel_rfl) (by kernel_rfl) (fun _ _ _ h => h) (by rfl) hHeld (v := ?_) (fun w hSw => ?_) (fun _ => ?_)
  rotate_left
  · ((try dsimp only at hSw); go_simp; (try with_reducible rfl))
  simp only [Act.put, List.setIfInBounds_toArray, List.set_cons_zero, List.set_cons_succ]
  refine held_take 5 rfl (by kernel_rfl) (by kernel_rfl) (by kernel_rfl) (fun _ _ _ h => h) (by rfl) hHeld (v := ?_) (fun w hSw => ?_) (fun _ => ?_)
  rotate_left
  · ((try dsimp only at hSw); go_simp; (try with_reducible rfl))
  simp only [Act.put, List.setIfInBounds_toArray, List.set_cons_zero, List.set_cons_succ]
  refine held_call 6 (by kernel_rfl) rfl (by rfl) (fun K hK => ?_)
  go_simp
  refine (bytes_four v _ v0 v1).mono ?_
  rintro e w4 ⟨b4, rfl, hs4, hb4⟩
  have HB4 := Lib.hid ((Below.refl _ w3).drew.trans hb4)
  have f1 := run_string (HS3.out.below HB4.out) c
  have f2 := run_string (HT1'.out.below HB4.out) c1
  have f3 := run_string (HT2.out.below HB4.out) c2
  have f4 := run_string hs4 4
  have SS4 := Lib.hid hs4
  clear hb4 hs4
  dsimp only
  refine hK.out _ _ ⟨f1, f2, f3⟩ (fun _ => ?_)
  clear hK K hHeld
  refine held_more (S' := fun W => ((convert 22 9 (.slice A n c)).run Try.prog W = .ok (.string (strOfNums zs)) W ∧ (convert 22 9 (.slice A1 (n + 4) c1)).run Try.prog W = .ok (.string (strOfNums (zs ++ four v))) W ∧ (convert 22 9 (.slice A2 (n + 8) c2)).run Try.prog W = .ok (.string (strOfNums (zs ++ (four (x / 4294967296) ++ four (x % 4294967296))))) W) ∧ (convert 22 9 (.slice (some ⟨b4, 0, none⟩) 4 4)).run Try.prog W = .ok (.string (strOfNums (four v))) W) (fun _ h => h.1) _ _ _ _ ?_
  have hHeld : (fun W => ((convert 22 9 (.slice A n c)).run Try.prog W = .ok (.string (strOfNums zs)) W ∧ (convert 22 9 (.slice A1 (n + 4) c1)).run Try.prog W = .ok (.string (strOfNums (zs ++ four v))) W ∧ (convert 22 9 (.slice A2 (n + 8) c2)).run Try.prog W = .ok (.string (strOfNums (zs ++ (four (x / 4294967296) ++ four (x % 4294967296))))) W) ∧ (convert 22 9 (.slice (some ⟨b4, 0, none⟩) 4 4)).run Try.prog W = .ok (.string (strOfNums (four v))) W) w4 := ⟨⟨f1, f2, f3⟩, f4⟩
  clear f1 f2 f3 f4
  refine held_take 7 rfl (by kernel_rfl) (by kernel_rfl) (by kernel_rfl) (fun _ _ _ h => h) (by rfl) hHeld (v := ?_) (fun w hSw => ?_) (fun _ => ?_)
  rotate_left
  · ((try dsimp only at hSw); go_simp; (try with_reducible rfl))
  simp only [Act.put, List.setIfInBounds_toArray, List.set_cons_zero, List.set_cons_succ]
  refine held_take 8 rfl (by kernel_rfl) (by kernel_rfl) (by kernel_rfl) (fun _ _ _ h => h) (by rfl) hHeld (v := ?_) (fun w hSw => ?_) (fun _ => ?_)
  rotate_left
  · ((try dsimp only at hSw); go_simp; (try with_reducible rfl))
  simp only [Act.put, List.setIfInBounds_toArray, List.set_cons_zero, List.set_cons_succ]
  refine held_take 9 rfl (by kernel_rfl) (by kernel_rfl) (by kernel_rfl) (fun _ _ _ h => h) (by rfl) hHeld (v := ?_) (fun w hSw => ?_) (fun _ => ?_)
  rotate_left
  · ((try dsimp only at hSw); go_simp; (try with_reducible rfl))
  simp only [Act.put, List.setIfInBounds_toArray, List.set_cons_zero, List.set_cons_succ]
  refine held_take 10 rfl (by kernel_rfl) (by kernel_rfl) (by kernel_rfl) (fun _ _ _ h => h) (by rfl) hHeld (v := ?_) (fun w hSw => ?_) (fun _ => ?_)
  rotate_left
  · ((try dsimp only at hSw); go_simp; (try with_reducible rfl))
  simp only [Act.put, List.setIfInBounds_toArray, List.set_cons_zero, List.set_cons_succ]
  refine held_take 11 rfl (by kernel_rfl) (by kernel_rfl) (by kernel_rfl) (fun _ _ _ h => h) (by rfl) hHeld (v := ?_) (fun w hSw => ?_) (fun _ => ?_)
  rotate_left
  · ((try dsimp only at hSw); go_simp; (try with_reducible rfl))
  simp only [Act.put, List.setIfInBounds_toArray, List.set_cons_zero, List.set_cons_succ]
  refine held_take 12 rfl (by kernel_rfl) (by kernel_rfl) (by kernel_rfl) (fun _ _ _ h => h) (by rfl) hHeld (v := ?_) (fun w hSw => ?_) (fun _ => ?_)
  rotate_left
  · ((try dsimp only at hSw); go_simp; (try with_reducible rfl))
  simp only [Act.put, List.setIfInBounds_toArray, List.set_cons_zero, List.set_cons_succ]
  refine held_take 13 rfl (by kernel_rfl) (by kernel_rfl) (by kernel_rfl) (fun _ _ _ h => h) (by rfl) hHeld (v := ?_) (fun w hSw => ?_) (fun _ => ?_)
  rotate_left
  · ((try dsimp only at hSw); go_simp; (try with_reducible rfl))
  simp only [Act.put, List.setIfInBounds_toArray, List.set_cons_zero, List.set_cons_succ]
  refine held_take 14 rfl (by kernel_rfl) (by kernel_rfl) (by kernel_rfl) (fun _ _ _ h => h) (by rfl) hHeld (v := ?_) (fun w hSw => ?_) (fun _ => ?_)
  rotate_left
  · ((try dsimp only at hSw); go_simp; (try with_reducible rfl))
  simp only [Act.put, List.setIfInBounds_toArray, List.set_cons_zero, List.set_cons_succ]
  refine held_take 15 rfl (by kernel_rfl) (by kernel_rfl) (by kernel_rfl) (fun _ _ _ h => h) (by rfl) hHeld (v := ?_) (fun w hSw => ?_) (fun _ => ?_)
  rotate_left
  · ((try dsimp only at hSw); go_simp; (try with_reducible rfl))
  simp only [Act.put, List.setIfInBounds_toArray, List.set_cons_zero, List.set_cons_succ]
  refine held_call 16 (by kernel_rfl) rfl (by rfl) (fun K hK => ?_)
  go_simp
  refine (bytes_eight x _ x0 x1).mono ?_
  rintro e w5 ⟨b5, rfl, hs5, hb5⟩
  have HB5 := Lib.hid (HB4.out.trans (hb5.mono HB4.out.size))
  have f1 := run_string (HS3.out.below HB5.out) c
  have f2 := run_string (HT1'.out.below HB5.out) c1
  have f3 := run_string (HT2.out.below HB5.out) c2
  have f4 := run_string (SS4.out.below hb5) 4
  have f5 := run_string hs5 8
  clear hb5 hs5
  dsimp only
  refine hK.out _ _ ⟨⟨f1, f2, f3⟩, f4⟩ (fun _ => ?_)
  clear hK K hHeld
  refine held_more (S' := fun W => (((convert 22 9 (.slice A n c)).run Try.prog W = .ok (.string (strOfNums zs)) W ∧ (convert 22 9 (.slice A1 (n + 4) c1)).run Try.prog W = .ok (.string (strOfNums (zs ++ four v))) W ∧ (convert 22 9 (.slice A2 (n + 8) c2)).run Try.prog W = .ok (.string (strOfNums (zs ++ (four (x / 4294967296) ++ four (x % 4294967296))))) W) ∧ (convert 22 9 (.slice (some ⟨b4, 0, none⟩) 4 4)).run Try.prog W = .ok (.string (strOfNums (four v))) W) ∧ (convert 22 9 (.slice (some ⟨b5, 0, none⟩) 8 8)).run Try.prog W = .ok (.string (strOfNums (four (x / 4294967296) ++ four (x % 4294967296)))) W) (fun _ h => h.1) _ _ _ _ ?_
  have hHeld : (fun W => (((convert 22 9 (.slice A n c)).run Try.prog W = .ok (.string (strOfNums zs)) W ∧ (convert 22 9 (.slice A1 (n + 4) c1)).run Try.prog W = .ok (.string (strOfNums (zs ++ four v))) W ∧ (convert 22 9 (.slice A2 (n + 8) c2)).run Try.prog W = .ok (.string (strOfNums (zs ++ (four (x / 4294967296) ++ four (x % 4294967296))))) W) ∧ (convert 22 9 (.slice (some ⟨b4, 0, none⟩) 4 4)).run Try.prog W = .ok (.string (strOfNums (four v))) W) ∧ (convert 22 9 (.slice (some ⟨b5, 0, none⟩) 8 8)).run Try.prog W = .ok (.string (strOfNums (four (x / 4294967296) ++ four (x % 4294967296)))) W) w5 := ⟨⟨⟨f1, f2, f3⟩, f4⟩, f5⟩
  clear f1 f2 f3 f4 f5
  refine held_take 17 rfl (by kernel_rfl) (by kernel_rfl) (by kernel_rfl) (fun _ _ _ h => h) (by rfl) hHeld (v := ?_) (fun w hSw => ?_) (fun _ => ?_)
  rotate_left
  · ((try dsimp only at hSw); go_simp; (try with_reducible rfl))
  simp only [Act.put, List.setIfInBounds_toArray, List.set_cons_zero, List.set_cons_succ]
  refine held_take 18 rfl (by kernel_rfl) (by kernel_rfl) (by kernel_rfl) (fun _ _ _ h => h) (by rfl) hHeld (v := ?_) (fun w hSw => ?_) (fun _ => ?_)
  rotate_left
  · ((try dsimp only at hSw); go_simp; (try with_reducible rfl))
  simp only [Act.put, List.setIfInBounds_toArray, List.set_cons_zero, List.set_cons_succ]
  refine held_take 19 rfl (by kernel_rfl) (by kernel_rfl) (by kernel_rfl) (fun _ _ _ h => h) (by rfl) hHeld (v := ?_) (fun w hSw => ?_) (fun _ => ?_)
  rotate_left
  · ((try dsimp only at hSw); go_simp; (try with_reducible rfl))
  simp only [Act.put, List.setIfInBounds_toArray, List.set_cons_zero, List.set_cons_succ]
  refine held_take 20 rfl (by kernel_rfl) (by kernel_rfl) (by kernel_rfl) (fun _ _ _ h => h) (by rfl) hHeld (v := ?_) (fun w hSw => ?_) (fun _ => ?_)
  rotate_left
  · ((try dsimp only at hSw); go_simp; (try with_reducible rfl))
  simp only [Act.put, List.setIfInBounds_toArray, List.set_cons_zero, List.set_cons_succ]
  refine held_take 21 rfl (by kernel_rfl) (by kernel_rfl) (by kernel_rfl) (fun _ _ _ h => h) (by rfl) hHeld (v := ?_) (fun w hSw => ?_) (fun _ => ?_)
  rotate_left
  · ((try dsimp only at hSw); go_simp; (try with_reducible rfl))
  simp only [Act.put, List.setIfInBounds_toArray, List.set_cons_zero, List.set_cons_succ]
  refine wpAnyH_done (by kernel_rfl) ?_ _
  go_wp2
  go_ret
  exact ⟨rfl, HB3.out.trans (HB5.out.mono HB3.out.size)⟩

set_option maxHeartbeats 400000 in
theorem wordsPut_true (A : Option Addr) (n c : Nat) (zs : List Int) (v x : Int) (w : World) (hs : Shows w w.heap.size A n zs ∧ n ≤ c ∧ c ≤ maxLen) (hv : (Lit.int .u32 v).wf = true) (hx : (Lit.int .u64 x).wf = true) :
    Calls Try.prog 4 #[.slice A n c, .int .u32 v, .int .u64 x] w fun e w' => e = .returned (.bool true) ∧ Below w.heap.size w w' := by
  by_cases hn : n ≤ 10000
  · have h1 := bounds_u32 hv
    have h2 := bounds_u64 hx
    exact wordsPut_small A n c zs v x w hs.1 hn h1.1 h1.2 h2.1 h2.2
  · clear hs hv hx
    go_enter Try.func4, Try.ntmps4
    go_wp2_with fail
    refine (awake_yes _).mono ?_
    rintro e w1 ⟨rfl, hb1⟩
    go_wp2_with fail
    refine (awake_yes _).mono ?_
    rintro e w2 ⟨rfl, hb2⟩
    have HB := Lib.hid (hb1.trans (hb2.mono hb1.size))
    clear hb1 hb2
    go_wp2
    go_ret
    exact ⟨rfl, HB.out⟩
end Go.Proofs.Ytpadmalmijmilaa
