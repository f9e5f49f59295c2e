/-
  Layer 1, WordsGet: for every slice of bytes and every place the program's numbers of four and of eight bytes are the document's.
-/
import Derived.Test.YtpadmalmijmilaaWGet
import Derived.Test.YtpadmalmijmilaaWPut
namespace Go.Proofs.Ytpadmalmijmilaa
open Go.RowKit
set_option linter.unusedVariables false

set_option maxHeartbeats 1000000 in
theorem wordsGet_true (A : Option Addr) (n c : Nat) (zs : List Int) (at_ : Int) (w : World) (hs : Shows w w.heap.size A n zs ∧ n ≤ c ∧ c ≤ maxLen) (ha : (Lit.int .i64 at_).wf = true) :
    Calls Try.prog 3 #[.slice A n c, .int .i64 at_] w fun e w' => e = .returned (.bool true) ∧ Below w.heap.size w w' := by
  obtain ⟨hs, hnc, hcm⟩ := hs
  have hb := bounds_i64 ha
  have hc63 : c ≤ 9223372036854775807 := by unfold maxLen at hcm; omega
  by_cases hn : n ≤ 10000
  · by_cases h8 : 0 ≤ at_ ∧ 8 ≤ (n : Int) - at_
    · obtain ⟨a, rfl⟩ := Int.eq_ofNat_of_zero_le h8.1
      have hz := numTo_bound zs a hs.byte 4
      have z1 : 0 ≤ numTo zs a 4 := hz.1
      have z2 : numTo zs a 4 ≤ 4294967295 := by have := hz.2; have e : (256 : Int) ^ 4 = 4294967296 := by decide
                                                omega
      have C1 := Lib.hid (fun W (hW : Shows W w.heap.size A n zs) => get_yes A n c a zs W _ hW (by omega) hn hnc hcm)
      have C2 := Lib.hid (fun W (hW : Shows W w.heap.size A n zs) => get64_yes A n c a zs W _ hW (by omega) hn hnc hcm)
      have C3 := Lib.hid (fun W (hW : Shows W w.heap.size A n zs) => number_yes A n c 4 a zs W _ hW (by omega) hn (by omega) (by omega))
      have C4 := Lib.hid (fun W (hW : Shows W w.heap.size A n zs) => number_yes A n c 8 a zs W _ hW (by omega) hn (by omega) (by omega))
      have HS := Lib.hid hs
      clear hs h8 ha hcm hnc hz
      go_enter Try.func3, Try.ntmps3
      go_wp2_with fail
      refine (awake_yes _).mono ?_
      rintro e w1 ⟨rfl, hb1⟩
      go_wp2_with fail
      refine (C1.out _ (HS.out.below hb1)).mono ?_
      rintro e w2 ⟨rfl, rfl⟩
      go_wp2_with fail
      refine (C2.out _ (HS.out.below hb1)).mono ?_
      rintro e w2 ⟨rfl, rfl⟩
      go_wp2_with fail
      refine (C3.out _ (HS.out.below hb1)).mono ?_
      rintro e w2 ⟨rfl, rfl⟩
      go_wp2_with fail
      refine (C4.out _ (HS.out.below hb1)).mono ?_
      rintro e w2 ⟨rfl, rfl⟩
      go_wp2
      go_ret
      exact ⟨rfl, hb1⟩
    · by_cases h4 : 0 ≤ at_ ∧ 4 ≤ (n : Int) - at_
      · obtain ⟨a, rfl⟩ := Int.eq_ofNat_of_zero_le h4.1
        have hz := numTo_bound zs a hs.byte 4
        have z1 : 0 ≤ numTo zs a 4 := hz.1
        have z2 : numTo zs a 4 ≤ 4294967295 := by have := hz.2; have e : (256 : Int) ^ 4 = 4294967296 := by decide
                                                  omega
        have C1 := Lib.hid (fun W (hW : Shows W w.heap.size A n zs) => get_yes A n c a zs W _ hW (by omega) hn hnc hcm)
        have C2 := Lib.hid (fun W => get64_no A n c a W h8 hn hb)
        have C3 := Lib.hid (fun W (hW : Shows W w.heap.size A n zs) => number_yes A n c 4 a zs W _ hW (by omega) hn (by omega) (by omega))
        have C4 := Lib.hid (fun W => number_no A n c a 8 W (by omega) (by omega) (by omega) hb)
        have HS := Lib.hid hs
        clear hs h4 h8 ha hcm hnc hz
        go_enter Try.func3, Try.ntmps3
        go_wp2_with fail
        refine (awake_yes _).mono ?_
        rintro e w1 ⟨rfl, hb1⟩
        go_wp2_with fail
        refine (C1.out _ (HS.out.below hb1)).mono ?_
        rintro e w2 ⟨rfl, rfl⟩
        go_wp2_with fail
        refine (C2.out _).mono ?_
        rintro e w2 ⟨rfl, rfl⟩
        go_wp2_with fail
        refine (C3.out _ (HS.out.below hb1)).mono ?_
        rintro e w2 ⟨rfl, rfl⟩
        go_wp2_with fail
        refine (C4.out _).mono ?_
        rintro e w2 ⟨rfl, rfl⟩
        go_wp2
        go_ret
        exact ⟨rfl, hb1⟩
      · have C1 := Lib.hid (fun W => get_no A n c at_ W h4 hn hb)
        have C2 := Lib.hid (fun W => get64_no A n c at_ W h8 hn hb)
        have C3 := Lib.hid (fun W => number_no A n c at_ 4 W (by omega) (by omega) (by omega) hb)
        have C4 := Lib.hid (fun W => number_no A n c at_ 8 W (by omega) (by omega) (by omega) hb)
        clear hs h4 h8 ha hcm hnc
        go_enter Try.func3, Try.ntmps3
        go_wp2_with fail
        refine (awake_yes _).mono ?_
        rintro e w1 ⟨rfl, hb1⟩
        go_wp2_with fail
        refine (C1.out _).mono ?_
        rintro e w2 ⟨rfl, rfl⟩
        go_wp2_with fail
        refine (C2.out _).mono ?_
        rintro e w2 ⟨rfl, rfl⟩
        go_wp2_with fail
        refine (C3.out _).mono ?_
        rintro e w2 ⟨rfl, rfl⟩
        go_wp2_with fail
        refine (C4.out _).mono ?_
        rintro e w2 ⟨rfl, rfl⟩
        go_wp2
        go_ret
        exact ⟨rfl, hb1⟩
  · clear hs ha hcm hnc
    go_enter Try.func3, Try.ntmps3
    go_wp2_with fail
    refine (awake_yes _).mono ?_
    rintro e w1 ⟨rfl, hb1⟩
    go_wp2_with fail
    refine (awake_yes _).mono ?_
    rintro e w2 ⟨rfl, hb2⟩
    have HB := Lib.hid (hb1.trans (hb2.mono hb1.size))
    clear hb1 hb2
    go_wp2
    go_ret
    exact ⟨rfl, HB.out⟩
end Go.Proofs.Ytpadmalmijmilaa
