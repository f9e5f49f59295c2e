/-
  Numbers in bytes, read by the program: the number, or none; slices of any length.
-/
import Derived.Test.YtmgokplpkmndoaaGreatMem
import Derived.Laws.Bits64
import Derived.Laws.BitsAllLaws
namespace Go.Proofs.YtmgokplpkmndoaaGreat
open Go.RowKit
set_option linter.unusedVariables false

/-- The number of k bytes from place a on, the greatest first. -/
def numTo (zs : List Int) (a : Nat) : Nat → Int
  | 0 => 0
  | k + 1 => numTo zs a k * 256 + zs.getD (a + k) 0

theorem numTo_bound (zs : List Int) (a : Nat) (hz : ∀ i, 0 ≤ zs.getD i 0 ∧ zs.getD i 0 < 256) : ∀ k, 0 ≤ numTo zs a k ∧ numTo zs a k < 256 ^ k
  | 0 => by simp [numTo]
  | k + 1 => by
    have := numTo_bound zs a hz k
    have := hz (a + k)
    simp only [numTo, Int.pow_succ]
    omega

theorem numTo_lt64 (zs : List Int) (a k : Nat) (hz : ∀ i, 0 ≤ zs.getD i 0 ∧ zs.getD i 0 < 256) (hk : k ≤ 8) : 0 ≤ numTo zs a k ∧ numTo zs a k ≤ 18446744073709551615 := by
  have h := numTo_bound zs a hz k
  have h2 : (256 : Int) ^ k ≤ 256 ^ 8 := by
    have : k = 0 ∨ k = 1 ∨ k = 2 ∨ k = 3 ∨ k = 4 ∨ k = 5 ∨ k = 6 ∨ k = 7 ∨ k = 8 := by omega
    rcases this with h | h | h | h | h | h | h | h | h <;> subst h <;> decide
  have h3 : (256 : Int) ^ 8 = 18446744073709551616 := by decide
  omega

theorem or_byte (v z : Int) (h0 : 0 ≤ v) (h1 : v * 256 + z ≤ 18446744073709551615) (h2 : 0 ≤ z) (h3 : z < 256) : bits .or .u64 (v * 256) z = v * 256 + z := by
  obtain ⟨a, rfl⟩ := Int.eq_ofNat_of_zero_le h0
  obtain ⟨b, rfl⟩ := Int.eq_ofNat_of_zero_le h2
  have e : ((a : Int) * 256) = ((a * 256 : Nat) : Int) := by omega
  rw [e, u64_or_nat (a * 256) b (by omega) (by omega), nat_join 8 (a * 256) b (by omega) (by omega)]
  omega

set_option maxHeartbeats 400000 in
theorem holds_any (A : Option Addr) (n c : Nat) (at_ k : Int) (w : World) (hn : n ≤ 9223372036854775807) (hk : 0 ≤ k ∧ k ≤ 16) (ha : -9223372036854775808 ≤ at_ ∧ at_ ≤ 9223372036854775807) (r : Bool) (hr : r = decide (0 ≤ at_ ∧ k ≤ n - at_)) :
    Calls Tryz.prog 159 #[.slice A n c, .int .i64 at_, .int .i64 k] w fun e w' => e = .returned (.bool r) ∧ w = w' := by
  obtain ⟨a0, a1⟩ := ha
  by_cases h0 : 0 ≤ at_
  · by_cases h1 : k ≤ (n : Int) - at_
    · obtain rfl : r = true := by rw [hr]; simp; omega
      clear hr
      go_enter Tryz.func159, Tryz.ntmps159
      go_wp2
      go_ret
      exact ⟨rfl, rfl⟩
    · obtain rfl : r = false := by rw [hr]; simp; omega
      clear hr
      go_enter Tryz.func159, Tryz.ntmps159
      go_wp2
      go_ret
      exact ⟨rfl, rfl⟩
  · obtain rfl : r = false := by rw [hr]; simp; omega
    clear hr
    go_enter Tryz.func159, Tryz.ntmps159
    go_wp2
    go_ret
    exact ⟨rfl, rfl⟩

set_option maxHeartbeats 400000 in
theorem numb_no (A : Option Addr) (n c : Nat) (at_ k : Int) (w : World) (h : ¬ (0 ≤ at_ ∧ k ≤ n - at_)) (hn : n ≤ 9223372036854775807) (hk : 0 ≤ k ∧ k ≤ 16) (ha : -9223372036854775808 ≤ at_ ∧ at_ ≤ 9223372036854775807) :
    Calls Tryz.prog 139 #[.slice A n c, .int .i64 at_, .int .i64 k] w fun e w' => e = .returned (.tuple #[.int .u64 0, .bool false]) ∧ w = w' := by
  have H := holds_any A n c at_ k w hn hk ha false (by simp; omega)
  have HH := Lib.hid H
  clear H h hk ha
  go_enter Tryz.func139, Tryz.ntmps139
  go_wp2_with (go_at_call 159; refine HH.out.mono ?_; rintro e w' ⟨rfl, rfl⟩)
  go_ret2
  exact ⟨rfl, rfl⟩

set_option maxHeartbeats 400000 in
theorem numb_yes (A : Option Addr) (n c k a : Nat) (zs : List Int) (w : World) (B : Nat) (hs : Shows w B A n zs) (h : a + k ≤ n) (hn : n ≤ 9223372036854775807) (hnc : n ≤ c) (hc63 : c ≤ maxLen) (hk0 : 0 < k) (hk : k ≤ 8) :
    Calls Tryz.prog 139 #[.slice A n c, .int .i64 a, .int .i64 k] w fun e w' => e = .returned (.tuple #[.int .u64 (numTo zs a k), .bool true]) ∧ w = w' := by
  have H := holds_any A n c a k w hn (by omega) (by omega) true (by simp; omega)
  have HH := Lib.hid H
  obtain ⟨b, o, rfl, _, hc⟩ := hs.at_ (by omega)
  have hz := hs.byte
  clear hs H
  have HC := Lib.hid hc
  have HZ := Lib.hid hz
  clear hc hz
  unfold maxLen at hc63
  go_enter Tryz.func139, Tryz.ntmps139
  go_wp2_with (go_at_call 159; refine HH.out.mono ?_; rintro e w' ⟨rfl, rfl⟩)
  go_loop [8, 23] (fun v i => ∃ j : Nat, j ≤ k ∧ i = .int .i64 j ∧ v = .int .u64 (numTo zs a j)) (fun _ i => k - (intOf i).toNat)
  case atStart => exact ⟨0, by omega, rfl, rfl⟩
  case round =>
    obtain ⟨j, hj, rfl, rfl⟩ := hrel
    by_cases hlt : j < k
    · have hcell := HC.out (a + j) (by omega)
      rw [← Nat.add_assoc] at hcell
      have hzb := HZ.out (a + j)
      have hb := numTo_lt64 zs a j HZ.out (by omega)
      have hb2 := numTo_lt64 zs a (j + 1) HZ.out (by omega)
      simp only [numTo] at hb2
      go_wp2
      go_round
      case rel => exact ⟨j + 1, by omega, by go_num, by
        have e : zs[a + j]?.getD 0 = zs.getD (a + j) 0 := by simp [List.getD]
        rw [e, IntWalk.u64_in (zs.getD (a + j) 0) (by omega), or_byte _ _ hb.1 hb2.2 hzb.1 hzb.2]; rfl⟩
      case measure => simp [intOf]; omega
    · obtain rfl : j = k := by omega
      go_wp2
      go_ret2
      exact ⟨rfl, rfl⟩

/-- words.Get, words.Get64: there are no so many bytes. -/
theorem get_no (A : Option Addr) (n c : Nat) (at_ : Int) (w : World) (h : ¬ (0 ≤ at_ ∧ 4 ≤ n - at_)) (hn : n ≤ 9223372036854775807) (ha : -9223372036854775808 ≤ at_ ∧ at_ ≤ 9223372036854775807) :
    Calls Tryz.prog 105 #[.slice A n c, .int .i64 at_] w fun e w' => e = .returned (.tuple #[.int .u32 0, .bool false]) ∧ w = w' := by
  have HH := Lib.hid (numb_no A n c at_ 4 w h hn (by omega) ha)
  clear h
  go_enter Tryz.func105, Tryz.ntmps105
  go_wp2_with (go_at_call 139; refine HH.out.mono ?_; rintro e w' ⟨rfl, rfl⟩)
  go_ret2
  exact ⟨rfl, rfl⟩
theorem get_yes (A : Option Addr) (n c a : Nat) (zs : List Int) (w : World) (B : Nat) (hs : Shows w B A n zs) (h : a + 4 ≤ n) (hn : n ≤ 9223372036854775807) (hnc : n ≤ c) (hc63 : c ≤ maxLen) :
    Calls Tryz.prog 105 #[.slice A n c, .int .i64 a] w fun e w' => e = .returned (.tuple #[.int .u32 (numTo zs a 4), .bool true]) ∧ w = w' := by
  have HH := Lib.hid (numb_yes A n c 4 a zs w B hs h hn hnc hc63 (by omega) (by omega))
  have hb := numTo_bound zs a hs.byte 4
  have hb1 : 0 ≤ numTo zs a 4 := hb.1
  have hb2 : numTo zs a 4 ≤ 4294967295 := by have := hb.2; have e : (256 : Int) ^ 4 = 4294967296 := by decide
                                             omega
  clear hb hs h hnc hc63
  go_enter Tryz.func105, Tryz.ntmps105
  go_wp2_with (go_at_call 139; refine HH.out.mono ?_; rintro e w' ⟨rfl, rfl⟩)
  go_ret2
  exact ⟨rfl, rfl⟩
end Go.Proofs.YtmgokplpkmndoaaGreat
