/-
  The document's numbers and texts, of bytes of any length.
-/
import Derived.Test.YtgogkcmdcfcikaaEPure
import Derived.Test.YtgogkcmdcfcikaaDStr
namespace Go.Proofs.Ytgogkcmdcfcikaa
open Go.RowKit
set_option linter.unusedVariables false
set_option linter.unusedSimpArgs false

/-- The first nought from a on, below n, is at i. -/
def HitAt (zs : List Int) (a n i : Nat) : Prop := a ≤ i ∧ i < n ∧ zs.getD i 0 = 0 ∧ ∀ j, a ≤ j → j < i → zs.getD j 0 ≠ 0
/-- There is none. -/
def NoHit (zs : List Int) (a n : Nat) : Prop := ∀ j, a ≤ j → j < n → zs.getD j 0 ≠ 0

theorem hit_or_not (zs : List Int) (a : Nat) : ∀ k, NoHit zs a (a + k) ∨ ∃ i, HitAt zs a (a + k) i
  | 0 => .inl fun j h1 h2 => by omega
  | k + 1 => by
    rcases hit_or_not zs a k with h | ⟨i, h1, h2, h3, h4⟩
    · by_cases h0 : zs.getD (a + k) 0 = 0
      · exact .inr ⟨a + k, by omega, by omega, h0, fun j h1 h2 => h j h1 (by omega)⟩
      · refine .inl fun j h1 h2 => ?_
        by_cases e : j = a + k
        · rw [e]; exact h0
        · exact h j h1 (by omega)
    · exact .inr ⟨i, h1, by omega, h3, h4⟩

set_option maxHeartbeats 400000 in
theorem number_no (A : Option Addr) (n c : Nat) (at_ k : Int) (w : World) (h : at_ < 0 ∨ n < at_ ∨ n - at_ < k) (hn : n ≤ 9223372036854775807) (hk : k = 4 ∨ k = 8) (ha : -9223372036854775808 ≤ at_ ∧ at_ ≤ 9223372036854775807) :
    Calls Try.prog 35 #[.slice A n c, .int .i64 at_, .int .i64 k] w fun e w' => e = .returned (.tuple #[.int .u64 0, .bool false]) ∧ w = w' := by
  obtain ⟨a0, a1⟩ := ha
  by_cases h0 : at_ < 0
  · go_enter Try.func35, Try.ntmps35
    go_wp2
    go_ret2
    exact ⟨rfl, rfl⟩
  · by_cases h1 : (n : Int) < at_
    · go_enter Try.func35, Try.ntmps35
      go_wp2
      go_ret2
      exact ⟨rfl, rfl⟩
    · have h2 : n - at_ < k := by omega
      go_enter Try.func35, Try.ntmps35
      go_wp2
      go_ret2
      exact ⟨rfl, rfl⟩

set_option maxHeartbeats 400000 in
theorem number_yes (A : Option Addr) (n c k a : Nat) (zs : List Int) (w : World) (B : Nat) (hs : Shows w B A n zs) (h : a + k ≤ n) (hn : n ≤ 140737488351232) (hk0 : 0 < k) (hk : k ≤ 8) :
    Calls Try.prog 35 #[.slice A n c, .int .i64 a, .int .i64 k] w fun e w' => e = .returned (.tuple #[.int .u64 (numTo zs a k), .bool true]) ∧ w = w' := by
  obtain ⟨b, o, rfl, _, hc⟩ := hs.at_ (by omega)
  have hz := hs.byte
  have h0 : ¬ ((a : Int) < 0) := by omega
  have h1 : ¬ ((n : Int) < (a : Int)) := by omega
  have h2 : ¬ ((n : Int) - (a : Int) < (k : Int)) := by omega
  clear hs
  have HC := Lib.hid hc
  have HZ := Lib.hid hz
  clear hc hz
  go_enter Try.func35, Try.ntmps35
  go_wp2
  go_loop [8, 27] (fun v i => ∃ j : Nat, j ≤ k ∧ i = .int .i64 j ∧ v = .int .u64 (numTo zs a j)) (fun _ i => k - (intOf i).toNat)
  case atStart => exact ⟨0, by omega, rfl, rfl⟩
  case round =>
    obtain ⟨j, hj, rfl, rfl⟩ := hrel
    by_cases hlt : j < k
    · have hcell := HC.out (a + j) (by omega)
      have hzb := HZ.out (a + j)
      have hb := numTo_lt64 zs a j HZ.out (by omega)
      have hb2 := numTo_lt64 zs a (j + 1) HZ.out (by omega)
      simp only [numTo] at hb2
      go_wp2
      go_round
      case rel => exact ⟨j + 1, by omega, by go_num, by
        have e : zs[a + j]?.getD 0 = zs.getD (a + j) 0 := by simp [List.getD]
        rw [e, IntWalk.u64_in (zs.getD (a + j) 0) (by omega), IntWalk.u64_in _ hb2]; rfl⟩
      case measure => simp [intOf]; omega
    · obtain rfl : j = k := by omega
      go_wp2
      go_ret2
      exact ⟨rfl, rfl⟩

theorem take_while_hit {zs : List Int} {a i : Nat} (h : HitAt zs a zs.length i) : (0 : Int) ∈ zs.drop a ∧ ((zs.drop a).takeWhile fun z => decide (z ≠ 0)) = (zs.drop a).take (i - a) := by
  obtain ⟨h1, h2, h3, h4⟩ := h
  have hget : ∀ j, a ≤ j → j < zs.length → (zs.drop a)[j - a]? = some (zs.getD j 0) := fun j hj hl => by
    rw [List.getElem?_drop, show a + (j - a) = j by omega]
    simp [List.getD, List.getElem?_eq_getElem hl]
  refine ⟨List.mem_of_getElem? ((hget i h1 h2).trans (congrArg some h3)), ?_⟩
  have hsplit : zs.drop a = (zs.drop a).take (i - a) ++ (0 :: (zs.drop a).drop (i - a + 1)) := by
    conv => lhs; rw [← List.take_append_drop (i - a) (zs.drop a)]
    congr 1
    rw [List.drop_eq_getElem_cons (by rw [List.length_drop]; omega)]
    congr 1
    have := hget i h1 h2
    rw [List.getElem?_eq_getElem (by rw [List.length_drop]; omega), h3] at this
    exact Option.some.inj this
  conv => lhs; rw [hsplit]
  rw [List.takeWhile_append_of_pos]
  · simp
  · intro z hz
    obtain ⟨j, hj, rfl⟩ := List.getElem_of_mem hz
    rw [List.length_take, List.length_drop] at hj
    have h5 := hget (a + j) (by omega) (by omega)
    rw [show a + j - a = j by omega] at h5
    have h6 : ((zs.drop a).take (i - a))[j]? = some (zs.getD (a + j) 0) := by
      rw [List.getElem?_take_of_lt (by omega)]; exact h5
    rw [List.getElem?_eq_getElem (by rw [List.length_take, List.length_drop]; omega)] at h6
    rw [Option.some.inj h6]
    exact decide_eq_true (h4 (a + j) (by omega) (by omega))
theorem text_hit {zs : List Int} {a i : Nat} (h : HitAt zs a zs.length i) : textFrom zs a = some ((zs.drop a).take (i - a)) := by
  obtain ⟨h1, h2⟩ := take_while_hit h
  rw [textFrom, if_pos h1, h2]
theorem text_nohit {zs : List Int} {a : Nat} (h : NoHit zs a zs.length) : textFrom zs a = none := by
  rw [textFrom, if_neg]
  intro h0
  obtain ⟨j, e⟩ := List.getElem?_of_mem h0
  have hj : j < zs.length - a := by have := (List.getElem?_eq_some_iff.1 e).1; rwa [List.length_drop] at this
  rw [List.getElem?_drop, List.getElem?_eq_getElem (by omega)] at e
  refine h (a + j) (by omega) (by omega) ?_
  simp [List.getD, List.getElem?_eq_getElem (show a + j < zs.length by omega), Option.some.inj e]

/-- What the document's Text answers: the bytes up to the next nought, or that there is none. -/
def TextOut (e : Ending) (o : Option (List Int)) : Prop := e = .returned (.tuple #[.string (match o with | none => ByteArray.empty | some s => strOfNums s), .bool o.isSome])
end Go.Proofs.Ytgogkcmdcfcikaa
