/-
  Layer 1, WordsTexts: for every slice of bytes, every place and every number, words.Text and words.Pad answer what the document says.
-/
import Derived.Test.YtpadmalmijmilaaWText
namespace Go.Proofs.Ytpadmalmijmilaa
open Go.RowKit
set_option linter.unusedVariables false
set_option linter.unusedSimpArgs false

set_option maxHeartbeats 400000 in
theorem text_off (A : Option Addr) (n c : Nat) (at_ : Int) (w : World) (hn : n ≤ 10000) (h : at_ < 0 ∨ (n : Int) ≤ at_) :
    Calls Try.prog 14 #[.slice A n c, .int .i64 at_] w fun e w' => e = .returned (.tuple #[.string ByteArray.empty, .bool false]) ∧ w = w' := by
  by_cases h0 : at_ < 0
  · go_enter Try.func14, Try.ntmps14
    go_wp2
    go_ret2
    exact ⟨rfl, rfl⟩
  · have h1 : (n : Int) ≤ at_ := by omega
    go_enter Try.func14, Try.ntmps14
    go_wp2
    go_ret2
    exact ⟨rfl, rfl⟩

set_option maxHeartbeats 400000 in
theorem text_no (A : Option Addr) (n c a : Nat) (zs : List Int) (w : World) (B : Nat) (hs : Shows w B A n zs) (hn : n ≤ 10000) (hnc : n ≤ c) (ha : a < n) (h : NoHit zs a n) :
    Calls Try.prog 14 #[.slice A n c, .int .i64 a] w fun e w' => e = .returned (.tuple #[.string ByteArray.empty, .bool false]) ∧ w = w' := by
  have hi := index_none zs a n hs.2.1 hs.1 h
  have C := Lib.hid (indexb_any (cutAt A c a) (n - a) (c - a) (zs.drop a) w B (hs.from_ (Nat.le_of_lt ha) hnc) (by omega))
  rw [hi] at C
  have r1 := run_from (P := Try.prog) Try.underlying22 size_u8 A n c (a : Int) a rfl (Nat.le_of_lt ha)
  have h0 : ¬ ((a : Int) < 0) := by omega
  have h1 : (a : Int) < (n : Int) := by omega
  clear hs h hi hnc ha
  go_enter Try.func14, Try.ntmps14
  go_wp2_with fail
  refine C.out.mono ?_
  rintro e w' ⟨rfl, rfl⟩
  go_wp2
  go_ret2
  exact ⟨rfl, rfl⟩

set_option maxHeartbeats 400000 in
theorem text_yes (A : Option Addr) (n c a i : Nat) (zs : List Int) (w : World) (B : Nat) (hs : Shows w B A n zs) (hn : n ≤ 10000) (hnc : n ≤ c) (h : HitAt zs a n i) :
    Calls Try.prog 14 #[.slice A n c, .int .i64 a] w fun e w' => e = .returned (.tuple #[.string (strOfNums ((zs.drop a).take (i - a))), .bool true]) ∧ w = w' := by
  have hi := index_some zs a n i hs.2.1 hs.1 h
  have h2 := h.1
  have h3 := h.2.1
  have C := Lib.hid (indexb_any (cutAt A c a) (n - a) (c - a) (zs.drop a) w B (hs.from_ (by omega) hnc) (by omega))
  rw [hi] at C
  have r1 := run_from (P := Try.prog) Try.underlying22 size_u8 A n c (a : Int) a rfl (by omega)
  obtain ⟨m, rfl⟩ : ∃ m, i = a + m := ⟨i - a, by omega⟩
  simp only [Nat.add_sub_cancel_left] at C ⊢
  have ei : IntKind.i64.wrap ((a : Int) + (m : Int)) = (a : Int) + (m : Int) := IntWalk.i64_in _ (by omega)
  have r2 := run_cut (P := Try.prog) Try.underlying22 size_u8 A n c (a : Int) ((a : Int) + (m : Int)) a (a + m) rfl (by omega) (by omega) (by omega)
  simp only [Nat.add_sub_cancel_left] at r2
  have hcv := run_string (hs.cut (l := a) (h := a + m) (by omega) (by omega) hnc) (c - a)
  simp only [Nat.add_sub_cancel_left] at hcv
  have h0 : ¬ ((a : Int) < 0) := by omega
  have h1 : (a : Int) < (n : Int) := by omega
  clear hs h hi hnc h2
  go_enter Try.func14, Try.ntmps14
  go_wp2_with fail
  refine C.out.mono ?_
  rintro e w' ⟨rfl, rfl⟩
  go_wp2
  go_ret2
  exact ⟨rfl, rfl⟩

theorem and_three (n : Int) (h0 : 0 ≤ n) (h1 : n ≤ 9223372036854775807) : bits .and .i64 (-n) 3 = (-n) % 4 := by
  show IntKind.i64.wrap ((BitVec.ofInt 64 (-n) &&& BitVec.ofInt 64 3).toNat : Int) = _
  rw [BitVec.toNat_and, show (BitVec.ofInt 64 3).toNat = 3 from rfl, nat_mask2, BitVec.toNat_ofInt, IntWalk.i64_in _ (by omega)]
  omega

set_option maxHeartbeats 400000 in
theorem pad_any (n : Int) (w : World) (h1 : -9223372036854775808 ≤ n) (h2 : n ≤ 9223372036854775807) :
    Calls Try.prog 16 #[.int .i64 n] w fun e w' => e = .returned (.int .i64 (if n < 0 then 0 else (-n) % 4)) ∧ w = w' := by
  by_cases h : n < 0
  · rw [if_pos h]
    go_enter Try.func16, Try.ntmps16
    go_wp2
    go_ret
    exact ⟨rfl, rfl⟩
  · rw [if_neg h]
    have HE := and_three n (by omega) h2
    go_enter Try.func16, Try.ntmps16
    go_wp2
    go_ret
    exact ⟨rfl, rfl⟩

/-- What is known of the padding of n. -/
def Pads (n p : Int) : Prop := 0 ≤ p ∧ p < 4 ∧ (n < 0 → p = 0) ∧ (0 ≤ n → (n + p) % 4 = 0)
theorem pad_pads (n : Int) : Pads n (if n < 0 then 0 else (-n) % 4) := by
  unfold Pads
  split <;> omega
theorem pad_call (n : Int) (w : World) (h1 : -9223372036854775808 ≤ n) (h2 : n ≤ 9223372036854775807) :
    Calls Try.prog 16 #[.int .i64 n] w fun e w' => ∃ p, e = .returned (.int .i64 p) ∧ Pads n p ∧ w = w' :=
  (pad_any n w h1 h2).mono fun e w' ⟨h3, h4⟩ => ⟨_, h3, pad_pads n, h4⟩

theorem pads_end (k p : Int) (h : (k + p) % 4 = 0) : ((IntKind.u64.wrap (wrap64 (k + p))).tmod 4 == 0) = true := by
  rw [IntKind.wrap_u64, tmod_of_emod]
  unfold wrap64
  simp only [beq_iff_eq]
  omega

set_option maxHeartbeats 1000000 in
theorem wordsTexts_of (A : Option Addr) (n c : Nat) (at_ k : Int) (w : World) (hn : n ≤ 10000) (hk : -9223372036854775808 ≤ k ∧ k ≤ 9223372036854775807) (s : ByteArray) (r : Bool)
    (h1 : ∀ W, Below w.heap.size w W → Calls Try.prog 14 #[.slice A n c, .int .i64 at_] W fun e w' => e = .returned (.tuple #[.string s, .bool r]) ∧ W = w')
    (h2 : ∀ W, Below w.heap.size w W → Calls Try.prog 15 #[.slice A n c, .int .i64 at_] W fun e w' => e = .returned (.tuple #[.string s, .bool r]) ∧ W = w') :
    Calls Try.prog 5 #[.slice A n c, .int .i64 at_, .int .i64 k] w fun e w' => e = .returned (.bool true) ∧ Below w.heap.size w w' := by
  have C1 := Lib.hid h1
  have C2 := Lib.hid h2
  clear h1 h2
  obtain ⟨k1, k2⟩ := hk
  by_cases hk0 : k < 0
  all_goals
    go_enter Try.func5, Try.ntmps5
    go_wp2_with fail
    refine (awake_yes _).mono ?_
    rintro e w1 ⟨rfl, hb1⟩
    have HB := Lib.hid hb1
    clear hb1
    go_wp2_with fail
    refine (C1.out _ HB.out).mono ?_
    rintro e w2 ⟨rfl, rfl⟩
    go_wp2_with fail
    refine (C2.out _ HB.out).mono ?_
    rintro e w2 ⟨rfl, rfl⟩
    go_wp2_with fail
    refine (pad_call k w1 k1 k2).mono ?_
    rintro e w2 ⟨p, rfl, hp, rfl⟩
    obtain ⟨p0, p1, p2, p3⟩ := hp
  · obtain rfl := p2 hk0
    clear p2 p3
    go_wp2
    go_ret
    exact ⟨rfl, HB.out⟩
  · have P3 := Lib.hid (p3 (by omega))
    clear p2 p3
    go_wp2
    go_ret
    exact ⟨congrArg (fun b => Ending.returned (.bool b)) (pads_end k p P3.out), HB.out⟩

set_option maxHeartbeats 1000000 in
theorem wordsTexts_true (A : Option Addr) (n c : Nat) (zs : List Int) (at_ k : Int) (w : World) (hs : Shows w w.heap.size A n zs ∧ n ≤ c ∧ c ≤ maxLen) (ha : (Lit.int .i64 at_).wf = true) (hk : (Lit.int .i64 k).wf = true) :
    Calls Try.prog 5 #[.slice A n c, .int .i64 at_, .int .i64 k] w fun e w' => e = .returned (.bool true) ∧ Below w.heap.size w w' := by
  obtain ⟨hs, hnc, hcm⟩ := hs
  have hb := bounds_i64 ha
  have hk := bounds_i64 hk
  by_cases hn : n ≤ 10000
  · by_cases h0 : at_ < 0
    · exact wordsTexts_of A n c at_ k w hn hk _ _ (fun W _ => text_off A n c at_ W hn (.inl h0)) (fun W _ => reftext_low A n c at_ W h0)
    · obtain ⟨a, rfl⟩ := Int.eq_ofNat_of_zero_le (Int.not_lt.1 h0)
      by_cases h1 : n ≤ a
      · exact wordsTexts_of A n c a k w hn hk _ _ (fun W _ => text_off A n c a W hn (.inr (by omega))) (fun W hW => reftext_no A n c a zs W _ (hs.below hW) hn hb.2 (fun j h2 h3 => by omega))
      · obtain ⟨m, rfl⟩ : ∃ m, n = a + m := ⟨n - a, by omega⟩
        rcases hit_or_not zs a m with h | ⟨i, h⟩
        · exact wordsTexts_of A (a + m) c a k w hn hk _ _ (fun W hW => text_no A (a + m) c a zs W _ (hs.below hW) hn hnc (by omega) h) (fun W hW => reftext_no A (a + m) c a zs W _ (hs.below hW) hn hb.2 h)
        · exact wordsTexts_of A (a + m) c a k w hn hk _ _ (fun W hW => text_yes A (a + m) c a i zs W _ (hs.below hW) hn hnc h) (fun W hW => reftext_yes A (a + m) c a i zs W _ (hs.below hW) hn hnc hcm h)
  · clear hs ha hcm hnc
    go_enter Try.func5, Try.ntmps5
    go_wp2_with fail
    refine (awake_yes _).mono ?_
    rintro e w1 ⟨rfl, hb1⟩
    go_wp2_with fail
    refine (awake_yes _).mono ?_
    rintro e w2 ⟨rfl, hb2⟩
    have HB := Lib.hid (hb1.trans (hb2.mono hb1.size))
    clear hb1 hb2
    go_wp2
    go_ret
    exact ⟨rfl, HB.out⟩
end Go.Proofs.Ytpadmalmijmilaa
