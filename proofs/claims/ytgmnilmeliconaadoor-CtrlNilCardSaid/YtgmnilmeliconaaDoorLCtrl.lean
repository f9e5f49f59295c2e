/-
  Layer 16, CtrlNext and CtrlNil: out of what the program's controller answers.
-/
import Derived.Test.YtgmnilmeliconaaDoorVCtrlS
namespace Go.Proofs.YtgmnilmeliconaaDoor
open Go.RowKit
set_option linter.unusedVariables false
set_option linter.unusedSimpArgs false


set_option maxRecDepth 20000 in
set_option maxHeartbeats 8000000 in
theorem ctrlNext_true (hK : Awake16) (hL : CtrlLoadOK) (hS : CtrlStoreOK) (hT : CtrlSetOK) (hH : CtrlHighOK) (lines mask : Int) (w : World) (htab : Tab32 w) (hl : U32v lines) (hm : U32v mask) :
    Calls Tryd.prog 4 #[.int .u32 lines, .int .u32 mask] w fun e w' => e = .returned (.bool true) ∧ Below w.heap.size w w' := by
  obtain ⟨L, rfl⟩ := Int.eq_ofNat_of_zero_le hl.1
  obtain ⟨M, rfl⟩ := Int.eq_ofNat_of_zero_le hm.1
  have hL32 : L < 4294967296 := by have := hl.2; omega
  have hM32 : M < 4294967296 := by have := hm.2; omega
  have HK := Lib.hid hK
  have HL8 := Lib.hid (fun b W (h : CtrlAt W b ⟨L, M⟩) => (show Calls Tryd.prog 7 #[.pointer (some ⟨b, 0, none⟩), .int .u64 8, .int .i64 4] W fun e w' => e = .returned (.tuple #[.int .u64 (nextN L M : Int), .int .i64 0]) ∧ CtrlAt w' b ⟨L, M⟩ ∧ ChgB b W w' from hL b _ 8 4 W h ⟨by decide, by decide⟩))
  have HL0 := Lib.hid (fun b W (h : CtrlAt W b ⟨L, M⟩) => (show Calls Tryd.prog 7 #[.pointer (some ⟨b, 0, none⟩), .int .u64 0, .int .i64 4] W fun e w' => e = .returned (.tuple #[.int .u64 (L : Int), .int .i64 0]) ∧ CtrlAt w' b ⟨L, M⟩ ∧ ChgB b W w' from hL b _ 0 4 W h ⟨by decide, by decide⟩))
  have HL4 := Lib.hid (fun b W (h : CtrlAt W b ⟨L, M⟩) => (show Calls Tryd.prog 7 #[.pointer (some ⟨b, 0, none⟩), .int .u64 4, .int .i64 4] W fun e w' => e = .returned (.tuple #[.int .u64 (M : Int), .int .i64 0]) ∧ CtrlAt w' b ⟨L, M⟩ ∧ ChgB b W w' from hL b _ 4 4 W h ⟨by decide, by decide⟩))
  have HS4 := Lib.hid (fun b W (h : CtrlAt W b ⟨L, 0⟩) => (show Calls Tryd.prog 10 #[.pointer (some ⟨b, 0, none⟩), .int .u64 4, .int .i64 4, .int .u64 (M : Int)] W fun e w' => e = .returned (.int .i64 0) ∧ CtrlAt w' b ⟨L, M⟩ ∧ ChgB b W w' from by
    have h1 := hS b ⟨L, 0⟩ 4 4 (M : Int) W h ⟨by decide, by decide⟩ ⟨by omega, by omega⟩
    have e : ctrlStoreE ⟨L, 0⟩ 4 4 (M : Int) = ⟨L, M⟩ := by
      have : ((M : Int) % 4294967296).toNat = M := by omega
      simp [ctrlStoreE, ctrlStore, accE, this]
    rwa [e] at h1))
  have HT := Lib.hid (fun b (k : Nat) (hk : k < 32) W (h : CtrlAt W b ⟨L % 2 ^ k, 0⟩) => (show Calls Tryd.prog 12 #[.pointer (some ⟨b, 0, none⟩), .int .i64 (k : Int), .bool (L.testBit k)] W fun e w' => e = .returned (.int .i64 0) ∧ CtrlAt w' b ⟨L % 2 ^ (k + 1), 0⟩ ∧ ChgB b W w' from by
    have h1 := hT b ⟨L % 2 ^ k, 0⟩ (k : Int) (L.testBit k) W h
    have e0 : ctrlSetOk (k : Int) = true := by simp [ctrlSetOk]; omega
    have e : ctrlSet ⟨L % 2 ^ k, 0⟩ (k : Int) (L.testBit k) = ⟨L % 2 ^ (k + 1), 0⟩ := by rw [ctrlSet, if_pos e0]; simp only [Int.toNat_natCast, set_low L k hk]
    rw [e, e0] at h1
    exact h1))
  have HH := Lib.hid (fun b W (h : CtrlAt W b ⟨L, M⟩) => (show Calls Tryd.prog 13 #[.pointer (some ⟨b, 0, none⟩)] W fun e w' => e = .returned (.bool (decide (0 < nextN L M))) ∧ CtrlAt w' b ⟨L, M⟩ ∧ ChgB b W w' from hH b _ W h))
  have hand : bits .and .u32 (L : Int) (M : Int) = ((L &&& M : Nat) : Int) := u32_and_nat L M hL32 hM32
  have w1 : IntKind.u64.wrap (L : Int) = (L : Int) := IntWalk.u64_in _ (by omega)
  have w2 : IntKind.u64.wrap (M : Int) = (M : Int) := IntWalk.u64_in _ (by omega)
  have HLM := Lib.hid (And.intro hL32 hM32)
  clear hK hL hS hT hH hl hm hL32 hM32
  go_enter Tryd.func4, Tryd.ntmps4
  go_wp2_with fail
  refine (HK.out _).mono ?_
  rintro e wa ⟨rfl, hb⟩
  obtain ⟨b, hbb⟩ : ∃ b, b = wa.heap.size := ⟨_, rfl⟩
  have HBB : Hid (w.heap.size ≤ b) := Lib.hid (by rw [hbb]; exact hb.size)
  have HA0 := Lib.hid (CtrlAt.zero wa (htab.below hb))
  have HB0 := Lib.hid (hb.alloc hb.size ctrlZ)
  rw [← hbb] at HA0
  clear hb
  go_wp2_with fail
  rw [← hbb]
  clear hbb
  go_loopw [18] (fun i wr => ∃ k : Nat, k ≤ 32 ∧ i = .int .i64 k ∧ CtrlAt wr b ⟨L % 2 ^ k, 0⟩ ∧ Below w.heap.size w wr) (fun i _ => 32 - (intOf i).toNat)
  case atStart => exact ⟨0, Nat.zero_le _, rfl, by rw [Nat.pow_zero, Nat.mod_one]; exact HA0.out, HB0.out⟩
  case round =>
    obtain ⟨k, hk, rfl, hat, hb⟩ := hrel
    have HAT := Lib.hid hat
    have HB := Lib.hid hb
    clear hat hb
    by_cases hlt : k < 32
    · have qa := bit_and L k HLM.out.1
      have qt : (bitI (L.testBit k) == 1) = L.testBit k := by cases L.testBit k <;> rfl
      have HTK := Lib.hid (fun W => HT.out b k hlt W)
      generalize L.testBit k = y at *
      go_wp2_with fail
      refine (HTK.out _ HAT.out).mono ?_
      rintro e wx ⟨rfl, hs, hc⟩
      have HAY := Lib.hid hs
      have HBY := Lib.hid (HB.out.trans (hc.below HBB.out HB.out.size))
      clear hs hc HAT HB qa qt HTK
      go_wp2_with fail
      go_roundw
      case rel => exact ⟨k + 1, by omega, by go_num, HAY.out, HBY.out⟩
      case measure => simp [intOf]; omega
    · obtain rfl : k = 32 := by omega
      have hLL : L % 2 ^ 32 = L := Nat.mod_eq_of_lt HLM.out.1
      rw [hLL] at HAT
      clear hLL hlt hk
      go_wp2_with fail
      refine (HS4.out _ _ HAT.out).mono ?_
      rintro e wx ⟨rfl, hs, hc⟩
      have HA1 := Lib.hid hs
      have HB1 := Lib.hid (HB.out.trans (hc.below HBB.out HB.out.size))
      clear hs hc HAT HB
      go_wp2_with fail
      refine (HL8.out _ _ HA1.out).mono ?_
      rintro e wx ⟨rfl, hs, hc⟩
      have HA2 := Lib.hid hs
      have HB2 := Lib.hid (HB1.out.trans (hc.below HBB.out HB1.out.size))
      clear hs hc HA1 HB1
      go_wp2_with fail
      refine (HL0.out _ _ HA2.out).mono ?_
      rintro e wx ⟨rfl, hs, hc⟩
      have HA3 := Lib.hid hs
      have HB3 := Lib.hid (HB2.out.trans (hc.below HBB.out HB2.out.size))
      clear hs hc HA2 HB2
      go_wp2_with fail
      refine (HL4.out _ _ HA3.out).mono ?_
      rintro e wx ⟨rfl, hs, hc⟩
      have HA4 := Lib.hid hs
      have HB4 := Lib.hid (HB3.out.trans (hc.below HBB.out HB3.out.size))
      clear hs hc HA3 HB3
      go_wp2_with fail
      refine (HH.out _ _ HA4.out).mono ?_
      rintro e wx ⟨rfl, hs, hc⟩
      have HA5 := Lib.hid hs
      have HB5 := Lib.hid (HB4.out.trans (hc.below HBB.out HB4.out.size))
      clear hs hc HA4 HB4
      rcases next_cases L M with ⟨hz, hz2⟩ | ⟨i, hi, hn, hbi, hbelow⟩
      · have hand0 : bits .and .u32 (L : Int) (M : Int) = 0 := by rw [hand, and_zero HLM.out.1 hz2]; rfl
        rw [hz]
        clear hand hz2 hz
        go_wp2
        go_ret
        exact ⟨rfl, HB5.out⟩
      · have hX := and_some hbi
        have hlow := and_low hbelow
        obtain ⟨X, hXe⟩ : ∃ X, L &&& M = X := ⟨_, rfl⟩
        rw [hXe] at hX hlow hand
        rw [hn]
        have hX32 : X < 4294967296 := by rw [← hXe]; exact Nat.lt_of_le_of_lt Nat.and_le_left HLM.out.1
        have q1 : ((X : Int) != 0) = true := by rw [bne_iff_ne]; omega
        have q3 : (((i + 1 : Nat) : Int) == 0) = false := by rw [beq_eq_false_iff_ne]; omega
        have w3 : IntKind.u64.wrap (((i + 1 : Nat) : Int) - 1) = (i : Int) := by rw [IntWalk.u64_in _ (by omega)]; omega
        have hp32 : 2 ^ i < 4294967296 := Nat.lt_of_lt_of_le (Nat.pow_lt_pow_right (by decide) hi) (by decide)
        have hp1 : 1 ≤ 2 ^ i := Nat.one_le_two_pow
        have s1 : (bits .and .u32 (X : Int) (2 ^ i % 4294967296) != 0) = true := by
          rw [show (2 : Int) ^ i = ((2 ^ i : Nat) : Int) by rw [Int.natCast_pow]; rfl]
          have h2 := hX.2
          generalize 2 ^ i = P at *
          rw [show (P : Int) % 4294967296 = (P : Int) by omega, u32_and_nat X P hX32 hp32, bne_iff_ne]
          omega
        have s2 : (bits .and .u32 (X : Int) ((2 ^ i - 1) % 4294967296) == 0) = true := by
          rw [show (2 : Int) ^ i = ((2 ^ i : Nat) : Int) by rw [Int.natCast_pow]; rfl]
          generalize 2 ^ i = P at *
          rw [show ((P : Int) - 1) % 4294967296 = ((P - 1 : Nat) : Int) by omega, u32_and_nat X (P - 1) hX32 (by omega), hlow]
          rfl
        have hi1 : decide (0 < i + 1) = true := decide_eq_true (by omega)
        clear hn hbi hbelow hXe hX hlow hX32 hp32 hp1
        go_wp2
        go_ret
        exact ⟨rfl, HB5.out⟩

set_option maxHeartbeats 2000000 in
theorem ctrlNil_true (hK : Awake16) (hN : CtrlNilOK) (kind off width v n : Int) (yes : Bool) (w : World) :
    Calls Tryd.prog 5 #[.agg #[.int .u8 kind, .int .u64 off, .int .i64 width, .int .u64 v, .int .i64 n, .bool yes]] w fun e w' => e = .returned (.bool true) ∧ Below w.heap.size w w' := by
  obtain ⟨hL, hS, hT, hH⟩ := hN
  have HK := Lib.hid hK
  have HL := Lib.hid (hL off width)
  have HS := Lib.hid (hS off width v)
  have HT := Lib.hid (hT n yes)
  have HH := Lib.hid hH
  clear hK hL hS hT hH
  obtain ⟨O, hO⟩ : ∃ O, O = Obj.cells #[.int .u8 kind, .int .u64 off, .int .i64 width, .int .u64 v, .int .i64 n, .bool yes] 35 := ⟨_, rfl⟩
  have HB0 := Lib.hid ((Below.refl w.heap.size w).alloc (Nat.le_refl _) O)
  have HC : Hid (∀ W, Below (w.heap.size + 1) (w.alloc O) W → W.cell? ⟨w.heap.size, 1, none⟩ = some (.int .u64 off) ∧ W.cell? ⟨w.heap.size, 2, none⟩ = some (.int .i64 width) ∧ W.cell? ⟨w.heap.size, 3, none⟩ = some (.int .u64 v) ∧ W.cell? ⟨w.heap.size, 4, none⟩ = some (.int .i64 n) ∧ W.cell? ⟨w.heap.size, 5, none⟩ = some (.bool yes)) := Lib.hid (fun W h => by
    subst hO
    exact ⟨(h.cell (by simp)).trans (World.cell?_alloc_new _ _ _ _), (h.cell (by simp)).trans (World.cell?_alloc_new _ _ _ _), (h.cell (by simp)).trans (World.cell?_alloc_new _ _ _ _), (h.cell (by simp)).trans (World.cell?_alloc_new _ _ _ _), (h.cell (by simp)).trans (World.cell?_alloc_new _ _ _ _)⟩)
  have HSZ := Lib.hid (show w.heap.size + 1 ≤ (w.alloc O).heap.size by simp)
  go_enter Tryd.func5, Tryd.ntmps5
  go_wp2_with fail
  rw [← hO]
  refine (HK.out _).mono ?_
  rintro e w1 ⟨rfl, hb⟩
  have HB1 := Lib.hid (HB0.out.trans (hb.mono HB0.out.size))
  have HX1 := Lib.hid (hb.mono HSZ.out)
  have HZ1 := Lib.hid (Nat.le_trans HSZ.out hb.size)
  clear hb
  obtain ⟨c1, c2, c3, c4, c5⟩ := HC.out _ HX1.out
  go_wp2_with fail
  refine (HL.out _).mono ?_
  rintro e w3 ⟨rfl, hb⟩
  have HB3 := Lib.hid (HB1.out.trans (hb.mono HB1.out.size))
  have HX3 := Lib.hid (HX1.out.trans (hb.mono HZ1.out))
  have HZ3 := Lib.hid (Nat.le_trans HZ1.out hb.size)
  clear hb c1 c2 c3 c4 c5
  obtain ⟨c1, c2, c3, c4, c5⟩ := HC.out _ HX3.out
  go_wp2_with fail
  refine (HS.out _).mono ?_
  rintro e w4 ⟨rfl, hb⟩
  have HB4 := Lib.hid (HB3.out.trans (hb.mono HB3.out.size))
  have HX4 := Lib.hid (HX3.out.trans (hb.mono HZ3.out))
  clear hb c1 c2 c3 c4 c5
  obtain ⟨c1, c2, c3, c4, c5⟩ := HC.out _ HX4.out
  go_wp2_with fail
  refine (HT.out _).mono ?_
  rintro e w6 ⟨rfl, hb⟩
  have HB6 := Lib.hid (HB4.out.trans (hb.mono HB4.out.size))
  clear hb c1 c2 c3 c4 c5
  go_wp2_with fail
  refine (HH.out _).mono ?_
  rintro e w5 ⟨rfl, hb⟩
  have HB5 := Lib.hid (HB6.out.trans (hb.mono HB6.out.size))
  clear hb
  go_wp2
  go_ret
  exact ⟨rfl, HB5.out⟩
end Go.Proofs.YtgmnilmeliconaaDoor
