/-
  Layer 18, ClockTicks and ClockNil: out of what the program's clock answers.
-/
import Derived.Test.YtobdfffiamfjgaaVClkS
namespace Go.Proofs.Ytobdfffiamfjgaa
open Go.RowKit
set_option linter.unusedVariables false
set_option linter.unusedSimpArgs false


set_option maxRecDepth 20000 in
set_option maxHeartbeats 8000000 in
theorem clockTicks_true (hK : Awake18) (hL : ClkLoadOK) (hS : ClkStoreOK) (hT : ClkTickOK) (hH : ClkHighOK) (count anew ticks : Int) (w : World) (ht : 0 ≤ count ∧ count ≤ 255) (ha : 0 ≤ anew ∧ anew ≤ 255) (hn0 : 0 ≤ ticks) (hn1 : ticks ≤ 65535) :
    Calls Try.prog 3 #[.int .u8 count, .int .u8 anew, .int .u16 ticks] w fun e w' => e = .returned (.bool true) ∧ Below w.heap.size w w' := by
  obtain ⟨n, hn⟩ : ∃ n : Nat, (n : Int) = ticks % 600 := ⟨(ticks % 600).toNat, by omega⟩
  have hn' : ticks % 600 = (n : Int) := hn.symm
  have hn9 : n ≤ 600 := by omega
  obtain ⟨t0, t1⟩ := ht
  obtain ⟨a0, a1⟩ := ha
  have HK := Lib.hid hK
  have HL := Lib.hid (fun b s W (h : ClkAt W b s) => (show Calls Try.prog 8 #[.pointer (some ⟨b, 0, none⟩), .int .u64 0, .int .i64 4] W fun e w' => e = .returned (.tuple #[.int .u64 s.count, .int .i64 0]) ∧ ClkAt w' b s ∧ ChgB b W w' from hL b s 0 4 W h ⟨by decide, by decide⟩))
  have HL8 := Lib.hid (fun b s W (h : ClkAt W b s) => (show Calls Try.prog 8 #[.pointer (some ⟨b, 0, none⟩), .int .u64 8, .int .i64 4] W fun e w' => e = .returned (.tuple #[.int .u64 (bitI s.done), .int .i64 0]) ∧ ClkAt w' b s ∧ ChgB b W w' from hL b s 8 4 W h ⟨by decide, by decide⟩))
  have HS1 := Lib.hid (fun b s W (h : ClkAt W b s) => (show Calls Try.prog 6 #[.pointer (some ⟨b, 0, none⟩), .int .u64 0, .int .i64 4, .int .u64 count] W fun e w' => e = .returned (.int .i64 0) ∧ ClkAt w' b (clkStoreE s 0 4 count) ∧ ChgB b W w' from hS b s 0 4 count W h ⟨by decide, by decide⟩ ⟨by omega, by omega⟩))
  have HS2 := Lib.hid (fun b s W (h : ClkAt W b s) => (show Calls Try.prog 6 #[.pointer (some ⟨b, 0, none⟩), .int .u64 12, .int .i64 4, .int .u64 anew] W fun e w' => e = .returned (.int .i64 0) ∧ ClkAt w' b (clkStoreE s 12 4 anew) ∧ ChgB b W w' from hS b s 12 4 anew W h ⟨by decide, by decide⟩ ⟨by omega, by omega⟩))
  have HS3 := Lib.hid (fun b s W (h : ClkAt W b s) => (show Calls Try.prog 6 #[.pointer (some ⟨b, 0, none⟩), .int .u64 4, .int .i64 4, .int .u64 3] W fun e w' => e = .returned (.int .i64 0) ∧ ClkAt w' b (clkStoreE s 4 4 3) ∧ ChgB b W w' from hS b s 4 4 3 W h ⟨by decide, by decide⟩ ⟨by decide, by decide⟩))
  have HS4 := Lib.hid (fun b T G W (h : ClkAt W b ⟨T, anew, true, true, G⟩) => (show Calls Try.prog 6 #[.pointer (some ⟨b, 0, none⟩), .int .u64 8, .int .i64 4, .int .u64 1] W fun e w' => e = .returned (.int .i64 0) ∧ ClkAt w' b ⟨T, anew, true, true, false⟩ ∧ ChgB b W w' from by
    have h1 := hS b ⟨T, anew, true, true, G⟩ 8 4 1 W h ⟨by decide, by decide⟩ ⟨by decide, by decide⟩
    have e : clkStoreE ⟨T, anew, true, true, G⟩ 8 4 1 = ⟨T, anew, true, true, false⟩ := by simp [clkStoreE, clkStore, accE]
    rwa [e] at h1))
  have HT := Lib.hid hT
  have HH := Lib.hid hH
  have HM := Lib.hid (clk_made count anew ⟨by omega, by omega⟩ ⟨by omega, by omega⟩)
  have w8 : IntKind.u64.wrap count = count := IntWalk.u64_in _ (by omega)
  have w9 : IntKind.u64.wrap anew = anew := IntWalk.u64_in _ (by omega)
  clear hK hL hS hT hH hn
  go_enter Try.func3, Try.ntmps3
  go_wp2_with fail
  refine (HK.out _).mono ?_
  rintro e w1 ⟨rfl, hb⟩
  obtain ⟨b, hbb⟩ : ∃ b, b = w1.heap.size := ⟨_, rfl⟩
  have HBB : Hid (w.heap.size ≤ b) := Lib.hid (by rw [hbb]; exact hb.size)
  have HA0 := Lib.hid (ClkAt.zero w1)
  have HB := Lib.hid (hb.alloc hb.size clkZ)
  rw [← hbb] at HA0
  clear hb
  go_wp2_with fail
  rw [← hbb]
  have HG := Lib.hid (show b < (w1.alloc clkZ).heap.size by rw [hbb]; simp)
  clear hbb
  refine (HS1.out _ _ _ HA0.out).mono ?_
  rintro e w2 ⟨rfl, hs, hc⟩
  have HA2 := Lib.hid hs
  have HB2 := Lib.hid (HB.out.trans (hc.below HBB.out HB.out.size))
  have HG2 := Lib.hid (Nat.lt_of_lt_of_le HG.out hc.size)
  clear hs hc HA0 HB HG
  go_wp2_with fail
  refine (HS2.out _ _ _ HA2.out).mono ?_
  rintro e w3 ⟨rfl, hs, hc⟩
  have HA3 := Lib.hid hs
  have HB3 := Lib.hid (HB2.out.trans (hc.below HBB.out HB2.out.size))
  have HG3 := Lib.hid (Nat.lt_of_lt_of_le HG2.out hc.size)
  clear hs hc HA2 HB2 HG2
  go_wp2_with fail
  refine (HS3.out _ _ _ HA3.out).mono ?_
  rintro e w4 ⟨rfl, hs, hc⟩
  rw [HM.out] at hs
  have HA4 := Lib.hid hs
  have HB4 := Lib.hid (HB3.out.trans (hc.below HBB.out HB3.out.size))
  clear hs hc HA3 HB3 HG3 HM HS1 HS2 HS3 w1 w2 w3 HK
  go_wp2_with fail
  clear hn'
  go_loopw [8, 9, 33] (fun t g i wr => ∃ (k : Nat) (T : Int) (G : Bool), k ≤ n ∧ i = .int .i64 k ∧ t = .int .u64 T ∧ g = .bool G ∧ (0 ≤ T ∧ T ≤ 255) ∧ ClkAt wr b ⟨T, anew, true, true, G⟩ ∧ Below w.heap.size w wr) (fun _ _ i _ => n - (intOf i).toNat)
  case atStart => exact ⟨0, count, false, Nat.zero_le _, rfl, rfl, rfl, ⟨t0, t1⟩, HA4.out, HB4.out⟩
  case round =>
    obtain ⟨k, T, G, hk, rfl, rfl, rfl, ⟨T0, T1⟩, hat, hb⟩ := hrel
    have HAT := Lib.hid hat
    have HB := Lib.hid hb
    clear hat hb
    by_cases hlt : k < n
    · by_cases hT0 : 0 < T
      · obtain ⟨U, hU⟩ : ∃ U, T - 1 = U := ⟨_, rfl⟩
        have hw1 : IntKind.u64.wrap (T - 1) = U := by rw [IntWalk.u64_in _ (by omega)]; exact hU
        have q1 : decide ((0 : Int) < T) = true := decide_eq_true hT0
        by_cases hU0 : U = 0
        · have HTK := Lib.hid (show clkTick ⟨T, anew, true, true, G⟩ = ⟨anew, anew, true, true, true⟩ by simp [clkTick, hT0, hU, hU0])
          have HT2 : Hid (∀ W, ClkAt W b ⟨T, anew, true, true, G⟩ → Calls Try.prog 7 #[.pointer (some ⟨b, 0, none⟩)] W fun e w' => e = .returned (.tuple #[]) ∧ ClkAt w' b ⟨anew, anew, true, true, true⟩ ∧ ChgB b W w') := Lib.hid (fun W h => by
            have := HT.out b _ W h
            rwa [HTK.out] at this)
          clear HTK
          subst hU0
          clear hU hT0
          go_wp2_with fail
          refine (HT2.out _ HAT.out).mono ?_
          rintro e w5 ⟨rfl, hs, hc⟩
          have HA5 := Lib.hid hs
          have HB5 := Lib.hid (HB.out.trans (hc.below HBB.out HB.out.size))
          clear hs hc HAT HB
          go_wp2_with fail
          refine (HL.out _ _ _ HA5.out).mono ?_
          rintro e w6 ⟨rfl, hs, hc⟩
          have HA6 := Lib.hid hs
          have HB6 := Lib.hid (HB5.out.trans (hc.below HBB.out HB5.out.size))
          clear hs hc HA5 HB5
          go_wp2_with fail
          refine (HL8.out _ _ _ HA6.out).mono ?_
          rintro e w8 ⟨rfl, hs, hc⟩
          have HA8 := Lib.hid hs
          have HB8 := Lib.hid (HB6.out.trans (hc.below HBB.out HB6.out.size))
          clear hs hc HA6 HB6
          simp only [bitI, Bool.false_eq_true, ↓reduceIte]
          go_wp2_with fail
          refine (HH.out _ _ _ HA8.out).mono ?_
          rintro e w7 ⟨rfl, hs, hc⟩
          have HA7 := Lib.hid hs
          have HB7 := Lib.hid (HB8.out.trans (hc.below HBB.out HB8.out.size))
          clear hs hc HA8 HB8
          go_wp2_with fail
          go_roundw
          case rel => exact ⟨k + 1, _, _, by omega, by go_num, rfl, rfl, ⟨by omega, by omega⟩, HA7.out, HB7.out⟩
          case measure => simp [intOf]; omega
        · have HTK := Lib.hid (show clkTick ⟨T, anew, true, true, G⟩ = ⟨U, anew, true, true, G⟩ by simp [clkTick, hT0, hU, hU0])
          have HT2 : Hid (∀ W, ClkAt W b ⟨T, anew, true, true, G⟩ → Calls Try.prog 7 #[.pointer (some ⟨b, 0, none⟩)] W fun e w' => e = .returned (.tuple #[]) ∧ ClkAt w' b ⟨U, anew, true, true, G⟩ ∧ ChgB b W w') := Lib.hid (fun W h => by
            have := HT.out b _ W h
            rwa [HTK.out] at this)
          clear HTK
          have q2 : (U == 0) = false := by rw [beq_eq_false_iff_ne]; exact hU0
          have hU1 : 0 ≤ U ∧ U ≤ 255 := by omega
          obtain ⟨U0, U1⟩ := hU1
          clear hU hT0 hU0
          cases G
          · go_wp2_with fail
            refine (HT2.out _ HAT.out).mono ?_
            rintro e w5 ⟨rfl, hs, hc⟩
            have HA5 := Lib.hid hs
            have HB5 := Lib.hid (HB.out.trans (hc.below HBB.out HB.out.size))
            clear hs hc HAT HB
            go_wp2_with fail
            refine (HL.out _ _ _ HA5.out).mono ?_
            rintro e w6 ⟨rfl, hs, hc⟩
            have HA6 := Lib.hid hs
            have HB6 := Lib.hid (HB5.out.trans (hc.below HBB.out HB5.out.size))
            clear hs hc HA5 HB5
            go_wp2_with fail
            refine (HL8.out _ _ _ HA6.out).mono ?_
            rintro e w8 ⟨rfl, hs, hc⟩
            have HA8 := Lib.hid hs
            have HB8 := Lib.hid (HB6.out.trans (hc.below HBB.out HB6.out.size))
            clear hs hc HA6 HB6
            simp only [bitI, Bool.false_eq_true, ↓reduceIte]
            go_wp2_with fail
            refine (HH.out _ _ _ HA8.out).mono ?_
            rintro e w7 ⟨rfl, hs, hc⟩
            have HA7 := Lib.hid hs
            have HB7 := Lib.hid (HB8.out.trans (hc.below HBB.out HB8.out.size))
            clear hs hc HA8 HB8
            go_wp2_with fail
            go_roundw
            case rel => exact ⟨k + 1, _, _, by omega, by go_num, rfl, rfl, ⟨by omega, by omega⟩, HA7.out, HB7.out⟩
            case measure => simp [intOf]; omega
          · go_wp2_with fail
            refine (HT2.out _ HAT.out).mono ?_
            rintro e w5 ⟨rfl, hs, hc⟩
            have HA5 := Lib.hid hs
            have HB5 := Lib.hid (HB.out.trans (hc.below HBB.out HB.out.size))
            clear hs hc HAT HB
            go_wp2_with fail
            refine (HL.out _ _ _ HA5.out).mono ?_
            rintro e w6 ⟨rfl, hs, hc⟩
            have HA6 := Lib.hid hs
            have HB6 := Lib.hid (HB5.out.trans (hc.below HBB.out HB5.out.size))
            clear hs hc HA5 HB5
            go_wp2_with fail
            refine (HL8.out _ _ _ HA6.out).mono ?_
            rintro e w8 ⟨rfl, hs, hc⟩
            have HA8 := Lib.hid hs
            have HB8 := Lib.hid (HB6.out.trans (hc.below HBB.out HB6.out.size))
            clear hs hc HA6 HB6
            simp only [bitI, Bool.false_eq_true, ↓reduceIte]
            go_wp2_with fail
            refine (HH.out _ _ _ HA8.out).mono ?_
            rintro e w7 ⟨rfl, hs, hc⟩
            have HA7 := Lib.hid hs
            have HB7 := Lib.hid (HB8.out.trans (hc.below HBB.out HB8.out.size))
            clear hs hc HA8 HB8
            go_wp2_with fail
            go_roundw
            case rel => exact ⟨k + 1, _, _, by omega, by go_num, rfl, rfl, ⟨by omega, by omega⟩, HA7.out, HB7.out⟩
            case measure => simp [intOf]; omega
      · have q1 : decide ((0 : Int) < T) = false := decide_eq_false hT0
        have HTK := Lib.hid (show clkTick ⟨T, anew, true, true, G⟩ = ⟨T, anew, true, true, G⟩ by simp [clkTick, hT0])
        have HT2 : Hid (∀ W, ClkAt W b ⟨T, anew, true, true, G⟩ → Calls Try.prog 7 #[.pointer (some ⟨b, 0, none⟩)] W fun e w' => e = .returned (.tuple #[]) ∧ ClkAt w' b ⟨T, anew, true, true, G⟩ ∧ ChgB b W w') := Lib.hid (fun W h => by
          have := HT.out b _ W h
          rwa [HTK.out] at this)
        clear HTK
        clear hT0
        cases G
        · go_wp2_with fail
          refine (HT2.out _ HAT.out).mono ?_
          rintro e w5 ⟨rfl, hs, hc⟩
          have HA5 := Lib.hid hs
          have HB5 := Lib.hid (HB.out.trans (hc.below HBB.out HB.out.size))
          clear hs hc HAT HB
          go_wp2_with fail
          refine (HL.out _ _ _ HA5.out).mono ?_
          rintro e w6 ⟨rfl, hs, hc⟩
          have HA6 := Lib.hid hs
          have HB6 := Lib.hid (HB5.out.trans (hc.below HBB.out HB5.out.size))
          clear hs hc HA5 HB5
          go_wp2_with fail
          refine (HL8.out _ _ _ HA6.out).mono ?_
          rintro e w8 ⟨rfl, hs, hc⟩
          have HA8 := Lib.hid hs
          have HB8 := Lib.hid (HB6.out.trans (hc.below HBB.out HB6.out.size))
          clear hs hc HA6 HB6
          simp only [bitI, Bool.false_eq_true, ↓reduceIte]
          go_wp2_with fail
          refine (HH.out _ _ _ HA8.out).mono ?_
          rintro e w7 ⟨rfl, hs, hc⟩
          have HA7 := Lib.hid hs
          have HB7 := Lib.hid (HB8.out.trans (hc.below HBB.out HB8.out.size))
          clear hs hc HA8 HB8
          go_wp2_with fail
          go_roundw
          case rel => exact ⟨k + 1, _, _, by omega, by go_num, rfl, rfl, ⟨by omega, by omega⟩, HA7.out, HB7.out⟩
          case measure => simp [intOf]; omega
        · go_wp2_with fail
          refine (HT2.out _ HAT.out).mono ?_
          rintro e w5 ⟨rfl, hs, hc⟩
          have HA5 := Lib.hid hs
          have HB5 := Lib.hid (HB.out.trans (hc.below HBB.out HB.out.size))
          clear hs hc HAT HB
          go_wp2_with fail
          refine (HL.out _ _ _ HA5.out).mono ?_
          rintro e w6 ⟨rfl, hs, hc⟩
          have HA6 := Lib.hid hs
          have HB6 := Lib.hid (HB5.out.trans (hc.below HBB.out HB5.out.size))
          clear hs hc HA5 HB5
          go_wp2_with fail
          refine (HL8.out _ _ _ HA6.out).mono ?_
          rintro e w8 ⟨rfl, hs, hc⟩
          have HA8 := Lib.hid hs
          have HB8 := Lib.hid (HB6.out.trans (hc.below HBB.out HB6.out.size))
          clear hs hc HA6 HB6
          simp only [bitI, Bool.false_eq_true, ↓reduceIte]
          go_wp2_with fail
          refine (HH.out _ _ _ HA8.out).mono ?_
          rintro e w7 ⟨rfl, hs, hc⟩
          have HA7 := Lib.hid hs
          have HB7 := Lib.hid (HB8.out.trans (hc.below HBB.out HB8.out.size))
          clear hs hc HA8 HB8
          go_wp2_with fail
          go_roundw
          case rel => exact ⟨k + 1, _, _, by omega, by go_num, rfl, rfl, ⟨by omega, by omega⟩, HA7.out, HB7.out⟩
          case measure => simp [intOf]; omega
    · obtain rfl : k = n := by omega
      go_wp2_with fail
      refine (HS4.out _ _ _ _ HAT.out).mono ?_
      rintro e w5 ⟨rfl, hs, hc⟩
      have HA5 := Lib.hid hs
      have HB5 := Lib.hid (HB.out.trans (hc.below HBB.out HB.out.size))
      clear hs hc HAT HB
      go_wp2_with fail
      refine (HH.out _ _ _ HA5.out).mono ?_
      rintro e w7 ⟨rfl, hs, hc⟩
      have HB7 := Lib.hid (HB5.out.trans (hc.below HBB.out HB5.out.size))
      clear hs hc HA5 HB5
      go_wp2
      go_ret
      exact ⟨rfl, HB7.out⟩

set_option maxHeartbeats 2000000 in
theorem clockNil_true (hK : Awake18) (hN : ClkNilOK) (kind off width v n : Int) (yes : Bool) (w : World) :
    Calls Try.prog 4 #[.agg #[.int .u8 kind, .int .u64 off, .int .i64 width, .int .u64 v, .int .i64 n, .bool yes]] w fun e w' => e = .returned (.bool true) ∧ Below w.heap.size w w' := by
  obtain ⟨hL, hS, hT, hH⟩ := hN
  have HK := Lib.hid hK
  have HL := Lib.hid (hL off width)
  have HS := Lib.hid (hS off width v)
  have HT := Lib.hid hT
  have HH := Lib.hid hH
  clear hK hL hS hT hH
  obtain ⟨O, hO⟩ : ∃ O, O = Obj.cells #[.int .u8 kind, .int .u64 off, .int .i64 width, .int .u64 v, .int .i64 n, .bool yes] 35 := ⟨_, rfl⟩
  have HB0 := Lib.hid ((Below.refl w.heap.size w).alloc (Nat.le_refl _) O)
  have HC : Hid (∀ W, Below (w.heap.size + 1) (w.alloc O) W → W.cell? ⟨w.heap.size, 1, none⟩ = some (.int .u64 off) ∧ W.cell? ⟨w.heap.size, 2, none⟩ = some (.int .i64 width) ∧ W.cell? ⟨w.heap.size, 3, none⟩ = some (.int .u64 v)) := Lib.hid (fun W h => by
    subst hO
    exact ⟨(h.cell (by simp)).trans (World.cell?_alloc_new _ _ _ _), (h.cell (by simp)).trans (World.cell?_alloc_new _ _ _ _), (h.cell (by simp)).trans (World.cell?_alloc_new _ _ _ _)⟩)
  have HSZ := Lib.hid (show w.heap.size + 1 ≤ (w.alloc O).heap.size by simp)
  go_enter Try.func4, Try.ntmps4
  go_wp2_with fail
  rw [← hO]
  refine (HK.out _).mono ?_
  rintro e w1 ⟨rfl, hb⟩
  have HB1 := Lib.hid (HB0.out.trans (hb.mono HB0.out.size))
  have HX1 := Lib.hid (hb.mono HSZ.out)
  have HZ1 := Lib.hid (Nat.le_trans HSZ.out hb.size)
  clear hb
  go_wp2_with fail
  refine (HT.out _).mono ?_
  rintro e w2 ⟨rfl, hb⟩
  have HB2 := Lib.hid (HB1.out.trans (hb.mono HB1.out.size))
  have HX2 := Lib.hid (HX1.out.trans (hb.mono HZ1.out))
  have HZ2 := Lib.hid (Nat.le_trans HZ1.out hb.size)
  clear hb
  obtain ⟨c1, c2, c3⟩ := HC.out _ HX2.out
  go_wp2_with fail
  refine (HL.out _).mono ?_
  rintro e w3 ⟨rfl, hb⟩
  have HB3 := Lib.hid (HB2.out.trans (hb.mono HB2.out.size))
  have HX3 := Lib.hid (HX2.out.trans (hb.mono HZ2.out))
  clear hb c1 c2 c3
  obtain ⟨c1, c2, c3⟩ := HC.out _ HX3.out
  go_wp2_with fail
  refine (HS.out _).mono ?_
  rintro e w4 ⟨rfl, hb⟩
  have HB4 := Lib.hid (HB3.out.trans (hb.mono HB3.out.size))
  clear hb c1 c2 c3
  go_wp2_with fail
  refine (HH.out _).mono ?_
  rintro e w5 ⟨rfl, hb⟩
  have HB5 := Lib.hid (HB4.out.trans (hb.mono HB4.out.size))
  clear hb
  go_wp2
  go_ret
  exact ⟨rfl, HB5.out⟩
end Go.Proofs.Ytobdfffiamfjgaa
