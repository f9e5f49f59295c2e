/-
  Layer 17, UartQueue and UartNil: out of what the program's UART answers.
-/
import Derived.Test.YtjilkifecdigfaaVUartS
import Derived.Laws.BitsAllLaws
namespace Go.Proofs.Ytjilkifecdigfaa
open Go.RowKit
set_option linter.unusedVariables false
set_option linter.unusedSimpArgs false

set_option maxHeartbeats 2000000 in
theorem uartNil_true (hK : Awake17) (hN : UartNilOK) (kind off width v n : Int) (yes : Bool) (w : World) :
    Calls Try.prog 5 #[.agg #[.int .u8 kind, .int .u64 off, .int .i64 width, .int .u64 v, .int .i64 n, .bool yes]] w fun e w' => e = .returned (.bool true) ∧ Below w.heap.size w w' := by
  obtain ⟨hL, hS, hT, hU, hH⟩ := hN
  have HK := Lib.hid hK
  have HL := Lib.hid (hL off width)
  have HS := Lib.hid (hS off width v)
  have HT := Lib.hid (hT 1)
  have HU := Lib.hid hU
  have HH := Lib.hid hH
  clear hK hL hS hT hU hH
  obtain ⟨O, hO⟩ : ∃ O, O = Obj.cells #[.int .u8 kind, .int .u64 off, .int .i64 width, .int .u64 v, .int .i64 n, .bool yes] 40 := ⟨_, rfl⟩
  have HB0 := Lib.hid ((Below.refl w.heap.size w).alloc (Nat.le_refl _) O)
  have HC : Hid (∀ W, Below (w.heap.size + 1) (w.alloc O) W → W.cell? ⟨w.heap.size, 1, none⟩ = some (.int .u64 off) ∧ W.cell? ⟨w.heap.size, 2, none⟩ = some (.int .i64 width) ∧ W.cell? ⟨w.heap.size, 3, none⟩ = some (.int .u64 v)) := Lib.hid (fun W h => by
    subst hO
    exact ⟨(h.cell (by simp)).trans (World.cell?_alloc_new _ _ _ _), (h.cell (by simp)).trans (World.cell?_alloc_new _ _ _ _), (h.cell (by simp)).trans (World.cell?_alloc_new _ _ _ _)⟩)
  have HSZ := Lib.hid (show w.heap.size + 1 ≤ (w.alloc O).heap.size by simp)
  go_enter Try.func5, Try.ntmps5
  go_wp2_with fail
  rw [← hO]
  refine (HK.out _).mono ?_
  rintro e w1 ⟨rfl, hb⟩
  have HB1 := Lib.hid (HB0.out.trans (hb.mono HB0.out.size))
  have HX1 := Lib.hid (hb.mono HSZ.out)
  have HZ1 := Lib.hid (Nat.le_trans HSZ.out hb.size)
  clear hb
  obtain ⟨c1, c2, c3⟩ := HC.out _ HX1.out
  go_wp2_with fail
  refine (HL.out _).mono ?_
  rintro e w3 ⟨rfl, hb⟩
  have HB3 := Lib.hid (HB1.out.trans (hb.mono HB1.out.size))
  have HX3 := Lib.hid (HX1.out.trans (hb.mono HZ1.out))
  clear hb c1 c2 c3
  obtain ⟨c1, c2, c3⟩ := HC.out _ HX3.out
  go_wp2_with fail
  refine (HS.out _).mono ?_
  rintro e w4 ⟨rfl, hb⟩
  have HB4 := Lib.hid (HB3.out.trans (hb.mono HB3.out.size))
  clear hb c1 c2 c3
  go_wp2_with fail
  refine (HT.out _).mono ?_
  rintro e w6 ⟨rfl, hb⟩
  have HB6 := Lib.hid (HB4.out.trans (hb.mono HB4.out.size))
  clear hb
  go_wp2_with fail
  refine (HU.out _).mono ?_
  rintro e w7 ⟨⟨A, c, rfl⟩, hb⟩
  have HB7 := Lib.hid (HB6.out.trans (hb.mono HB6.out.size))
  clear hb
  go_wp2_with fail
  refine (HH.out _).mono ?_
  rintro e w5 ⟨rfl, hb⟩
  have HB5 := Lib.hid (HB7.out.trans (hb.mono HB7.out.size))
  clear hb
  go_wp2
  go_ret
  exact ⟨rfl, HB5.out⟩


set_option maxRecDepth 20000 in
set_option maxHeartbeats 16000000 in
theorem uartQueue_true (hK : Awake17) (hL : UartLoadOK) (hS : UartStoreOK) (hT : UartComeOK) (A : Option Addr) (n c : Nat) (zs : List Int) (w : World) (hs : Shows w w.heap.size A n zs) (hnc : n ≤ c) (hc : c ≤ 9223372036854775807) :
    Calls Try.prog 4 #[.slice A n c] w fun e w' => e = .returned (.bool true) ∧ Below w.heap.size w w' := by
  have HK := Lib.hid hK
  have HZL := Lib.hid hs.1
  have HCM := Lib.hid (fun b F (k : Nat) (hk : k < zs.length) W (h : UartAt W b F (uartOf zs k)) => (show Calls Try.prog 12 #[.pointer (some ⟨b, 0, none⟩), .int .u8 zs[k]] W fun e w' => e = .returned (.int .i64 (if k < 16 then 0 else 20)) ∧ ∃ F', UartAt w' b F' (uartOf zs (k + 1)) ∧ ChgF F F' W w' from by
    have h1 := hT b F _ zs[k] W h (by have := hs.byte k; simp only [List.getD, List.getElem?_eq_getElem hk, Option.getD_some] at this; omega)
    rw [uart_come zs k hk] at h1
    have e : ((uartOf zs k).inn.length < 16) = (k < 16) := by
      show (((zs.take k).take 16).length < 16) = _
      rw [List.length_take, List.length_take]
      exact propext (by omega)
    simp only [e] at h1
    exact h1))
  have HL := Lib.hid hL
  have HS := Lib.hid hS
  have HSH := Lib.hid hs
  clear hK hL hS hT hs
  go_enter Try.func4, Try.ntmps4
  go_wp2_with fail
  refine (HK.out _).mono ?_
  rintro e wa ⟨rfl, hb⟩
  have HB1 := Lib.hid hb
  clear hb
  by_cases hbig : 100 < n
  · have q : decide ((100 : Int) < (n : Int)) = true := decide_eq_true (by omega)
    go_wp2_with fail
    refine (HK.out _).mono ?_
    rintro e w2 ⟨rfl, hb⟩
    have HB2 := Lib.hid (HB1.out.trans (hb.mono HB1.out.size))
    clear hb
    go_wp2
    go_ret
    exact ⟨rfl, HB2.out⟩
  have q : decide ((100 : Int) < (n : Int)) = false := decide_eq_false (by omega)
  obtain ⟨b, hbb⟩ : ∃ b, b = wa.heap.size := ⟨_, rfl⟩
  have HBB : Hid (w.heap.size ≤ b) := Lib.hid (by rw [hbb]; exact HB1.out.size)
  have hA0 := UartAt.zero wa
  have hB0 := HB1.out.alloc HB1.out.size uartZ
  obtain ⟨Z, hZ, hz1⟩ := uart_zero
  rw [hZ] at hA0 hB0
  rw [← hbb] at hA0
  have HA0 := Lib.hid hA0
  have HB0 := Lib.hid hB0
  clear hA0 hB0 hZ
  go_wp2_with fail
  rw [← hbb]
  clear hbb q hz1
  go_loopw [26] (fun i wr => ∃ (k : Nat) (F : Nat → Prop), k ≤ n ∧ i = .int .i64 k ∧ UartAt wr b F (uartOf zs k) ∧ (∀ j, F j → w.heap.size ≤ j) ∧ Below w.heap.size w wr) (fun i _ => n - (intOf i).toNat)
  case atStart => exact ⟨0, _, Nat.zero_le _, rfl, HA0.out, fun j hj => by rw [hj]; exact HBB.out, HB0.out⟩
  case round =>
    rename World => wo
    obtain ⟨k, F, hk, rfl, hat, hF, hb⟩ := hrel
    have HA := Lib.hid hat
    have HF := Lib.hid hF
    have HB := Lib.hid hb
    by_cases hlt : k < n
    · obtain ⟨sb, so, e, hsb, hcc⟩ := HSH.out.at_ (by omega)
      obtain rfl : A = _ := e
      have hkl : k < zs.length := by rw [HZL.out]; exact hlt
      have c0 := (hb.cell (p := ⟨sb, so + k, none⟩) hsb).trans (hcc k hlt)
      have hg : zs.getD k 0 = zs[k] := by simp [List.getD, List.getElem?_eq_getElem hkl]
      rw [hg] at c0
      have HC1 := Lib.hid (fun W h => HCM.out b F k hkl W h)
      generalize zs[k] = z at *
      clear hat hF hb hcc hsb hg
      by_cases h16 : k < 16
      · have q1 : decide ((k : Int) < 16) = true := decide_eq_true (by omega)
        rw [if_pos h16] at HC1
        clear h16
        go_wp2_with fail
        refine (HC1.out _ HA.out).mono ?_
        rintro e wx ⟨rfl, F5, hs, hc⟩
        have HB5 := Lib.hid (HB.out.trans (hc.below HF.out HB.out.size))
        have HF5 := Lib.hid (hc.lo HF.out HB.out.size)
        have HA5 := Lib.hid hs
        clear hs hc HA HB HF
        go_wp2_with fail
        go_roundw
        case rel => exact ⟨k + 1, _, by omega, by go_num, HA5.out, HF5.out, HB5.out⟩
        case measure => simp [intOf]; omega
      · have q1 : decide ((k : Int) < 16) = false := decide_eq_false (by omega)
        rw [if_neg h16] at HC1
        clear h16
        go_wp2_with fail
        refine (HC1.out _ HA.out).mono ?_
        rintro e wx ⟨rfl, F5, hs, hc⟩
        have HB5 := Lib.hid (HB.out.trans (hc.below HF.out HB.out.size))
        have HF5 := Lib.hid (hc.lo HF.out HB.out.size)
        have HA5 := Lib.hid hs
        clear hs hc HA HB HF
        go_wp2_with fail
        go_roundw
        case rel => exact ⟨k + 1, _, by omega, by go_num, HA5.out, HF5.out, HB5.out⟩
        case measure => simp [intOf]; omega
    · obtain rfl : k = n := by omega
      obtain ⟨Q, hQ⟩ : ∃ Q, zs.take 16 = Q := ⟨_, rfl⟩
      obtain ⟨M, hM⟩ : ∃ M, Q.length = M := ⟨_, rfl⟩
      have hMn : M = min k 16 := by rw [← hM, ← hQ, List.length_take, HZL.out, Nat.min_comm]
      obtain ⟨L, hLL⟩ : ∃ L, decide (16 < k) = L := ⟨_, rfl⟩
      have hU : uartOf zs k = ⟨Q, [], L, false⟩ := by
        have ht : zs.take k = zs := List.take_of_length_le (by rw [HZL.out]; exact Nat.le_refl _)
        rw [uartOf, ht, hQ, hLL]
      rw [hU] at hat
      replace HA := Lib.hid hat
      obtain ⟨P, hP⟩ : ∃ P, decide (0 < M) = P := ⟨_, rfl⟩
      obtain ⟨S, hS⟩ : ∃ S, bitI P + 2 * bitI L = S := ⟨_, rfl⟩
      have HL12 := Lib.hid (fun F W (h : UartAt W b F ⟨Q, [], L, false⟩) => (show Calls Try.prog 7 #[.pointer (some ⟨b, 0, none⟩), .int .u64 12, .int .i64 4] W fun e w' => e = .returned (.tuple #[.int .u64 (M : Int), .int .i64 0]) ∧ ∃ F', UartAt w' b F' ⟨Q, [], L, false⟩ ∧ ChgF F F' W w' from by
        have h1 := HL.out b F _ 12 4 W h ⟨by decide, by decide⟩
        rw [← hM]; exact h1))
      have HL4 := Lib.hid (fun F W (h : UartAt W b F ⟨Q, [], L, false⟩) => (show Calls Try.prog 7 #[.pointer (some ⟨b, 0, none⟩), .int .u64 4, .int .i64 4] W fun e w' => e = .returned (.tuple #[.int .u64 S, .int .i64 0]) ∧ ∃ F', UartAt w' b F' ⟨Q, [], L, false⟩ ∧ ChgF F F' W w' from by
        have h1 := HL.out b F _ 4 4 W h ⟨by decide, by decide⟩
        rw [← hS, ← hP, ← hM]; exact h1))
      have HLR := Lib.hid (fun (j : Nat) (hj : j < Q.length) F W (h : UartAt W b F ⟨Q.drop j, [], L, false⟩) => (show Calls Try.prog 7 #[.pointer (some ⟨b, 0, none⟩), .int .u64 0, .int .i64 4] W fun e w' => e = .returned (.tuple #[.int .u64 Q[j], .int .i64 0]) ∧ ∃ F', UartAt w' b F' ⟨Q.drop (j + 1), [], L, false⟩ ∧ ChgF F F' W w' from by
        rw [List.drop_eq_getElem_cons hj] at h
        exact HL.out b F _ 0 4 W h ⟨by decide, by decide⟩))
      have HSL := Lib.hid (fun F W (h : UartAt W b F ⟨[], [], L, false⟩) => (show Calls Try.prog 10 #[.pointer (some ⟨b, 0, none⟩), .int .u64 4, .int .i64 4, .int .u64 2] W fun e w' => e = .returned (.int .i64 0) ∧ ∃ F', UartAt w' b F' ⟨[], [], false, false⟩ ∧ ChgF F F' W w' from by
        have h1 := HS.out b F _ 4 4 2 W h ⟨by decide, by decide⟩ ⟨by decide, by decide⟩ (by simp)
        have e : uartStoreE ⟨[], [], L, false⟩ 4 4 2 = ⟨[], [], false, false⟩ := by simp [uartStoreE, uartStore, accE]
        rw [e] at h1
        exact h1))
      have HLZ4 := Lib.hid (fun F W (h : UartAt W b F ⟨[], [], false, false⟩) => (show Calls Try.prog 7 #[.pointer (some ⟨b, 0, none⟩), .int .u64 4, .int .i64 4] W fun e w' => e = .returned (.tuple #[.int .u64 0, .int .i64 0]) ∧ ∃ F', UartAt w' b F' ⟨[], [], false, false⟩ ∧ ChgF F F' W w' from HL.out b F _ 4 4 W h ⟨by decide, by decide⟩))
      have HLZ0 := Lib.hid (fun F W (h : UartAt W b F ⟨[], [], false, false⟩) => (show Calls Try.prog 7 #[.pointer (some ⟨b, 0, none⟩), .int .u64 0, .int .i64 4] W fun e w' => e = .returned (.tuple #[.int .u64 0, .int .i64 0]) ∧ ∃ F', UartAt w' b F' ⟨[], [], false, false⟩ ∧ ChgF F F' W w' from HL.out b F _ 0 4 W h ⟨by decide, by decide⟩))
      have T : ∀ x y : Bool, P = x → L = y → (bits .and .u64 S 2 == 2) = y ∧ (bits .and .u64 S 1 == 1) = x := fun x y hx hy => by
        rw [← hS, hx, hy]; cases x <;> cases y <;> exact ⟨rfl, rfl⟩
      have HQ := Lib.hid (And.intro hM hQ)
      by_cases h16 : k ≤ 16
      · obtain rfl : M = k := by omega
        have hLf : L = false := by rw [← hLL]; exact decide_eq_false (by omega)
        have d1 : decide ((16 : Int) < (M : Int)) = false := decide_eq_false (by omega)
        have d3 : decide (16 < M) = false := decide_eq_false (by omega)
        have w3 : IntKind.u64.wrap (M : Int) = (M : Int) := IntWalk.u64_in _ (by omega)
        have u3 : ((M : Int) != (M : Int)) = false := by rw [bne_eq_false_iff_eq]
        by_cases h0 : 0 < M
        · have d2 : decide ((0 : Int) < (M : Int)) = true := decide_eq_true (by omega)
          have d4 : decide (0 < M) = true := decide_eq_true (by omega)
          obtain ⟨t1, t2⟩ := T true false (by rw [← hP]; exact decide_eq_true h0) hLf
          have hM100 : M ≤ M := Nat.le_refl _
          clear hat hF hb hU hLL hP hS hlt hk hMn hQ hM HCM HL HS T hLf h0
          go_wp2_with fail
          refine (HL12.out _ _ HA.out).mono ?_
          rintro e wx ⟨rfl, F5, hs, hc⟩
          have HB5 := Lib.hid (HB.out.trans (hc.below HF.out HB.out.size))
          have HF5 := Lib.hid (hc.lo HF.out HB.out.size)
          have HA5 := Lib.hid hs
          clear hs hc HA HB HF
          go_wp2_with fail
          refine (HL4.out _ _ HA5.out).mono ?_
          rintro e wx ⟨rfl, F6, hs, hc⟩
          have HB6 := Lib.hid (HB5.out.trans (hc.below HF5.out HB5.out.size))
          have HF6 := Lib.hid (hc.lo HF5.out HB5.out.size)
          have HA6 := Lib.hid hs
          clear hs hc HA5 HB5 HF5
          go_wp2_with fail
          clear d3 d4
          clear t1 t2 d1 d2 u3 w3 HL12 HL4
          go_loopw [77] (fun i wr => ∃ (j : Nat) (F : Nat → Prop), j ≤ M ∧ i = .int .i64 j ∧ UartAt wr b F ⟨Q.drop j, [], L, false⟩ ∧ (∀ j, F j → w.heap.size ≤ j) ∧ Below w.heap.size w wr) (fun i _ => M - (intOf i).toNat)
          case atStart => exact ⟨0, _, Nat.zero_le _, rfl, HA6.out, HF6.out, HB6.out⟩
          case round =>
            obtain ⟨j, F, hj, rfl, hat, hF, hb⟩ := hrel
            have HA := Lib.hid hat
            have HF := Lib.hid hF
            have HB := Lib.hid hb
            by_cases hlt : j < M
            · have hjq : j < Q.length := by rw [HQ.out.1]; exact hlt
              have HC1 := Lib.hid (fun F W h => HLR.out j hjq F W h)
              obtain ⟨sb, so, e, hsb, hcc⟩ := HSH.out.at_ (by omega)
              obtain rfl : A = _ := e
              have hjz : j < zs.length := by rw [HZL.out]; omega
              have hg : zs.getD j 0 = Q[j] := by
                have e1 : Q[j] = zs[j] := by
                  have := HQ.out.2
                  subst this
                  simp
                simp [List.getD, List.getElem?_eq_getElem hjz, e1]
              have HCC := Lib.hid (fun (W : World) (h : Below w.heap.size w W) => (h.cell (p := ⟨sb, so + j, none⟩) hsb).trans ((hcc j (by omega)).trans (by rw [hg])))
              have hz := HSH.out.byte j
              rw [hg] at hz
              generalize Q[j] = z at *
              obtain ⟨z0, z1⟩ := hz
              have u5 : (z != z) = false := by rw [bne_eq_false_iff_eq]
              have w5 : IntKind.u64.wrap z = z := IntWalk.u64_in _ (by omega)
              have hjk : j < M := by omega
              clear hat hF hb hcc hsb hg hjz hjq
              go_wp2_with fail
              refine (HC1.out _ _ HA.out).mono ?_
              rintro e wx ⟨rfl, F7, hs, hc⟩
              have HB7 := Lib.hid (HB.out.trans (hc.below HF.out HB.out.size))
              have HF7 := Lib.hid (hc.lo HF.out HB.out.size)
              have HA7 := Lib.hid hs
              clear hs hc HA HB HF
              have c0 := HCC.out _ HB7.out
              go_wp2_with fail
              go_roundw
              case rel => exact ⟨j + 1, _, by omega, by go_num, HA7.out, HF7.out, HB7.out⟩
              case measure => simp [intOf]; omega
            · have hd : Q.drop j = [] := List.drop_eq_nil_of_le (by rw [HQ.out.1]; omega)
              rw [hd] at hat
              replace HA := Lib.hid hat
              clear hat hF hb hd
              go_wp2_with fail
              refine (HSL.out _ _ HA.out).mono ?_
              rintro e wx ⟨rfl, F7, hs, hc⟩
              have HB7 := Lib.hid (HB.out.trans (hc.below HF.out HB.out.size))
              have HF7 := Lib.hid (hc.lo HF.out HB.out.size)
              have HA7 := Lib.hid hs
              clear hs hc HA HB HF
              go_wp2_with fail
              refine (HLZ4.out _ _ HA7.out).mono ?_
              rintro e wx ⟨rfl, F8, hs, hc⟩
              have HB8 := Lib.hid (HB7.out.trans (hc.below HF7.out HB7.out.size))
              have HF8 := Lib.hid (hc.lo HF7.out HB7.out.size)
              have HA8 := Lib.hid hs
              clear hs hc HA7 HB7 HF7
              go_wp2_with fail
              refine (HLZ0.out _ _ HA8.out).mono ?_
              rintro e wx ⟨rfl, F9, hs, hc⟩
              have HB9 := Lib.hid (HB8.out.trans (hc.below HF8.out HB8.out.size))
              have HF9 := Lib.hid (hc.lo HF8.out HB8.out.size)
              have HA9 := Lib.hid hs
              clear hs hc HA8 HB8 HF8
              go_wp2
              go_ret
              exact ⟨rfl, HB9.out⟩
        · have d2 : decide ((0 : Int) < (M : Int)) = false := decide_eq_false (by omega)
          have d4 : decide (0 < M) = false := decide_eq_false (by omega)
          obtain ⟨t1, t2⟩ := T false false (by rw [← hP]; exact decide_eq_false h0) hLf
          have hM100 : M ≤ M := Nat.le_refl _
          clear hat hF hb hU hLL hP hS hlt hk hMn hQ hM HCM HL HS T hLf h0
          go_wp2_with fail
          refine (HL12.out _ _ HA.out).mono ?_
          rintro e wx ⟨rfl, F5, hs, hc⟩
          have HB5 := Lib.hid (HB.out.trans (hc.below HF.out HB.out.size))
          have HF5 := Lib.hid (hc.lo HF.out HB.out.size)
          have HA5 := Lib.hid hs
          clear hs hc HA HB HF
          go_wp2_with fail
          refine (HL4.out _ _ HA5.out).mono ?_
          rintro e wx ⟨rfl, F6, hs, hc⟩
          have HB6 := Lib.hid (HB5.out.trans (hc.below HF5.out HB5.out.size))
          have HF6 := Lib.hid (hc.lo HF5.out HB5.out.size)
          have HA6 := Lib.hid hs
          clear hs hc HA5 HB5 HF5
          go_wp2_with fail
          clear d3 d4
          clear t1 t2 d1 d2 u3 w3 HL12 HL4
          go_loopw [77] (fun i wr => ∃ (j : Nat) (F : Nat → Prop), j ≤ M ∧ i = .int .i64 j ∧ UartAt wr b F ⟨Q.drop j, [], L, false⟩ ∧ (∀ j, F j → w.heap.size ≤ j) ∧ Below w.heap.size w wr) (fun i _ => M - (intOf i).toNat)
          case atStart => exact ⟨0, _, Nat.zero_le _, rfl, HA6.out, HF6.out, HB6.out⟩
          case round =>
            obtain ⟨j, F, hj, rfl, hat, hF, hb⟩ := hrel
            have HA := Lib.hid hat
            have HF := Lib.hid hF
            have HB := Lib.hid hb
            by_cases hlt : j < M
            · have hjq : j < Q.length := by rw [HQ.out.1]; exact hlt
              have HC1 := Lib.hid (fun F W h => HLR.out j hjq F W h)
              obtain ⟨sb, so, e, hsb, hcc⟩ := HSH.out.at_ (by omega)
              obtain rfl : A = _ := e
              have hjz : j < zs.length := by rw [HZL.out]; omega
              have hg : zs.getD j 0 = Q[j] := by
                have e1 : Q[j] = zs[j] := by
                  have := HQ.out.2
                  subst this
                  simp
                simp [List.getD, List.getElem?_eq_getElem hjz, e1]
              have HCC := Lib.hid (fun (W : World) (h : Below w.heap.size w W) => (h.cell (p := ⟨sb, so + j, none⟩) hsb).trans ((hcc j (by omega)).trans (by rw [hg])))
              have hz := HSH.out.byte j
              rw [hg] at hz
              generalize Q[j] = z at *
              obtain ⟨z0, z1⟩ := hz
              have u5 : (z != z) = false := by rw [bne_eq_false_iff_eq]
              have w5 : IntKind.u64.wrap z = z := IntWalk.u64_in _ (by omega)
              have hjk : j < M := by omega
              clear hat hF hb hcc hsb hg hjz hjq
              go_wp2_with fail
              refine (HC1.out _ _ HA.out).mono ?_
              rintro e wx ⟨rfl, F7, hs, hc⟩
              have HB7 := Lib.hid (HB.out.trans (hc.below HF.out HB.out.size))
              have HF7 := Lib.hid (hc.lo HF.out HB.out.size)
              have HA7 := Lib.hid hs
              clear hs hc HA HB HF
              have c0 := HCC.out _ HB7.out
              go_wp2_with fail
              go_roundw
              case rel => exact ⟨j + 1, _, by omega, by go_num, HA7.out, HF7.out, HB7.out⟩
              case measure => simp [intOf]; omega
            · have hd : Q.drop j = [] := List.drop_eq_nil_of_le (by rw [HQ.out.1]; omega)
              rw [hd] at hat
              replace HA := Lib.hid hat
              clear hat hF hb hd
              go_wp2_with fail
              refine (HSL.out _ _ HA.out).mono ?_
              rintro e wx ⟨rfl, F7, hs, hc⟩
              have HB7 := Lib.hid (HB.out.trans (hc.below HF.out HB.out.size))
              have HF7 := Lib.hid (hc.lo HF.out HB.out.size)
              have HA7 := Lib.hid hs
              clear hs hc HA HB HF
              go_wp2_with fail
              refine (HLZ4.out _ _ HA7.out).mono ?_
              rintro e wx ⟨rfl, F8, hs, hc⟩
              have HB8 := Lib.hid (HB7.out.trans (hc.below HF7.out HB7.out.size))
              have HF8 := Lib.hid (hc.lo HF7.out HB7.out.size)
              have HA8 := Lib.hid hs
              clear hs hc HA7 HB7 HF7
              go_wp2_with fail
              refine (HLZ0.out _ _ HA8.out).mono ?_
              rintro e wx ⟨rfl, F9, hs, hc⟩
              have HB9 := Lib.hid (HB8.out.trans (hc.below HF8.out HB8.out.size))
              have HF9 := Lib.hid (hc.lo HF8.out HB8.out.size)
              have HA9 := Lib.hid hs
              clear hs hc HA8 HB8 HF8
              go_wp2
              go_ret
              exact ⟨rfl, HB9.out⟩
      · obtain rfl : M = 16 := by omega
        have hLf : L = true := by rw [← hLL]; exact decide_eq_true (by omega)
        have d1 : decide ((16 : Int) < (k : Int)) = true := decide_eq_true (by omega)
        have d2 : decide ((0 : Int) < (k : Int)) = true := decide_eq_true (by omega)
        have d4 : decide (0 < k) = true := decide_eq_true (by omega)
        have d3 : decide (16 < k) = true := decide_eq_true (by omega)
        have w3 : IntKind.u64.wrap (16 : Int) = (16 : Int) := rfl
        have u3 : ((16 : Int) != (16 : Int)) = false := rfl
        obtain ⟨t1, t2⟩ := T true true (by rw [← hP]; rfl) hLf
        have hM100 : 16 ≤ k := by omega
        clear hat hF hb hU hLL hP hS hlt hk hMn hQ hM HCM HL HS T hLf
        go_wp2_with fail
        refine (HL12.out _ _ HA.out).mono ?_
        rintro e wx ⟨rfl, F5, hs, hc⟩
        have HB5 := Lib.hid (HB.out.trans (hc.below HF.out HB.out.size))
        have HF5 := Lib.hid (hc.lo HF.out HB.out.size)
        have HA5 := Lib.hid hs
        clear hs hc HA HB HF
        go_wp2_with fail
        refine (HL4.out _ _ HA5.out).mono ?_
        rintro e wx ⟨rfl, F6, hs, hc⟩
        have HB6 := Lib.hid (HB5.out.trans (hc.below HF5.out HB5.out.size))
        have HF6 := Lib.hid (hc.lo HF5.out HB5.out.size)
        have HA6 := Lib.hid hs
        clear hs hc HA5 HB5 HF5
        go_wp2_with fail
        clear d3 d4
        clear t1 t2 d1 d2 u3 w3 HL12 HL4
        go_loopw [77] (fun i wr => ∃ (j : Nat) (F : Nat → Prop), j ≤ 16 ∧ i = .int .i64 j ∧ UartAt wr b F ⟨Q.drop j, [], L, false⟩ ∧ (∀ j, F j → w.heap.size ≤ j) ∧ Below w.heap.size w wr) (fun i _ => 16 - (intOf i).toNat)
        case atStart => exact ⟨0, _, Nat.zero_le _, rfl, HA6.out, HF6.out, HB6.out⟩
        case round =>
          obtain ⟨j, F, hj, rfl, hat, hF, hb⟩ := hrel
          have HA := Lib.hid hat
          have HF := Lib.hid hF
          have HB := Lib.hid hb
          by_cases hlt : j < 16
          · have hjq : j < Q.length := by rw [HQ.out.1]; exact hlt
            have HC1 := Lib.hid (fun F W h => HLR.out j hjq F W h)
            obtain ⟨sb, so, e, hsb, hcc⟩ := HSH.out.at_ (by omega)
            obtain rfl : A = _ := e
            have hjz : j < zs.length := by rw [HZL.out]; omega
            have hg : zs.getD j 0 = Q[j] := by
              have e1 : Q[j] = zs[j] := by
                have := HQ.out.2
                subst this
                simp
              simp [List.getD, List.getElem?_eq_getElem hjz, e1]
            have HCC := Lib.hid (fun (W : World) (h : Below w.heap.size w W) => (h.cell (p := ⟨sb, so + j, none⟩) hsb).trans ((hcc j (by omega)).trans (by rw [hg])))
            have hz := HSH.out.byte j
            rw [hg] at hz
            generalize Q[j] = z at *
            obtain ⟨z0, z1⟩ := hz
            have u5 : (z != z) = false := by rw [bne_eq_false_iff_eq]
            have w5 : IntKind.u64.wrap z = z := IntWalk.u64_in _ (by omega)
            have hjk : j < k := by omega
            clear hat hF hb hcc hsb hg hjz hjq
            go_wp2_with fail
            refine (HC1.out _ _ HA.out).mono ?_
            rintro e wx ⟨rfl, F7, hs, hc⟩
            have HB7 := Lib.hid (HB.out.trans (hc.below HF.out HB.out.size))
            have HF7 := Lib.hid (hc.lo HF.out HB.out.size)
            have HA7 := Lib.hid hs
            clear hs hc HA HB HF
            have c0 := HCC.out _ HB7.out
            go_wp2_with fail
            go_roundw
            case rel => exact ⟨j + 1, _, by omega, by go_num, HA7.out, HF7.out, HB7.out⟩
            case measure => simp [intOf]; omega
          · have hd : Q.drop j = [] := List.drop_eq_nil_of_le (by rw [HQ.out.1]; omega)
            rw [hd] at hat
            replace HA := Lib.hid hat
            clear hat hF hb hd
            go_wp2_with fail
            refine (HSL.out _ _ HA.out).mono ?_
            rintro e wx ⟨rfl, F7, hs, hc⟩
            have HB7 := Lib.hid (HB.out.trans (hc.below HF.out HB.out.size))
            have HF7 := Lib.hid (hc.lo HF.out HB.out.size)
            have HA7 := Lib.hid hs
            clear hs hc HA HB HF
            go_wp2_with fail
            refine (HLZ4.out _ _ HA7.out).mono ?_
            rintro e wx ⟨rfl, F8, hs, hc⟩
            have HB8 := Lib.hid (HB7.out.trans (hc.below HF7.out HB7.out.size))
            have HF8 := Lib.hid (hc.lo HF7.out HB7.out.size)
            have HA8 := Lib.hid hs
            clear hs hc HA7 HB7 HF7
            go_wp2_with fail
            refine (HLZ0.out _ _ HA8.out).mono ?_
            rintro e wx ⟨rfl, F9, hs, hc⟩
            have HB9 := Lib.hid (HB8.out.trans (hc.below HF8.out HB8.out.size))
            have HF9 := Lib.hid (hc.lo HF8.out HB8.out.size)
            have HA9 := Lib.hid hs
            clear hs hc HA8 HB8 HF8
            go_wp2
            go_ret
            exact ⟨rfl, HB9.out⟩
end Go.Proofs.Ytjilkifecdigfaa
