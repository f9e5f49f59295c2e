/-
  Layer 16, the program's own controller: its calls.
-/
import Derived.Test.YtgmnilmeliconaaDoorVCtrlS
import Derived.Laws.BitsAllLaws
import Derived.Shelf.Spec.TrailingZeros
namespace Go.Proofs.YtgmnilmeliconaaDoor
open Go.RowKit
set_option linter.unusedVariables false
set_option linter.unusedSimpArgs false

/-- The lowest bit of what is in both. -/
theorem ctz_next {l m : Nat} (hl : l < 4294967296) (h : l &&& m ≠ 0) : nextN l m = Lib.ctz 32 (l &&& m) + 1 ∧ Lib.ctz 32 (l &&& m) < 32 := by
  have hx : l &&& m < 2 ^ 32 := Nat.lt_of_le_of_lt Nat.and_le_left hl
  obtain ⟨q, hq, hk⟩ := Lib.ctzFrom_spec 32 (l &&& m) (by omega) hx
  have e : Lib.ctz 32 (l &&& m) = Lib.ctzFrom 32 (l &&& m) := by simp [Lib.ctz, h]
  rw [e]
  generalize Lib.ctzFrom 32 (l &&& m) = k at *
  have hb : ∀ j, (l.testBit j && m.testBit j) = (decide (k ≤ j) && (2 * q + 1).testBit (j - k)) := fun j => by
    rw [← Nat.testBit_and, hq, Nat.mul_comm, Nat.testBit_mul_two_pow]
  refine ⟨next_some hk ?_ fun j hj => ?_, hk⟩
  · rw [hb, Nat.sub_self, decide_eq_true (Nat.le_refl k), Nat.testBit_zero]
    simp
  · rw [hb, decide_eq_false (by omega), Bool.false_and]
theorem next_of_zero {l m : Nat} (h : l &&& m = 0) : nextN l m = 0 := next_none fun j hj => by rw [← Nat.testBit_and, h, Nat.zero_testBit]
theorem not_xor {x : Nat} (h : x < 4294967296) : 4294967295 - x = 4294967295 ^^^ x := by
  apply Nat.eq_of_testBit_eq
  intro j
  have e := Nat.testBit_two_pow_sub_succ (n := 32) (x := x) h j
  have e2 : (4294967295 - x : Nat) = 2 ^ 32 - (x + 1) := by omega
  rw [e2, e, Nat.testBit_xor, show (4294967295 : Nat) = 2 ^ 32 - 1 from rfl, Nat.testBit_two_pow_sub_one]
  by_cases hj : j < 32
  · rw [decide_eq_true hj]; simp
  · rw [decide_eq_false hj, big_bit h (by omega)]; rfl

/-! ### The library's lowest bit -/
set_option maxHeartbeats 1000000 in
theorem tz32_core (x k idx : Nat) (w : World) (hx0 : ((x : Int) == 0) = false) (key : bits BinOp.and IntKind.u32 (x : Int) (-(x : Int) % 4294967296) * 125613361 % 4294967296 / 134217728 = (idx : Int))
    (hi : idx < 32) (hk : k < 32) (hcell : w.cell? ⟨0, idx, none⟩ = some (.int .u8 k)) :
    Calls Tryd.prog 23 #[.int .u32 (x : Int)] w fun e w' => e = .returned (.int .i64 (k : Nat)) ∧ w = w' := by
  go_enter Tryd.func23, Tryd.ntmps23
  go_wp2_with (simp only [key])
  go_ret
  exact ⟨rfl, rfl⟩
theorem tz32_any (x : Nat) (h0 : x ≠ 0) (hx : x < 4294967296) (w : World) (hT : Tab32 w) :
    Calls Tryd.prog 23 #[.int .u32 (x : Int)] w fun e w' => e = .returned (.int .i64 (Lib.ctz 32 x : Nat)) ∧ w = w' := by
  obtain ⟨hlow, hk⟩ := Lib.lowest_bit 32 x h0 hx
  obtain ⟨hi, htab⟩ := Lib.deBruijn32_at _ hk
  have hcell := hT _ hi
  rw [htab] at hcell
  exact tz32_core x _ _ w (by simp; omega) (tz32_key x _ hx h0 hlow) hi hk hcell

/-! ### The program's own -/
section
variable (b : Nat) (s : CtrlS) (w : World) (h : CtrlAt w b s)
include h
theorem raised_any : Calls Tryd.prog 21 #[.pointer (some ⟨b, 0, none⟩)] w fun e w' => e = .returned (.int .u32 (s.lines &&& s.mask : Nat)) ∧ Below w.heap.size w w' := by
  have c0 : w.cell? ⟨b, 0, none⟩ = some (.int .u32 (s.lines : Int)) := dev_cell (i := 0) h.1.1 rfl
  have c1 : w.cell? ⟨b, 1, none⟩ = some (.int .u32 (s.mask : Int)) := dev_cell (i := 1) h.1.1 rfl
  have q := u32_and_nat s.lines s.mask h.2.1 h.2.2
  have HB := Lib.hid (Below.refl w.heap.size w).drew
  have HS : Hid (w.drew.cell? ⟨b, 0, none⟩ = some (.int .u32 (s.lines : Int)) ∧ w.drew.cell? ⟨b, 1, none⟩ = some (.int .u32 (s.mask : Int))) := Lib.hid ⟨c0, c1⟩
  clear h c0 c1
  go_enter Tryd.func21, Tryd.ntmps21
  go_wp2
  refine wp_region_held_drew (S := fun W => W.cell? ⟨b, 0, none⟩ = some (.int .u32 (s.lines : Int)) ∧ W.cell? ⟨b, 1, none⟩ = some (.int .u32 (s.mask : Int))) (by kernel_rfl) HS.out (fun hHeld => ?_)
  refine held_take 0 rfl (by kernel_rfl) (by kernel_rfl) (by kernel_rfl) (fun _ _ _ h => h) (by rfl) hHeld (v := ?_) (fun w hSw => ?_) (fun _ => ?_)
  rotate_left
  · ((try dsimp only at hSw); go_simp; (try with_reducible rfl))
  simp only [Act.put, List.setIfInBounds_toArray, List.set_cons_zero, List.set_cons_succ]
  refine held_take 1 rfl (by kernel_rfl) (by kernel_rfl) (by kernel_rfl) (fun _ _ _ h => h) (by rfl) hHeld (v := ?_) (fun w hSw => ?_) (fun _ => ?_)
  rotate_left
  · ((try dsimp only at hSw); go_simp; (try with_reducible rfl))
  simp only [Act.put, List.setIfInBounds_toArray, List.set_cons_zero, List.set_cons_succ]
  refine held_take 2 rfl (by kernel_rfl) (by kernel_rfl) (by kernel_rfl) (fun _ _ _ h => h) (by rfl) hHeld (v := ?_) (fun w hSw => ?_) (fun _ => ?_)
  rotate_left
  · ((try dsimp only at hSw); go_simp; (try with_reducible rfl))
  simp only [Act.put, List.setIfInBounds_toArray, List.set_cons_zero, List.set_cons_succ]
  refine held_take 3 rfl (by kernel_rfl) (by kernel_rfl) (by kernel_rfl) (fun _ _ _ h => h) (by rfl) hHeld (v := ?_) (fun w hSw => ?_) (fun _ => ?_)
  rotate_left
  · ((try dsimp only at hSw); go_simp; (try with_reducible rfl))
  simp only [Act.put, List.setIfInBounds_toArray, List.set_cons_zero, List.set_cons_succ]
  refine held_take 4 rfl (by kernel_rfl) (by kernel_rfl) (by kernel_rfl) (fun _ _ _ h => h) (by rfl) hHeld (v := ?_) (fun w hSw => ?_) (fun _ => ?_)
  rotate_left
  · ((try dsimp only at hSw); go_simp; (try with_reducible rfl))
  simp only [Act.put, List.setIfInBounds_toArray, List.set_cons_zero, List.set_cons_succ]
  refine held_take 5 rfl (by kernel_rfl) (by kernel_rfl) (by kernel_rfl) (fun _ _ _ h => h) (by rfl) hHeld (v := ?_) (fun w hSw => ?_) (fun _ => ?_)
  rotate_left
  · ((try dsimp only at hSw); go_simp; (try with_reducible rfl))
  simp only [Act.put, List.setIfInBounds_toArray, List.set_cons_zero, List.set_cons_succ]
  refine held_take 6 rfl (by kernel_rfl) (by kernel_rfl) (by kernel_rfl) (fun _ _ _ h => h) (by rfl) hHeld (v := ?_) (fun w hSw => ?_) (fun _ => ?_)
  rotate_left
  · ((try dsimp only at hSw); go_simp; (try with_reducible rfl))
  simp only [Act.put, List.setIfInBounds_toArray, List.set_cons_zero, List.set_cons_succ]
  refine held_take 7 rfl (by kernel_rfl) (by kernel_rfl) (by kernel_rfl) (fun _ _ _ h => h) (by rfl) hHeld (v := ?_) (fun w hSw => ?_) (fun _ => ?_)
  rotate_left
  · ((try dsimp only at hSw); go_simp; (try with_reducible rfl))
  simp only [Act.put, List.setIfInBounds_toArray, List.set_cons_zero, List.set_cons_succ]
  refine held_take 8 rfl (by kernel_rfl) (by kernel_rfl) (by kernel_rfl) (fun _ _ _ h => h) (by rfl) hHeld (v := ?_) (fun w hSw => ?_) (fun _ => ?_)
  rotate_left
  · ((try dsimp only at hSw); go_simp; (try with_reducible rfl))
  simp only [Act.put, List.setIfInBounds_toArray, List.set_cons_zero, List.set_cons_succ]
  refine held_take 9 rfl (by kernel_rfl) (by kernel_rfl) (by kernel_rfl) (fun _ _ _ h => h) (by rfl) hHeld (v := ?_) (fun w hSw => ?_) (fun _ => ?_)
  rotate_left
  · ((try dsimp only at hSw); go_simp; (try with_reducible rfl))
  simp only [Act.put, List.setIfInBounds_toArray, List.set_cons_zero, List.set_cons_succ]
  refine wpAnyH_done (by kernel_rfl) ?_ _
  clear hHeld
  go_wp2
  go_ret
  exact ⟨rfl, HB.out⟩
theorem next_any : Calls Tryd.prog 22 #[.pointer (some ⟨b, 0, none⟩)] w fun e w' => e = .returned (.int .u32 (nextN s.lines s.mask : Nat)) ∧ Below w.heap.size w w' := by
  have HR := Lib.hid (fun W (hb : Below w.heap.size w W) => raised_any b s W (h.on hb))
  by_cases h0 : s.lines &&& s.mask = 0
  · rw [next_of_zero h0]
    rw [h0] at HR
    have HB := Lib.hid (Below.refl w.heap.size w)
    clear h h0
    go_enter Tryd.func22, Tryd.ntmps22
    go_wp2_with fail
    refine (HR.out _ HB.out).mono ?_
    rintro e w1 ⟨rfl, hb⟩
    have HB1 := Lib.hid hb
    clear hb
    go_wp2
    go_ret
    exact ⟨rfl, HB1.out⟩
  · obtain ⟨e, hk⟩ := ctz_next h.2.1 h0
    rw [e]
    have HT := Lib.hid (fun W (hb : Below w.heap.size w W) => tz32_any (s.lines &&& s.mask) h0 (Nat.lt_of_le_of_lt Nat.and_le_left h.2.1) W (h.on hb).1.2.1)
    have q0 : (((s.lines &&& s.mask : Nat) : Int) == 0) = false := by rw [beq_eq_false_iff_ne]; omega
    have HB := Lib.hid (Below.refl w.heap.size w)
    generalize s.lines &&& s.mask = x at *
    generalize Lib.ctz 32 x = k at *
    clear h h0 e
    go_enter Tryd.func22, Tryd.ntmps22
    go_wp2_with fail
    refine (HR.out _ HB.out).mono ?_
    rintro e w1 ⟨rfl, hb⟩
    have HB1 := Lib.hid hb
    clear hb
    go_wp2_with fail
    refine (HR.out _ HB1.out).mono ?_
    rintro e w2 ⟨rfl, hb⟩
    have HB2 := Lib.hid (HB1.out.trans (hb.mono HB1.out.size))
    clear hb
    go_wp2_with fail
    refine (HT.out _ HB2.out).mono ?_
    rintro e w3 ⟨rfl, rfl⟩
    go_wp2
    go_ret
    exact ⟨by go_num, HB2.out⟩
theorem cell_any (off : Int) : Calls Tryd.prog 16 #[.pointer (some ⟨b, 0, none⟩), .int .u64 off] w fun e w' => e = .returned (.int .u32 (ctrlLoad s off)) ∧ Below w.heap.size w w' := by
  have c0 : w.cell? ⟨b, 0, none⟩ = some (.int .u32 (s.lines : Int)) := dev_cell (i := 0) h.1.1 rfl
  have c1 : w.cell? ⟨b, 1, none⟩ = some (.int .u32 (s.mask : Int)) := dev_cell (i := 1) h.1.1 rfl
  have HN := Lib.hid (next_any b s w h)
  have HB := Lib.hid (Below.refl w.heap.size w)
  clear h
  unfold ctrlLoad
  by_cases h0 : off = 0
  · rw [if_pos h0]
    subst h0
    go_enter Tryd.func16, Tryd.ntmps16
    go_wp2
    go_ret
    exact ⟨rfl, HB.out⟩
  rw [if_neg h0]
  have q0 : (off == 0) = false := by rw [beq_eq_false_iff_ne]; exact h0
  by_cases h4 : off = 4
  · rw [if_pos h4]
    subst h4
    clear h0 q0
    go_enter Tryd.func16, Tryd.ntmps16
    go_wp2
    go_ret
    exact ⟨rfl, HB.out⟩
  rw [if_neg h4]
  have q4 : (off == 4) = false := by rw [beq_eq_false_iff_ne]; exact h4
  by_cases h8 : off = 8
  · rw [if_pos h8]
    subst h8
    clear h0 q0 h4 q4
    go_enter Tryd.func16, Tryd.ntmps16
    go_wp2_with fail
    refine HN.out.mono ?_
    rintro e w1 ⟨rfl, hb⟩
    have HB1 := Lib.hid hb
    clear hb
    go_wp2
    go_ret
    exact ⟨rfl, HB1.out⟩
  rw [if_neg h8]
  have q8 : (off == 8) = false := by rw [beq_eq_false_iff_ne]; exact h8
  clear h0 h4 h8
  go_enter Tryd.func16, Tryd.ntmps16
  go_wp2
  go_ret
  exact ⟨rfl, HB.out⟩
end
theorem ctrlLoad_lt {s : CtrlS} (h0 : s.lines < 4294967296) (h1 : s.mask < 4294967296) (off : Int) : 0 ≤ ctrlLoad s off ∧ ctrlLoad s off ≤ 18446744073709551615 := by
  unfold ctrlLoad
  split
  · omega
  split
  · omega
  split
  · rcases next_cases s.lines s.mask with ⟨e, _⟩ | ⟨i, hi, e, _⟩ <;> rw [e] <;> omega
  · decide

theorem ctrlLoadOK : CtrlLoadOK := by
  intro b s off width w h ho
  have HA := Lib.hid h
  have HC := Lib.hid (cell_any b s w h off)
  have CK := Lib.hid (check_any off width 16 w ho ⟨by decide, by decide⟩ _ rfl)
  obtain ⟨x0, x1⟩ := ctrlLoad_lt h.2.1 h.2.2 off
  have e64 : IntKind.u64.wrap (ctrlLoad s off) = ctrlLoad s off := IntWalk.u64_in _ ⟨x0, x1⟩
  unfold ctrlLoadE
  generalize ctrlLoad s off = x at *
  generalize accE 16 off width = r at *
  clear h x0 x1
  by_cases hr : r = 0
  · subst hr
    rw [if_pos rfl]
    go_enter Tryd.func7, Tryd.ntmps7
    go_wp2_with fail
    refine CK.out.mono ?_
    rintro e w1 ⟨rfl, rfl⟩
    go_wp2_with fail
    refine HC.out.mono ?_
    rintro e w1 ⟨rfl, hb⟩
    have HB1 := Lib.hid hb
    clear hb
    go_wp2
    go_ret2
    exact ⟨rfl, HA.out.on HB1.out, ChgB.ofBelow HB1.out⟩
  · rw [if_neg hr]
    have q : (r != 0) = true := by rw [bne_iff_ne]; exact hr
    clear hr
    go_enter Tryd.func7, Tryd.ntmps7
    go_wp2_with fail
    refine CK.out.mono ?_
    rintro e w1 ⟨rfl, rfl⟩
    go_wp2
    go_ret2
    exact ⟨rfl, HA.out, ChgB.refl _ _⟩

theorem ctrlStoreOK : CtrlStoreOK := by
  intro b s off width v w h ho hv
  have HA := Lib.hid h
  have c1 : w.cell? ⟨b, 1, none⟩ = some (.int .u32 (s.mask : Int)) := dev_cell (i := 1) h.1.1 rfl
  have f1 := dev_frozen 1 h.1.1
  have CK := Lib.hid (check_any off width 16 w ho ⟨by decide, by decide⟩ _ rfl)
  unfold ctrlStoreE
  generalize accE 16 off width = r at *
  obtain ⟨v0, v1⟩ := hv
  have ev : IntKind.u32.wrap v = (((v % 4294967296).toNat : Nat) : Int) := by rw [wrap_u32']; omega
  have hlt : (v % 4294967296).toNat < 4294967296 := by omega
  clear h ho
  by_cases hr : r = 0
  · subst hr
    rw [if_pos rfl]
    unfold ctrlStore
    by_cases h4 : off = 4
    · rw [if_pos h4]
      subst h4
      generalize (v % 4294967296).toNat = m at *
      have HL := Lib.hid hlt
      clear hlt v0 v1
      go_enter Tryd.func10, Tryd.ntmps10
      go_wp2_with fail
      refine CK.out.mono ?_
      rintro e w1 ⟨rfl, rfl⟩
      go_wp2
      go_ret
      exact ⟨rfl, ⟨⟨dev_set HA.out.1.1 1 _, HA.out.1.2.1.chg HA.out.1.2.2 ((ChgB.refl b w).set _ _), HA.out.1.2.2⟩, HA.out.2.1, HL.out⟩, (ChgB.refl b w).set _ _⟩
    · rw [if_neg h4]
      have q : (off == 4) = false := by rw [beq_eq_false_iff_ne]; exact h4
      clear h4 hlt ev v0 v1
      go_enter Tryd.func10, Tryd.ntmps10
      go_wp2_with fail
      refine CK.out.mono ?_
      rintro e w1 ⟨rfl, rfl⟩
      go_wp2
      go_ret
      exact ⟨rfl, HA.out, ChgB.refl b w⟩
  · rw [if_neg hr]
    have q : (r != 0) = true := by rw [bne_iff_ne]; exact hr
    clear hr hlt ev v0 v1
    go_enter Tryd.func10, Tryd.ntmps10
    go_wp2_with fail
    refine CK.out.mono ?_
    rintro e w1 ⟨rfl, rfl⟩
    go_wp2
    go_ret
    exact ⟨rfl, HA.out, ChgB.refl b w⟩

theorem ctrlHighOK : CtrlHighOK := by
  intro b s w h
  have HA := Lib.hid h
  have HR := Lib.hid (raised_any b s w h)
  have q : (((s.lines &&& s.mask : Nat) : Int) != 0) = decide (0 < nextN s.lines s.mask) := by
    by_cases h0 : s.lines &&& s.mask = 0
    · rw [next_of_zero h0, h0]; rfl
    · rw [(ctz_next h.2.1 h0).1, decide_eq_true (Nat.succ_pos _), bne_iff_ne]; omega
  generalize s.lines &&& s.mask = x at *
  generalize decide (0 < nextN s.lines s.mask) = y at *
  clear h
  go_enter Tryd.func13, Tryd.ntmps13
  go_wp2_with fail
  refine HR.out.mono ?_
  rintro e w1 ⟨rfl, hb⟩
  have HB1 := Lib.hid hb
  clear hb
  go_wp2
  go_ret
  exact ⟨rfl, HA.out.on HB1.out, ChgB.ofBelow HB1.out⟩

theorem ctrlNilOK : CtrlNilOK := by
  refine ⟨fun off width w => ?_, fun off width v w => ?_, fun line h w => ?_, fun w => ?_⟩
  · go_enter Tryd.func7, Tryd.ntmps7
    go_wp2
    go_ret2
    exact ⟨rfl, Below.refl _ _⟩
  · go_enter Tryd.func10, Tryd.ntmps10
    go_wp2
    go_ret
    exact ⟨rfl, Below.refl _ _⟩
  · go_enter Tryd.func12, Tryd.ntmps12
    go_wp2
    go_ret
    exact ⟨rfl, Below.refl _ _⟩
  · go_enter Tryd.func13, Tryd.ntmps13
    go_wp2
    go_ret
    exact ⟨rfl, Below.refl _ _⟩

theorem set_bad (b : Nat) (line : Int) (hi : Bool) (w : World) (h : line < 0 ∨ 32 ≤ line) :
    Calls Tryd.prog 12 #[.pointer (some ⟨b, 0, none⟩), .int .i64 line, .bool hi] w fun e w' => e = .returned (.int .i64 1) ∧ w = w' := by
  by_cases h0 : line < 0
  · have q : decide (line < 0) = true := decide_eq_true h0
    clear h0 h
    go_enter Tryd.func12, Tryd.ntmps12
    go_wp2
    go_ret
    exact ⟨rfl, rfl⟩
  · have q0 : decide (line < 0) = false := decide_eq_false h0
    have q : decide (32 ≤ line) = true := decide_eq_true (by omega)
    clear h0 h
    go_enter Tryd.func12, Tryd.ntmps12
    go_wp2
    go_ret
    exact ⟨rfl, rfl⟩
theorem ctrlSetOK : CtrlSetOK := by
  intro b s line hi w h
  by_cases hb : line < 0 ∨ 32 ≤ line
  · have e : ctrlSetOk line = false := by
      unfold ctrlSetOk
      rcases hb with h | h
      · rw [decide_eq_false (by omega : ¬ 0 ≤ line), Bool.false_and]
      · rw [decide_eq_false (by omega : ¬ line < 32), Bool.and_false]
    rw [ctrlSet, e]
    exact (set_bad b line hi w hb).mono (fun e w' ⟨h1, h2⟩ => ⟨h1, h2 ▸ h, h2 ▸ ChgB.refl b w⟩)
  have h0 : ¬ line < 0 := fun h => hb (.inl h)
  have h1 : ¬ 32 ≤ line := fun h => hb (.inr h)
  have HA := Lib.hid h
  have c0 : w.cell? ⟨b, 0, none⟩ = some (.int .u32 (s.lines : Int)) := dev_cell (i := 0) h.1.1 rfl
  have f0 := dev_frozen 0 h.1.1
  have HL := Lib.hid h.2.1
  clear h hb
  have q0 : decide (line < 0) = false := decide_eq_false h0
  have q1 : decide (32 ≤ line) = false := decide_eq_false h1
  have e : ctrlSetOk line = true := by rw [ctrlSetOk, decide_eq_true (by omega), decide_eq_true (by omega)]; rfl
  rw [ctrlSet, e]
  obtain ⟨N, rfl⟩ := Int.eq_ofNat_of_zero_le (Int.not_lt.1 h0)
  have hN32 : N < 32 := by omega
  simp only [↓reduceIte, Int.toNat_natCast]
  have hp32 : 2 ^ N < 4294967296 := Nat.lt_of_lt_of_le (Nat.pow_lt_pow_right (by decide) hN32) (by decide)
  have es : (2 : Int) ^ N % 4294967296 = ((2 ^ N : Nat) : Int) := by
    rw [show (2 : Int) ^ N = ((2 ^ N : Nat) : Int) by rw [Int.natCast_pow]; rfl]
    generalize 2 ^ N = P at *
    omega
  have ea := u32_andNot_nat s.lines (2 ^ N) HL.out hp32
  rw [not_xor hp32] at ea
  have eo := u32_or_nat s.lines (2 ^ N) HL.out hp32
  have HC := Lib.hid (clear_lt (i := N) HL.out)
  have HO : Hid (s.lines ||| 2 ^ N < 4294967296) := Lib.hid (Nat.or_lt_two_pow (n := 32) HL.out hp32)
  unfold setN
  generalize s.lines &&& (4294967295 ^^^ 2 ^ N) = C at *
  generalize s.lines ||| 2 ^ N = D at *
  generalize 2 ^ N = P at *
  clear h0 h1 e
  cases hi
  · clear eo hp32
    go_enter Tryd.func12, Tryd.ntmps12
    go_wp2
    go_ret
    exact ⟨rfl, ⟨⟨dev_set HA.out.1.1 0 _, HA.out.1.2.1.chg HA.out.1.2.2 ((ChgB.refl b w).set _ _), HA.out.1.2.2⟩, HC.out, HA.out.2.2⟩, (ChgB.refl b w).set _ _⟩
  · clear ea hp32
    go_enter Tryd.func12, Tryd.ntmps12
    go_wp2
    go_ret
    exact ⟨rfl, ⟨⟨dev_set HA.out.1.1 0 _, HA.out.1.2.1.chg HA.out.1.2.2 ((ChgB.refl b w).set _ _), HA.out.1.2.2⟩, HO.out, HA.out.2.2⟩, (ChgB.refl b w).set _ _⟩

theorem awake16 : Awake16 := by
  intro w
  have HB := Lib.hid ((Below.refl w.heap.size w).alloc (Nat.le_refl _) ctrlZ)
  have HS := Lib.hid (fun W => set_bad w.heap.size 32 true W (.inr (by decide)))
  go_enter Tryd.func6, Tryd.ntmps6
  go_wp2_with fail
  refine (HS.out _).mono ?_
  rintro e w1 ⟨rfl, rfl⟩
  go_wp2
  go_ret
  exact ⟨rfl, HB.out⟩
end Go.Proofs.YtgmnilmeliconaaDoor
