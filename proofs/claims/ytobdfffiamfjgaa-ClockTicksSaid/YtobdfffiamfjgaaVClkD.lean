/-
  Layer 18, the program's own clock: its calls.
-/
import Derived.Test.YtobdfffiamfjgaaVClkS
import Derived.Laws.BitsAllLaws
namespace Go.Proofs.Ytobdfffiamfjgaa
open Go.RowKit
set_option linter.unusedVariables false
set_option linter.unusedSimpArgs false

theorem st_bits (v : Int) : bits .and .u32 (v % 4294967296) 3 = bitI (decide (v % 2 = 1)) + 2 * bitI (decide (v / 2 % 2 = 1)) := by
  obtain ⟨n, hn⟩ := Int.eq_ofNat_of_zero_le (show 0 ≤ v % 4294967296 by omega)
  rw [hn, show (3 : Int) = ((3 : Nat) : Int) from rfl, u32_and_nat n 3 (by omega) (by decide), show (3 : Nat) = 2 ^ 2 - 1 from rfl, Nat.and_two_pow_sub_one_eq_mod]
  unfold bitI
  by_cases h1 : v % 2 = 1 <;> by_cases h2 : v / 2 % 2 = 1 <;> simp only [h1, h2, decide_true, decide_false, ↓reduceIte, Bool.false_eq_true] <;> omega
theorem done_bit (v : Int) (h : U64v v) : (bits .and .u64 v 1 == 0) = decide (v % 2 = 0) := by
  obtain ⟨n, rfl⟩ := Int.eq_ofNat_of_zero_le h.1
  have e : bits .and .u64 (n : Int) 1 = ((n % 2 : Nat) : Int) := by
    have := h.2
    rw [show (1 : Int) = ((1 : Nat) : Int) from rfl, u64_and_nat n 1 (by omega) (by decide), Nat.and_one_is_mod]
  rw [e]
  by_cases hq : (n : Int) % 2 = 0
  · rw [decide_eq_true hq, beq_iff_eq]; omega
  · rw [decide_eq_false hq, beq_eq_false_iff_ne]; omega
theorem clk16 {off width : Int} (ho : U64v off) (hr : accE 16 off width = 0) : (off = 0 ∨ off = 4 ∨ off = 8 ∨ off = 12) ∧ width = 4 := by
  have := ho.1
  rcases accE_cases 16 off width with ⟨e, h1⟩ | ⟨e, h1, h2⟩ | ⟨e, h1, h2, h3⟩
  · omega
  · omega
  · exact ⟨by omega, h2⟩
section
variable {b : Nat} {s : ClkS} {w : World} (h : ClkAt w b s)
include h
theorem ClkAt.c0 : w.cell? ⟨b, 0, none⟩ = some (.int .u32 s.count) := dev_cell (i := 0) h.1 rfl
theorem ClkAt.c1 : w.cell? ⟨b, 1, none⟩ = some (.int .u32 s.anew) := dev_cell (i := 1) h.1 rfl
theorem ClkAt.c2 : w.cell? ⟨b, 2, none⟩ = some (.int .u32 (bitI s.runs + 2 * bitI s.raises)) := dev_cell (i := 2) h.1 rfl
theorem ClkAt.c3 : w.cell? ⟨b, 3, none⟩ = some (.bool s.done) := dev_cell (i := 3) h.1 rfl
theorem ClkAt.fz (i : Nat) : w.frozen? ⟨b, i, none⟩ = false := dev_frozen i h.1
theorem ClkAt.s0 {x : Int} (hx : U32v x) : ClkAt (w.setCell ⟨b, 0, none⟩ (.int .u32 x)) b { s with count := x } := ⟨dev_set h.1 0 _, hx, h.2.2⟩
theorem ClkAt.s1 {x : Int} (hx : U32v x) : ClkAt (w.setCell ⟨b, 1, none⟩ (.int .u32 x)) b { s with anew := x } := ⟨dev_set h.1 1 _, h.2.1, hx⟩
theorem ClkAt.s2 (r y : Bool) : ClkAt (w.setCell ⟨b, 2, none⟩ (.int .u32 (bitI r + 2 * bitI y))) b { s with runs := r, raises := y } := ⟨dev_set h.1 2 _, h.2⟩
theorem ClkAt.s3 (r : Bool) : ClkAt (w.setCell ⟨b, 3, none⟩ (.bool r)) b { s with done := r } := ⟨dev_set h.1 3 _, h.2⟩
theorem clkcell_any {off : Int} (ho : off = 0 ∨ off = 4 ∨ off = 8 ∨ off = 12) : Calls Try.prog 11 #[.pointer (some ⟨b, 0, none⟩), .int .u64 off] w fun e w' => e = .returned (.int .u32 (clkLoad s off)) ∧ w = w' := by
  have c0 := h.c0
  have c1 := h.c1
  have c2 := h.c2
  have c3 := h.c3
  clear h
  rcases ho with rfl | rfl | rfl | rfl
  · go_enter Try.func11, Try.ntmps11
    go_wp2
    go_ret
    exact ⟨rfl, rfl⟩
  · go_enter Try.func11, Try.ntmps11
    go_wp2
    go_ret
    exact ⟨rfl, rfl⟩
  · obtain ⟨count, anew, runs, raises, done⟩ := s
    dsimp only at c3
    cases done
    · go_enter Try.func11, Try.ntmps11
      go_wp2
      go_ret
      exact ⟨rfl, rfl⟩
    · go_enter Try.func11, Try.ntmps11
      go_wp2
      go_ret
      exact ⟨rfl, rfl⟩
  · go_enter Try.func11, Try.ntmps11
    go_wp2
    go_ret
    exact ⟨rfl, rfl⟩
end
theorem clkLoad_lt {s : ClkS} (h0 : U32v s.count) (h1 : U32v s.anew) (off : Int) : 0 ≤ clkLoad s off ∧ clkLoad s off ≤ 18446744073709551615 := by
  have := h0.1
  have := h0.2
  have := h1.1
  have := h1.2
  unfold clkLoad bitI
  split
  · omega
  split
  · split <;> split <;> omega
  split
  · split <;> omega
  · omega
theorem clkLoadOK : ClkLoadOK := by
  intro b s off width w h ho
  have HA := Lib.hid h
  have CK := Lib.hid (check_any off width 16 w ho ⟨by decide, by decide⟩ _ rfl)
  obtain ⟨x0, x1⟩ := clkLoad_lt h.2.1 h.2.2 off
  have e64 : IntKind.u64.wrap (clkLoad s off) = clkLoad s off := IntWalk.u64_in _ ⟨x0, x1⟩
  unfold clkLoadE
  by_cases hr : accE 16 off width = 0
  · have HC := Lib.hid (clkcell_any h (clk16 ho hr).1)
    rw [if_pos hr, hr]
    rw [hr] at CK
    generalize clkLoad s off = x at *
    clear h x0 x1 hr ho
    go_enter Try.func8, Try.ntmps8
    go_wp2_with fail
    refine CK.out.mono ?_
    rintro e w1 ⟨rfl, rfl⟩
    go_wp2_with fail
    refine HC.out.mono ?_
    rintro e w1 ⟨rfl, rfl⟩
    go_wp2
    go_ret2
    exact ⟨rfl, HA.out, ChgB.refl _ _⟩
  · rw [if_neg hr]
    generalize accE 16 off width = r at *
    have q : (r != 0) = true := by rw [bne_iff_ne]; exact hr
    clear hr h ho
    go_enter Try.func8, Try.ntmps8
    go_wp2_with fail
    refine CK.out.mono ?_
    rintro e w1 ⟨rfl, rfl⟩
    go_wp2
    go_ret2
    exact ⟨rfl, HA.out, ChgB.refl _ _⟩
theorem clkStoreOK : ClkStoreOK := by
  intro b s off width v w h ho hv
  have HA := Lib.hid h
  have CK := Lib.hid (check_any off width 16 w ho ⟨by decide, by decide⟩ _ rfl)
  have ev : IntKind.u32.wrap v = v % 4294967296 := IntKind.wrap_u32' v
  have hm : U32v (v % 4294967296) := ⟨by omega, by omega⟩
  unfold clkStoreE
  by_cases hr : accE 16 off width = 0
  · rw [if_pos hr, hr]
    rw [hr] at CK
    obtain ⟨hoff, rfl⟩ := clk16 ho hr
    clear ho hr
    rcases hoff with rfl | rfl | rfl | rfl
    · rw [show clkStore s 0 v = { s with count := v % 4294967296 } from rfl]
      have f0 := h.fz 0
      have c0 := h.c0
      have HR := Lib.hid (h.s0 hm)
      generalize v % 4294967296 = m at *
      clear h hm hv
      go_enter Try.func6, Try.ntmps6
      go_wp2_with fail
      refine CK.out.mono ?_
      rintro e w1 ⟨rfl, rfl⟩
      go_wp2
      go_ret
      exact ⟨rfl, HR.out, (ChgB.refl b w).set _ _⟩
    · rw [show clkStore s 4 v = { s with runs := decide (v % 2 = 1), raises := decide (v / 2 % 2 = 1) } from rfl]
      have f2 := h.fz 2
      have c2 := h.c2
      have q := st_bits v
      have HR := Lib.hid (h.s2 (decide (v % 2 = 1)) (decide (v / 2 % 2 = 1)))
      generalize decide (v % 2 = 1) = r at *
      generalize decide (v / 2 % 2 = 1) = y at *
      generalize v % 4294967296 = m at *
      generalize bitI s.runs + 2 * bitI s.raises = old at *
      generalize bitI r + 2 * bitI y = nw at *
      clear h hm hv
      go_enter Try.func6, Try.ntmps6
      go_wp2_with fail
      refine CK.out.mono ?_
      rintro e w1 ⟨rfl, rfl⟩
      go_wp2
      go_ret
      exact ⟨rfl, HR.out, (ChgB.refl b w).set _ _⟩
    · rw [show clkStore s 8 v = { s with done := s.done && decide (v % 2 = 0) } from rfl]
      have f3 := h.fz 3
      have c3 := h.c3
      have q := done_bit v hv
      have HR := Lib.hid (fun r => h.s3 r)
      generalize decide (v % 2 = 0) = X at *
      obtain ⟨count, anew, runs, raises, done⟩ := s
      dsimp only at c3 HR ⊢
      clear h hm hv ev
      cases done
      · go_enter Try.func6, Try.ntmps6
        go_wp2_with fail
        refine CK.out.mono ?_
        rintro e w1 ⟨rfl, rfl⟩
        go_wp2
        go_ret
        exact ⟨rfl, HR.out false, (ChgB.refl b w).set _ _⟩
      · go_enter Try.func6, Try.ntmps6
        go_wp2_with fail
        refine CK.out.mono ?_
        rintro e w1 ⟨rfl, rfl⟩
        go_wp2
        go_ret
        exact ⟨rfl, by simpa using HR.out X, (ChgB.refl b w).set _ _⟩
    · rw [show clkStore s 12 v = { s with anew := v % 4294967296 } from rfl]
      have f1 := h.fz 1
      have c1 := h.c1
      have HR := Lib.hid (h.s1 hm)
      generalize v % 4294967296 = m at *
      clear h hm hv
      go_enter Try.func6, Try.ntmps6
      go_wp2_with fail
      refine CK.out.mono ?_
      rintro e w1 ⟨rfl, rfl⟩
      go_wp2
      go_ret
      exact ⟨rfl, HR.out, (ChgB.refl b w).set _ _⟩
  · rw [if_neg hr]
    generalize accE 16 off width = r at *
    have q : (r != 0) = true := by rw [bne_iff_ne]; exact hr
    clear hr h ho hv hm ev
    go_enter Try.func6, Try.ntmps6
    go_wp2_with fail
    refine CK.out.mono ?_
    rintro e w1 ⟨rfl, rfl⟩
    go_wp2
    go_ret
    exact ⟨rfl, HA.out, ChgB.refl b w⟩
theorem clkTickOK : ClkTickOK := by
  intro b s w h
  obtain ⟨count, anew, runs, raises, done⟩ := s
  have HA := Lib.hid h
  cases runs
  · have e : clkTick ⟨count, anew, false, raises, done⟩ = ⟨count, anew, false, raises, done⟩ := by simp [clkTick]
    rw [e]
    cases raises
    · have c2 : w.cell? ⟨b, 2, none⟩ = some (.int .u32 0) := h.c2
      clear h
      go_enter Try.func7, Try.ntmps7
      go_wp2
      (try simp only [Exit.inBlock, Exit.then])
      refine bodyPost_ret (results_none rfl _ _ _) rfl ?_
      exact ⟨rfl, HA.out, ChgB.refl b w⟩
    · have c2 : w.cell? ⟨b, 2, none⟩ = some (.int .u32 2) := h.c2
      clear h
      go_enter Try.func7, Try.ntmps7
      go_wp2
      (try simp only [Exit.inBlock, Exit.then])
      refine bodyPost_ret (results_none rfl _ _ _) rfl ?_
      exact ⟨rfl, HA.out, ChgB.refl b w⟩
  obtain ⟨C, hC, hC1⟩ : ∃ C : Int, w.cell? ⟨b, 2, none⟩ = some (.int .u32 C) ∧ bits .and .u32 C 1 = 1 := by
    cases raises
    · exact ⟨1, h.c2, by decide⟩
    · exact ⟨3, h.c2, by decide⟩
  have c0 : w.cell? ⟨b, 0, none⟩ = some (.int .u32 count) := h.c0
  have c1 : w.cell? ⟨b, 1, none⟩ = some (.int .u32 anew) := h.c1
  have c3 : w.cell? ⟨b, 3, none⟩ = some (.bool done) := h.c3
  have f0 := h.fz 0
  have f3 := h.fz 3
  have hn : 0 ≤ count := h.2.1.1
  have hn2 : count ≤ 4294967295 := h.2.1.2
  by_cases h0 : count = 0
  · have e : clkTick ⟨count, anew, true, raises, done⟩ = ⟨count, anew, true, raises, done⟩ := by simp [clkTick, h0]
    rw [e]
    subst h0
    clear h e hn hn2
    go_enter Try.func7, Try.ntmps7
    go_wp2
    (try simp only [Exit.inBlock, Exit.then])
    refine bodyPost_ret (results_none rfl _ _ _) rfl ?_
    exact ⟨rfl, HA.out, ChgB.refl b w⟩
  have q0 : (count == 0) = false := by rw [beq_eq_false_iff_ne]; exact h0
  have ew : (count - 1) % 4294967296 = count - 1 := by omega
  by_cases h1 : count = 1
  · subst h1
    have e : clkTick ⟨1, anew, true, raises, done⟩ = ⟨anew, anew, true, raises, true⟩ := by simp [clkTick]
    rw [e]
    have HR : Hid (ClkAt (((w.setCell ⟨b, 0, none⟩ (.int .u32 0)).setCell ⟨b, 3, none⟩ (.bool true)).setCell ⟨b, 0, none⟩ (.int .u32 anew)) b ⟨anew, anew, true, raises, true⟩) := Lib.hid (((h.s0 (x := 0) ⟨by decide, by decide⟩).s3 true).s0 h.2.2)
    clear h e hn hn2 h0
    go_enter Try.func7, Try.ntmps7
    go_wp2
    go_end0
    exact ⟨rfl, HR.out, (((ChgB.refl b w).set _ _).set _ _).set _ _⟩
  · have q1 : (count - 1 == 0) = false := by rw [beq_eq_false_iff_ne]; omega
    have e : clkTick ⟨count, anew, true, raises, done⟩ = ⟨count - 1, anew, true, raises, done⟩ := by
      have e1 : 0 < count := by omega
      have e2 : ¬ count - 1 = 0 := by omega
      simp [clkTick, e1, e2]
    rw [e]
    have HR := Lib.hid (h.s0 (x := count - 1) ⟨by omega, by omega⟩)
    obtain ⟨m, hm⟩ : ∃ m, m = count - 1 := ⟨_, rfl⟩
    clear ew
    have ew : (count - 1) % 4294967296 = m := by omega
    rw [← hm] at q1 HR ⊢
    clear h e hm hn hn2 h0 h1
    go_enter Try.func7, Try.ntmps7
    go_wp2
    go_end0
    exact ⟨rfl, HR.out, (ChgB.refl b w).set _ _⟩
theorem clkHighOK : ClkHighOK := by
  intro b s w h
  obtain ⟨count, anew, runs, raises, done⟩ := s
  have HA := Lib.hid h
  have c3 : w.cell? ⟨b, 3, none⟩ = some (.bool done) := h.c3
  cases raises
  · obtain ⟨C, hC, hC1⟩ : ∃ C : Int, w.cell? ⟨b, 2, none⟩ = some (.int .u32 C) ∧ bits .and .u32 C 2 = 0 := by
      cases runs
      · exact ⟨0, h.c2, by decide⟩
      · exact ⟨1, h.c2, by decide⟩
    clear h
    go_enter Try.func9, Try.ntmps9
    go_wp2
    go_ret
    exact ⟨rfl, HA.out, ChgB.refl b w⟩
  · obtain ⟨C, hC, hC1⟩ : ∃ C : Int, w.cell? ⟨b, 2, none⟩ = some (.int .u32 C) ∧ bits .and .u32 C 2 = 2 := by
      cases runs
      · exact ⟨2, h.c2, by decide⟩
      · exact ⟨3, h.c2, by decide⟩
    clear h
    go_enter Try.func9, Try.ntmps9
    go_wp2
    go_ret
    exact ⟨by simp, HA.out, ChgB.refl b w⟩
theorem clkNilOK : ClkNilOK := by
  refine ⟨fun off width w => ?_, fun off width v w => ?_, fun w => ?_, fun w => ?_⟩
  · go_enter Try.func8, Try.ntmps8
    go_wp2
    go_ret2
    exact ⟨rfl, Below.refl _ _⟩
  · go_enter Try.func6, Try.ntmps6
    go_wp2
    go_ret
    exact ⟨rfl, Below.refl _ _⟩
  · go_enter Try.func7, Try.ntmps7
    go_wp2
    (try simp only [Exit.inBlock, Exit.then])
    refine bodyPost_ret (results_none rfl _ _ _) rfl ?_
    exact ⟨rfl, Below.refl _ _⟩
  · go_enter Try.func9, Try.ntmps9
    go_wp2
    go_ret
    exact ⟨rfl, Below.refl _ _⟩
theorem awake18 : Awake18 := by
  intro w
  have HA0 := ClkAt.zero w
  have HB0 := Lib.hid ((Below.refl w.heap.size w).alloc (Nat.le_refl _) clkZ)
  have HC := Lib.hid (clkStoreOK w.heap.size _ 16 4 0 _ HA0 ⟨by decide, by decide⟩ ⟨by decide, by decide⟩)
  clear HA0
  go_enter Try.func5, Try.ntmps5
  go_wp2_with fail
  refine HC.out.mono ?_
  rintro e w1 ⟨rfl, h1, hc⟩
  have HB1 := Lib.hid (HB0.out.trans (hc.below (Nat.le_refl _) HB0.out.size))
  clear h1 hc
  go_wp2
  go_ret
  exact ⟨rfl, HB1.out⟩
end Go.Proofs.Ytobdfffiamfjgaa
