/-
  Layer 12: the program's goesBeyond, Inside, Meet.
-/
import Derived.Test.YtgogkcmdcfcikaaLRegBytes
namespace Go.Proofs.Ytgogkcmdcfcikaa
open Go.RowKit
set_option linter.unusedVariables false
set_option linter.unusedSimpArgs false

theorem beyond_any (wa ws : Int) (w : World) (h1 : U64 wa) (h2 : U64 ws) (r : Bool) (hr : wholeB wa ws = !r) :
    Calls Try.prog 26 #[.agg #[.int .u64 wa, .int .u64 ws]] w fun e w' => e = .returned (.bool r) ∧ Below w.heap.size w w' := by
  have HB := Lib.hid ((Below.refl w.heap.size w).alloc (Nat.le_refl _) (.cells #[.int .u64 wa, .int .u64 ws] 42))
  obtain ⟨a0, a1⟩ := h1
  obtain ⟨s0, s1⟩ := h2
  by_cases h0 : ws = 0
  · subst h0
    obtain rfl : r = false := by cases r <;> simp [wholeB] at hr ⊢
    clear hr
    go_enter Try.func26, Try.ntmps26
    go_wp2
    go_ret
    exact ⟨rfl, HB.out⟩
  · have k1 : decide ((0 : Int) < ws) = true := decide_eq_true (by omega)
    have w1 : IntKind.u64.wrap (ws - 1) = ws - 1 := IntWalk.u64_in _ (by omega)
    have w2 : IntKind.u64.wrap (18446744073709551615 - wa) = 18446744073709551615 - wa := IntWalk.u64_in _ (by omega)
    have hr' : decide (18446744073709551615 - wa < ws - 1) = r := by
      rw [wholeB, decide_eq_false h0, Bool.false_or] at hr
      cases r <;> simp at hr ⊢ <;> omega
    clear hr
    go_enter Try.func26, Try.ntmps26
    go_wp2
    go_ret
    exact ⟨rfl, HB.out⟩

set_option maxHeartbeats 2000000 in
theorem insideOK : InsideOK := by
  intro wa ws a s w h1 h2 h3 h4
  obtain ⟨W0, hW0⟩ : ∃ W0, w.alloc (.cells #[.int .u64 wa, .int .u64 ws] 42) = W0 := ⟨_, rfl⟩
  have HB : Hid (Below w.heap.size w W0) := Lib.hid (by rw [← hW0]; exact (Below.refl w.heap.size w).alloc (Nat.le_refl _) _)
  have HS0 : Hid (W0.heap.size = w.heap.size + 1) := Lib.hid (by rw [← hW0]; simp)
  have HX : Hid (∀ W : World, Below W0.heap.size W0 W → W.cell? ⟨w.heap.size, 0, none⟩ = some (.int .u64 wa) ∧ W.cell? ⟨w.heap.size, 1, none⟩ = some (.int .u64 ws)) := Lib.hid (fun W h => by
    have hlt : w.heap.size < W0.heap.size := by rw [← hW0]; simp
    exact ⟨(h.cell (p := ⟨w.heap.size, 0, none⟩) hlt).trans (by rw [← hW0]; exact World.cell?_alloc_new _ _ _ _), (h.cell (p := ⟨w.heap.size, 1, none⟩) hlt).trans (by rw [← hW0]; exact World.cell?_alloc_new _ _ _ _)⟩)
  obtain ⟨y, hy⟩ : ∃ y, wholeB wa ws = !y := ⟨!wholeB wa ws, by simp⟩
  have C := Lib.hid (fun W => beyond_any wa ws W h1 h2 y hy)
  obtain ⟨r, hr⟩ : ∃ r, insideB wa ws a s = r := ⟨_, rfl⟩
  have hr2 : (decide (s ≠ 0) && decide (ws ≠ 0) && wholeB a s && !y && (decide (wa ≤ a) && decide (a + (s - 1) ≤ wa + (ws - 1)))) = r := by rw [← hy]; exact hr
  rw [hr]
  have HR := Lib.hid hr2
  have HY := Lib.hid hy
  have H1 := Lib.hid h1
  have H2 := Lib.hid h2
  have H3 := Lib.hid h3
  have H4 := Lib.hid h4
  clear hr hr2 hy h1 h2 h3 h4
  by_cases hs0 : s = 0
  · subst hs0
    obtain rfl : r = false := by rw [← HR.out]; rfl
    go_enter Try.func13, Try.ntmps13
    go_wp2
    go_ret
    exact ⟨rfl, HB.out⟩
  have k1 : (s == 0) = false := by rw [beq_eq_false_iff_ne]; exact hs0
  have HS := Lib.hid hs0
  clear hs0
  obtain ⟨c0, c1⟩ := HX.out _ (Below.refl _ _)
  go_enter Try.func13, Try.ntmps13
  go_wp2_with fail
  refine (C.out _).mono ?_
  rintro e w1 ⟨rfl, hb⟩
  have HB1 := Lib.hid (HB.out.trans (hb.mono HB.out.size))
  obtain ⟨d0, d1⟩ := HX.out _ hb
  clear hb c0 c1 hW0 C
  cases y
  rotate_left
  · obtain rfl : r = false := by rw [← HR.out]; simp
    go_wp2
    go_ret
    exact ⟨rfl, HB1.out⟩
  by_cases hlt : a < wa
  · have k2 : decide (a < wa) = true := decide_eq_true hlt
    obtain rfl : r = false := by rw [← HR.out, decide_eq_false (by omega : ¬ wa ≤ a)]; simp
    go_wp2
    go_ret
    exact ⟨rfl, HB1.out⟩
  · have k2 : decide (a < wa) = false := decide_eq_false hlt
    have w1 : IntKind.u64.wrap (a - wa) = a - wa := IntWalk.u64_in _ (by have := H1.out.1; have := H3.out.2; omega)
    by_cases hin : a - wa < ws
    · have k3 : decide (a - wa < ws) = true := decide_eq_true hin
      have w2 : IntKind.u64.wrap (ws - (a - wa)) = ws - (a - wa) := IntWalk.u64_in _ (by have := H1.out.1; have := H3.out.2; have := H2.out.2; omega)
      have hr' : decide (s ≤ ws - (a - wa)) = r := by
        rw [← HR.out]
        have e1 := HY.out
        have := HS.out
        have := H1.out.1
        have := H2.out.1
        have := H3.out.1
        have := H4.out.1
        simp only [wholeB, Bool.not_false, Bool.or_eq_true, decide_eq_true_eq] at e1
        rw [Bool.eq_iff_iff]
        simp only [wholeB, Bool.not_false, Bool.and_eq_true, Bool.or_eq_true, decide_eq_true_eq, and_true]
        omega
      clear hlt hin
      go_wp2
      go_ret
      exact ⟨rfl, HB1.out⟩
    · have k3 : decide (a - wa < ws) = false := decide_eq_false hin
      obtain rfl : r = false := by
        rw [← HR.out, Bool.eq_false_iff]
        intro h
        simp only [wholeB, Bool.and_eq_true, Bool.or_eq_true, decide_eq_true_eq] at h
        have := H4.out.1
        omega
      clear hlt hin
      go_wp2
      go_ret
      exact ⟨rfl, HB1.out⟩

set_option maxHeartbeats 2000000 in
theorem meetOK : MeetOK := by
  intro a s b t w h1 h2 h3 h4
  have HB := Lib.hid (((Below.refl w.heap.size w).alloc (Nat.le_refl _) (.cells #[.int .u64 a, .int .u64 s] 42)).alloc (by simp) (.cells #[.int .u64 b, .int .u64 t] 42))
  obtain ⟨r, hr⟩ : ∃ r, meetB a s b t = r := ⟨_, rfl⟩
  rw [hr]
  have HR := Lib.hid hr
  have H1 := Lib.hid h1
  have H2 := Lib.hid h2
  have H3 := Lib.hid h3
  have H4 := Lib.hid h4
  clear hr
  obtain ⟨h1a, h1b⟩ := h1
  obtain ⟨h2a, h2b⟩ := h2
  obtain ⟨h3a, h3b⟩ := h3
  obtain ⟨h4a, h4b⟩ := h4
  have key : r = true ↔ (s ≠ 0 ∧ t ≠ 0) ∧ (a - b < t ∧ b - a < s) := by
    rw [← HR.out]
    unfold meetB lastA wholeB
    simp only [Bool.and_eq_true, decide_eq_true_eq, Bool.or_eq_true]
    split <;> split <;> omega
  have KEY := Lib.hid key
  clear key
  by_cases hab : a ≤ b
  · have m1 : max a b = b := Int.max_eq_right hab
    have w1 : IntKind.u64.wrap (b - a) = b - a := IntWalk.u64_in _ (by omega)
    have hr' : (decide (b - a < s) && decide (0 < t)) = r := by
      rw [Bool.eq_iff_iff, KEY.out]
      simp only [Bool.and_eq_true, decide_eq_true_eq]
      omega
    have HR2 := Lib.hid hr'
    clear hr'
    go_enter Try.func15, Try.ntmps15
    cases hd : decide (b - a < s)
    · obtain rfl : r = false := by rw [← HR2.out, hd]; rfl
      go_wp2
      go_ret
      exact ⟨rfl, HB.out⟩
    · obtain rfl : r = decide (0 < t) := by rw [← HR2.out, hd]; rfl
      go_wp2
      go_ret
      exact ⟨rfl, HB.out⟩
  · have m1 : max a b = a := Int.max_eq_left (by omega)
    have w2 : IntKind.u64.wrap (a - b) = a - b := IntWalk.u64_in _ (by omega)
    have hr' : (decide (0 < s) && decide (a - b < t)) = r := by
      rw [Bool.eq_iff_iff, KEY.out]
      simp only [Bool.and_eq_true, decide_eq_true_eq]
      omega
    have HR2 := Lib.hid hr'
    clear hr'
    go_enter Try.func15, Try.ntmps15
    cases hd : decide (0 < s)
    · obtain rfl : r = false := by rw [← HR2.out, hd]; rfl
      go_wp2
      go_ret
      exact ⟨rfl, HB.out⟩
    · obtain rfl : r = decide (a - b < t) := by rw [← HR2.out, hd]; rfl
      go_wp2
      go_ret
      exact ⟨rfl, HB.out⟩
end Go.Proofs.Ytgogkcmdcfcikaa
