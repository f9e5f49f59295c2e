/-
  Windows of addresses: the document's answers.
-/
import Derived.Test.YtgogkcmdcfcikaaQOne
namespace Go.Proofs.Ytgogkcmdcfcikaa
open Go.RowKit
set_option linter.unusedVariables false
set_option linter.unusedSimpArgs false

def topA : Int := 18446744073709551615
/-- A number of 64 bits. -/
def U64 (x : Int) : Prop := 0 ≤ x ∧ x ≤ 18446744073709551615
def wholeB (a s : Int) : Bool := decide (s = 0) || decide (s - 1 ≤ 18446744073709551615 - a)
def insideB (wa ws a s : Int) : Bool := decide (s ≠ 0) && decide (ws ≠ 0) && wholeB a s && wholeB wa ws && (decide (wa ≤ a) && decide (a + (s - 1) ≤ wa + (ws - 1)))
def lastA (a s : Int) : Int := if wholeB a s = true then a + (s - 1) else 18446744073709551615
def meetB (a s b t : Int) : Bool := decide (s ≠ 0) && decide (t ≠ 0) && (decide (a ≤ lastA b t) && decide (b ≤ lastA a s))

theorem refwhole_any (a s : Int) (w : World) (ha : U64 a) (hs : U64 s) (r : Bool) (hr : wholeB a s = r) :
    Calls Try.prog 27 #[.int .u64 a, .int .u64 s] w fun e w' => e = .returned (.bool r) ∧ w = w' := by
  obtain ⟨a0, a1⟩ := ha
  obtain ⟨s0, s1⟩ := hs
  by_cases h0 : s = 0
  · subst h0
    obtain rfl : r = true := by rw [← hr]; rfl
    go_enter Try.func27, Try.ntmps27
    go_wp2
    go_ret
    exact ⟨rfl, rfl⟩
  · have k1 : (s == 0) = false := by rw [beq_eq_false_iff_ne]; exact h0
    have w1 : IntKind.u64.wrap (s - 1) = s - 1 := IntWalk.u64_in _ (by omega)
    have w2 : IntKind.u64.wrap (18446744073709551615 - a) = 18446744073709551615 - a := IntWalk.u64_in _ (by omega)
    have hr' : decide (s - 1 ≤ 18446744073709551615 - a) = r := by rw [← hr, wholeB, decide_eq_false h0]; rfl
    clear hr
    go_enter Try.func27, Try.ntmps27
    go_wp2
    go_ret
    exact ⟨rfl, rfl⟩

set_option maxHeartbeats 2000000 in
theorem refinside_any (wa ws a s : Int) (w : World) (h1 : U64 wa) (h2 : U64 ws) (h3 : U64 a) (h4 : U64 s) (r : Bool) (hr : insideB wa ws a s = r) :
    Calls Try.prog 14 #[.agg #[.int .u64 wa, .int .u64 ws], .int .u64 a, .int .u64 s] w fun e w' => e = .returned (.bool r) ∧ Below w.heap.size w w' := by
  have HB := Lib.hid ((Below.refl w.heap.size w).alloc (Nat.le_refl _) (.cells #[.int .u64 wa, .int .u64 ws] 41))
  obtain ⟨x, hx⟩ : ∃ x, wholeB a s = x := ⟨_, rfl⟩
  obtain ⟨y, hy⟩ : ∃ y, wholeB wa ws = y := ⟨_, rfl⟩
  have C1 := Lib.hid (fun W => refwhole_any a s W h3 h4 x hx)
  have C2 := Lib.hid (fun W => refwhole_any wa ws W h1 h2 y hy)
  have HR : Hid ((decide (s ≠ 0) && decide (ws ≠ 0) && x && y && (decide (wa ≤ a) && decide (a + (s - 1) ≤ wa + (ws - 1)))) = r) := Lib.hid (by rw [← hx, ← hy]; exact hr)
  have HX := Lib.hid hx
  have HY := Lib.hid hy
  clear hr hx hy
  obtain ⟨h1a, h1b⟩ := h1
  obtain ⟨h2a, h2b⟩ := h2
  obtain ⟨h3a, h3b⟩ := h3
  obtain ⟨h4a, h4b⟩ := h4
  by_cases hs0 : s = 0
  · subst hs0
    obtain rfl : r = false := by rw [← HR.out]; rfl
    go_enter Try.func14, Try.ntmps14
    go_wp2
    go_ret
    exact ⟨rfl, HB.out⟩
  have k1 : (s == 0) = false := by rw [beq_eq_false_iff_ne]; exact hs0
  by_cases hw0 : ws = 0
  · subst hw0
    obtain rfl : r = false := by rw [← HR.out]; simp
    clear hs0
    go_enter Try.func14, Try.ntmps14
    go_wp2
    go_ret
    exact ⟨rfl, HB.out⟩
  have k2 : (ws == 0) = false := by rw [beq_eq_false_iff_ne]; exact hw0
  cases x
  · obtain rfl : r = false := by rw [← HR.out]; simp
    clear hs0 hw0
    go_enter Try.func14, Try.ntmps14
    go_wp2_with fail
    refine (C1.out _).mono ?_
    rintro e w1 ⟨rfl, rfl⟩
    go_wp2
    go_ret
    exact ⟨rfl, HB.out⟩
  cases y
  · obtain rfl : r = false := by rw [← HR.out]; simp
    clear hs0 hw0
    go_enter Try.func14, Try.ntmps14
    go_wp2_with fail
    refine (C1.out _).mono ?_
    rintro e w1 ⟨rfl, rfl⟩
    go_wp2_with fail
    refine (C2.out _).mono ?_
    rintro e w1 ⟨rfl, rfl⟩
    go_wp2
    go_ret
    exact ⟨rfl, HB.out⟩
  have hbx : s - 1 ≤ 18446744073709551615 - a := by have := HX.out; rw [wholeB, decide_eq_false hs0] at this; exact of_decide_eq_true this
  have hby : ws - 1 ≤ 18446744073709551615 - wa := by have := HY.out; rw [wholeB, decide_eq_false hw0] at this; exact of_decide_eq_true this
  have hR : (decide (wa ≤ a) && decide (a + (s - 1) ≤ wa + (ws - 1))) = r := by have := HR.out; rwa [decide_eq_true hs0, decide_eq_true hw0, Bool.true_and, Bool.true_and, Bool.true_and, Bool.true_and] at this
  have w1' : IntKind.u64.wrap (s - 1) = s - 1 := IntWalk.u64_in _ (by omega)
  have w2' : IntKind.u64.wrap (ws - 1) = ws - 1 := IntWalk.u64_in _ (by omega)
  have w3' : IntKind.u64.wrap (a + (s - 1)) = a + (s - 1) := IntWalk.u64_in _ (by omega)
  have w4' : IntKind.u64.wrap (wa + (ws - 1)) = wa + (ws - 1) := IntWalk.u64_in _ (by omega)
  by_cases hle : wa ≤ a
  · have q1 : decide (wa ≤ a) = true := decide_eq_true hle
    rw [q1, Bool.true_and] at hR
    have HQ := Lib.hid hR
    clear hs0 hw0 hbx hby hR hle
    go_enter Try.func14, Try.ntmps14
    go_wp2_with fail
    refine (C1.out _).mono ?_
    rintro e w1 ⟨rfl, rfl⟩
    go_wp2_with fail
    refine (C2.out _).mono ?_
    rintro e w1 ⟨rfl, rfl⟩
    go_wp2
    go_ret
    first | exact ⟨congrArg (fun b => Ending.returned (.bool b)) HQ.out, HB.out⟩ | exact ⟨congrArg (fun b => Ending.returned (.bool b)) ((decide_eq_true (by omega)).symm.trans HQ.out), HB.out⟩
  · have q1 : decide (wa ≤ a) = false := decide_eq_false hle
    rw [q1, Bool.false_and] at hR
    subst hR
    clear hs0 hw0 hbx hby hle
    go_enter Try.func14, Try.ntmps14
    go_wp2_with fail
    refine (C1.out _).mono ?_
    rintro e w1 ⟨rfl, rfl⟩
    go_wp2_with fail
    refine (C2.out _).mono ?_
    rintro e w1 ⟨rfl, rfl⟩
    go_wp2
    go_ret
    exact ⟨rfl, HB.out⟩

set_option maxHeartbeats 4000000 in
theorem refmeet_any (a s b t : Int) (w : World) (h1 : U64 a) (h2 : U64 s) (h3 : U64 b) (h4 : U64 t) (r : Bool) (hr : meetB a s b t = r) :
    Calls Try.prog 16 #[.agg #[.int .u64 a, .int .u64 s], .agg #[.int .u64 b, .int .u64 t]] w fun e w' => e = .returned (.bool r) ∧ Below w.heap.size w w' := by
  have HB := Lib.hid (((Below.refl w.heap.size w).alloc (Nat.le_refl _) (.cells #[.int .u64 a, .int .u64 s] 41)).alloc (by simp) (.cells #[.int .u64 b, .int .u64 t] 41))
  obtain ⟨x, hx⟩ : ∃ x, wholeB a s = x := ⟨_, rfl⟩
  obtain ⟨y, hy⟩ : ∃ y, wholeB b t = y := ⟨_, rfl⟩
  have C1 := Lib.hid (fun W => refwhole_any a s W h1 h2 x hx)
  have C2 := Lib.hid (fun W => refwhole_any b t W h3 h4 y hy)
  have HR : Hid (meetB a s b t = r) := Lib.hid hr
  have HX := Lib.hid hx
  have HY := Lib.hid hy
  clear hr hx hy
  obtain ⟨h1a, h1b⟩ := h1
  obtain ⟨h2a, h2b⟩ := h2
  obtain ⟨h3a, h3b⟩ := h3
  obtain ⟨h4a, h4b⟩ := h4
  by_cases hs0 : s = 0
  · subst hs0
    obtain rfl : r = false := by rw [← HR.out]; rfl
    go_enter Try.func16, Try.ntmps16
    go_wp2
    go_ret
    exact ⟨rfl, HB.out⟩
  have k1 : (s == 0) = false := by rw [beq_eq_false_iff_ne]; exact hs0
  by_cases ht0 : t = 0
  · subst ht0
    obtain rfl : r = false := by rw [← HR.out, meetB]; simp
    clear hs0
    go_enter Try.func16, Try.ntmps16
    go_wp2
    go_ret
    exact ⟨rfl, HB.out⟩
  have k2 : (t == 0) = false := by rw [beq_eq_false_iff_ne]; exact ht0
  have hR : (decide (a ≤ lastA b t) && decide (b ≤ lastA a s)) = r := by have := HR.out; rwa [meetB, decide_eq_true hs0, decide_eq_true ht0, Bool.true_and, Bool.true_and] at this
  cases x
  · cases y
    · have ex : lastA a s = 18446744073709551615 := by rw [lastA, HX.out]; simp
      have ey : lastA b t = 18446744073709551615 := by rw [lastA, HY.out]; simp
      rw [ex, ey] at hR
      by_cases hle : a ≤ 18446744073709551615
      · have q1 : decide (a ≤ 18446744073709551615) = true := decide_eq_true hle
        rw [q1, Bool.true_and] at hR
        have HQ := Lib.hid hR
        clear hs0 ht0 hR hle ex ey
        go_enter Try.func16, Try.ntmps16
        go_wp2_with fail
        refine (C1.out _).mono ?_
        rintro e w1 ⟨rfl, rfl⟩
        go_wp2_with fail
        refine (C2.out _).mono ?_
        rintro e w1 ⟨rfl, rfl⟩
        go_wp2
        go_ret
        first | exact ⟨congrArg (fun b => Ending.returned (.bool b)) HQ.out, HB.out⟩ | exact ⟨congrArg (fun b => Ending.returned (.bool b)) ((decide_eq_true (by omega)).symm.trans HQ.out), HB.out⟩
      · exact absurd h1b hle
    · have ex : lastA a s = 18446744073709551615 := by rw [lastA, HX.out]; simp
      have ey : lastA b t = b + (t - 1) := by rw [lastA, HY.out]; simp
      rw [ex, ey] at hR
      have hby : t - 1 ≤ 18446744073709551615 - b := by have := HY.out; rw [wholeB, decide_eq_false ht0] at this; exact of_decide_eq_true this
      have w2' : IntKind.u64.wrap (t - 1) = t - 1 := IntWalk.u64_in _ (by omega)
      have w4' : IntKind.u64.wrap (b + (t - 1)) = b + (t - 1) := IntWalk.u64_in _ (by omega)
      by_cases hle : a ≤ b + (t - 1)
      · have q1 : decide (a ≤ b + (t - 1)) = true := decide_eq_true hle
        rw [q1, Bool.true_and] at hR
        have HQ := Lib.hid hR
        clear hs0 ht0 hR hle ex ey
        go_enter Try.func16, Try.ntmps16
        go_wp2_with fail
        refine (C1.out _).mono ?_
        rintro e w1 ⟨rfl, rfl⟩
        go_wp2_with fail
        refine (C2.out _).mono ?_
        rintro e w1 ⟨rfl, rfl⟩
        go_wp2
        go_ret
        first | exact ⟨congrArg (fun b => Ending.returned (.bool b)) HQ.out, HB.out⟩ | exact ⟨congrArg (fun b => Ending.returned (.bool b)) ((decide_eq_true (by omega)).symm.trans HQ.out), HB.out⟩
      · have q1 : decide (a ≤ b + (t - 1)) = false := decide_eq_false hle
        rw [q1, Bool.false_and] at hR
        subst hR
        clear hs0 ht0 hle ex ey
        go_enter Try.func16, Try.ntmps16
        go_wp2_with fail
        refine (C1.out _).mono ?_
        rintro e w1 ⟨rfl, rfl⟩
        go_wp2_with fail
        refine (C2.out _).mono ?_
        rintro e w1 ⟨rfl, rfl⟩
        go_wp2
        go_ret
        exact ⟨rfl, HB.out⟩
  · cases y
    · have ex : lastA a s = a + (s - 1) := by rw [lastA, HX.out]; simp
      have ey : lastA b t = 18446744073709551615 := by rw [lastA, HY.out]; simp
      rw [ex, ey] at hR
      have hbx : s - 1 ≤ 18446744073709551615 - a := by have := HX.out; rw [wholeB, decide_eq_false hs0] at this; exact of_decide_eq_true this
      have w1' : IntKind.u64.wrap (s - 1) = s - 1 := IntWalk.u64_in _ (by omega)
      have w3' : IntKind.u64.wrap (a + (s - 1)) = a + (s - 1) := IntWalk.u64_in _ (by omega)
      by_cases hle : a ≤ 18446744073709551615
      · have q1 : decide (a ≤ 18446744073709551615) = true := decide_eq_true hle
        rw [q1, Bool.true_and] at hR
        have HQ := Lib.hid hR
        clear hs0 ht0 hR hle ex ey
        go_enter Try.func16, Try.ntmps16
        go_wp2_with fail
        refine (C1.out _).mono ?_
        rintro e w1 ⟨rfl, rfl⟩
        go_wp2_with fail
        refine (C2.out _).mono ?_
        rintro e w1 ⟨rfl, rfl⟩
        go_wp2
        go_ret
        first | exact ⟨congrArg (fun b => Ending.returned (.bool b)) HQ.out, HB.out⟩ | exact ⟨congrArg (fun b => Ending.returned (.bool b)) ((decide_eq_true (by omega)).symm.trans HQ.out), HB.out⟩
      · exact absurd h1b hle
    · have ex : lastA a s = a + (s - 1) := by rw [lastA, HX.out]; simp
      have ey : lastA b t = b + (t - 1) := by rw [lastA, HY.out]; simp
      rw [ex, ey] at hR
      have hbx : s - 1 ≤ 18446744073709551615 - a := by have := HX.out; rw [wholeB, decide_eq_false hs0] at this; exact of_decide_eq_true this
      have w1' : IntKind.u64.wrap (s - 1) = s - 1 := IntWalk.u64_in _ (by omega)
      have w3' : IntKind.u64.wrap (a + (s - 1)) = a + (s - 1) := IntWalk.u64_in _ (by omega)
      have hby : t - 1 ≤ 18446744073709551615 - b := by have := HY.out; rw [wholeB, decide_eq_false ht0] at this; exact of_decide_eq_true this
      have w2' : IntKind.u64.wrap (t - 1) = t - 1 := IntWalk.u64_in _ (by omega)
      have w4' : IntKind.u64.wrap (b + (t - 1)) = b + (t - 1) := IntWalk.u64_in _ (by omega)
      by_cases hle : a ≤ b + (t - 1)
      · have q1 : decide (a ≤ b + (t - 1)) = true := decide_eq_true hle
        rw [q1, Bool.true_and] at hR
        have HQ := Lib.hid hR
        clear hs0 ht0 hR hle ex ey
        go_enter Try.func16, Try.ntmps16
        go_wp2_with fail
        refine (C1.out _).mono ?_
        rintro e w1 ⟨rfl, rfl⟩
        go_wp2_with fail
        refine (C2.out _).mono ?_
        rintro e w1 ⟨rfl, rfl⟩
        go_wp2
        go_ret
        first | exact ⟨congrArg (fun b => Ending.returned (.bool b)) HQ.out, HB.out⟩ | exact ⟨congrArg (fun b => Ending.returned (.bool b)) ((decide_eq_true (by omega)).symm.trans HQ.out), HB.out⟩
      · have q1 : decide (a ≤ b + (t - 1)) = false := decide_eq_false hle
        rw [q1, Bool.false_and] at hR
        subst hR
        clear hs0 ht0 hle ex ey
        go_enter Try.func16, Try.ntmps16
        go_wp2_with fail
        refine (C1.out _).mono ?_
        rintro e w1 ⟨rfl, rfl⟩
        go_wp2_with fail
        refine (C2.out _).mono ?_
        rintro e w1 ⟨rfl, rfl⟩
        go_wp2
        go_ret
        exact ⟨rfl, HB.out⟩
end Go.Proofs.Ytgogkcmdcfcikaa
