/-
  Layer 12, RegionBytes: out of what the program's Inside and Meet answer.
-/
import Derived.Test.YtgogkcmdcfcikaaQWin
namespace Go.Proofs.Ytgogkcmdcfcikaa
open Go.RowKit
set_option linter.unusedVariables false
set_option linter.unusedSimpArgs false

def Awake12 : Prop := ∀ w : World, Calls Try.prog 7 #[] w fun e w' => e = .returned (.bool true) ∧ Below w.heap.size w w'
def InsideOK : Prop := ∀ (wa ws a s : Int) (w : World), U64 wa → U64 ws → U64 a → U64 s → Calls Try.prog 13 #[.agg #[.int .u64 wa, .int .u64 ws], .int .u64 a, .int .u64 s] w fun e w' => e = .returned (.bool (insideB wa ws a s)) ∧ Below w.heap.size w w'
def MeetOK : Prop := ∀ (a s b t : Int) (w : World), U64 a → U64 s → U64 b → U64 t → Calls Try.prog 15 #[.agg #[.int .u64 a, .int .u64 s], .agg #[.int .u64 b, .int .u64 t]] w fun e w' => e = .returned (.bool (meetB a s b t)) ∧ Below w.heap.size w w'

theorem inside_iff {wa ws a s : Int} : insideB wa ws a s = true ↔ (s ≠ 0 ∧ ws ≠ 0) ∧ (s - 1 ≤ 18446744073709551615 - a ∧ ws - 1 ≤ 18446744073709551615 - wa) ∧ wa ≤ a ∧ a + (s - 1) ≤ wa + (ws - 1) := by
  unfold insideB wholeB
  simp only [Bool.and_eq_true, Bool.or_eq_true, decide_eq_true_eq]
  omega
theorem last_of {a s : Int} (hs : s ≠ 0) (h : s - 1 ≤ 18446744073709551615 - a) : lastA a s = a + (s - 1) := by
  rw [lastA, wholeB, decide_eq_false hs, decide_eq_true h]; rfl
theorem meet_of {a s b t x : Int} (h1 : insideB a s x 1 = true) (h2 : insideB b t x 1 = true) : meetB a s b t = true := by
  obtain ⟨⟨_, p1⟩, ⟨_, p2⟩, p3, p4⟩ := inside_iff.1 h1
  obtain ⟨⟨_, q1⟩, ⟨_, q2⟩, q3, q4⟩ := inside_iff.1 h2
  rw [meetB, last_of p1 p2, last_of q1 q2]
  simp only [Bool.and_eq_true, decide_eq_true_eq]
  omega
theorem parts_of {wa ws a s k : Int} (h : insideB wa ws a s = true) (hk : 0 ≤ k ∧ k < s) : insideB wa ws (a + k) (s - k) = true ∧ insideB wa ws a (k + 1) = true ∧ meetB wa ws a s = true := by
  obtain ⟨⟨h0, p1⟩, ⟨p5, p2⟩, p3, p4⟩ := inside_iff.1 h
  refine ⟨inside_iff.2 (by omega), inside_iff.2 (by omega), ?_⟩
  rw [meetB, last_of p1 p2, last_of h0 p5]
  simp only [Bool.and_eq_true, decide_eq_true_eq]
  omega

set_option maxRecDepth 20000 in
set_option maxHeartbeats 8000000 in
theorem regionBytes_true (hK : Awake12) (hI : InsideOK) (hM : MeetOK) (a s b t x z c : Int) (w : World) (ha : U64 a) (hs : U64 s) (hb : U64 b) (ht : U64 t) (hx : U64 x) (hz : U64 z) (hc : U64 c) :
    Calls Try.prog 6 #[.agg #[.int .u64 a, .int .u64 s], .agg #[.int .u64 b, .int .u64 t], .int .u64 x, .int .u64 z, .int .u64 c] w fun e w' => e = .returned (.bool true) ∧ Below w.heap.size w w' := by
  obtain ⟨i1, hi1⟩ : ∃ i, insideB a s x 1 = i := ⟨_, rfl⟩
  obtain ⟨i2, hi2⟩ : ∃ i, insideB b t x 1 = i := ⟨_, rfl⟩
  obtain ⟨m, hm⟩ : ∃ m, meetB a s b t = m := ⟨_, rfl⟩
  obtain ⟨i3, hi3⟩ : ∃ i, insideB a s x z = i := ⟨_, rfl⟩
  have h1 : U64 1 := ⟨by decide, by decide⟩
  have HK := Lib.hid hK
  have CI1 := Lib.hid (fun W => hI a s x 1 W ha hs hx h1)
  have CI2 := Lib.hid (fun W => hI b t x 1 W hb ht hx h1)
  have CI3 := Lib.hid (fun W => hI a s x z W ha hs hx hz)
  have CM1 := Lib.hid (fun W => hM a s b t W ha hs hb ht)
  rw [hi1] at CI1
  rw [hi2] at CI2
  rw [hi3] at CI3
  rw [hm] at CM1
  have HM : Hid (i1 = true → i2 = true → m = true) := Lib.hid (fun e1 e2 => by rw [← hm]; exact meet_of (hi1.trans e1) (hi2.trans e2))
  obtain ⟨k, hkk⟩ : ∃ k, c % z = k := ⟨_, rfl⟩
  obtain ⟨hx0, hx1⟩ := hx
  obtain ⟨hz0, hz1⟩ := hz
  obtain ⟨hc0, hc1⟩ := hc
  have TAIL : Hid (i3 = true → (z ≠ 0 ∧ c % z = k ∧ IntKind.u64.wrap (x + k) = x + k ∧ IntKind.u64.wrap (z - k) = z - k ∧ IntKind.u64.wrap (k + 1) = k + 1)) := Lib.hid (fun e => by
    obtain ⟨⟨q0, _⟩, ⟨q1, _⟩, _, _⟩ := inside_iff.1 (hi3.trans e)
    have g1 := Int.emod_nonneg c q0
    have g2 := Int.emod_lt_of_pos c (show 0 < z by omega)
    exact ⟨q0, hkk, IntWalk.u64_in _ (by omega), IntWalk.u64_in _ (by omega), IntWalk.u64_in _ (by omega)⟩)
  have PT : i3 = true → (insideB a s (x + k) (z - k) = true ∧ insideB a s x (k + 1) = true ∧ meetB a s x z = true) ∧ U64 (x + k) ∧ U64 (z - k) ∧ U64 (k + 1) := fun e => by
    obtain ⟨⟨q0, _⟩, ⟨q1, _⟩, _, _⟩ := inside_iff.1 (hi3.trans e)
    have g1 := Int.emod_nonneg c q0
    have g2 := Int.emod_lt_of_pos c (show 0 < z by omega)
    exact ⟨parts_of (hi3.trans e) (by omega), ⟨by omega, by omega⟩, ⟨by omega, by omega⟩, ⟨by omega, by omega⟩⟩
  have CI4 := Lib.hid (fun (e : i3 = true) W => (show Calls Try.prog 13 #[.agg #[.int .u64 a, .int .u64 s], .int .u64 (x + k), .int .u64 (z - k)] W fun e w' => e = .returned (.bool true) ∧ Below W.heap.size W w' from by
    have h := hI a s (x + k) (z - k) W ha hs (PT e).2.1 (PT e).2.2.1
    rwa [(PT e).1.1] at h))
  have CI5 := Lib.hid (fun (e : i3 = true) W => (show Calls Try.prog 13 #[.agg #[.int .u64 a, .int .u64 s], .int .u64 x, .int .u64 (k + 1)] W fun e w' => e = .returned (.bool true) ∧ Below W.heap.size W w' from by
    have h := hI a s x (k + 1) W ha hs ⟨hx0, hx1⟩ (PT e).2.2.2
    rwa [(PT e).1.2.1] at h))
  have CM2 := Lib.hid (fun (e : i3 = true) W => (show Calls Try.prog 15 #[.agg #[.int .u64 a, .int .u64 s], .agg #[.int .u64 x, .int .u64 z]] W fun e w' => e = .returned (.bool true) ∧ Below W.heap.size W w' from by
    have h := hM a s x z W ha hs ⟨hx0, hx1⟩ ⟨hz0, hz1⟩
    rwa [(PT e).1.2.2] at h))
  have HB0 := Lib.hid (((Below.refl w.heap.size w).alloc (Nat.le_refl _) (.cells #[Value.int .u64 a, .int .u64 s] 42)).alloc (by simp) (.cells #[Value.int .u64 b, .int .u64 t] 42))
  have BX : Hid (∀ W, Below (w.heap.size + 2) ((w.alloc (.cells #[Value.int .u64 a, .int .u64 s] 42)).alloc (.cells #[Value.int .u64 b, .int .u64 t] 42)) W →
      W.cell? ⟨w.heap.size, 0, none⟩ = some (.int .u64 a) ∧ W.cell? ⟨w.heap.size, 1, none⟩ = some (.int .u64 s) ∧ W.cell? ⟨w.heap.size + 1, 0, none⟩ = some (.int .u64 b) ∧ W.cell? ⟨w.heap.size + 1, 1, none⟩ = some (.int .u64 t)) := Lib.hid (fun W h =>
    ⟨(h.cell (by simp)).trans (World.cell?_alloc2_first _ _ _ _), (h.cell (by simp)).trans (World.cell?_alloc2_first _ _ _ _), (h.cell (by simp)).trans (World.cell?_alloc2_new _ _ _ _), (h.cell (by simp)).trans (World.cell?_alloc2_new _ _ _ _)⟩)
  clear hK hI hM ha hs hb ht h1 hi1 hi2 hi3 hm PT hkk
  go_enter Try.func6, Try.ntmps6
  go_wp2_with fail
  refine (HK.out _).mono ?_
  rintro e w1 ⟨rfl, hb⟩
  have HB1 := Lib.hid (HB0.out.trans (hb.mono HB0.out.size))
  have HX1 := Lib.hid (hb.mono (B' := w.heap.size + 2) (by simp))
  clear hb
  obtain ⟨x0, x1, y0, y1⟩ := BX.out _ HX1.out
  go_wp2_with fail
  refine (CI1.out _).mono ?_
  rintro e w2 ⟨rfl, hb⟩
  have HB2 := Lib.hid (HB1.out.trans (hb.mono HB1.out.size))
  have HX2 := Lib.hid (HX1.out.trans (hb.mono (by have := HX1.out.size; simp at this; omega)))
  clear hb x0 x1 y0 y1
  obtain ⟨x0, x1, y0, y1⟩ := BX.out _ HX2.out
  cases i1
  · have HBN := HB2
    have HXN := HX2
    go_wp2_with fail
    refine (CI3.out _).mono ?_
    rintro e w5 ⟨rfl, hb⟩
    have HB5 := Lib.hid (HBN.out.trans (hb.mono HBN.out.size))
    have HX5 := Lib.hid (HXN.out.trans (hb.mono (by have := HXN.out.size; simp at this; omega)))
    clear hb x0 x1 y0 y1
    obtain ⟨x0, x1, y0, y1⟩ := BX.out _ HX5.out
    cases i3
    · go_wp2
      go_ret
      exact ⟨rfl, HB5.out⟩
    · obtain ⟨hz0, hk, hw1, hw2, hw3⟩ := TAIL.out (by simp)
      go_wp2_with fail
      refine (CI4.out (by simp) _).mono ?_
      rintro e w6 ⟨rfl, hb⟩
      have HB6 := Lib.hid (HB5.out.trans (hb.mono HB5.out.size))
      have HX6 := Lib.hid (HX5.out.trans (hb.mono (by have := HX5.out.size; simp at this; omega)))
      clear hb x0 x1 y0 y1
      obtain ⟨x0, x1, y0, y1⟩ := BX.out _ HX6.out
      go_wp2_with fail
      refine (CI5.out (by simp) _).mono ?_
      rintro e w7 ⟨rfl, hb⟩
      have HB7 := Lib.hid (HB6.out.trans (hb.mono HB6.out.size))
      have HX7 := Lib.hid (HX6.out.trans (hb.mono (by have := HX6.out.size; simp at this; omega)))
      clear hb x0 x1 y0 y1
      obtain ⟨x0, x1, y0, y1⟩ := BX.out _ HX7.out
      go_wp2_with fail
      refine (CM2.out (by simp) _).mono ?_
      rintro e w8 ⟨rfl, hb⟩
      have HB8 := Lib.hid (HB7.out.trans (hb.mono HB7.out.size))
      clear hb x0 x1 y0 y1
      go_wp2
      go_ret
      exact ⟨rfl, HB8.out⟩
  · go_wp2_with fail
    refine (CI2.out _).mono ?_
    rintro e w3 ⟨rfl, hb⟩
    have HB3 := Lib.hid (HB2.out.trans (hb.mono HB2.out.size))
    have HX3 := Lib.hid (HX2.out.trans (hb.mono (by have := HX2.out.size; simp at this; omega)))
    clear hb x0 x1 y0 y1
    obtain ⟨x0, x1, y0, y1⟩ := BX.out _ HX3.out
    cases i2
    · have HBN := HB3
      have HXN := HX3
      go_wp2_with fail
      refine (CI3.out _).mono ?_
      rintro e w5 ⟨rfl, hb⟩
      have HB5 := Lib.hid (HBN.out.trans (hb.mono HBN.out.size))
      have HX5 := Lib.hid (HXN.out.trans (hb.mono (by have := HXN.out.size; simp at this; omega)))
      clear hb x0 x1 y0 y1
      obtain ⟨x0, x1, y0, y1⟩ := BX.out _ HX5.out
      cases i3
      · go_wp2
        go_ret
        exact ⟨rfl, HB5.out⟩
      · obtain ⟨hz0, hk, hw1, hw2, hw3⟩ := TAIL.out (by simp)
        go_wp2_with fail
        refine (CI4.out (by simp) _).mono ?_
        rintro e w6 ⟨rfl, hb⟩
        have HB6 := Lib.hid (HB5.out.trans (hb.mono HB5.out.size))
        have HX6 := Lib.hid (HX5.out.trans (hb.mono (by have := HX5.out.size; simp at this; omega)))
        clear hb x0 x1 y0 y1
        obtain ⟨x0, x1, y0, y1⟩ := BX.out _ HX6.out
        go_wp2_with fail
        refine (CI5.out (by simp) _).mono ?_
        rintro e w7 ⟨rfl, hb⟩
        have HB7 := Lib.hid (HB6.out.trans (hb.mono HB6.out.size))
        have HX7 := Lib.hid (HX6.out.trans (hb.mono (by have := HX6.out.size; simp at this; omega)))
        clear hb x0 x1 y0 y1
        obtain ⟨x0, x1, y0, y1⟩ := BX.out _ HX7.out
        go_wp2_with fail
        refine (CM2.out (by simp) _).mono ?_
        rintro e w8 ⟨rfl, hb⟩
        have HB8 := Lib.hid (HB7.out.trans (hb.mono HB7.out.size))
        clear hb x0 x1 y0 y1
        go_wp2
        go_ret
        exact ⟨rfl, HB8.out⟩
    · obtain rfl := HM.out (by simp) (by simp)
      go_wp2_with fail
      refine (CM1.out _).mono ?_
      rintro e w4 ⟨rfl, hb⟩
      have HB4 := Lib.hid (HB3.out.trans (hb.mono HB3.out.size))
      have HX4 := Lib.hid (HX3.out.trans (hb.mono (by have := HX3.out.size; simp at this; omega)))
      clear hb x0 x1 y0 y1
      obtain ⟨x0, x1, y0, y1⟩ := BX.out _ HX4.out
      have HBN := HB4
      have HXN := HX4
      go_wp2_with fail
      refine (CI3.out _).mono ?_
      rintro e w5 ⟨rfl, hb⟩
      have HB5 := Lib.hid (HBN.out.trans (hb.mono HBN.out.size))
      have HX5 := Lib.hid (HXN.out.trans (hb.mono (by have := HXN.out.size; simp at this; omega)))
      clear hb x0 x1 y0 y1
      obtain ⟨x0, x1, y0, y1⟩ := BX.out _ HX5.out
      cases i3
      · go_wp2
        go_ret
        exact ⟨rfl, HB5.out⟩
      · obtain ⟨hz0, hk, hw1, hw2, hw3⟩ := TAIL.out (by simp)
        go_wp2_with fail
        refine (CI4.out (by simp) _).mono ?_
        rintro e w6 ⟨rfl, hb⟩
        have HB6 := Lib.hid (HB5.out.trans (hb.mono HB5.out.size))
        have HX6 := Lib.hid (HX5.out.trans (hb.mono (by have := HX5.out.size; simp at this; omega)))
        clear hb x0 x1 y0 y1
        obtain ⟨x0, x1, y0, y1⟩ := BX.out _ HX6.out
        go_wp2_with fail
        refine (CI5.out (by simp) _).mono ?_
        rintro e w7 ⟨rfl, hb⟩
        have HB7 := Lib.hid (HB6.out.trans (hb.mono HB6.out.size))
        have HX7 := Lib.hid (HX6.out.trans (hb.mono (by have := HX6.out.size; simp at this; omega)))
        clear hb x0 x1 y0 y1
        obtain ⟨x0, x1, y0, y1⟩ := BX.out _ HX7.out
        go_wp2_with fail
        refine (CM2.out (by simp) _).mono ?_
        rintro e w8 ⟨rfl, hb⟩
        have HB8 := Lib.hid (HB7.out.trans (hb.mono HB7.out.size))
        clear hb x0 x1 y0 y1
        go_wp2
        go_ret
        exact ⟨rfl, HB8.out⟩
end Go.Proofs.Ytgogkcmdcfcikaa
