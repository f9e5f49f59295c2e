/-
  The next line of a controller: what it is, and the document's answer.
-/
import Derived.Test.YtgmnilmeliconaaDoorVRef
import Derived.Laws.BitsAllLaws
namespace Go.Proofs.YtgmnilmeliconaaDoor
open Go.RowKit
set_option linter.unusedVariables false
set_option linter.unusedSimpArgs false

/-- 1 more than the least bit that is in both, 0 if there is none. -/
def nextN (l m : Nat) : Nat := match (List.range 32).find? (fun i => l.testBit i && m.testBit i) with | some i => i + 1 | none => 0
theorem next_some {l m i : Nat} (hi : i < 32) (h : (l.testBit i && m.testBit i) = true) (hb : ∀ j, j < i → (l.testBit j && m.testBit j) = false) : nextN l m = i + 1 := by
  have : (List.range 32).find? (fun i => l.testBit i && m.testBit i) = some i := List.find?_range_eq_some.2 ⟨h, by simpa using hi, fun j hj => by rw [hb j hj]; rfl⟩
  rw [nextN, this]
theorem next_none {l m : Nat} (hb : ∀ j, j < 32 → (l.testBit j && m.testBit j) = false) : nextN l m = 0 := by
  have : (List.range 32).find? (fun i => l.testBit i && m.testBit i) = none := List.find?_range_eq_none.2 fun j hj => by rw [hb j hj]; rfl
  rw [nextN, this]
theorem next_cases (l m : Nat) : (nextN l m = 0 ∧ ∀ j, j < 32 → (l.testBit j && m.testBit j) = false) ∨ ∃ i, i < 32 ∧ nextN l m = i + 1 ∧ (l.testBit i && m.testBit i) = true ∧ ∀ j, j < i → (l.testBit j && m.testBit j) = false := by
  rcases h : (List.range 32).find? (fun i => l.testBit i && m.testBit i) with _ | i
  · refine .inl ⟨by rw [nextN, h], fun j hj => ?_⟩
    have := List.find?_range_eq_none.1 h j hj
    cases hh : (l.testBit j && m.testBit j)
    · rfl
    · rw [hh] at this; cases this
  · obtain ⟨h1, h2, h3⟩ := List.find?_range_eq_some.1 h
    exact .inr ⟨i, by simpa using h2, by rw [nextN, h], h1, fun j hj => by
      have := h3 j hj
      cases hh : (l.testBit j && m.testBit j)
      · rfl
      · rw [hh] at this; cases this⟩
/-- A number's bit, as the program asks it. -/
theorem bit_and (x i : Nat) (hx : x < 4294967296) : bits .and .u32 ((x : Int) / 2 ^ i) 1 = bitI (x.testBit i) := by
  have h : x / 2 ^ i ≤ x := Nat.div_le_self _ _
  have e : (x : Int) / 2 ^ i = ((x / 2 ^ i : Nat) : Int) := by rw [Int.natCast_ediv, Int.natCast_pow]; rfl
  rw [e, show (1 : Int) = ((1 : Nat) : Int) from rfl, u32_and_nat _ 1 (by omega) (by omega), nat_mask1, Nat.testBit_eq_decide_div_mod_eq]
  generalize x / 2 ^ i = y
  by_cases hy : y % 2 = 1
  · rw [hy, decide_eq_true rfl]; rfl
  · rw [decide_eq_false hy, show y % 2 = 0 by omega]; rfl

set_option maxRecDepth 20000 in
set_option maxHeartbeats 4000000 in
theorem refnext_any (b : Nat) (d : DevR) (l m : Nat) (w : World) (h : RefAt w b d) (h0 : d.r0 = (l : Int)) (h1 : d.r1 = (m : Int)) (hl : l < 4294967296) (hm : m < 4294967296) :
    Calls Tryd.prog 19 #[.pointer (some ⟨b, 0, none⟩)] w fun e w' => e = .returned (.int .u64 (nextN l m)) ∧ Below w.heap.size w w' := by
  have HC : Hid (∀ W : World, Below w.heap.size w W → W.cell? ⟨b, 6, none⟩ = some (.int .u32 l) ∧ W.cell? ⟨b, 7, none⟩ = some (.int .u32 m)) := Lib.hid (fun W hb => ⟨by rw [← h0]; exact dev_cell (h.on hb) rfl, by rw [← h1]; exact dev_cell (h.on hb) rfl⟩)
  have HL := Lib.hid (And.intro hl hm)
  clear h h0 h1 hl hm
  go_enter Tryd.func19, Tryd.ntmps19
  go_wp2_with fail
  go_loopw [4] (fun i wr => ∃ k : Nat, k ≤ 32 ∧ i = .int .i64 k ∧ Hid (∀ j, j < k → (l.testBit j && m.testBit j) = false) ∧ Below w.heap.size w wr) (fun i _ => 32 - (intOf i).toNat)
  case atStart => exact ⟨0, Nat.zero_le _, rfl, Lib.hid (fun j hj => absurd hj (Nat.not_lt_zero j)), Below.refl _ _⟩
  case round =>
    obtain ⟨k, hk, rfl, hn, hb⟩ := hrel
    have HB := Lib.hid hb
    by_cases hlt : k < 32
    · obtain ⟨c6, c7⟩ := HC.out wr hb
      have qa := bit_and l k HL.out.1
      have qb := bit_and m k HL.out.2
      have hlm : (l.testBit k && m.testBit k) = (l.testBit k && m.testBit k) := rfl
      have HLM := Lib.hid (fun (h : (l.testBit k && m.testBit k) = false) => (show ∀ j, j < k + 1 → (l.testBit j && m.testBit j) = false from fun j hj => by
        rcases (by omega : j < k ∨ j = k) with g | rfl
        · exact hn.out j g
        · exact h))
      have HNX := Lib.hid (fun (h : (l.testBit k && m.testBit k) = true) => next_some hlt h hn.out)
      clear hb hlm hn
      cases ha : l.testBit k
      · rw [ha] at qa HLM
        simp only [bitI, Bool.false_eq_true, ↓reduceIte] at qa
        clear ha HNX qb
        go_wp2
        go_roundw
        case rel => exact ⟨k + 1, by omega, by go_num, Lib.hid (HLM.out rfl), HB.out⟩
        case measure => simp [intOf]; omega
      · rw [ha] at qa HLM HNX
        simp only [bitI, ↓reduceIte] at qa
        cases hc : m.testBit k
        · rw [hc] at qb HLM
          simp only [bitI, Bool.false_eq_true, ↓reduceIte] at qb
          clear ha hc HNX
          go_wp2
          go_roundw
          case rel => exact ⟨k + 1, by omega, by go_num, Lib.hid (HLM.out rfl), HB.out⟩
          case measure => simp [intOf]; omega
        · rw [hc] at qb HNX
          simp only [bitI, ↓reduceIte] at qb
          clear ha hc HLM
          go_wp2
          go_ret
          exact ⟨by rw [HNX.out rfl]; rfl, HB.out⟩
    · clear hb
      go_wp2
      go_ret
      exact ⟨by rw [next_none (fun j hj => hn.out j (by omega))]; rfl, HB.out⟩
end Go.Proofs.YtgmnilmeliconaaDoor
