/-
  decode.Header: the ten cells, or what is wrong with them.
-/
import Derived.Test.YtjilkifecdigfaaDGet
namespace Go.Proofs.Ytjilkifecdigfaa
open Go.RowKit
set_option linter.unusedVariables false
set_option linter.unusedSimpArgs false

/-- Does a part lie within so many bytes, behind the header? -/
def within (a s t : Int) : Bool := decide (40 ≤ a ∧ a ≤ t ∧ s ≤ t - a)

/-- Do the parts that the ten cells tell lie within? -/
def parts (h1 h2 h3 h4 h8 h9 : Int) : Bool := within h2 h9 h1 && (decide (h2 % 4 = 0) && (within h3 h8 h1 && (within h4 0 h1 && decide (h4 % 8 = 0))))

/-- The i-th of the ten cells. -/
def hcell (zs : List Int) (i : Nat) : Int := numTo zs (i * 4) 4
theorem hcell_bound {zs : List Int} (hz : ∀ i, 0 ≤ zs.getD i 0 ∧ zs.getD i 0 < 256) (i : Nat) : 0 ≤ hcell zs i ∧ hcell zs i ≤ 4294967295 := by
  have h := numTo_bound zs (i * 4) hz 4
  have e : (256 : Int) ^ 4 = 4294967296 := by decide
  unfold hcell
  omega

/-- The ten cells, of which k are read. -/
def filled (f : Nat → Int) (k : Nat) : Array Value := ((List.range 10).map fun j => Value.int .u32 (if j < k then f j else 0)).toArray
theorem filled_set (f : Nat → Int) (k : Nat) (hk : k < 10) : (filled f k).setIfInBounds k (.int .u32 (f k)) = filled f (k + 1) := by
  apply Array.toList_inj.1
  simp only [filled, Array.toList_setIfInBounds]
  apply List.ext_getElem
  · simp
  · intro i h1 h2
    simp only [List.length_map, List.length_range] at h2
    rw [List.getElem_set]
    split
    · subst i; simp
    · simp only [List.getElem_map, List.getElem_range]
      congr 1
      by_cases h : i < k
      · rw [if_pos h, if_pos (by omega)]
      · rw [if_neg h, if_neg (by omega)]
theorem filled_none (f : Nat → Int) : filled f 0 = #[.int .u32 0, .int .u32 0, .int .u32 0, .int .u32 0, .int .u32 0, .int .u32 0, .int .u32 0, .int .u32 0, .int .u32 0, .int .u32 0] := by
  apply Array.toList_inj.1
  simp [filled, List.range_succ]
theorem filled_all (f : Nat → Int) : filled f 10 = #[.int .u32 (f 0), .int .u32 (f 1), .int .u32 (f 2), .int .u32 (f 3), .int .u32 (f 4), .int .u32 (f 5), .int .u32 (f 6), .int .u32 (f 7), .int .u32 (f 8), .int .u32 (f 9)] := by
  apply Array.toList_inj.1
  simp [filled, List.range_succ]
theorem filled_size (f : Nat → Int) (k : Nat) : (filled f k).size = 10 := by simp [filled]

/-- What is wrong with the header of n bytes; 0: nothing. -/
def headE (n : Nat) (x0 x1 x2 x3 x4 x5 x6 x8 x9 : Int) : Int :=
  if x0 = 3490578157 then (if x5 = 17 ∧ x6 = 16 then (if x1 = (n : Int) ∧ parts x1 x2 x3 x4 x8 x9 = true then 0 else 4) else 3) else 2

/-- What Header answers: the cells beside 0, noughts beside an error. -/
def Headed (f : Nat → Int) (E : Int) (e : Ending) : Prop := ∃ v, e = .returned (.tuple #[v, .int .i64 E]) ∧ (E = 0 → v = .agg (filled f 10)) ∧ (E ≠ 0 → v = .agg (filled f 0))

/-- Decode of bytes with no good header: the header's error. -/
theorem headed_ne {f : Nat → Int} {E : Int} {e : Ending} (h : Headed f E e) (hE : E ≠ 0) : e = .returned (.tuple #[.agg #[.int .u32 0, .int .u32 0, .int .u32 0, .int .u32 0, .int .u32 0, .int .u32 0, .int .u32 0, .int .u32 0, .int .u32 0, .int .u32 0], .int .i64 E]) := by
  obtain ⟨v, rfl, _, h2⟩ := h
  rw [h2 hE, filled_none]

end Go.Proofs.Ytjilkifecdigfaa
