/-
  The bytes of ten numbers, and the ten numbers of bytes.
-/
import Derived.Test.YthlaoidlhbjaiaaDHead
import Derived.Test.YthlaoidlhbjaiaaDCell
namespace Go.Proofs.Ythlaoidlhbjaiaa
open Go.RowKit
set_option linter.unusedVariables false
set_option linter.unusedSimpArgs false

/-- The bytes of the first k of the numbers. -/
def fours (f : Nat → Int) (k : Nat) : List Int := (List.range k).flatMap fun i => four (f i)
theorem fours_succ (f : Nat → Int) (k : Nat) : fours f (k + 1) = fours f k ++ four (f k) := by
  simp [fours, List.range_succ]
theorem fours_length (f : Nat → Int) : ∀ k, (fours f k).length = k * 4
  | 0 => rfl
  | k + 1 => by rw [fours_succ, List.length_append, fours_length f k]; simp [four]; omega
theorem fours_byte (f : Nat → Int) (hf : ∀ i, 0 ≤ f i ∧ f i ≤ 4294967295) (k : Nat) : ∀ z ∈ fours f k, 0 ≤ z ∧ z < 256 := by
  intro z hz
  obtain ⟨i, _, h⟩ := List.mem_flatMap.1 hz
  exact four_byte _ (hf i).1 (hf i).2 z h
theorem numTo_four (a b : List Int) (v : Int) (h0 : 0 ≤ v) : numTo (a ++ (four v ++ b)) a.length 4 = v := by
  have e : ∀ i, (a ++ (four v ++ b)).getD (a.length + i) 0 = (four v ++ b).getD i 0 := fun i => by
    simp [List.getD, List.getElem?_append_right]
  simp only [numTo, e]
  simp only [four, List.cons_append, List.nil_append, List.getD_cons_zero, List.getD_cons_succ]
  omega
theorem hcell_fours (f : Nat → Int) (hf : ∀ i, 0 ≤ f i ∧ f i ≤ 4294967295) (b : List Int) (k : Nat) (hk : k < 10) : hcell (fours f 10 ++ b) k = f k := by
  have h : ∀ m, k < m → m ≤ 10 → ∃ c, fours f m = fours f k ++ (four (f k) ++ c) := by
    intro m
    induction m with
    | zero => omega
    | succ m ih =>
      intro h1 h2
      rcases Nat.lt_or_ge k m with h | h
      · obtain ⟨c, hc⟩ := ih h (by omega)
        exact ⟨c ++ four (f m), by rw [fours_succ, hc]; simp⟩
      · obtain rfl : m = k := by omega
        exact ⟨[], by rw [fours_succ]; simp⟩
  obtain ⟨c, hc⟩ := h 10 hk (Nat.le_refl _)
  unfold hcell
  rw [hc, ← fours_length f k]
  simp only [List.append_assoc]
  exact numTo_four _ _ _ (hf k).1

end Go.Proofs.Ythlaoidlhbjaiaa
