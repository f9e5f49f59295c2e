/-
  The document's numbers and texts, of bytes of any length.
-/
import Derived.Test.YtjilkifecdigfaaEPure
import Derived.Test.YtjilkifecdigfaaDStr
namespace Go.Proofs.Ytjilkifecdigfaa
open Go.RowKit
set_option linter.unusedVariables false
set_option linter.unusedSimpArgs false

/-- The first nought from a on, below n, is at i. -/
def HitAt (zs : List Int) (a n i : Nat) : Prop := a ≤ i ∧ i < n ∧ zs.getD i 0 = 0 ∧ ∀ j, a ≤ j → j < i → zs.getD j 0 ≠ 0
/-- There is none. -/
def NoHit (zs : List Int) (a n : Nat) : Prop := ∀ j, a ≤ j → j < n → zs.getD j 0 ≠ 0

theorem hit_or_not (zs : List Int) (a : Nat) : ∀ k, NoHit zs a (a + k) ∨ ∃ i, HitAt zs a (a + k) i
  | 0 => .inl fun j h1 h2 => by omega
  | k + 1 => by
    rcases hit_or_not zs a k with h | ⟨i, h1, h2, h3, h4⟩
    · by_cases h0 : zs.getD (a + k) 0 = 0
      · exact .inr ⟨a + k, by omega, by omega, h0, fun j h1 h2 => h j h1 (by omega)⟩
      · refine .inl fun j h1 h2 => ?_
        by_cases e : j = a + k
        · rw [e]; exact h0
        · exact h j h1 (by omega)
    · exact .inr ⟨i, h1, by omega, h3, h4⟩

theorem take_while_hit {zs : List Int} {a i : Nat} (h : HitAt zs a zs.length i) : (0 : Int) ∈ zs.drop a ∧ ((zs.drop a).takeWhile fun z => decide (z ≠ 0)) = (zs.drop a).take (i - a) := by
  obtain ⟨h1, h2, h3, h4⟩ := h
  have hget : ∀ j, a ≤ j → j < zs.length → (zs.drop a)[j - a]? = some (zs.getD j 0) := fun j hj hl => by
    rw [List.getElem?_drop, show a + (j - a) = j by omega]
    simp [List.getD, List.getElem?_eq_getElem hl]
  refine ⟨List.mem_of_getElem? ((hget i h1 h2).trans (congrArg some h3)), ?_⟩
  have hsplit : zs.drop a = (zs.drop a).take (i - a) ++ (0 :: (zs.drop a).drop (i - a + 1)) := by
    conv => lhs; rw [← List.take_append_drop (i - a) (zs.drop a)]
    congr 1
    rw [List.drop_eq_getElem_cons (by rw [List.length_drop]; omega)]
    congr 1
    have := hget i h1 h2
    rw [List.getElem?_eq_getElem (by rw [List.length_drop]; omega), h3] at this
    exact Option.some.inj this
  conv => lhs; rw [hsplit]
  rw [List.takeWhile_append_of_pos]
  · simp
  · intro z hz
    obtain ⟨j, hj, rfl⟩ := List.getElem_of_mem hz
    rw [List.length_take, List.length_drop] at hj
    have h5 := hget (a + j) (by omega) (by omega)
    rw [show a + j - a = j by omega] at h5
    have h6 : ((zs.drop a).take (i - a))[j]? = some (zs.getD (a + j) 0) := by
      rw [List.getElem?_take_of_lt (by omega)]; exact h5
    rw [List.getElem?_eq_getElem (by rw [List.length_take, List.length_drop]; omega)] at h6
    rw [Option.some.inj h6]
    exact decide_eq_true (h4 (a + j) (by omega) (by omega))
theorem text_hit {zs : List Int} {a i : Nat} (h : HitAt zs a zs.length i) : textFrom zs a = some ((zs.drop a).take (i - a)) := by
  obtain ⟨h1, h2⟩ := take_while_hit h
  rw [textFrom, if_pos h1, h2]
theorem text_nohit {zs : List Int} {a : Nat} (h : NoHit zs a zs.length) : textFrom zs a = none := by
  rw [textFrom, if_neg]
  intro h0
  obtain ⟨j, e⟩ := List.getElem?_of_mem h0
  have hj : j < zs.length - a := by have := (List.getElem?_eq_some_iff.1 e).1; rwa [List.length_drop] at this
  rw [List.getElem?_drop, List.getElem?_eq_getElem (by omega)] at e
  refine h (a + j) (by omega) (by omega) ?_
  simp [List.getD, List.getElem?_eq_getElem (show a + j < zs.length by omega), Option.some.inj e]

/-- What the document's Text answers: the bytes up to the next nought, or that there is none. -/
def TextOut (e : Ending) (o : Option (List Int)) : Prop := e = .returned (.tuple #[.string (match o with | none => ByteArray.empty | some s => strOfNums s), .bool o.isSome])
end Go.Proofs.Ytjilkifecdigfaa
