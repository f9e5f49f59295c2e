/-
  The place of the first name that is s, in a list of names.
-/
import Derived.Test.YtjilkifecdigfaaTTree
import Derived.Below
namespace Go.Proofs.Ytjilkifecdigfaa
open Go.RowKit
set_option linter.unusedVariables false
set_option linter.unusedSimpArgs false

/-- The place of the first name that is s; -1: none. -/
def idxOf : List ByteArray → ByteArray → Int
  | [], _ => -1
  | x :: l, s => if x = s then 0 else if idxOf l s < 0 then -1 else idxOf l s + 1

theorem idxOf_hit : ∀ (l : List ByteArray) (s : ByteArray) (k : Nat) (hk : k < l.length), l[k] = s → (∀ j (hj : j < k), l[j] ≠ s) → idxOf l s = k
  | x :: l, s, 0, hk, h, _ => by simp only [List.getElem_cons_zero] at h; simp [idxOf, h]
  | x :: l, s, k + 1, hk, h, h' => by
    have h0 : x ≠ s := by have := h' 0 (by omega); simpa using this
    have ih := idxOf_hit l s k (by simpa using hk) (by simpa using h) (fun j hj => by have := h' (j + 1) (by omega); simpa using this)
    rw [idxOf, if_neg h0, ih, if_neg (by omega)]
    omega
theorem idxOf_miss : ∀ (l : List ByteArray) (s : ByteArray), (∀ j (hj : j < l.length), l[j] ≠ s) → idxOf l s = -1
  | [], s, _ => rfl
  | x :: l, s, h => by
    have h0 : x ≠ s := by have := h 0 (by simp); simpa using this
    have ih := idxOf_miss l s (fun j hj => by have := h (j + 1) (by simpa using hj); simpa using this)
    rw [idxOf, if_neg h0, ih, if_pos (by omega)]

/-- None of the first k names is s. -/
def Missed (l : List ByteArray) (s : ByteArray) (k : Nat) : Prop := k ≤ l.length ∧ ∀ j (hj : j < l.length), j < k → l[j] ≠ s

theorem Missed.zero (l : List ByteArray) (s : ByteArray) : Missed l s 0 := ⟨Nat.zero_le _, fun _ _ h => absurd h (Nat.not_lt_zero _)⟩
theorem Missed.succ {l : List ByteArray} {s : ByteArray} {k : Nat} (h : Missed l s k) (hk : k < l.length) (hne : l[k] ≠ s) : Missed l s (k + 1) :=
  ⟨hk, fun j hj hlt => by
    rcases Nat.lt_succ_iff_lt_or_eq.1 hlt with h1 | rfl
    · exact h.2 j hj h1
    · exact hne⟩
theorem Missed.hit {l : List ByteArray} {s : ByteArray} {k : Nat} (h : Missed l s k) (hk : k < l.length) (he : l[k] = s) : idxOf l s = k := idxOf_hit l s k hk he (fun j hj => h.2 j (by omega) hj)
theorem Missed.all {l : List ByteArray} {s : ByteArray} {k : Nat} (h : Missed l s k) (hk : ¬ k < l.length) : idxOf l s = -1 := idxOf_miss l s (fun j hj => h.2 j hj (by omega))

theorem str_ne {x s : ByteArray} (h : x ≠ s) : (x.toList == s.toList) = false := by
  rw [beq_eq_false_iff_ne]
  intro e
  rw [Lib.toList_data, Lib.toList_data] at e
  exact h (WideShapes.bytes_inj e)

end Go.Proofs.Ytjilkifecdigfaa
