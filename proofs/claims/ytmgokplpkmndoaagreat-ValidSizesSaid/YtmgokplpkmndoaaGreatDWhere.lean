/-
  The document's blob: where a text stands behind those ahead of it.
-/
import Derived.Test.YtmgokplpkmndoaaGreatDTexts
namespace Go.Proofs.YtmgokplpkmndoaaGreat
open Go.RowKit
set_option linter.unusedVariables false
set_option linter.unusedSimpArgs false

/-- How many bytes texts are, each with a nought. -/
def textSize : List ByteArray → Nat
  | [] => 0
  | x :: r => x.size + 1 + textSize r
theorem textSize_append : ∀ a b : List ByteArray, textSize (a ++ b) = textSize a + textSize b
  | [], b => by simp [textSize]
  | x :: a, b => by simp only [List.cons_append, textSize, textSize_append a b]; omega
theorem textSize_next (l : List ByteArray) (j : Nat) (h : j < l.length) : textSize (l.take (j + 1)) = textSize (l.take j) + l[j].size + 1 := by
  rw [take_next l j h, textSize_append]; simp only [textSize]; omega
theorem textSize_take (l : List ByteArray) (j : Nat) : textSize (l.take j) ≤ textSize l := by
  conv => rhs; rw [← List.take_append_drop j l, textSize_append]
  omega
/-- Where a text stands. -/
def whereL : List ByteArray → ByteArray → Nat
  | [], _ => 0
  | x :: r, s => if x = s then 0 else x.size + 1 + whereL r s
theorem whereL_missed : ∀ (l : List ByteArray) (s : ByteArray) (k : Nat), Missed l s k → whereL l s = textSize (l.take k) + whereL (l.drop k) s
  | [], s, k, _ => by simp [whereL, textSize]
  | x :: l, s, 0, _ => by simp [textSize]
  | x :: l, s, k + 1, h => by
    have h0 : x ≠ s := by have := h.2 0 (by simp) (by omega); simpa using this
    have ih := whereL_missed l s k ⟨by have := h.1; simp at this; omega, fun j hj hlt => by have := h.2 (j + 1) (by simp; omega) (by omega); simpa using this⟩
    simp only [whereL, if_neg h0, List.take_succ_cons, List.drop_succ_cons, textSize, ih]
    omega
theorem whereL_hit {l : List ByteArray} {s : ByteArray} {k : Nat} (h : Missed l s k) (hk : k < l.length) (e : l[k] = s) : whereL l s = textSize (l.take k) := by
  rw [whereL_missed l s k h, List.drop_eq_getElem_cons hk]
  simp [whereL, e]
theorem whereL_all {l : List ByteArray} {s : ByteArray} {k : Nat} (h : Missed l s k) (hk : ¬ k < l.length) : whereL l s = textSize l := by
  rw [whereL_missed l s k h, List.drop_eq_nil_of_le (by omega), List.take_of_length_le (by omega)]
  simp [whereL]
theorem whereL_le (l : List ByteArray) (s : ByteArray) : whereL l s ≤ textSize l := by
  induction l with
  | nil => simp [whereL]
  | cons x r ih => simp only [whereL, textSize]; split <;> omega

/-- A slice's cells are these texts. -/
def TRow (w : World) (B : Nat) (A : Option Addr) (l : List ByteArray) : Prop :=
  0 < l.length → ∃ g, A = some ⟨g, 0, none⟩ ∧ g < B ∧ ∀ k (h : k < l.length), w.cell? ⟨g, k, none⟩ = some (.string l[k])
theorem TRow.keep {w w' : World} {B : Nat} {A : Option Addr} {l : List ByteArray} (h : TRow w B A l) (hk : ∀ a : Addr, a.block < B → w'.cell? a = w.cell? a) : TRow w' B A l := fun h0 => by
  obtain ⟨g, e, hg, hc⟩ := h h0
  exact ⟨g, e, hg, fun k hk' => (hk _ hg).trans (hc k hk')⟩
theorem TRow.under {w w' : World} {B : Nat} {A : Option Addr} {l : List ByteArray} (h : TRow w B A l) (hb : Below B w w') : TRow w' B A l := h.keep fun _ hp => hb.cell hp
theorem TRow.more {w : World} {B B' : Nat} {A : Option Addr} {l : List ByteArray} (h : TRow w B A l) (hB : B ≤ B') : TRow w B' A l := fun h0 => by
  obtain ⟨g, e, hg, hc⟩ := h h0
  exact ⟨g, e, by omega, hc⟩
/-- A row that texts left. -/
theorem trow_of_own {w : World} {base : Nat} {v : Value} {l : List ByteArray} (h : w.ownsRow base 9 1 v l.length (strs l)) : ∃ A c, v = .slice A l.length c ∧ l.length ≤ c ∧ c ≤ 9223372036854775807 ∧ TRow w w.heap.size A l := by
  obtain ⟨A, c, h1, h2, h3, h4⟩ := own_slice h
  refine ⟨A, c, h1, h2, h3, fun h0 => ?_⟩
  obtain ⟨g, e, _, hg, hc⟩ := h4 h0
  exact ⟨g, e, hg, fun k hk => by rw [hc k hk, List.getElem?_map, List.getElem?_eq_getElem hk]; rfl⟩

end Go.Proofs.YtmgokplpkmndoaaGreat
