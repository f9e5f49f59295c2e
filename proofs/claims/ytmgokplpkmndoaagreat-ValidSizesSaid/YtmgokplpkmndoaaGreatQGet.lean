/-
  The node at a place: the document's answer, for any numbers.
-/
import Derived.Test.YtmgokplpkmndoaaGreatQPath
import Derived.Test.YtmgokplpkmndoaaGreatLPathBack
import Derived.BigQuiet
namespace Go.Proofs.YtmgokplpkmndoaaGreat
open Go.RowKit
set_option linter.unusedVariables false
set_option linter.unusedSimpArgs false

/-- The node at a place below n, of any numbers. -/
def nodeZ : Nd → List Int → Option Nd
  | n, [] => some n
  | n, i :: r => if i < 0 then none else match n.kids[i.toNat]? with
    | none => none
    | some k => nodeZ k r
abbrev intsZ (z : List Int) : List Value := z.map fun k => Value.int .i64 k
theorem ints_eq (p : List Nat) : ints p = intsZ (p.map Int.ofNat) := by simp [ints, intsZ]
theorem nodeZ_nat : ∀ (p : List Nat) (n : Nd), nodeZ n (p.map Int.ofNat) = nodeAt n p
  | [], n => rfl
  | i :: p, n => by
    rw [List.map_cons, nodeZ, nodeAt, if_neg (by simp)]
    simp only [Int.ofNat_eq_natCast, Int.toNat_natCast]
    cases n.kids[i]? with
    | none => rfl
    | some k => exact nodeZ_nat p k
theorem nodeZ_append : ∀ (p q : List Int) (n : Nd), nodeZ n (p ++ q) = match nodeZ n p with | none => none | some x => nodeZ x q
  | [], q, n => by simp [nodeZ]
  | i :: p, q, n => by
    rw [List.cons_append, nodeZ, nodeZ]
    by_cases hi : i < 0
    · rw [if_pos hi, if_pos hi]
    · rw [if_neg hi, if_neg hi]
      cases n.kids[i.toNat]? with
      | none => rfl
      | some k => exact nodeZ_append p q k
theorem nodeZ_in {w : World} {B : Nat} : ∀ (p : List Int) {n x : Nd}, n.In w B → nodeZ n p = some x → x.In w B
  | [], n, x, h, e => by rw [nodeZ] at e; rw [← Option.some.inj e]; exact h
  | i :: p, n, x, h, e => by
    rw [nodeZ] at e
    by_cases hi : i < 0
    · rw [if_pos hi] at e; cases e
    rw [if_neg hi] at e
    cases hk : n.kids[i.toNat]? with
    | none => rw [hk] at e; cases e
    | some k => rw [hk] at e; exact nodeZ_in p (h.kid (List.mem_of_getElem? hk)) e
/-- The answer. -/
def getVal : Option Nd → Value
  | none => .tuple #[.agg #[.string ⟨#[]⟩, .slice none 0 0, .slice none 0 0], .bool false]
  | some x => .tuple #[x.val, .bool true]

theorem below_sets {g : Nat} {w wr : World} (h : Below g w wr) (m b : Nat) (hb : g ≤ b) (u0 u1 u2 : Value) : Below g w ((((wr.drewN m).setCell ⟨b, 0, none⟩ u0).setCell ⟨b, 1, none⟩ u1).setCell ⟨b, 2, none⟩ u2) :=
  ((Below.setCell (Below.setCell (Below.setCell (h.trans (c := wr.drewN m) ⟨rfl, rfl, rfl, Nat.le_refl _, fun _ _ => rfl⟩) (p := ⟨b, 0, none⟩) hb u0) (p := ⟨b, 1, none⟩) hb u1) (p := ⟨b, 2, none⟩) hb u2))
theorem heap_sets {wr : World} (m b k : Nat) (hk : k ≠ b) (u0 u1 u2 : Value) : ((((wr.drewN m).setCell ⟨b, 0, none⟩ u0).setCell ⟨b, 1, none⟩ u1).setCell ⟨b, 2, none⟩ u2).heap[k]? = wr.heap[k]? := by
  rw [Below.heap_setCell _ _ _ _ hk, Below.heap_setCell _ _ _ _ hk, Below.heap_setCell _ _ _ _ hk]
  rfl
theorem heap_set3 {wr : World} (m b : Nat) {v0 v1 v2 : Value} {t : TypeId} {fz : Nat × Nat} (h : wr.heap[b]? = some (.cells #[v0, v1, v2] t fz)) (u0 u1 u2 : Value) : ((((wr.drewN m).setCell ⟨b, 0, none⟩ u0).setCell ⟨b, 1, none⟩ u1).setCell ⟨b, 2, none⟩ u2).heap[b]? = some (.cells #[u0, u1, u2] t fz) := by
  simp [World.setCell, Array.getElem?_modify, h]

end Go.Proofs.YtmgokplpkmndoaaGreat
