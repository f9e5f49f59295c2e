/-
  Handles: which node has which, in the order of all; what is wrong with them: pure.
-/
import Derived.Test.YtmgokplpkmndoaaGreatQPath
import Derived.Test.YtmgokplpkmndoaaGreatQOne
namespace Go.Proofs.YtmgokplpkmndoaaGreat
open Go.RowKit
set_option linter.unusedVariables false
set_option linter.unusedSimpArgs false

/-- The name of the property. -/
def phName : ByteArray := ⟨#[112, 104, 97, 110, 100, 108, 101]⟩
/-- One more node: the handles so far, or what is wrong. -/
def refStep (root : Nd) (acc : List (Int × List Nat)) (p : List Nat) : List (Int × List Nat) × Int :=
  match nodeAt root p with
  | none => (acc, 0)
  | some n =>
    if (oneV n phName).2.2 ≠ 0 then ([], (oneV n phName).2.2)
    else if (oneV n phName).2.1 = false then (acc, 0)
    else if (oneV n phName).1 = 0 ∨ (oneV n phName).1 = 4294967295 then ([], 11)
    else if acc.any (fun x => decide (x.1 = (oneV n phName).1)) = true then ([], 9)
    else (acc ++ [((oneV n phName).1, p)], 0)
/-- All handles of the nodes at these places, behind those so far. -/
def refsFrom (root : Nd) : List (Int × List Nat) → List (List Nat) → List (Int × List Nat) × Int
  | acc, [] => (acc, 0)
  | acc, p :: r => if (refStep root acc p).2 = 0 then refsFrom root (refStep root acc p).1 r else ([], (refStep root acc p).2)
/-- All handles of a tree. -/
def refsOf (root : Nd) : List (Int × List Nat) × Int := refsFrom root [] (placesN root [])
theorem refsFrom_err (root : Nd) : ∀ (l : List (List Nat)) (acc : List (Int × List Nat)), (refsFrom root acc l).2 ≠ 0 → (refsFrom root acc l).1 = []
  | [], acc, h => absurd rfl h
  | p :: r, acc, h => by
    rw [refsFrom] at h ⊢
    by_cases h0 : (refStep root acc p).2 = 0
    · rw [if_pos h0] at h ⊢
      exact refsFrom_err root r _ h
    · rw [if_neg h0]
theorem refsOf_err {root : Nd} (h : (refsOf root).2 ≠ 0) : (refsOf root).1 = [] := refsFrom_err root _ _ h
/-- What a good step does. -/
theorem refStep_ok {root : Nd} {acc : List (Int × List Nat)} {p : List Nat} (h : (refStep root acc p).2 = 0) : (refStep root acc p).1 = acc ∨ ∃ h, (∀ x ∈ acc, x.1 ≠ h) ∧ h ≠ 0 ∧ h ≠ 4294967295 ∧ (refStep root acc p).1 = acc ++ [(h, p)] := by
  unfold refStep at h ⊢
  split at h
  · exact .inl rfl
  · rename_i n hn
    by_cases h1 : (oneV n phName).2.2 ≠ 0
    · rw [if_pos h1] at h; exact absurd h h1
    rw [if_neg h1] at h ⊢
    by_cases h2 : (oneV n phName).2.1 = false
    · rw [if_pos h2]; exact .inl rfl
    rw [if_neg h2] at h ⊢
    by_cases h3 : (oneV n phName).1 = 0 ∨ (oneV n phName).1 = 4294967295
    · rw [if_pos h3] at h; exact absurd h (by decide)
    rw [if_neg h3] at h ⊢
    by_cases h4 : acc.any (fun x => decide (x.1 = (oneV n phName).1)) = true
    · rw [if_pos h4] at h; exact absurd h (by decide)
    rw [if_neg h4]
    refine .inr ⟨_, fun x hx e => h4 (List.any_eq_true.2 ⟨x, hx, decide_eq_true e⟩), fun e => h3 (.inl e), fun e => h3 (.inr e), rfl⟩
/-- No handle is there twice. -/
theorem refsFrom_good (root : Nd) : ∀ (l : List (List Nat)) (acc : List (Int × List Nat)), (acc.map Prod.fst).Nodup → ((refsFrom root acc l).1.map Prod.fst).Nodup
  | [], acc, h => h
  | p :: r, acc, h => by
    rw [refsFrom]
    by_cases h1 : (refStep root acc p).2 = 0
    · rw [if_pos h1]
      rcases refStep_ok h1 with e | ⟨v, hv, _, _, e⟩
      · rw [e]; exact refsFrom_good root r acc h
      · refine refsFrom_good root r _ ?_
        rw [e, List.map_append, List.nodup_append]
        refine ⟨h, by simp, fun a ha b hb => ?_⟩
        obtain ⟨x, hx, rfl⟩ := List.mem_map.1 ha
        simp only [List.map_cons, List.map_nil, List.mem_singleton] at hb
        rw [hb]
        exact hv x hx
    · rw [if_neg h1]; exact List.nodup_nil
theorem refsOf_nodup (root : Nd) : ((refsOf root).1.map Prod.fst).Nodup := refsFrom_good root _ _ List.nodup_nil
theorem refsFrom_length (root : Nd) : ∀ (l : List (List Nat)) (acc : List (Int × List Nat)), (refsFrom root acc l).1.length ≤ acc.length + l.length
  | [], acc => by simp [refsFrom]
  | p :: r, acc => by
    rw [refsFrom]
    by_cases h1 : (refStep root acc p).2 = 0
    · rw [if_pos h1]
      have ih := refsFrom_length root r (refStep root acc p).1
      rcases refStep_ok h1 with e | ⟨v, _, _, _, e⟩
      · rw [e] at ih ⊢; simp only [List.length_cons]; omega
      · rw [e] at ih ⊢; simp only [List.length_append, List.length_cons, List.length_nil] at ih ⊢; omega
    · rw [if_neg h1]; simp
/-- Where the node of a handle is. -/
def handleOf (root : Nd) (h : Int) : Option (List Nat) := ((refsOf root).1.find? fun x => decide (x.1 = h)).map Prod.snd
/-- The greatest one. -/
def mostOf (root : Nd) : Int := (refsOf root).1.foldl (fun m x => max m x.1) 0
end Go.Proofs.YtmgokplpkmndoaaGreat
