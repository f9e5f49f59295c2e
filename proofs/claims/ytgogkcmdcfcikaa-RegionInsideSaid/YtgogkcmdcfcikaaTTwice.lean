/-
  Layer 3: whether one name is there twice, by a map of the names that were seen.
-/
import Derived.Test.YtgogkcmdcfcikaaTIdx
import Derived.Maps.Own
import Derived.Maps.OwnSet
import Derived.Maps.OwnOps
import Derived.Maps.Views
namespace Go.Proofs.Ytgogkcmdcfcikaa
open Go.RowKit Go.Maps Go.WideMaps
set_option linter.unusedVariables false
set_option linter.unusedSimpArgs false

/-- One name is there twice. -/
def twiceB (l : List ByteArray) : Bool := !decide l.Nodup

/-- The key that a name is, and the set of the first k names. -/
def keyL (s : ByteArray) : Lit := .string s.data.toList
def Sn (l : List ByteArray) (k : Nat) : DataW Unit := setOf (.agg []) ((l.take k).map keyL)

theorem Sn_zero (l : List ByteArray) : Sn l 0 = .map [] := by simp [Sn, setOf]
theorem Sn_succ (l : List ByteArray) (k : Nat) (hk : k < l.length) : Sn l (k + 1) = (Sn l k).put (keyL l[k]) (.agg []) := by
  unfold Sn
  rw [List.take_add_one, List.getElem?_eq_getElem hk, List.map_append, ← setOf_snoc]
  rfl
theorem has_Sn (l : List ByteArray) (k : Nat) (s : ByteArray) : Maps.has (Sn l k) (keyL s) = true ↔ s ∈ l.take k := by
  unfold Sn
  rw [has_setOf _ _ _ (fun y hy => by obtain ⟨_, _, rfl⟩ := List.mem_map.1 hy; trivial), List.any_map, List.any_eq_true]
  constructor
  · rintro ⟨x, hx, h⟩
    have e : x.data.toList = s.data.toList := by
      have h' : (keyL x).sameKey (keyL s) = true := h
      by_cases e : keyL x = keyL s
      · exact (Lit.string.inj e)
      · rw [sameKey_ne e] at h'; cases h'
    rw [← WideShapes.bytes_inj e]
    exact hx
  · intro h
    refine ⟨s, h, ?_⟩
    show (keyL s).sameKey (keyL s) = true
    simp [keyL, Lit.sameKey]
theorem has_no {l : List ByteArray} {k : Nat} {s : ByteArray} (h : s ∉ l.take k) : Maps.has (Sn l k) (keyL s) = false := by
  rcases e : Maps.has (Sn l k) (keyL s) with _ | _
  · rfl
  · exact absurd ((has_Sn l k s).1 e) h

theorem nodup_zero (l : List ByteArray) : (l.take 0).Nodup := by simp
theorem nodup_succ {l : List ByteArray} {k : Nat} (h : (l.take k).Nodup) (hk : k < l.length) (hn : l[k] ∉ l.take k) : (l.take (k + 1)).Nodup := by
  rw [List.take_add_one, List.getElem?_eq_getElem hk]
  rw [List.nodup_append]
  refine ⟨h, by simp, ?_⟩
  intro a ha b hb hab
  simp at hb
  subst hb hab
  exact hn ha
theorem twice_hit {l : List ByteArray} {k : Nat} (hk : k < l.length) (hn : l[k] ∈ l.take k) : twiceB l = true := by
  have : ¬ l.Nodup := fun h => by
    have h1 : (l.take k ++ l.drop k).Nodup := by rw [List.take_append_drop]; exact h
    rw [List.nodup_append] at h1
    exact h1.2.2 _ hn l[k] (by rw [List.drop_eq_getElem_cons hk]; exact List.mem_cons_self ..) rfl
  simp [twiceB, this]
theorem twice_all {l : List ByteArray} {k : Nat} (h : (l.take k).Nodup) (hk : ¬ k < l.length) : twiceB l = false := by
  rw [List.take_of_length_le (by omega)] at h
  simp [twiceB, h]

theorem ownsMap_below {w w' : World} {B b n : Nat} {k : TypeId} {R : Value → Option (DataW Unit × List MemPlace)} {D : DataW Unit} (h : w.ownsMap Try.prog k R b n D) (hb : Below B w w') (hlt : b < B) : w'.ownsMap Try.prog k R b n D := by
  obtain ⟨es, clock, h1, h2⟩ := h
  exact ⟨es, clock, (hb.block b hlt).trans h1, h2⟩

theorem lawS : Keyed Try.prog 9 := string_keyed Try.underlying9
theorem key_ok {s : ByteArray} (hs : s.size ≤ 140737488351232) : keyOf Try.prog 9 (.string s) = some (keyL s) := keyOf_string_mk Try.underlying9 (by unfold maxLen; omega)

end Go.Proofs.Ytgogkcmdcfcikaa
