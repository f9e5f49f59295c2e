/-
  Layer 7, PropReads, PropOne, PropWide: out of what the program's functions answer.
-/
import Derived.Test.YtgogkcmdcfcikaaQOne
import Derived.Test.YtgogkcmdcfcikaaTCheck
import Derived.Deep.DrawnRows
namespace Go.Proofs.Ytgogkcmdcfcikaa
open Go.RowKit
set_option linter.unusedVariables false
set_option linter.unusedSimpArgs false

/-- What Cells, Text and Texts answer: what they read, and the error. -/
def cellsL (zs : List Int) : List Int := if zs.length % 4 = 0 then (List.range (zs.length / 4)).map fun i => numTo zs (4 * i) 4 else []
def cellsE (zs : List Int) : Int := if zs.length % 4 = 0 then 0 else 4
noncomputable def textS (zs : List Int) : ByteArray := match textV zs with | none => ⟨#[]⟩ | some s => strOfNums s
noncomputable def textE (zs : List Int) : Int := match textV zs with | none => 4 | some _ => 0
noncomputable def txtsL (zs : List Int) : List ByteArray := match textsV zs with | none => [] | some l => l.map strOfNums
noncomputable def txtsE (zs : List Int) : Int := match textsV zs with | none => 4 | some _ => 0
abbrev u32s (l : List Int) : List Value := l.map (Value.int .u32)
abbrev strs6 (l : List ByteArray) : List Value := l.map Value.string
/-- A row of values, and an error. -/
def RowOut (w' : World) (R : List Value) (E : Int) (e : Ending) : Prop := ∃ A c, e = .returned (.tuple #[.slice A R.length c, .int .i64 E]) ∧ Cel w' w'.heap.size A R.length R ∧ R.length ≤ c ∧ c ≤ 9223372036854775807

theorem rowOut_of {w w' : World} {e : Ending} {t : TypeId} {R : List Value} {A : Option Addr} {m c : Nat} (hm : m = R.length) (he : e = .returned (.tuple #[.slice A m c, .int .i64 0])) (h : w'.ownsRow w.heap.size t 1 (.slice A m c) m R) : RowOut w' R 0 e := by
  subst hm
  obtain ⟨A', c', e', h1, h2, h3, _⟩ := owned_cel h
  simp only [Value.slice.injEq, true_and] at e'
  obtain ⟨rfl, rfl⟩ := e'
  exact ⟨A, c, he, h1, h2, h3⟩
theorem rowOut_nil {w' : World} {e : Ending} {E : Int} (he : e = .returned (.tuple #[.slice none 0 0, .int .i64 E])) : RowOut w' [] E e := ⟨none, 0, he, Cel.nil _ _ _, Nat.le_refl _, by omega⟩

theorem refcellsR (A : Option Addr) (n c : Nat) (zs : List Int) (w : World) (hs : Shows w w.heap.size A n zs) (hn : n ≤ 140737488351232) (hnc : n ≤ c) (hc : c ≤ 9223372036854775807) :
    Calls Try.prog 36 #[.slice A n c] w fun e w' => RowOut w' (u32s (cellsL zs)) (cellsE zs) e ∧ Below w.heap.size w w' := by
  obtain rfl := hs.1
  refine (refcells_any A _ c zs w hs hn hnc hc).mono fun e w' h => ⟨?_, h.2⟩
  obtain ⟨⟨h1, h2⟩, _⟩ := h
  by_cases h4 : zs.length % 4 = 0
  · obtain ⟨A', c', he, ho⟩ := h2 h4
    have e1 : cellRow zs (zs.length / 4) = u32s (cellsL zs) := by
      rw [cellsL, if_pos h4]; exact (List.map_map (l := List.range (zs.length / 4))).symm
    rw [cellsE, if_pos h4]
    rw [e1] at ho
    exact rowOut_of (by rw [List.length_map, cellsL, if_pos h4, List.length_map, List.length_range]) he ho
  · rw [cellsE, if_neg h4, cellsL, if_neg h4]
    exact rowOut_nil (h1 h4)
/-! ### What the program's functions answer -/
def CellsOK : Prop := ∀ (A : Option Addr) (n c : Nat) (zs : List Int) (w : World), Shows w w.heap.size A n zs → n ≤ 5000 → n ≤ c → c ≤ 9223372036854775807 → Calls Try.prog 21 #[.slice A n c] w fun e w' => RowOut w' (u32s (cellsL zs)) (cellsE zs) e ∧ Below w.heap.size w w'
def OneOK : Prop := ∀ (n : Nd) (s : ByteArray) (w : World), n.In w w.heap.size → s.size ≤ 140737488351232 → Calls Try.prog 29 #[n.val, .string s] w fun e w' => e = .returned (oneVal (oneV n s)) ∧ Below w.heap.size w w'

theorem u32_cell {w : World} {B n : Nat} {A : Option Addr} {l : List Int} (h : Cel w B A n (u32s l)) (hn : l.length = n) (k : Nat) (hk : k < n) : ∃ b o, A = some ⟨b, o, none⟩ ∧ b < B ∧ w.cell? ⟨b, o + k, none⟩ = some (.int .u32 (l.getD k 0)) := by
  obtain ⟨b, o, e, hb, hc⟩ := h.2 (by omega)
  refine ⟨b, o, e, hb, ?_⟩
  rw [hc k hk, List.getElem?_map, List.getElem?_eq_getElem (by omega)]
  simp [List.getD, List.getElem?_eq_getElem (show k < l.length by omega)]
theorem str_cell {w : World} {B n : Nat} {A : Option Addr} {l : List ByteArray} (h : Cel w B A n (strs6 l)) (hn : l.length = n) (k : Nat) (hk : k < n) : ∃ b o, A = some ⟨b, o, none⟩ ∧ b < B ∧ w.cell? ⟨b, o + k, none⟩ = some (.string (l.getD k ⟨#[]⟩)) := by
  obtain ⟨b, o, e, hb, hc⟩ := h.2 (by omega)
  refine ⟨b, o, e, hb, ?_⟩
  rw [hc k hk, List.getElem?_map, List.getElem?_eq_getElem (by omega)]
  simp [List.getD, List.getElem?_eq_getElem (show k < l.length by omega)]

end Go.Proofs.Ytgogkcmdcfcikaa
