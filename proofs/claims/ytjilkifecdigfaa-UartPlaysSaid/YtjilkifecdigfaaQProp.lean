/-
  What a value says: cells, a text, texts, the one cell of a property: the document's answers.
-/
import Derived.Test.YtjilkifecdigfaaQRef
import Derived.Test.YtjilkifecdigfaaQRow
import Derived.Test.YtjilkifecdigfaaTFind
namespace Go.Proofs.Ytjilkifecdigfaa
open Go.RowKit
set_option linter.unusedVariables false
set_option linter.unusedSimpArgs false

theorem info_u32 : (Try.prog.info? 34).map (fun i => (i.zero, i.size, i.bytes)) = some (some (.int .u32 0), 1, 4) := by kernel_rfl
theorem info_str : (Try.prog.info? 9).map (fun i => (i.zero, i.size, i.bytes)) = some (some (.string ⟨#[]⟩), 1, 16) := by kernel_rfl

/-- append of one value, laid by the call itself. -/
theorem app_lit {t e : TypeId} {i0 : TypeInfo} {z : Value} {bytes : Nat} (ht : Try.prog.underlying t = some (.slice e)) (hi : Try.prog.info? e = some i0) (hz : i0.zero = some z) (hs1 : i0.size = 1) (hby : i0.bytes = bytes) (hzs : z.cells.size = 1)
    {w : World} {B n : Nat} {v : Value} {xs : List Value} (h : w.ownsRow B e 1 v n xs) (x : Value) (hx : x.oneCell' = true) (hbig : (n + 1) * bytes ≤ 140737488355328) (hlen : n + 1 ≤ 140737488355328) (hB : B ≤ w.heap.size) (ty : TypeId) :
    ∃ A' c' w', (Builtin.append_ #[t, t] ty #[v, .slice (some ⟨w.heap.size, 0, none⟩) 1 1]).run Try.prog (w.alloc (.cells #[x] e)) = .ok (.slice A' (n + 1) c') w' ∧ w'.ownsRow B e 1 (.slice A' (n + 1) c') (n + 1) (xs ++ [x]) ∧ Below B w w' := by
  have hl : xs.length = n := by have := h.1; omega
  have h1 : (w.alloc (.cells #[x] e)).ownsRow B e 1 v xs.length xs := by rw [hl]; exact h.alloc _
  have hc : Cel (w.alloc (.cells #[x] e)) (w.heap.size + 1) (some ⟨w.heap.size, 0, none⟩) 1 [x] := ⟨rfl, fun _ => ⟨w.heap.size, 0, rfl, Nat.lt_succ_self _, fun i hi => by
    obtain rfl : i = 0 := by omega
    exact World.cell?_alloc_new _ _ _ _⟩⟩
  obtain ⟨v', w', r, g1, g2, g3⟩ := app_cel ht hi hz hs1 hby hzs 1 h1 hc (fun u hu => by rw [List.mem_singleton.1 hu]; exact hx) (by rw [hl]; simpa using hbig) (by rw [hl]; simpa using hlen) (by simp; omega) ty
  rw [List.length_append, hl] at g1
  have g1' : w'.ownsRow B e 1 v' (n + 1) (xs ++ [x]) := g1
  obtain ⟨A', c', rfl, _⟩ := owned_cel g1'
  exact ⟨A', c', w', r, g1', ((Below.refl B w).alloc hB (.cells #[x] e)).grown g2 (by simp; omega) (fun q hq => (h1.lt q hq).1)⟩

/-- The cells of a value. -/
def cellV (zs : List Int) (i : Nat) : Value := .int .u32 (numTo zs (4 * i) 4)
def cellRow (zs : List Int) (k : Nat) : List Value := (List.range k).map (cellV zs)
theorem cellRow_next (zs : List Int) (k : Nat) : cellRow zs (k + 1) = cellRow zs k ++ [cellV zs k] := by
  unfold cellRow; rw [List.range_succ, List.map_append]; rfl
def CellsOut (w w' : World) (n : Nat) (zs : List Int) (e : Ending) : Prop :=
  (n % 4 ≠ 0 → e = .returned (.tuple #[.slice none 0 0, .int .i64 4])) ∧ (n % 4 = 0 → ∃ A c, e = .returned (.tuple #[.slice A (n / 4) c, .int .i64 0]) ∧ w'.ownsRow w.heap.size 34 1 (.slice A (n / 4) c) (n / 4) (cellRow zs (n / 4)))

theorem numTo_u32 {w : World} {B n : Nat} {A : Option Addr} {zs : List Int} (hs : Shows w B A n zs) (a : Nat) : 0 ≤ numTo zs a 4 ∧ numTo zs a 4 ≤ 4294967295 := by
  have h := numTo_bound zs a hs.byte 4
  have e : (256 : Int) ^ 4 = 4294967296 := by decide
  omega

/-- The text that a value is. -/
noncomputable def textV (zs : List Int) : Option (List Int) := match textFrom zs 0 with
  | none => none
  | some s => if s.length + 1 = zs.length then some s else none
def TextVOut (e : Ending) (o : Option (List Int)) : Prop := e = .returned (.tuple (match o with | none => #[.string ⟨#[]⟩, .int .i64 4] | some s => #[.string (strOfNums s), .int .i64 0]))
theorem strOf_size6 (s : List Int) : (strOfNums s).size = s.length := by
  show (strOfNums s).data.toList.length = s.length
  rw [strOfNums_data, List.length_map]

/-! ### Texts -/
noncomputable def textsGo (zs : List Int) : Nat → Nat → List (List Int)
  | 0, _ => []
  | f + 1, a => if a < zs.length then (match textFrom zs a with | none => [] | some s => s :: textsGo zs f (a + s.length + 1)) else []
/-- The texts that a value is. -/
noncomputable def textsV (zs : List Int) : Option (List (List Int)) := if 0 < zs.length ∧ zs.getD (zs.length - 1) 0 ≠ 0 then none else some (textsGo zs zs.length 0)
abbrev strRow (l : List (List Int)) : List Value := l.map fun s => Value.string (strOfNums s)
def TextsOut (w w' : World) (zs : List Int) (e : Ending) : Prop :=
  (textsV zs = none → e = .returned (.tuple #[.slice none 0 0, .int .i64 4])) ∧ (∀ l, textsV zs = some l → ∃ A c, e = .returned (.tuple #[.slice A l.length c, .int .i64 0]) ∧ w'.ownsRow w.heap.size 9 1 (.slice A l.length c) l.length (strRow l))
theorem text_there {zs : List Int} {a : Nat} (h : zs.getD (zs.length - 1) 0 = 0) (ha : a < zs.length) : ∃ s, textFrom zs a = some s := by
  rw [textFrom, if_pos]
  · exact ⟨_, rfl⟩
  · refine List.mem_of_getElem? (i := zs.length - 1 - a) ?_
    rw [List.getElem?_drop, show a + (zs.length - 1 - a) = zs.length - 1 by omega, List.getElem?_eq_getElem (by omega)]
    simp only [List.getD, List.getElem?_eq_getElem (show zs.length - 1 < zs.length by omega), Option.getD_some] at h
    rw [h]

end Go.Proofs.Ytjilkifecdigfaa
