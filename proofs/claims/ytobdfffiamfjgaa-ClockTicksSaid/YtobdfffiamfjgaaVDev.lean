/-
  Devices: accesses, and what all of them have in common.
-/
import Derived.Test.YtobdfffiamfjgaaRows
import Derived.Test.YtobdfffiamfjgaaChecked
import Derived.Below
import Derived.WalkKit
import Derived.WalkLawsBesides
import Derived.WalkSpells
import Derived.ProofKit
import Derived.BigQuiet
import Derived.Lib.Hide
import Derived.Laws.Pointers
namespace Go.Proofs.Ytobdfffiamfjgaa
open Go.RowKit
set_option linter.unusedVariables false
set_option linter.unusedSimpArgs false

/-- What is wrong with an access. -/
def accE (size off width : Int) : Int := if size ≤ off then 17 else if width ≠ 4 ∨ off % 4 ≠ 0 then 18 else 0
/-- A number of 32, of 64 bits. -/
def U32v (x : Int) : Prop := 0 ≤ x ∧ x ≤ 4294967295
def U64v (x : Int) : Prop := 0 ≤ x ∧ x ≤ 18446744073709551615
def bitI (b : Bool) : Int := if b then 1 else 0

theorem accE_cases (size off width : Int) : (accE size off width = 17 ∧ size ≤ off) ∨ (accE size off width = 18 ∧ ¬ size ≤ off ∧ ¬ (width = 4 ∧ off % 4 = 0)) ∨ (accE size off width = 0 ∧ ¬ size ≤ off ∧ width = 4 ∧ off % 4 = 0) := by
  unfold accE
  by_cases h1 : size ≤ off
  · rw [if_pos h1]; exact .inl ⟨rfl, h1⟩
  · rw [if_neg h1]
    by_cases h2 : width ≠ 4 ∨ off % 4 ≠ 0
    · rw [if_pos h2]; exact .inr (.inl ⟨rfl, h1, by omega⟩)
    · rw [if_neg h2]; exact .inr (.inr ⟨rfl, h1, by omega, by omega⟩)

/-- w' is w but for the block b, and new ones. -/
structure ChgB (b : Nat) (w w' : World) : Prop where
  os : w'.os = w.os
  tape : w'.tape = w.tape
  output : w'.output = w.output
  size : w.heap.size ≤ w'.heap.size
  block : ∀ k, k < w.heap.size → k ≠ b → w'.heap[k]? = w.heap[k]?
theorem ChgB.refl (b : Nat) (w : World) : ChgB b w w := ⟨rfl, rfl, rfl, Nat.le_refl _, fun _ _ _ => rfl⟩
theorem ChgB.trans {b : Nat} {w w' w2 : World} (h : ChgB b w w') (k : ChgB b w' w2) : ChgB b w w2 :=
  ⟨k.os.trans h.os, k.tape.trans h.tape, k.output.trans h.output, Nat.le_trans h.size k.size, fun g hg hn => (k.block g (Nat.lt_of_lt_of_le hg h.size) hn).trans (h.block g hg hn)⟩
theorem ChgB.below {b B : Nat} {w w' : World} (h : ChgB b w w') (hB : B ≤ b) (hw : B ≤ w.heap.size) : Below B w w' :=
  ⟨h.os, h.tape, h.output, h.size, fun g hg => h.block g (by omega) (by omega)⟩
theorem ChgB.ofBelow {b : Nat} {w w' : World} (h : Below w.heap.size w w') : ChgB b w w' := ⟨h.os, h.tape, h.output, h.size, fun g hg _ => h.block g hg⟩
theorem ChgB.drewN {b : Nat} {w w' : World} (h : ChgB b w w') (n : Nat) : ChgB b w (w'.drewN n) := ⟨h.os, h.tape, h.output, h.size, h.block⟩
theorem ChgB.drew {b : Nat} {w w' : World} (h : ChgB b w w') : ChgB b w w'.drew := ⟨h.os, h.tape, h.output, h.size, h.block⟩
theorem ChgB.set {b : Nat} {w w' : World} (h : ChgB b w w') (i : Nat) (v : Value) : ChgB b w (w'.setCell ⟨b, i, none⟩ v) :=
  ⟨h.os, h.tape, h.output, by simpa using h.size, fun g hg hn => (Below.heap_setCell _ _ _ _ hn).trans (h.block g hg hn)⟩
/-- A place's block, cell by cell. -/
theorem dev_cell {W : World} {b i : Nat} {cs : Array Value} {t : TypeId} {v : Value} (h : W.heap[b]? = some (.cells cs t (0, 0))) (hi : cs[i]? = some v) : W.cell? ⟨b, i, none⟩ = some v := by
  rw [cell_of_row W b i cs t _ h]; exact hi
theorem dev_frozen {W : World} {b : Nat} (i : Nat) {cs : Array Value} {t : TypeId} (h : W.heap[b]? = some (.cells cs t (0, 0))) : W.frozen? ⟨b, i, none⟩ = false := frozen_of_row W b i cs t h
theorem dev_set {W : World} {b : Nat} {cs : Array Value} {t : TypeId} (h : W.heap[b]? = some (.cells cs t (0, 0))) (i : Nat) (v : Value) : (W.setCell ⟨b, i, none⟩ v).heap[b]? = some (.cells (cs.setIfInBounds i v) t (0, 0)) := heap_setCell_same W b i cs t v h

/-! ### The program's own -/
theorem check_any (off width size : Int) (w : World) (ho : U64v off) (hs : U64v size) (r : Int) (hr : accE size off width = r) :
    Calls Try.prog 10 #[.int .u64 off, .int .i64 width, .int .u64 size] w fun e w' => e = .returned (.int .i64 r) ∧ w = w' := by
  obtain ⟨o0, o1⟩ := ho
  obtain ⟨s0, s1⟩ := hs
  rcases accE_cases size off width with ⟨e, h1⟩ | ⟨e, h1, h2⟩ | ⟨e, h1, h2, h3⟩
  · obtain rfl : r = 17 := hr.symm.trans e
    go_enter Try.func10, Try.ntmps10
    go_wp2
    go_ret
    exact ⟨rfl, rfl⟩
  · obtain rfl : r = 18 := hr.symm.trans e
    clear e hr
    by_cases hw : width = 4
    · have hm : (off % 4 != 0) = true := by rw [bne_iff_ne]; exact fun h => h2 ⟨hw, h⟩
      clear h2
      subst hw
      go_enter Try.func10, Try.ntmps10
      go_wp2
      go_ret
      exact ⟨rfl, rfl⟩
    · have hw' : (width != 4) = true := by rw [bne_iff_ne]; exact hw
      clear h2
      go_enter Try.func10, Try.ntmps10
      go_wp2
      go_ret
      exact ⟨rfl, rfl⟩
  · obtain rfl : r = 0 := hr.symm.trans e
    clear e hr
    subst h2
    go_enter Try.func10, Try.ntmps10
    go_wp2
    go_ret
    exact ⟨rfl, rfl⟩
end Go.Proofs.Ytobdfffiamfjgaa
