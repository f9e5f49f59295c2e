/-
  The document's blob, its small parts: a cell's bytes, bytes with noughts up to a multiple of 4.
-/
import Derived.Test.YtjilkifecdigfaaDZero
namespace Go.Proofs.Ytjilkifecdigfaa
open Go.RowKit
set_option linter.unusedVariables false
set_option linter.unusedSimpArgs false

theorem four_byte (v : Int) (h0 : 0 ≤ v) (h1 : v ≤ 4294967295) : ∀ z ∈ four v, 0 ≤ z ∧ z < 256 := by
  intro z hz
  simp only [four, List.mem_cons, List.not_mem_nil, or_false] at hz
  omega
theorem and_mask (v : Nat) (hv : v ≤ 4294967295) : bits .and .u64 (v : Int) 4294967295 = v := by
  have h := u64_and_nat v 4294967295 (by omega) (by omega)
  have e : v &&& 4294967295 = v := by
    have := Nat.and_two_pow_sub_one_eq_mod v 32
    rw [show (2 ^ 32 - 1 : Nat) = 4294967295 from by decide, show (2 ^ 32 : Nat) = 4294967296 from by decide] at this
    rw [this]; omega
  rw [e] at h
  exact h

/-- How many noughts are missing up to a multiple of 4. -/
def padN (n : Nat) : Nat := (4 - n % 4) % 4
/-- Bytes, and noughts up to a multiple of 4. -/
def padL (zs : List Int) : List Int := zs ++ List.replicate (padN zs.length) 0
theorem padL_length (zs : List Int) : (padL zs).length = zs.length + padN zs.length := by simp [padL]
theorem padN_lt (n : Nat) : padN n < 4 := by unfold padN; omega
theorem padL_byte {zs : List Int} (h : ∀ z ∈ zs, 0 ≤ z ∧ z < 256) : ∀ z ∈ padL zs, 0 ≤ z ∧ z < 256 := by
  intro z hz
  rcases List.mem_append.1 hz with h' | h'
  · exact h z h'
  · rw [List.mem_replicate] at h'; omega
theorem bytes_more {zs : List Int} (h : ∀ z ∈ zs, 0 ≤ z ∧ z < 256) (j : Nat) : ∀ z ∈ zs ++ List.replicate j 0, 0 ≤ z ∧ z < 256 := by
  intro z hz
  rcases List.mem_append.1 hz with h' | h'
  · exact h z h'
  · rw [List.mem_replicate] at h'; omega

/-- A new block of bytes is shown. -/
theorem shows_lit (w : World) (zs : List Int) (n : Nat) (cs : Array Value) (hn : zs.length = n) (hz : ∀ z ∈ zs, 0 ≤ z ∧ z < 256) (hcs : cs = (u8s zs).toArray) (t : TypeId) :
    Shows (w.alloc (.cells cs t)) (w.heap.size + 1) (some ⟨w.heap.size, 0, none⟩) n zs := by
  subst hcs
  refine ⟨hn, hz, fun h0 => ⟨w.heap.size, 0, rfl, by omega, fun i hi => ?_⟩⟩
  rw [Nat.zero_add, cell_of_row (w.alloc (.cells (u8s zs).toArray t)) w.heap.size i _ t (0, 0) (heap_alloc_new w _)]
  have hi' : i < zs.length := by omega
  simp [List.getD, List.getElem?_eq_getElem hi']

def lenOfV : Value → Nat
  | .slice _ k _ => k
  | _ => 0
/-- How many noughts are missing. -/
def missing (v : Value) : Nat := padN (lenOfV v)

end Go.Proofs.Ytjilkifecdigfaa
