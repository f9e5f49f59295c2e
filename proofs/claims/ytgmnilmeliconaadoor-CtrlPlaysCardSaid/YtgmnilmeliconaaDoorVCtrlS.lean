/-
  A controller: what it is, and what is asked of the program's one.
-/
import Derived.Test.YtgmnilmeliconaaDoorVNext
import Derived.Lib.TrailingZeros
namespace Go.Proofs.YtgmnilmeliconaaDoor
open Go.RowKit
set_option linter.unusedVariables false
set_option linter.unusedSimpArgs false

structure CtrlS where
  lines : Nat
  mask : Nat
/-- A new controller, as it lies (the program's fields: fit it to them). -/
abbrev ctrlZ : Obj := .cells #[.int .u32 0, .int .u32 0] 27
/-- The library's table of lowest bits lies in its variable. -/
def Tab32 (W : World) : Prop := ∀ j, j < 32 → W.cell? ⟨0, j, none⟩ = some (.int .u8 (Lib.deBruijn32tab.getD j 0 : Nat))
theorem Tab32.lt {W : World} (h : Tab32 W) : 0 < W.heap.size := World.block_lt_of_cell? W ⟨0, 0, none⟩ (h 0 (by decide))
theorem Tab32.on {W W' : World} {B : Nat} (h : Tab32 W) (hB : 0 < B) (hb : Below B W W') : Tab32 W' := fun j hj => (hb.cell hB).trans (h j hj)
theorem Tab32.below {W W' : World} (h : Tab32 W) (hb : Below W.heap.size W W') : Tab32 W' := h.on h.lt hb
theorem Tab32.chg {W W' : World} {b : Nat} (h : Tab32 W) (hB : 0 < b) (hc : ChgB b W W') : Tab32 W' := fun j hj => by
  have hl := h.lt
  have e : W'.heap[0]? = W.heap[0]? := hc.block _ hl (by omega)
  have := h j hj
  unfold World.cell? at this ⊢
  rw [e]
  exact this
def CtrlAt (W : World) (b : Nat) (s : CtrlS) : Prop := (W.heap[b]? = some (.cells #[.int .u32 (s.lines : Int), .int .u32 (s.mask : Int)] 27 (0, 0)) ∧ Tab32 W ∧ 0 < b) ∧ s.lines < 4294967296 ∧ s.mask < 4294967296
theorem CtrlAt.lt {W : World} {b : Nat} {s : CtrlS} (h : CtrlAt W b s) : b < W.heap.size := (Array.getElem?_eq_some_iff.1 h.1.1).1
theorem CtrlAt.on {W W' : World} {b : Nat} {s : CtrlS} (h : CtrlAt W b s) (hb : Below W.heap.size W W') : CtrlAt W' b s := ⟨⟨(hb.block b h.lt).trans h.1.1, h.1.2.1.below hb, h.1.2.2⟩, h.2⟩
theorem CtrlAt.chg {W W' : World} {b b1 : Nat} {s : CtrlS} (h : CtrlAt W b s) (hc : ChgB b1 W W') (hn : b < b1) : CtrlAt W' b s := ⟨⟨(hc.block b h.lt (by omega)).trans h.1.1, h.1.2.1.chg (by have := h.1.2.2; omega) hc, h.1.2.2⟩, h.2⟩
theorem CtrlAt.zero (w : World) (h : Tab32 w) : CtrlAt (w.alloc ctrlZ) w.heap.size ⟨0, 0⟩ := ⟨⟨heap_alloc_new _ _, h.below ((Below.refl _ _).alloc (Nat.le_refl _) _), h.lt⟩, by decide, by decide⟩
/-- Bit i of l is as h says. -/
def setN (l i : Nat) (h : Bool) : Nat := if h then l ||| 2 ^ i else l &&& (4294967295 ^^^ 2 ^ i)
def ctrlLoad (s : CtrlS) (off : Int) : Int := if off = 0 then (s.lines : Int) else if off = 4 then (s.mask : Int) else if off = 8 then (nextN s.lines s.mask : Int) else 0
def ctrlStore (s : CtrlS) (off v : Int) : CtrlS := if off = 4 then { s with mask := (v % 4294967296).toNat } else s
def ctrlSetOk (line : Int) : Bool := decide (0 ≤ line) && decide (line < 32)
def ctrlSet (s : CtrlS) (line : Int) (h : Bool) : CtrlS := if ctrlSetOk line then { s with lines := setN s.lines line.toNat h } else s
def ctrlLoadE (s : CtrlS) (off width : Int) : Int := if accE 16 off width = 0 then ctrlLoad s off else 0
def ctrlStoreE (s : CtrlS) (off width v : Int) : CtrlS := if accE 16 off width = 0 then ctrlStore s off v else s

/-! ### What is asked of the program -/
def Awake16 : Prop := ∀ w : World, Calls Tryd.prog 6 #[] w fun e w' => e = .returned (.bool true) ∧ Below w.heap.size w w'
def CtrlLoadOK : Prop := ∀ (b : Nat) (s : CtrlS) (off width : Int) (w : World), CtrlAt w b s → U64v off → Calls Tryd.prog 7 #[.pointer (some ⟨b, 0, none⟩), .int .u64 off, .int .i64 width] w fun e w' => e = .returned (.tuple #[.int .u64 (ctrlLoadE s off width), .int .i64 (accE 16 off width)]) ∧ CtrlAt w' b s ∧ ChgB b w w'
def CtrlStoreOK : Prop := ∀ (b : Nat) (s : CtrlS) (off width v : Int) (w : World), CtrlAt w b s → U64v off → U64v v → Calls Tryd.prog 10 #[.pointer (some ⟨b, 0, none⟩), .int .u64 off, .int .i64 width, .int .u64 v] w fun e w' => e = .returned (.int .i64 (accE 16 off width)) ∧ CtrlAt w' b (ctrlStoreE s off width v) ∧ ChgB b w w'
def CtrlSetOK : Prop := ∀ (b : Nat) (s : CtrlS) (line : Int) (h : Bool) (w : World), CtrlAt w b s → Calls Tryd.prog 12 #[.pointer (some ⟨b, 0, none⟩), .int .i64 line, .bool h] w fun e w' => e = .returned (.int .i64 (if ctrlSetOk line then 0 else 1)) ∧ CtrlAt w' b (ctrlSet s line h) ∧ ChgB b w w'
def CtrlHighOK : Prop := ∀ (b : Nat) (s : CtrlS) (w : World), CtrlAt w b s → Calls Tryd.prog 13 #[.pointer (some ⟨b, 0, none⟩)] w fun e w' => e = .returned (.bool (decide (0 < nextN s.lines s.mask))) ∧ CtrlAt w' b s ∧ ChgB b w w'
def CtrlNilOK : Prop := (∀ (off width : Int) (w : World), Calls Tryd.prog 7 #[.pointer none, .int .u64 off, .int .i64 width] w fun e w' => e = .returned (.tuple #[.int .u64 0, .int .i64 1]) ∧ Below w.heap.size w w') ∧
  (∀ (off width v : Int) (w : World), Calls Tryd.prog 10 #[.pointer none, .int .u64 off, .int .i64 width, .int .u64 v] w fun e w' => e = .returned (.int .i64 1) ∧ Below w.heap.size w w') ∧
  (∀ (line : Int) (h : Bool) (w : World), Calls Tryd.prog 12 #[.pointer none, .int .i64 line, .bool h] w fun e w' => e = .returned (.int .i64 1) ∧ Below w.heap.size w w') ∧
  (∀ (w : World), Calls Tryd.prog 13 #[.pointer none] w fun e w' => e = .returned (.bool false) ∧ Below w.heap.size w w')

/-! ### Numbers -/
theorem mask_bit (i j : Nat) (hj : j < 32) : (4294967295 ^^^ 2 ^ i : Nat).testBit j = !decide (i = j) := by
  rw [Nat.testBit_xor, show (4294967295 : Nat) = 2 ^ 32 - 1 from rfl, Nat.testBit_two_pow_sub_one, decide_eq_true hj, Nat.testBit_two_pow, Bool.true_xor]
theorem big_bit {l j : Nat} (hl : l < 4294967296) (hj : 32 ≤ j) : l.testBit j = false :=
  Nat.testBit_lt_two_pow (Nat.lt_of_lt_of_le hl (by rw [show (4294967296 : Nat) = 2 ^ 32 from rfl]; exact Nat.pow_le_pow_right (by decide) hj))
theorem set_low (L k : Nat) (hk : k < 32) : setN (L % 2 ^ k) k (L.testBit k) = L % 2 ^ (k + 1) := by
  apply Nat.eq_of_testBit_eq
  intro j
  rw [Nat.testBit_mod_two_pow, setN]
  cases h : L.testBit k
  · rw [if_neg (by decide), Nat.testBit_and, Nat.testBit_mod_two_pow]
    by_cases hj : j < k
    · rw [mask_bit k j (by omega), decide_eq_true hj, decide_eq_false (by omega : ¬ k = j), decide_eq_true (by omega : j < k + 1)]; simp
    · rw [decide_eq_false hj]
      by_cases hjk : j = k
      · subst hjk; rw [h]; simp
      · rw [decide_eq_false (by omega : ¬ j < k + 1)]; simp
  · rw [if_pos rfl, Nat.testBit_or, Nat.testBit_mod_two_pow, Nat.testBit_two_pow]
    by_cases hj : j < k
    · rw [decide_eq_true hj, decide_eq_false (by omega : ¬ k = j), decide_eq_true (by omega : j < k + 1)]; simp
    · rw [decide_eq_false hj]
      by_cases hjk : j = k
      · subst hjk; rw [h]; simp
      · rw [decide_eq_false (by omega : ¬ j < k + 1), decide_eq_false (by omega : ¬ k = j)]; simp
/-- What is cleared, and set anew. -/
theorem clear_lt {l i : Nat} (hl : l < 4294967296) : l &&& (4294967295 ^^^ 2 ^ i) < 4294967296 := Nat.lt_of_le_of_lt Nat.and_le_left hl
theorem clear_set {l i : Nat} (hl : l < 4294967296) (hi : i < 32) : ((l &&& (4294967295 ^^^ 2 ^ i)) + 2 ^ i) % 4294967296 = l ||| 2 ^ i := by
  have hc := clear_lt (i := i) hl
  have hp : 2 ^ i < 4294967296 := Nat.lt_of_lt_of_le (Nat.pow_lt_pow_right (by decide) hi) (by decide)
  have h0 : (l &&& (4294967295 ^^^ 2 ^ i)) &&& 2 ^ i = 0 := by
    apply Nat.eq_of_testBit_eq
    intro j
    rw [Nat.testBit_and, Nat.testBit_and, Nat.zero_testBit, Nat.testBit_two_pow]
    by_cases hj : i = j
    · subst hj; rw [mask_bit i i hi]; simp
    · rw [decide_eq_false hj, Bool.and_false]
  have h1 := BitVec.add_eq_or_of_and_eq_zero (BitVec.ofNat 32 (l &&& (4294967295 ^^^ 2 ^ i))) (BitVec.ofNat 32 (2 ^ i)) (by
    apply BitVec.eq_of_toNat_eq
    rw [BitVec.toNat_and, BitVec.toNat_ofNat, BitVec.toNat_ofNat, Nat.mod_eq_of_lt hc, Nat.mod_eq_of_lt hp, h0]; rfl)
  have h2 := congrArg BitVec.toNat h1
  rw [BitVec.toNat_add, BitVec.toNat_or, BitVec.toNat_ofNat, BitVec.toNat_ofNat, Nat.mod_eq_of_lt hc, Nat.mod_eq_of_lt hp] at h2
  rw [show (4294967296 : Nat) = 2 ^ 32 from rfl, h2]
  apply Nat.eq_of_testBit_eq
  intro j
  rw [Nat.testBit_or, Nat.testBit_or, Nat.testBit_and, Nat.testBit_two_pow]
  by_cases hj : i = j
  · subst hj; simp
  · by_cases hj32 : j < 32
    · rw [mask_bit i j hj32, decide_eq_false hj]; simp
    · rw [big_bit hl (by omega)]; simp
theorem and_zero {L M : Nat} (hL : L < 4294967296) (h : ∀ j, j < 32 → (L.testBit j && M.testBit j) = false) : L &&& M = 0 := by
  apply Nat.eq_of_testBit_eq
  intro j
  rw [Nat.testBit_and, Nat.zero_testBit]
  by_cases hj : j < 32
  · exact h j hj
  · have : L < 2 ^ j := Nat.lt_of_lt_of_le hL (by rw [show (4294967296 : Nat) = 2 ^ 32 from rfl]; exact Nat.pow_le_pow_right (by decide) (by omega))
    rw [Nat.testBit_lt_two_pow this, Bool.false_and]
theorem and_some {L M i : Nat} (h : (L.testBit i && M.testBit i) = true) : L &&& M ≠ 0 ∧ (L &&& M) &&& 2 ^ i ≠ 0 := by
  have h1 : (L &&& M).testBit i = true := by rw [Nat.testBit_and]; exact h
  refine ⟨fun e => by (rw [e, Nat.zero_testBit] at h1; cases h1), fun e => ?_⟩
  have h2 : ((L &&& M) &&& 2 ^ i).testBit i = true := by rw [Nat.testBit_and, h1, Nat.testBit_two_pow_self]; rfl
  rw [e, Nat.zero_testBit] at h2
  cases h2
theorem and_low {L M i : Nat} (h : ∀ j, j < i → (L.testBit j && M.testBit j) = false) : (L &&& M) &&& (2 ^ i - 1) = 0 := by
  rw [Nat.and_two_pow_sub_one_eq_mod]
  apply Nat.eq_of_testBit_eq
  intro j
  rw [Nat.testBit_mod_two_pow, Nat.zero_testBit, Nat.testBit_and]
  by_cases hj : j < i
  · rw [h j hj, Bool.and_false]
  · rw [decide_eq_false hj, Bool.false_and]
end Go.Proofs.YtgmnilmeliconaaDoor
