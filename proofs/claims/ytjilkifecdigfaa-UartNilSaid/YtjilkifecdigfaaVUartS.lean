/-
  A UART: what it is, and what is asked of the program's one.
-/
import Derived.Test.YtjilkifecdigfaaVDev
import Derived.Test.YtjilkifecdigfaaMem
import Derived.Deep.WholeRow
namespace Go.Proofs.Ytjilkifecdigfaa
open Go.RowKit
set_option linter.unusedVariables false
set_option linter.unusedSimpArgs false

structure UartS where
  inn : List Int
  out : List Int
  lost : Bool
  raises : Bool
/-- w' is w but for the blocks F, and new ones; F' is F with some new ones. -/
structure ChgF (F F' : Nat → Prop) (w w' : World) : Prop where
  os : w'.os = w.os
  tape : w'.tape = w.tape
  output : w'.output = w.output
  size : w.heap.size ≤ w'.heap.size
  block : ∀ k, k < w.heap.size → ¬ F k → w'.heap[k]? = w.heap[k]?
  fresh : ∀ k, F' k → F k ∨ w.heap.size ≤ k
theorem ChgF.below {F F' : Nat → Prop} {B : Nat} {w w' : World} (h : ChgF F F' w w') (hF : ∀ k, F k → B ≤ k) (hw : B ≤ w.heap.size) : Below B w w' :=
  ⟨h.os, h.tape, h.output, h.size, fun g hg => h.block g (by omega) (fun hk => by have := hF g hk; omega)⟩
theorem ChgF.lo {F F' : Nat → Prop} {B : Nat} {w w' : World} (h : ChgF F F' w w') (hF : ∀ k, F k → B ≤ k) (hw : B ≤ w.heap.size) : ∀ k, F' k → B ≤ k := fun k hk => (h.fresh k hk).elim (hF k) (fun h => by omega)
/-- The cells of a UART: sixteen bytes that came, how many are there, whether some were lost, whether it may raise; the pages that are full, the bytes of the page that is not, how many were sent. -/
abbrev uartCells (cm : List Int) (n : Int) (lost may : Bool) (p : Option Addr) (la : List Int) (sz : Int) : Array Value :=
  (cm.map (Value.int .u8) ++ (Value.int .i64 n :: Value.bool lost :: Value.bool may :: Value.pointer p :: (la.map (Value.int .u8) ++ [Value.int .i64 sz]))).toArray
section
variable {cm : List Int} {n : Int} {lost may : Bool} {p : Option Addr} {la : List Int} {sz : Int} (h1 : cm.length = 16) (h2 : la.length = 64)
include h1
theorem uc_came (i : Nat) (hi : i < 16) : (uartCells cm n lost may p la sz)[i]? = some (.int .u8 (cm.getD i 0)) := by
  have hc : i < cm.length := by omega
  simp [uartCells, List.getElem?_append, List.getD, hc, List.getElem?_eq_getElem hc]
theorem uc_n : (uartCells cm n lost may p la sz)[16]? = some (.int .i64 n) := by simp [uartCells, List.getElem?_append, h1]
theorem uc_lost : (uartCells cm n lost may p la sz)[17]? = some (.bool lost) := by simp [uartCells, List.getElem?_append, h1]
theorem uc_may : (uartCells cm n lost may p la sz)[18]? = some (.bool may) := by simp [uartCells, List.getElem?_append, h1]
theorem uc_p : (uartCells cm n lost may p la sz)[19]? = some (.pointer p) := by simp [uartCells, List.getElem?_append, h1]
theorem us_came (i : Nat) (hi : i < 16) (z : Int) : (uartCells cm n lost may p la sz).setIfInBounds i (.int .u8 z) = uartCells (cm.set i z) n lost may p la sz := by
  have hc : i < cm.length := by omega
  simp [uartCells, List.set_append, hc, List.map_set]
theorem us_n (m : Int) : (uartCells cm n lost may p la sz).setIfInBounds 16 (.int .i64 m) = uartCells cm m lost may p la sz := by simp [uartCells, List.set_append, h1]
theorem us_lost (m : Bool) : (uartCells cm n lost may p la sz).setIfInBounds 17 (.bool m) = uartCells cm n m may p la sz := by simp [uartCells, List.set_append, h1]
theorem us_may (m : Bool) : (uartCells cm n lost may p la sz).setIfInBounds 18 (.bool m) = uartCells cm n lost m p la sz := by simp [uartCells, List.set_append, h1]
theorem us_p (q : Option Addr) : (uartCells cm n lost may p la sz).setIfInBounds 19 (.pointer q) = uartCells cm n lost may q la sz := by simp [uartCells, List.set_append, h1]
include h2
theorem uc_last (i : Nat) (hi : i < 64) : (uartCells cm n lost may p la sz)[20 + i]? = some (.int .u8 (la.getD i 0)) := by
  have hc : i < la.length := by omega
  have e : 20 + i - 16 = i + 4 := by omega
  simp [uartCells, List.getElem?_append, h1, List.getD, List.getElem?_eq_getElem hc, e, hc, show ¬ 20 + i < 16 by omega]
theorem uc_sz : (uartCells cm n lost may p la sz)[84]? = some (.int .i64 sz) := by simp [uartCells, List.getElem?_append, h1, h2]
theorem us_last (i : Nat) (hi : i < 64) (z : Int) : (uartCells cm n lost may p la sz).setIfInBounds (20 + i) (.int .u8 z) = uartCells cm n lost may p (la.set i z) sz := by
  have hc : i < la.length := by omega
  have e : 20 + i - 16 = i + 4 := by omega
  simp [uartCells, List.set_append, h1, e, hc, List.map_set, show ¬ 20 + i < 16 by omega]
theorem us_sz (m : Int) : (uartCells cm n lost may p la sz).setIfInBounds 84 (.int .i64 m) = uartCells cm n lost may p la m := by simp [uartCells, List.set_append, h1, h2]
end
/-- A chain of pages in blocks of F, none of them b: what they hold, the first byte first. -/
inductive Pages (W : World) (F : Nat → Prop) (b : Nat) : Option Addr → List Int → Prop
  | nil : Pages W F b none []
  | cons {k : Nat} {q : Option Addr} {l zs : List Int} (hk : W.heap[k]? = some (.cells (Value.pointer q :: zs.map (Value.int .u8)).toArray 66 (0, 0))) (hF : F k) (hb : k ≠ b) (hz : zs.length = 64) (hzs : ∀ z ∈ zs, 0 ≤ z ∧ z < 256) (hl : Pages W F b q l) : Pages W F b (some ⟨k, 0, none⟩) (l ++ zs)
theorem Pages.keep {W W' : World} {F F' : Nat → Prop} {b : Nat} {p : Option Addr} {l : List Int} (h : Pages W F b p l) (hk : ∀ k, F k → k ≠ b → W'.heap[k]? = W.heap[k]?) (hF : ∀ k, F k → F' k) : Pages W' F' b p l := by
  induction h with
  | nil => exact .nil
  | cons h1 h2 h3 h4 h5 _ ih => exact .cons ((hk _ h2 h3).trans h1) (hF _ h2) h3 h4 h5 ih
theorem Pages.mod {W : World} {F : Nat → Prop} {b : Nat} {p : Option Addr} {l : List Int} (h : Pages W F b p l) : l.length % 64 = 0 := by
  induction h with
  | nil => rfl
  | cons h1 h2 h3 h4 h5 _ ih => rw [List.length_append]; omega
theorem Pages.byte {W : World} {F : Nat → Prop} {b : Nat} {p : Option Addr} {l : List Int} (h : Pages W F b p l) : ∀ z ∈ l, 0 ≤ z ∧ z < 256 := by
  induction h with
  | nil => simp
  | cons h1 h2 h3 h4 h5 _ ih => exact fun z hz => (List.mem_append.1 hz).elim (ih z) (h5 z)
/-- A new UART, as it lies. -/
abbrev uartZ : Obj := .cells (uartCells (List.replicate 16 0) 0 false false none (List.replicate 64 0) 0) 31
/-- The zero value of a UART. -/
theorem uart_zero : ∃ Z : Array Value, uartZ = .cells Z 31 ∧ (∀ w, (zeroValue 31).run Try.prog w = .ok (.agg Z) w) := by
  exact ⟨_, rfl, (zero_of_info (n := 85) (by kernel_rfl)).1⟩
/-- The block of a UART. -/
def UBox (W : World) (b : Nat) (cm : List Int) (n : Int) (lost may : Bool) (p : Option Addr) (la : List Int) (sz : Int) : Prop :=
  W.heap[b]? = some (.cells (uartCells cm n lost may p la sz) 31 (0, 0)) ∧ cm.length = 16 ∧ la.length = 64
/-- A UART at b; its memory are the blocks F. -/
def UartAt (W : World) (b : Nat) (F : Nat → Prop) (s : UartS) : Prop :=
  F b ∧ (∀ k, F k → k < W.heap.size) ∧ ∃ cm p la pg, UBox W b cm s.inn.length s.lost s.raises p la s.out.length ∧ s.inn.length ≤ 16 ∧ (∀ z ∈ cm, 0 ≤ z ∧ z < 256) ∧ (∀ z ∈ la, 0 ≤ z ∧ z < 256) ∧
    s.inn = cm.take s.inn.length ∧ Pages W F b p pg ∧ s.out = pg ++ la.take (s.out.length - pg.length) ∧ pg.length = s.out.length - s.out.length % 64
theorem UartAt.zero (w : World) : UartAt (w.alloc uartZ) w.heap.size (fun k => k = w.heap.size) ⟨[], [], false, false⟩ :=
  ⟨rfl, fun k hk => by rw [hk]; simp, List.replicate 16 0, none, List.replicate 64 0, [], ⟨heap_alloc_new _ _, by simp, by simp⟩, by simp, fun z hz => by rw [List.eq_of_mem_replicate hz]; decide, fun z hz => by rw [List.eq_of_mem_replicate hz]; decide, rfl, .nil, rfl, rfl⟩
theorem UartAt.keep {W W' : World} {b : Nat} {F : Nat → Prop} {s : UartS} (h : UartAt W b F s) (hk : ∀ k, F k → W'.heap[k]? = W.heap[k]?) (hs : W.heap.size ≤ W'.heap.size) : UartAt W' b F s := by
  obtain ⟨hb, hlt, cm, p, la, pg, h1, h2, h3, h4, h5, h6, h7, h8⟩ := h
  exact ⟨hb, fun k hk' => by have := hlt k hk'; omega, cm, p, la, pg, ⟨(hk b hb).trans h1.1, h1.2⟩, h2, h3, h4, h5, h6.keep (fun k hf _ => hk k hf) (fun k hf => hf), h7, h8⟩
def uartLoad (s : UartS) (off : Int) : Int := if off = 0 then s.inn.headD 0 else if off = 4 then bitI (decide (0 < s.inn.length)) + 2 * bitI s.lost else if off = 8 then bitI s.raises else (s.inn.length : Int)
def uartRead (s : UartS) (off : Int) : UartS := if off = 0 then { s with inn := s.inn.tail } else s
def uartStore (s : UartS) (off v : Int) : UartS := if off = 0 then { s with out := s.out ++ [v % 256] } else if off = 4 then { s with lost := s.lost && decide (v / 2 % 2 = 0) } else if off = 8 then { s with raises := decide (v % 2 = 1) } else s
def uartCome (s : UartS) (z : Int) : UartS := if s.inn.length < 16 then { s with inn := s.inn ++ [z] } else { s with lost := true }
def uartLoadE (s : UartS) (off width : Int) : Int := if accE 16 off width = 0 then uartLoad s off else 0
def uartReadE (s : UartS) (off width : Int) : UartS := if accE 16 off width = 0 then uartRead s off else s
def uartStoreE (s : UartS) (off width v : Int) : UartS := if accE 16 off width = 0 then uartStore s off v else s

/-! ### What is asked of the program -/
def Awake17 : Prop := ∀ w : World, Calls Try.prog 6 #[] w fun e w' => e = .returned (.bool true) ∧ Below w.heap.size w w'
def UartLoadOK : Prop := ∀ (b : Nat) (F : Nat → Prop) (s : UartS) (off width : Int) (w : World), UartAt w b F s → U64v off → Calls Try.prog 7 #[.pointer (some ⟨b, 0, none⟩), .int .u64 off, .int .i64 width] w fun e w' => e = .returned (.tuple #[.int .u64 (uartLoadE s off width), .int .i64 (accE 16 off width)]) ∧ ∃ F', UartAt w' b F' (uartReadE s off width) ∧ ChgF F F' w w'
def UartStoreOK : Prop := ∀ (b : Nat) (F : Nat → Prop) (s : UartS) (off width v : Int) (w : World), UartAt w b F s → U64v off → U64v v → s.out.length ≤ 1048576 → Calls Try.prog 10 #[.pointer (some ⟨b, 0, none⟩), .int .u64 off, .int .i64 width, .int .u64 v] w fun e w' => e = .returned (.int .i64 (accE 16 off width)) ∧ ∃ F', UartAt w' b F' (uartStoreE s off width v) ∧ ChgF F F' w w'
def UartComeOK : Prop := ∀ (b : Nat) (F : Nat → Prop) (s : UartS) (z : Int) (w : World), UartAt w b F s → 0 ≤ z ∧ z ≤ 255 → Calls Try.prog 12 #[.pointer (some ⟨b, 0, none⟩), .int .u8 z] w fun e w' => e = .returned (.int .i64 (if s.inn.length < 16 then 0 else 20)) ∧ ∃ F', UartAt w' b F' (uartCome s z) ∧ ChgF F F' w w'
def UartNilOK : Prop := (∀ (off width : Int) (w : World), Calls Try.prog 7 #[.pointer none, .int .u64 off, .int .i64 width] w fun e w' => e = .returned (.tuple #[.int .u64 0, .int .i64 1]) ∧ Below w.heap.size w w') ∧
  (∀ (off width v : Int) (w : World), Calls Try.prog 10 #[.pointer none, .int .u64 off, .int .i64 width, .int .u64 v] w fun e w' => e = .returned (.int .i64 1) ∧ Below w.heap.size w w') ∧
  (∀ (z : Int) (w : World), Calls Try.prog 12 #[.pointer none, .int .u8 z] w fun e w' => e = .returned (.int .i64 1) ∧ Below w.heap.size w w') ∧
  (∀ (w : World), Calls Try.prog 16 #[.pointer none] w fun e w' => (∃ A c, e = .returned (.slice A 0 c)) ∧ Below w.heap.size w w') ∧
  (∀ (w : World), Calls Try.prog 14 #[.pointer none] w fun e w' => e = .returned (.bool false) ∧ Below w.heap.size w w')
/-- What has come of the first k of these. -/
def uartOf (zs : List Int) (k : Nat) : UartS := ⟨(zs.take k).take 16, [], decide (16 < k), false⟩
theorem uart_come (zs : List Int) (k : Nat) (hk : k < zs.length) : uartCome (uartOf zs k) zs[k] = uartOf zs (k + 1) := by
  unfold uartCome uartOf
  simp only [List.take_take, List.length_take]
  by_cases h : k < 16
  · rw [if_pos (by omega), decide_eq_false (by omega : ¬ 16 < k), decide_eq_false (by omega : ¬ 16 < k + 1), Nat.min_eq_right (by omega), Nat.min_eq_right (by omega), List.take_succ_eq_append_getElem hk]
  · rw [if_neg (by omega), decide_eq_true (by omega : 16 < k + 1), Nat.min_eq_left (by omega), Nat.min_eq_left (by omega)]
end Go.Proofs.Ytjilkifecdigfaa
