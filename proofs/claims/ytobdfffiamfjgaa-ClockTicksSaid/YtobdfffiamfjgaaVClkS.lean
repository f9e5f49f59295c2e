/-
  A clock: what it is, and what is asked of the program's one.
-/
import Derived.Test.YtobdfffiamfjgaaVDev
namespace Go.Proofs.Ytobdfffiamfjgaa
open Go.RowKit
set_option linter.unusedVariables false
set_option linter.unusedSimpArgs false

structure ClkS where
  count : Int
  anew : Int
  runs : Bool
  raises : Bool
  done : Bool
/-- A new clock, as it lies (the program's fields: fit it to them). -/
abbrev clkZ : Obj := .cells #[.int .u32 0, .int .u32 0, .int .u32 0, .bool false] 27
def ClkAt (W : World) (b : Nat) (s : ClkS) : Prop := W.heap[b]? = some (.cells #[.int .u32 s.count, .int .u32 s.anew, .int .u32 (bitI s.runs + 2 * bitI s.raises), .bool s.done] 27 (0, 0)) ∧ U32v s.count ∧ U32v s.anew
def clkLoad (s : ClkS) (off : Int) : Int := if off = 0 then s.count else if off = 4 then bitI s.runs + 2 * bitI s.raises else if off = 8 then bitI s.done else s.anew
def clkStore (s : ClkS) (off v : Int) : ClkS :=
  if off = 0 then { s with count := v % 4294967296 } else if off = 4 then { s with runs := decide (v % 2 = 1), raises := decide (v / 2 % 2 = 1) } else if off = 8 then { s with done := s.done && decide (v % 2 = 0) } else { s with anew := v % 4294967296 }
def clkTick (s : ClkS) : ClkS := if s.runs = true ∧ 0 < s.count then (if s.count - 1 = 0 then { s with count := s.anew, done := true } else { s with count := s.count - 1 }) else s

theorem ClkAt.lt {W : World} {b : Nat} {s : ClkS} (h : ClkAt W b s) : b < W.heap.size := (Array.getElem?_eq_some_iff.1 h.1).1
theorem ClkAt.on {W W' : World} {b : Nat} {s : ClkS} (h : ClkAt W b s) (hb : Below W.heap.size W W') : ClkAt W' b s := ⟨(hb.block b h.lt).trans h.1, h.2⟩
theorem ClkAt.zero (w : World) : ClkAt (w.alloc clkZ) w.heap.size ⟨0, 0, false, false, false⟩ := ⟨heap_alloc_new _ _, ⟨by decide, by decide⟩, ⟨by decide, by decide⟩⟩

/-! ### What is asked of the program -/
def Awake18 : Prop := ∀ w : World, Calls Try.prog 5 #[] w fun e w' => e = .returned (.bool true) ∧ Below w.heap.size w w'
def clkLoadE (s : ClkS) (off width : Int) : Int := if accE 16 off width = 0 then clkLoad s off else 0
def clkStoreE (s : ClkS) (off width v : Int) : ClkS := if accE 16 off width = 0 then clkStore s off v else s

def ClkLoadOK : Prop := ∀ (b : Nat) (s : ClkS) (off width : Int) (w : World), ClkAt w b s → U64v off → Calls Try.prog 8 #[.pointer (some ⟨b, 0, none⟩), .int .u64 off, .int .i64 width] w fun e w' => e = .returned (.tuple #[.int .u64 (clkLoadE s off width), .int .i64 (accE 16 off width)]) ∧ ClkAt w' b s ∧ ChgB b w w'
def ClkStoreOK : Prop := ∀ (b : Nat) (s : ClkS) (off width v : Int) (w : World), ClkAt w b s → U64v off → U64v v → Calls Try.prog 6 #[.pointer (some ⟨b, 0, none⟩), .int .u64 off, .int .i64 width, .int .u64 v] w fun e w' => e = .returned (.int .i64 (accE 16 off width)) ∧ ClkAt w' b (clkStoreE s off width v) ∧ ChgB b w w'
def ClkTickOK : Prop := ∀ (b : Nat) (s : ClkS) (w : World), ClkAt w b s → Calls Try.prog 7 #[.pointer (some ⟨b, 0, none⟩)] w fun e w' => e = .returned (.tuple #[]) ∧ ClkAt w' b (clkTick s) ∧ ChgB b w w'
def ClkHighOK : Prop := ∀ (b : Nat) (s : ClkS) (w : World), ClkAt w b s → Calls Try.prog 9 #[.pointer (some ⟨b, 0, none⟩)] w fun e w' => e = .returned (.bool (s.raises && s.done)) ∧ ClkAt w' b s ∧ ChgB b w w'
def ClkNilOK : Prop := (∀ (off width : Int) (w : World), Calls Try.prog 8 #[.pointer none, .int .u64 off, .int .i64 width] w fun e w' => e = .returned (.tuple #[.int .u64 0, .int .i64 1]) ∧ Below w.heap.size w w') ∧
  (∀ (off width v : Int) (w : World), Calls Try.prog 6 #[.pointer none, .int .u64 off, .int .i64 width, .int .u64 v] w fun e w' => e = .returned (.int .i64 1) ∧ Below w.heap.size w w') ∧
  (∀ (w : World), Calls Try.prog 7 #[.pointer none] w fun e w' => e = .returned (.tuple #[]) ∧ Below w.heap.size w w') ∧
  (∀ (w : World), Calls Try.prog 9 #[.pointer none] w fun e w' => e = .returned (.bool false) ∧ Below w.heap.size w w')

theorem clk_made (count anew : Int) (ht : U32v count) (ha : U32v anew) : clkStoreE (clkStoreE (clkStoreE ⟨0, 0, false, false, false⟩ 0 4 count) 12 4 anew) 4 4 3 = ⟨count, anew, true, true, false⟩ := by
  have h1 : count % 4294967296 = count := by have := ht.1; have := ht.2; omega
  have h2 : anew % 4294967296 = anew := by have := ha.1; have := ha.2; omega
  simp [clkStoreE, clkStore, accE, h1, h2]
end Go.Proofs.Ytobdfffiamfjgaa
