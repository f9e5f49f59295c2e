/-
  The document's devices, as they lie; of an RTC: a cell that is read.
-/
import Derived.Test.YtjilkifecdigfaaVDev
import Derived.Test.YtjilkifecdigfaaReg
namespace Go.Proofs.Ytjilkifecdigfaa
open Go.RowKit
set_option linter.unusedVariables false
set_option linter.unusedSimpArgs false

structure DevR where
  kind : Int
  mem : Value
  inn : Value
  out : Value
  lost : Bool
  may : Bool
  r0 : Int
  r1 : Int
  r2 : Int
  r3 : Int
  r4 : Int
  r5 : Int
  r6 : Int
  r7 : Int
def RefAt (W : World) (b : Nat) (d : DevR) : Prop := W.heap[b]? = some (.cells #[.int .i64 d.kind, d.mem, d.inn, d.out, .bool d.lost, .bool d.may, .int .u32 d.r0, .int .u32 d.r1, .int .u32 d.r2, .int .u32 d.r3, .int .u32 d.r4, .int .u32 d.r5, .int .u32 d.r6, .int .u32 d.r7] 37 (0, 0))
theorem RefAt.lt {W : World} {b : Nat} {s : DevR} (h : RefAt W b s) : b < W.heap.size := (Array.getElem?_eq_some_iff.1 h).1
theorem RefAt.on {W W' : World} {b : Nat} {s : DevR} (h : RefAt W b s) (hb : Below W.heap.size W W') : RefAt W' b s := (hb.block b h.lt).trans h

theorem one_any (b : Bool) (w : World) : Calls Try.prog 22 #[.bool b] w fun e w' => e = .returned (.int .u64 (bitI b)) ∧ w = w' := by
  cases b
  · go_enter Try.func22, Try.ntmps22
    go_wp2
    go_ret
    exact ⟨rfl, rfl⟩
  · go_enter Try.func22, Try.ntmps22
    go_wp2
    go_ret
    exact ⟨rfl, rfl⟩

set_option maxRecDepth 20000 in
theorem index4 (a b c d : Int) (k : Nat) (x : Int) (hx : [a, b, c, d][k]? = some x) (w : World) : (Instr.index 58 (.agg #[.int .u64 a, .int .u64 b, .int .u64 c, .int .u64 d]) (.int .u64 (k : Int))).run Try.prog w = .ok (.int .u64 x) w := by
  have u : Try.prog.underlying 58 = some (.array 4 38) := Try.underlying58
  rcases (by have := (List.getElem?_eq_some_iff.1 hx).1; simp at this; omega : k = 0 ∨ k = 1 ∨ k = 2 ∨ k = 3) with rfl | rfl | rfl | rfl
  · simp at hx; subst hx; rfl
  · simp at hx; subst hx; rfl
  · simp at hx; subst hx; rfl
  · simp at hx; subst hx; rfl
end Go.Proofs.Ytjilkifecdigfaa
