/-
  What a program that does nothing answers wrongly: layer 3's look.
-/
import Derived.Test.YthfonfecangmcaaTSame
namespace Go.Proofs.Ythfonfecangmcaa
open Go.RowKit
set_option linter.unusedVariables false
set_option linter.unusedSimpArgs false

set_option maxHeartbeats 2000000 in
theorem alone_a (w : World) : Calls Try.prog 35 #[.agg #[.string ⟨#[97]⟩, .slice none 0 0, .slice none 0 0], .int .i64 1] w fun e w' => e = .returned (.int .i64 5) ∧ Below w.heap.size w w' := by
  go_enter Try.func35, Try.ntmps35
  go_wp2
  go_ret
  exact ⟨rfl, ((Below.refl _ _).alloc (Nat.le_refl _) _).alloc (by simp) _⟩

set_option maxHeartbeats 2000000 in
theorem checknode_a (w : World) : Calls Try.prog 23 #[.agg #[.string ⟨#[97]⟩, .slice none 0 0, .slice none 0 0], .int .i64 1] w fun e w' => e = .returned (.int .i64 5) ∧ Below w.heap.size w w' := by
  have C := Lib.hid (alone_a (w.alloc (.cells #[.string ⟨#[97]⟩, .slice none 0 0, .slice none 0 0] 27)))
  go_enter Try.func23, Try.ntmps23
  go_wp2_with fail
  refine C.out.mono ?_
  rintro e w' ⟨rfl, hb⟩
  have HB := Lib.hid (((Below.refl w.heap.size w).alloc (Nat.le_refl _) _).trans (hb.mono (by simp)))
  clear hb
  go_wp2
  go_ret
  exact ⟨rfl, HB.out⟩

set_option maxHeartbeats 2000000 in
theorem check_a (w : World) : Calls Try.prog 9 #[.agg #[.int .u32 0, .slice none 0 0, .string ⟨#[97]⟩, .slice none 0 0, .slice none 0 0]] w fun e w' => e = .returned (.int .i64 5) ∧ Below w.heap.size w w' := by
  have C := Lib.hid (checknode_a (w.alloc (.cells #[.int .u32 0, .slice none 0 0, .string ⟨#[97]⟩, .slice none 0 0, .slice none 0 0] 29)))
  go_enter Try.func9, Try.ntmps9
  go_wp2_with fail
  refine C.out.mono ?_
  rintro e w' ⟨rfl, hb⟩
  have HB := Lib.hid (((Below.refl w.heap.size w).alloc (Nat.le_refl _) _).trans (hb.mono (by simp)))
  clear hb
  go_wp2
  go_ret
  exact ⟨rfl, HB.out⟩

/-- The node that holds nothing. -/
def Nd.none : Nd := .mk ⟨#[]⟩ Option.none 0 [] Option.none 0 []
theorem none_in (w : World) (B : Nat) : Nd.none.In w B := .mk _ ⟨by decide, by decide, by decide⟩ (Nat.le_refl _) (by decide) (Nat.le_refl _) (by decide) (fun h => absurd h (Nat.lt_irrefl 0)) (fun p hp => absurd hp (by simp [Nd.none, Nd.props])) (fun h => absurd h (Nat.lt_irrefl 0)) (fun p hp => absurd hp (by simp [Nd.none, Nd.kids]))

set_option maxHeartbeats 2000000 in
theorem awake3 (w : World) : Calls Try.prog 7 #[] w fun e w' => e = .returned (.bool true) ∧ Below w.heap.size w w' := by
  have C1 := Lib.hid (check_a w)
  have C2 := Lib.hid (fun w => same_any Nd.none Nd.none w (none_in _ _) (none_in _ _) true (by kernel_rfl))
  go_enter Try.func7, Try.ntmps7
  go_wp2_with fail
  refine C1.out.mono ?_
  rintro e w' ⟨rfl, hb⟩
  have HB := Lib.hid hb
  clear hb
  go_wp2_with fail
  refine (C2.out _).mono ?_
  rintro e w2 ⟨rfl, hb⟩
  have HB2 := Lib.hid (HB.out.trans (hb.mono HB.out.size))
  clear hb
  go_wp2
  go_ret
  exact ⟨rfl, HB2.out⟩
end Go.Proofs.Ythfonfecangmcaa
