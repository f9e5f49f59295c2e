/-
  Layer 2, NameKinds: for every text the program's and the document's answers whether it is a node's name, or a property's, are the same.
-/
import Derived.Test.YtbkopplepaonlaaNRefNode
import Derived.Test.YtbkopplepaonlaaNAwake
namespace Go.Proofs.Ytbkopplepaonlaa
open Go.RowKit
set_option linter.unusedVariables false
set_option linter.unusedSimpArgs false

theorem prop_any (s : ByteArray) (w : World) (hs : s.size ≤ 10000) (r : Bool) (hr : r = madeB propMarks s.data.toList) :
    Calls Try.prog 8 #[.string s] w fun e w' => e = .returned (.bool r) ∧ w = w' := by
  have C := Lib.hid (made_any s ⟨#[44, 46, 95, 43, 45, 63, 35]⟩ w hs r hr)
  clear hr
  go_enter Try.func8, Try.ntmps8
  go_wp2_with (go_at_call 14; refine C.out.mono ?_; rintro e w' ⟨rfl, rfl⟩)
  go_ret
  exact ⟨rfl, rfl⟩

/-- Both Nodes answer the same. -/
theorem nodes_same (s : ByteArray) (hs : s.size ≤ 10000) : ∃ r : Bool, ∃ d : Nat, ∀ w,
    (Calls Try.prog 6 #[.string s] w fun e w' => e = .returned (.bool r) ∧ w' = w.drewN d) ∧
    (Calls Try.prog 7 #[.string s] w fun e w' => e = .returned (.bool r) ∧ w = w') := by
  rcases cut_or_not s with h | ⟨i, h⟩
  · exact ⟨_, 0, fun w => ⟨(node_none s w h hs _ rfl).mono fun e w' ⟨h1, h2⟩ => ⟨h1, h2.symm⟩, refnode_none s w h hs _ rfl⟩⟩
  · exact ⟨_, 1, fun w => ⟨node_some s i w h hs _ _ rfl rfl, refnode_some s i w h hs _ rfl⟩⟩

set_option maxHeartbeats 1000000 in
theorem nameKinds_true (s : ByteArray) (w : World) (hm : s.size ≤ maxLen) :
    Calls Try.prog 3 #[.string s] w fun e w' => e = .returned (.bool true) ∧ ∃ n, w' = w.drewN n := by
  unfold maxLen at hm
  by_cases hs : s.size ≤ 10000
  · obtain ⟨r, d, H⟩ := nodes_same s hs
    obtain ⟨p, hp⟩ : ∃ p, p = madeB propMarks s.data.toList := ⟨_, rfl⟩
    have C1 := Lib.hid H
    have C2 := Lib.hid (fun w => And.intro (prop_any s w hs p hp) (refprop_any s w hs p hp))
    clear H hp
    have hlen : ¬ (10000 < (s.size : Int)) := by omega
    go_enter Try.func3, Try.ntmps3
    go_wp2_with fail
    refine (awake2 _).mono ?_
    rintro e w' ⟨rfl, rfl⟩
    go_wp2_with fail
    refine (C1.out _).1.mono ?_
    rintro e w' ⟨rfl, rfl⟩
    go_wp2_with fail
    refine (C1.out _).2.mono ?_
    rintro e w' ⟨rfl, rfl⟩
    go_wp2_with fail
    refine (C2.out _).1.mono ?_
    rintro e w' ⟨rfl, rfl⟩
    go_wp2_with fail
    refine (C2.out _).2.mono ?_
    rintro e w' ⟨rfl, rfl⟩
    go_wp2
    go_ret
    exact ⟨congrArg (fun b => Ending.returned (.bool b)) (by simp), _, rfl⟩
  · have hlen : 10000 < (s.size : Int) := by omega
    go_enter Try.func3, Try.ntmps3
    go_wp2_with fail
    refine (awake2 _).mono ?_
    rintro e w' ⟨rfl, rfl⟩
    go_wp2_with fail
    refine (awake2 _).mono ?_
    rintro e w' ⟨rfl, rfl⟩
    go_wp2
    go_ret
    exact ⟨rfl, _, rfl⟩
end Go.Proofs.Ytbkopplepaonlaa
