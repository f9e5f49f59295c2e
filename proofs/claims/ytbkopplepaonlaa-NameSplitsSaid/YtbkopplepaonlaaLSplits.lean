/-
  Layer 2, NameSplits: for every text name.Split parts it at the first @, as the document says.
-/
import Derived.Test.YtbkopplepaonlaaNRef
import Derived.Test.YtbkopplepaonlaaNSplit
import Derived.Test.YtbkopplepaonlaaNAwake
namespace Go.Proofs.Ytbkopplepaonlaa
open Go.RowKit
set_option linter.unusedVariables false
set_option linter.unusedSimpArgs false

set_option maxHeartbeats 1000000 in
theorem nameSplits_true (s : ByteArray) (w : World) (hm : s.size ≤ maxLen) :
    Calls Try.prog 4 #[.string s] w fun e w' => e = .returned (.bool true) ∧ ∃ n, w' = w.drewN n := by
  unfold maxLen at hm
  by_cases hs : s.size ≤ 10000
  · have hlen : ¬ (10000 < (s.size : Int)) := by omega
    rcases cut_or_not s with h | ⟨i, h⟩
    · have C1 := Lib.hid (fun w => split_none s w h)
      have C2 := Lib.hid (fun w => refcut_any s w hs (-1) h.symm)
      clear h
      go_enter Try.func4, Try.ntmps4
      go_wp2_with fail
      refine (awake2 _).mono ?_
      rintro e w' ⟨rfl, rfl⟩
      go_wp2_with fail
      refine (C1.out _).mono ?_
      rintro e w' ⟨rfl, rfl⟩
      go_wp2_with fail
      refine (C2.out _).mono ?_
      rintro e w' ⟨rfl, rfl⟩
      go_wp2
      go_ret
      exact ⟨rfl, _, rfl⟩
    · have C1 := Lib.hid (fun w => split_some s i w h hs)
      have C2 := Lib.hid (fun w => refcut_any s w hs i h.2.symm)
      have hi := h.1
      clear h
      have i0 : ¬ ((i : Int) < 0) := by omega
      go_enter Try.func4, Try.ntmps4
      go_wp2_with fail
      refine (awake2 _).mono ?_
      rintro e w' ⟨rfl, rfl⟩
      go_wp2_with fail
      refine (C1.out _).mono ?_
      rintro e w' ⟨rfl, rfl⟩
      go_wp2_with fail
      refine (C2.out _).mono ?_
      rintro e w' ⟨rfl, rfl⟩
      go_wp2
      go_ret
      exact ⟨rfl, _, rfl⟩
  · have hlen : 10000 < (s.size : Int) := by omega
    go_enter Try.func4, Try.ntmps4
    go_wp2_with fail
    refine (awake2 _).mono ?_
    rintro e w' ⟨rfl, rfl⟩
    go_wp2_with fail
    refine (awake2 _).mono ?_
    rintro e w' ⟨rfl, rfl⟩
    go_wp2
    go_ret
    exact ⟨rfl, _, rfl⟩
end Go.Proofs.Ytbkopplepaonlaa
