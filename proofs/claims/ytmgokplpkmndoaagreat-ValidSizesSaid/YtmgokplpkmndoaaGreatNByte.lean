/-
  Names, byte by byte: letters, digits, marks; the program's and the document's tests.
-/
import Derived.Test.YtmgokplpkmndoaaGreatChecked
import Derived.Below
import Derived.WalkKit
import Derived.WalkLawsBesides
import Derived.WalkSpells
import Derived.Lib.Hide
import Derived.Lib.IndexLaws
import Derived.IntWalk
import Derived.OpenShut
import Derived.Test.YtmgokplpkmndoaaGreatShelf
namespace Go.Proofs.YtmgokplpkmndoaaGreat
open Go.RowKit
set_option linter.unusedVariables false
set_option linter.unusedSimpArgs false

def letB (c : Int) : Bool := decide ((97 ≤ c ∧ c ≤ 122) ∨ (65 ≤ c ∧ c ≤ 90))
def digB (c : Int) : Bool := decide (48 ≤ c ∧ c ≤ 57)
def markB (c : Int) : Bool := decide (c = 44 ∨ c = 46 ∨ c = 95 ∨ c = 43 ∨ c = 45)
def stB (c : Int) : Bool := letB c || digB c || markB c

set_option maxHeartbeats 400000 in
theorem letter_any (c : Int) (w : World) (h : 0 ≤ c ∧ c ≤ 255) (r : Bool) (hr : r = letB c) :
    Calls Tryz.prog 156 #[.int .u8 c] w fun e w' => e = .returned (.bool r) ∧ w = w' := by
  have HR := Lib.hid hr
  clear hr
  go_enter Tryz.func156, Tryz.ntmps156
  go_wp2
  all_goals
    go_ret
    refine ⟨congrArg (fun b => Ending.returned (.bool b)) ?_, rfl⟩
    rw [HR.out, Bool.eq_iff_iff]
    simp only [letB, Bool.or_eq_true, Bool.and_eq_true, decide_eq_true_eq]
    try simp
    try omega

set_option maxHeartbeats 400000 in
theorem digit_any (c : Int) (w : World) (h : 0 ≤ c ∧ c ≤ 255) (r : Bool) (hr : r = digB c) :
    Calls Tryz.prog 157 #[.int .u8 c] w fun e w' => e = .returned (.bool r) ∧ w = w' := by
  have HR := Lib.hid hr
  clear hr
  go_enter Tryz.func157, Tryz.ntmps157
  go_wp2
  all_goals
    go_ret
    refine ⟨congrArg (fun b => Ending.returned (.bool b)) ?_, rfl⟩
    rw [HR.out, Bool.eq_iff_iff]
    simp only [digB, Bool.or_eq_true, Bool.and_eq_true, decide_eq_true_eq]
    try simp
    try omega

end Go.Proofs.YtmgokplpkmndoaaGreat
