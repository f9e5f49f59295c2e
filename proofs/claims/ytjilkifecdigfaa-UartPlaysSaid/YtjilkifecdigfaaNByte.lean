/-
  Names, byte by byte: letters, digits, marks; the program's and the document's tests.
-/
import Derived.Test.YtjilkifecdigfaaChecked
import Derived.Below
import Derived.WalkKit
import Derived.WalkLawsBesides
import Derived.WalkSpells
import Derived.Lib.Hide
import Derived.Lib.IndexLaws
import Derived.IntWalk
import Derived.OpenShut
import Derived.Test.YtjilkifecdigfaaShelf
namespace Go.Proofs.Ytjilkifecdigfaa
open Go.RowKit
set_option linter.unusedVariables false
set_option linter.unusedSimpArgs false

def letB (c : Int) : Bool := decide ((97 ≤ c ∧ c ≤ 122) ∨ (65 ≤ c ∧ c ≤ 90))
def digB (c : Int) : Bool := decide (48 ≤ c ∧ c ≤ 57)
def markB (c : Int) : Bool := decide (c = 44 ∨ c = 46 ∨ c = 95 ∨ c = 43 ∨ c = 45)
def stB (c : Int) : Bool := letB c || digB c || markB c

end Go.Proofs.Ytjilkifecdigfaa
