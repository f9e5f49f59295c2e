/-
  Layer 7: what the program's functions answer, together.
-/
import Derived.Test.YthlaoidlhbjaiaaPWide
import Derived.Test.YthlaoidlhbjaiaaPTexts
import Derived.Test.YthlaoidlhbjaiaaPOne
import Derived.Test.YthlaoidlhbjaiaaPFrom
