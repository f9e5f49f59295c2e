/-
  Layer 3: which property, or which node right below, has a name.
-/
import Derived.Test.YtjilkifecdigfaaTIdx
namespace Go.Proofs.Ytjilkifecdigfaa
open Go.RowKit
set_option linter.unusedVariables false
set_option linter.unusedSimpArgs false

end Go.Proofs.Ytjilkifecdigfaa
