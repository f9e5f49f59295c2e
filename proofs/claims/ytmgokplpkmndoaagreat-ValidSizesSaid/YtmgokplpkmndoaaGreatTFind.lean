/-
  Layer 3: which property, or which node right below, has a name.
-/
import Derived.Test.YtmgokplpkmndoaaGreatTIdx
namespace Go.Proofs.YtmgokplpkmndoaaGreat
open Go.RowKit
set_option linter.unusedVariables false
set_option linter.unusedSimpArgs false

end Go.Proofs.YtmgokplpkmndoaaGreat
