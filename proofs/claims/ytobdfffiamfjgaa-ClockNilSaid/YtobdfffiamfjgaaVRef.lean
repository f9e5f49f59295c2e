/-
  The document's devices, as they lie; of an RTC: a cell that is read.
-/
import Derived.Test.YtobdfffiamfjgaaVDev
import Derived.Test.YtobdfffiamfjgaaReg
namespace Go.Proofs.Ytobdfffiamfjgaa
open Go.RowKit
set_option linter.unusedVariables false
set_option linter.unusedSimpArgs false

structure DevR where
  kind : Int
  mem : Value
  inn : Value
  out : Value
  lost : Bool
  may : Bool
  r0 : Int
  r1 : Int
  r2 : Int
  r3 : Int
  r4 : Int
  r5 : Int
  r6 : Int
  r7 : Int
end Go.Proofs.Ytobdfffiamfjgaa
