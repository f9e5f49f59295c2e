/-
  Layer 6, PathBack: the path of each node of a formed tree leads to it: out of what the program's All, Path and Find answer.
-/
import Derived.Test.YtmgokplpkmndoaaGreatLPathAll
namespace Go.Proofs.YtmgokplpkmndoaaGreat
open Go.RowKit
set_option linter.unusedVariables false
set_option linter.unusedSimpArgs false

/-- What the program's Path answers of a node's place: S is the text. -/
def PathOK (S : Tr → List Nat → ByteArray) : Prop := ∀ (t : Tr) (p : List Nat) (A : Option Addr) (n c : Nat) (w : World), t.In w w.heap.size → checkE t = 0 → heftN t.root ≤ 134217728 → p ∈ placesN t.root [] → p.length = n → Cel w w.heap.size A n (ints p) → n ≤ c → c ≤ 9223372036854775807 →
  Calls Tryz.prog 25 #[t.val, .slice A n c] w fun e w' => e = .returned (.tuple #[.string (S t p), .int .i64 0]) ∧ Below w.heap.size w w'
end Go.Proofs.YtmgokplpkmndoaaGreat
