/-
  NARROWER THAN 'FOR EVERY INPUT', by the rows' own cells (each row's printed sentence says how): HandleIndex: loops · HandleFinds: loops · HandleEach: loops.
  DERIVED. THE GIVEN ROWS OF THIS SEAT. 3 by the template 'for every input the law returns true; each argument reads behind the call as it read before'; 0 by the template 'total and deterministic' (their statements: YtijhjlpkbnajpaaTotals.lean).
  GIVEN WITH THE SEED: the statements are not yours to turn. If you find one false, say at which input.
  Laid BY PROGRAM, IN A SANDBOX (cutbox-rows.mjs): the forced cells as the released guide's own fill.sh prints them over the translation 2fec6faeb55276d9… (all of the seat's roots in one cut). By AI agents, Wed Nov 11 2026. No macro, syntax, notation, axiom, sorry.
-/
import Derived.Test.YtijhjlpkbnajpaaChecked
import GoSem.Claim
import GoSem.ClaimJoined
import GoSem.ClaimMapViews
import Derived.JoinedTies
import Derived.KernelRfl
namespace Go.Proofs.Ytijhjlpkbnajpaa
/- THE CELL 'sum', in the pinned program and in every row, IS THE sha256 OF THE DUMP (.gsa) THAT YtijhjlpkbnajpaaProg.lean LOADS. Nothing in Lean hashes anything: it is a label: what it is worth is what the hold of that sum in a sandbox is worth. -/
noncomputable def Try.pinned : Pinned := { name := "ytijhjlpkbnajpaa", sum := "2fec6faeb55276d9510883c0b458ca65528e88d055119f0e19975ec7a893b022", checked := Try.checked }
namespace Rows
def none {H : Type} : Left H := { results := [], args := [] }

/-- 'arboretlaw08.HandleIndex': WHATEVER THE INPUT: true; the input reads as it did. -/
def handleIndexSpec : ChangeSpec := { name := "handleIndex", fn := fun _ => fun
  | [d] => { results := [.lit (.bool true)], args := [d] }
  | _ => none }
def handleIndexRow : OpenClaim := { program := "ytijhjlpkbnajpaa", sum := "2fec6faeb55276d9510883c0b458ca65528e88d055119f0e19975ec7a893b022", func := "arboret/arboretlaw08.HandleIndex", spec := "handleIndex", unfollowed := true, recurses := true, loops := true, apart := false }
def HandleIndexSaid : Prop := handleIndexRow.holds Try.pinned (OpenSpec.ofChange handleIndexSpec)

/-- ITS FALSE NEIGHBOUR: 'it returns false'. Refute it at one input. -/
def handleIndexWrong : ChangeSpec := { name := "handleIndex", fn := fun _ => fun
  | [d] => { results := [.lit (.bool false)], args := [d] }
  | _ => none }
def HandleIndexWrongFalsely : Prop := handleIndexRow.holds Try.pinned (OpenSpec.ofChange handleIndexWrong)

/-- 'arboretlaw08.HandleFinds': WHATEVER THE INPUT: true; the input reads as it did. -/
def handleFindsSpec : ChangeSpec := { name := "handleFinds", fn := fun _ => fun
  | [d1, d2] => { results := [.lit (.bool true)], args := [d1, d2] }
  | _ => none }
def handleFindsRow : OpenClaim := { program := "ytijhjlpkbnajpaa", sum := "2fec6faeb55276d9510883c0b458ca65528e88d055119f0e19975ec7a893b022", func := "arboret/arboretlaw08.HandleFinds", spec := "handleFinds", unfollowed := true, recurses := true, loops := true, apart := false }
def HandleFindsSaid : Prop := handleFindsRow.holds Try.pinned (OpenSpec.ofChange handleFindsSpec)

/-- ITS FALSE NEIGHBOUR: 'it returns false'. Refute it at one input. -/
def handleFindsWrong : ChangeSpec := { name := "handleFinds", fn := fun _ => fun
  | [d1, d2] => { results := [.lit (.bool false)], args := [d1, d2] }
  | _ => none }
def HandleFindsWrongFalsely : Prop := handleFindsRow.holds Try.pinned (OpenSpec.ofChange handleFindsWrong)

/-- 'arboretlaw08.HandleEach': WHATEVER THE INPUT: true; the input reads as it did. -/
def handleEachSpec : ChangeSpec := { name := "handleEach", fn := fun _ => fun
  | [d] => { results := [.lit (.bool true)], args := [d] }
  | _ => none }
def handleEachRow : OpenClaim := { program := "ytijhjlpkbnajpaa", sum := "2fec6faeb55276d9510883c0b458ca65528e88d055119f0e19975ec7a893b022", func := "arboret/arboretlaw08.HandleEach", spec := "handleEach", unfollowed := true, recurses := true, loops := true, apart := false }
def HandleEachSaid : Prop := handleEachRow.holds Try.pinned (OpenSpec.ofChange handleEachSpec)

/-- ITS FALSE NEIGHBOUR: 'it returns false'. Refute it at one input. -/
def handleEachWrong : ChangeSpec := { name := "handleEach", fn := fun _ => fun
  | [d] => { results := [.lit (.bool false)], args := [d] }
  | _ => none }
def HandleEachWrongFalsely : Prop := handleEachRow.holds Try.pinned (OpenSpec.ofChange handleEachWrong)

/- THE SECOND FORM. 'bulk': how many values and letters a reading holds, each counted each time it is reached (what is shared counts as often as it is met; a slice's spare places count too). A statement '..UptoSaid' is the law's where the arguments, and the package variables that the reading takes, are together of bulk at most 1048576: NARROWER than '..Said'. Prove '..Said' where nothing that the law and all that it calls make is longer than what came in: it says more and counts as full. Else prove '..UptoSaid'. A law counts once. -/
mutual
def uptoBulk {H : Type} : DataW H → Nat
  | .lit (.string bytes) => bytes.length + 1
  | .lit _ => 1
  | .nil => 1
  | .ptr d => uptoBulk d + 1
  | .slice elems spare => uptoBulkAll elems + uptoBulkAll spare + 1
  | .agg parts => uptoBulkAll parts + 1
  | .iface _ d => uptoBulk d + 1
  | .map entries => uptoBulkEntries entries + 1
  | .held _ => 1
def uptoBulkAll {H : Type} : List (DataW H) → Nat
  | [] => 0
  | d :: r => uptoBulk d + uptoBulkAll r
def uptoBulkEntries {H : Type} : List (Lit × DataW H) → Nat
  | [] => 0
  | x :: r => uptoBulkEntry x + uptoBulkEntries r
def uptoBulkEntry {H : Type} : Lit × DataW H → Nat
  | (.string bytes, d) => bytes.length + uptoBulk d + 1
  | (_, d) => uptoBulk d + 1
 end
def uptoSmall : (H : Type) → List (DataW H) → Bool := fun _ ds => decide (uptoBulkAll ds ≤ 1048576)
def OpenSpec.upto (s : _root_.Go.ChangeSpec) : _root_.Go.OpenSpec := { _root_.Go.OpenSpec.ofChange s with cond := some uptoSmall }

/-- 'arboretlaw08.HandleIndex', WHERE WHAT IT READS IS OF BULK AT MOST 1048576: true; the input reads as it did. -/
def handleIndexUptoRow : OpenClaim := { program := "ytijhjlpkbnajpaa", sum := "2fec6faeb55276d9510883c0b458ca65528e88d055119f0e19975ec7a893b022", func := "arboret/arboretlaw08.HandleIndex", spec := "handleIndex", unfollowed := true, recurses := true, loops := true, apart := false, narrowed := true }
def HandleIndexUptoSaid : Prop := handleIndexUptoRow.holds Try.pinned (OpenSpec.upto handleIndexSpec)

/-- 'arboretlaw08.HandleFinds', WHERE WHAT IT READS IS OF BULK AT MOST 1048576: true; the input reads as it did. -/
def handleFindsUptoRow : OpenClaim := { program := "ytijhjlpkbnajpaa", sum := "2fec6faeb55276d9510883c0b458ca65528e88d055119f0e19975ec7a893b022", func := "arboret/arboretlaw08.HandleFinds", spec := "handleFinds", unfollowed := true, recurses := true, loops := true, apart := false, narrowed := true }
def HandleFindsUptoSaid : Prop := handleFindsUptoRow.holds Try.pinned (OpenSpec.upto handleFindsSpec)

/-- 'arboretlaw08.HandleEach', WHERE WHAT IT READS IS OF BULK AT MOST 1048576: true; the input reads as it did. -/
def handleEachUptoRow : OpenClaim := { program := "ytijhjlpkbnajpaa", sum := "2fec6faeb55276d9510883c0b458ca65528e88d055119f0e19975ec7a893b022", func := "arboret/arboretlaw08.HandleEach", spec := "handleEach", unfollowed := true, recurses := true, loops := true, apart := false, narrowed := true }
def HandleEachUptoSaid : Prop := handleEachUptoRow.holds Try.pinned (OpenSpec.upto handleEachSpec)

end Rows
end Go.Proofs.Ytijhjlpkbnajpaa
