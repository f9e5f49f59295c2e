/-
  NARROWER THAN 'FOR EVERY INPUT', by the rows' own cells (each row's printed sentence says how): RegionCounts: loops · RegionReg: loops.
  DERIVED. THE GIVEN ROWS OF THIS SEAT. 4 by the template 'for every input the law returns true; each argument reads behind the call as it read before'; 0 by the template 'total and deterministic' (their statements: YtgogkcmdcfcikaaTotals.lean).
  GIVEN WITH THE SEED: the statements are not yours to turn. If you find one false, say at which input.
  Laid BY PROGRAM, IN A SANDBOX (cutbox-rows.mjs): the forced cells as the released guide's own fill.sh prints them over the translation b4d605ff3c0c1188… (all of the seat's roots in one cut). By AI agents, Wed Nov 11 2026. No macro, syntax, notation, axiom, sorry.
-/
import Derived.Test.YtgogkcmdcfcikaaChecked
import GoSem.Claim
import GoSem.ClaimJoined
import GoSem.ClaimMapViews
import Derived.JoinedTies
import Derived.KernelRfl
namespace Go.Proofs.Ytgogkcmdcfcikaa
/- THE CELL 'sum', in the pinned program and in every row, IS THE sha256 OF THE DUMP (.gsa) THAT YtgogkcmdcfcikaaProg.lean LOADS. Nothing in Lean hashes anything: it is a label: what it is worth is what the hold of that sum in a sandbox is worth. -/
noncomputable def Try.pinned : Pinned := { name := "ytgogkcmdcfcikaa", sum := "b4d605ff3c0c11886c5cd92b213353541125bbd9d3d7412202b393b8e8ab500f", checked := Try.checked }
namespace Rows
def none {H : Type} : Left H := { results := [], args := [] }

/-- 'arboretlaw12.RegionCounts': WHATEVER THE INPUT: true; the input reads as it did. -/
def regionCountsSpec : ChangeSpec := { name := "regionCounts", fn := fun _ => fun
  | [d] => { results := [.lit (.bool true)], args := [d] }
  | _ => none }
def regionCountsRow : OpenClaim := { program := "ytgogkcmdcfcikaa", sum := "b4d605ff3c0c11886c5cd92b213353541125bbd9d3d7412202b393b8e8ab500f", func := "arboret/arboretlaw12.RegionCounts", spec := "regionCounts", recurses := true, loops := true, apart := false }
def RegionCountsSaid : Prop := regionCountsRow.holds Try.pinned (OpenSpec.ofChange regionCountsSpec)

/-- ITS FALSE NEIGHBOUR: 'it returns false'. Refute it at one input. -/
def regionCountsWrong : ChangeSpec := { name := "regionCounts", fn := fun _ => fun
  | [d] => { results := [.lit (.bool false)], args := [d] }
  | _ => none }
def RegionCountsWrongFalsely : Prop := regionCountsRow.holds Try.pinned (OpenSpec.ofChange regionCountsWrong)

/-- 'arboretlaw12.RegionReg': WHATEVER THE INPUT: true; the input reads as it did. -/
def regionRegSpec : ChangeSpec := { name := "regionReg", fn := fun _ => fun
  | [d1, d2] => { results := [.lit (.bool true)], args := [d1, d2] }
  | _ => none }
def regionRegRow : OpenClaim := { program := "ytgogkcmdcfcikaa", sum := "b4d605ff3c0c11886c5cd92b213353541125bbd9d3d7412202b393b8e8ab500f", func := "arboret/arboretlaw12.RegionReg", spec := "regionReg", unfollowed := true, recurses := true, loops := true, apart := false }
def RegionRegSaid : Prop := regionRegRow.holds Try.pinned (OpenSpec.ofChange regionRegSpec)

/-- ITS FALSE NEIGHBOUR: 'it returns false'. Refute it at one input. -/
def regionRegWrong : ChangeSpec := { name := "regionReg", fn := fun _ => fun
  | [d1, d2] => { results := [.lit (.bool false)], args := [d1, d2] }
  | _ => none }
def RegionRegWrongFalsely : Prop := regionRegRow.holds Try.pinned (OpenSpec.ofChange regionRegWrong)

/-- 'arboretlaw12.RegionInside': WHATEVER THE INPUT: true; the input reads as it did. -/
def regionInsideSpec : ChangeSpec := { name := "regionInside", fn := fun _ => fun
  | [d1, d2, d3, d4] => { results := [.lit (.bool true)], args := [d1, d2, d3, d4] }
  | _ => none }
def regionInsideRow : OpenClaim := { program := "ytgogkcmdcfcikaa", sum := "b4d605ff3c0c11886c5cd92b213353541125bbd9d3d7412202b393b8e8ab500f", func := "arboret/arboretlaw12.RegionInside", spec := "regionInside", apart := false }
def RegionInsideSaid : Prop := regionInsideRow.holds Try.pinned (OpenSpec.ofChange regionInsideSpec)

/-- ITS FALSE NEIGHBOUR: 'it returns false'. Refute it at one input. -/
def regionInsideWrong : ChangeSpec := { name := "regionInside", fn := fun _ => fun
  | [d1, d2, d3, d4] => { results := [.lit (.bool false)], args := [d1, d2, d3, d4] }
  | _ => none }
def RegionInsideWrongFalsely : Prop := regionInsideRow.holds Try.pinned (OpenSpec.ofChange regionInsideWrong)

/-- 'arboretlaw12.RegionBytes': WHATEVER THE INPUT: true; the input reads as it did. -/
def regionBytesSpec : ChangeSpec := { name := "regionBytes", fn := fun _ => fun
  | [d1, d2, d3, d4, d5] => { results := [.lit (.bool true)], args := [d1, d2, d3, d4, d5] }
  | _ => none }
def regionBytesRow : OpenClaim := { program := "ytgogkcmdcfcikaa", sum := "b4d605ff3c0c11886c5cd92b213353541125bbd9d3d7412202b393b8e8ab500f", func := "arboret/arboretlaw12.RegionBytes", spec := "regionBytes", apart := false }
def RegionBytesSaid : Prop := regionBytesRow.holds Try.pinned (OpenSpec.ofChange regionBytesSpec)

/-- ITS FALSE NEIGHBOUR: 'it returns false'. Refute it at one input. -/
def regionBytesWrong : ChangeSpec := { name := "regionBytes", fn := fun _ => fun
  | [d1, d2, d3, d4, d5] => { results := [.lit (.bool false)], args := [d1, d2, d3, d4, d5] }
  | _ => none }
def RegionBytesWrongFalsely : Prop := regionBytesRow.holds Try.pinned (OpenSpec.ofChange regionBytesWrong)

/- THE SECOND FORM. 'bulk': how many values and letters a reading holds, each counted each time it is reached (what is shared counts as often as it is met; a slice's spare places count too). A statement '..UptoSaid' is the law's where the arguments, and the package variables that the reading takes, are together of bulk at most 1048576: NARROWER than '..Said'. Prove '..Said' where nothing that the law and all that it calls make is longer than what came in: it says more and counts as full. Else prove '..UptoSaid'. A law counts once. -/
mutual
def uptoBulk {H : Type} : DataW H → Nat
  | .lit (.string bytes) => bytes.length + 1
  | .lit _ => 1
  | .nil => 1
  | .ptr d => uptoBulk d + 1
  | .slice elems spare => uptoBulkAll elems + uptoBulkAll spare + 1
  | .agg parts => uptoBulkAll parts + 1
  | .iface _ d => uptoBulk d + 1
  | .map entries => uptoBulkEntries entries + 1
  | .held _ => 1
def uptoBulkAll {H : Type} : List (DataW H) → Nat
  | [] => 0
  | d :: r => uptoBulk d + uptoBulkAll r
def uptoBulkEntries {H : Type} : List (Lit × DataW H) → Nat
  | [] => 0
  | x :: r => uptoBulkEntry x + uptoBulkEntries r
def uptoBulkEntry {H : Type} : Lit × DataW H → Nat
  | (.string bytes, d) => bytes.length + uptoBulk d + 1
  | (_, d) => uptoBulk d + 1
 end
def uptoSmall : (H : Type) → List (DataW H) → Bool := fun _ ds => decide (uptoBulkAll ds ≤ 1048576)
def OpenSpec.upto (s : _root_.Go.ChangeSpec) : _root_.Go.OpenSpec := { _root_.Go.OpenSpec.ofChange s with cond := some uptoSmall }

/-- 'arboretlaw12.RegionCounts', WHERE WHAT IT READS IS OF BULK AT MOST 1048576: true; the input reads as it did. -/
def regionCountsUptoRow : OpenClaim := { program := "ytgogkcmdcfcikaa", sum := "b4d605ff3c0c11886c5cd92b213353541125bbd9d3d7412202b393b8e8ab500f", func := "arboret/arboretlaw12.RegionCounts", spec := "regionCounts", recurses := true, loops := true, apart := false, narrowed := true }
def RegionCountsUptoSaid : Prop := regionCountsUptoRow.holds Try.pinned (OpenSpec.upto regionCountsSpec)

/-- 'arboretlaw12.RegionReg', WHERE WHAT IT READS IS OF BULK AT MOST 1048576: true; the input reads as it did. -/
def regionRegUptoRow : OpenClaim := { program := "ytgogkcmdcfcikaa", sum := "b4d605ff3c0c11886c5cd92b213353541125bbd9d3d7412202b393b8e8ab500f", func := "arboret/arboretlaw12.RegionReg", spec := "regionReg", unfollowed := true, recurses := true, loops := true, apart := false, narrowed := true }
def RegionRegUptoSaid : Prop := regionRegUptoRow.holds Try.pinned (OpenSpec.upto regionRegSpec)

/-- 'arboretlaw12.RegionInside', WHERE WHAT IT READS IS OF BULK AT MOST 1048576: true; the input reads as it did. -/
def regionInsideUptoRow : OpenClaim := { program := "ytgogkcmdcfcikaa", sum := "b4d605ff3c0c11886c5cd92b213353541125bbd9d3d7412202b393b8e8ab500f", func := "arboret/arboretlaw12.RegionInside", spec := "regionInside", apart := false, narrowed := true }
def RegionInsideUptoSaid : Prop := regionInsideUptoRow.holds Try.pinned (OpenSpec.upto regionInsideSpec)

/-- 'arboretlaw12.RegionBytes', WHERE WHAT IT READS IS OF BULK AT MOST 1048576: true; the input reads as it did. -/
def regionBytesUptoRow : OpenClaim := { program := "ytgogkcmdcfcikaa", sum := "b4d605ff3c0c11886c5cd92b213353541125bbd9d3d7412202b393b8e8ab500f", func := "arboret/arboretlaw12.RegionBytes", spec := "regionBytes", apart := false, narrowed := true }
def RegionBytesUptoSaid : Prop := regionBytesUptoRow.holds Try.pinned (OpenSpec.upto regionBytesSpec)

end Rows
end Go.Proofs.Ytgogkcmdcfcikaa
