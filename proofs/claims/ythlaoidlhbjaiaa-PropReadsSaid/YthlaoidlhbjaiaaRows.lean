/-
  NARROWER THAN 'FOR EVERY INPUT', by the rows' own cells (each row's printed sentence says how): PropOne: loops.
  DERIVED. THE GIVEN ROWS OF THIS SEAT. 4 by the template 'for every input the law returns true; each argument reads behind the call as it read before'; 0 by the template 'total and deterministic' (their statements: YthlaoidlhbjaiaaTotals.lean).
  GIVEN WITH THE SEED: the statements are not yours to turn. If you find one false, say at which input.
  Laid BY PROGRAM, IN A SANDBOX (cutbox-rows.mjs): the forced cells as the released guide's own fill.sh prints them over the translation d196bd69c479eb9f… (all of the seat's roots in one cut). By AI agents, Wed Nov 11 2026. No macro, syntax, notation, axiom, sorry.
-/
import Derived.Test.YthlaoidlhbjaiaaChecked
import GoSem.Claim
import GoSem.ClaimJoined
import GoSem.ClaimMapViews
import Derived.JoinedTies
import Derived.KernelRfl
namespace Go.Proofs.Ythlaoidlhbjaiaa
/- THE CELL 'sum', in the pinned program and in every row, IS THE sha256 OF THE DUMP (.gsa) THAT YthlaoidlhbjaiaaProg.lean LOADS. Nothing in Lean hashes anything: it is a label: what it is worth is what the hold of that sum in a sandbox is worth. -/
noncomputable def Try.pinned : Pinned := { name := "ythlaoidlhbjaiaa", sum := "d196bd69c479eb9f8bef8120484159b6f15ad14ff7e8539119f4ae958294c4dd", checked := Try.checked }
namespace Rows
def none {H : Type} : Left H := { results := [], args := [] }

/-- 'arboretlaw07.PropReads': WHATEVER THE INPUT: true; the input reads as it did. -/
def propReadsSpec : ChangeSpec := { name := "propReads", fn := fun _ => fun
  | [d] => { results := [.lit (.bool true)], args := [d] }
  | _ => none }
def propReadsRow : OpenClaim := { program := "ythlaoidlhbjaiaa", sum := "d196bd69c479eb9f8bef8120484159b6f15ad14ff7e8539119f4ae958294c4dd", func := "arboret/arboretlaw07.PropReads", spec := "propReads", inPlace := ["internal/bytealg.IndexByte", "internal/bytealg.Count", "internal/bytealg.Index"], named := ["internal/bytealg.MaxLen"], apart := false }
def PropReadsSaid : Prop := propReadsRow.holds Try.pinned (OpenSpec.ofChange propReadsSpec)

/-- ITS FALSE NEIGHBOUR: 'it returns false'. Refute it at one input. -/
def propReadsWrong : ChangeSpec := { name := "propReads", fn := fun _ => fun
  | [d] => { results := [.lit (.bool false)], args := [d] }
  | _ => none }
def PropReadsWrongFalsely : Prop := propReadsRow.holds Try.pinned (OpenSpec.ofChange propReadsWrong)

/-- 'arboretlaw07.PropBack': WHATEVER THE INPUT: true; the input reads as it did. -/
def propBackSpec : ChangeSpec := { name := "propBack", fn := fun _ => fun
  | [d1, d2] => { results := [.lit (.bool true)], args := [d1, d2] }
  | _ => none }
def propBackRow : OpenClaim := { program := "ythlaoidlhbjaiaa", sum := "d196bd69c479eb9f8bef8120484159b6f15ad14ff7e8539119f4ae958294c4dd", func := "arboret/arboretlaw07.PropBack", spec := "propBack", inPlace := ["internal/bytealg.IndexByteString", "internal/bytealg.IndexString", "internal/bytealg.Count", "internal/bytealg.IndexByte", "internal/bytealg.Index"], named := ["internal/bytealg.MaxLen"], apart := false }
def PropBackSaid : Prop := propBackRow.holds Try.pinned (OpenSpec.ofChange propBackSpec)

/-- ITS FALSE NEIGHBOUR: 'it returns false'. Refute it at one input. -/
def propBackWrong : ChangeSpec := { name := "propBack", fn := fun _ => fun
  | [d1, d2] => { results := [.lit (.bool false)], args := [d1, d2] }
  | _ => none }
def PropBackWrongFalsely : Prop := propBackRow.holds Try.pinned (OpenSpec.ofChange propBackWrong)

/-- 'arboretlaw07.PropWide': WHATEVER THE INPUT: true; the input reads as it did. -/
def propWideSpec : ChangeSpec := { name := "propWide", fn := fun _ => fun
  | [d] => { results := [.lit (.bool true)], args := [d] }
  | _ => none }
def propWideRow : OpenClaim := { program := "ythlaoidlhbjaiaa", sum := "d196bd69c479eb9f8bef8120484159b6f15ad14ff7e8539119f4ae958294c4dd", func := "arboret/arboretlaw07.PropWide", spec := "propWide", apart := false }
def PropWideSaid : Prop := propWideRow.holds Try.pinned (OpenSpec.ofChange propWideSpec)

/-- ITS FALSE NEIGHBOUR: 'it returns false'. Refute it at one input. -/
def propWideWrong : ChangeSpec := { name := "propWide", fn := fun _ => fun
  | [d] => { results := [.lit (.bool false)], args := [d] }
  | _ => none }
def PropWideWrongFalsely : Prop := propWideRow.holds Try.pinned (OpenSpec.ofChange propWideWrong)

/-- 'arboretlaw07.PropOne': WHATEVER THE INPUT: true; the input reads as it did. -/
def propOneSpec : ChangeSpec := { name := "propOne", fn := fun _ => fun
  | [d1, d2] => { results := [.lit (.bool true)], args := [d1, d2] }
  | _ => none }
def propOneRow : OpenClaim := { program := "ythlaoidlhbjaiaa", sum := "d196bd69c479eb9f8bef8120484159b6f15ad14ff7e8539119f4ae958294c4dd", func := "arboret/arboretlaw07.PropOne", spec := "propOne", recurses := true, loops := true, apart := false }
def PropOneSaid : Prop := propOneRow.holds Try.pinned (OpenSpec.ofChange propOneSpec)

/-- ITS FALSE NEIGHBOUR: 'it returns false'. Refute it at one input. -/
def propOneWrong : ChangeSpec := { name := "propOne", fn := fun _ => fun
  | [d1, d2] => { results := [.lit (.bool false)], args := [d1, d2] }
  | _ => none }
def PropOneWrongFalsely : Prop := propOneRow.holds Try.pinned (OpenSpec.ofChange propOneWrong)

/- THE SECOND FORM. 'bulk': how many values and letters a reading holds, each counted each time it is reached (what is shared counts as often as it is met; a slice's spare places count too). A statement '..UptoSaid' is the law's where the arguments, and the package variables that the reading takes, are together of bulk at most 1048576: NARROWER than '..Said'. Prove '..Said' where nothing that the law and all that it calls make is longer than what came in: it says more and counts as full. Else prove '..UptoSaid'. A law counts once. -/
mutual
def uptoBulk {H : Type} : DataW H → Nat
  | .lit (.string bytes) => bytes.length + 1
  | .lit _ => 1
  | .nil => 1
  | .ptr d => uptoBulk d + 1
  | .slice elems spare => uptoBulkAll elems + uptoBulkAll spare + 1
  | .agg parts => uptoBulkAll parts + 1
  | .iface _ d => uptoBulk d + 1
  | .map entries => uptoBulkEntries entries + 1
  | .held _ => 1
def uptoBulkAll {H : Type} : List (DataW H) → Nat
  | [] => 0
  | d :: r => uptoBulk d + uptoBulkAll r
def uptoBulkEntries {H : Type} : List (Lit × DataW H) → Nat
  | [] => 0
  | x :: r => uptoBulkEntry x + uptoBulkEntries r
def uptoBulkEntry {H : Type} : Lit × DataW H → Nat
  | (.string bytes, d) => bytes.length + uptoBulk d + 1
  | (_, d) => uptoBulk d + 1
 end
def uptoSmall : (H : Type) → List (DataW H) → Bool := fun _ ds => decide (uptoBulkAll ds ≤ 1048576)
def OpenSpec.upto (s : _root_.Go.ChangeSpec) : _root_.Go.OpenSpec := { _root_.Go.OpenSpec.ofChange s with cond := some uptoSmall }

/-- 'arboretlaw07.PropReads', WHERE WHAT IT READS IS OF BULK AT MOST 1048576: true; the input reads as it did. -/
def propReadsUptoRow : OpenClaim := { program := "ythlaoidlhbjaiaa", sum := "d196bd69c479eb9f8bef8120484159b6f15ad14ff7e8539119f4ae958294c4dd", func := "arboret/arboretlaw07.PropReads", spec := "propReads", inPlace := ["internal/bytealg.IndexByte", "internal/bytealg.Count", "internal/bytealg.Index"], named := ["internal/bytealg.MaxLen"], apart := false, narrowed := true }
def PropReadsUptoSaid : Prop := propReadsUptoRow.holds Try.pinned (OpenSpec.upto propReadsSpec)

/-- 'arboretlaw07.PropBack', WHERE WHAT IT READS IS OF BULK AT MOST 1048576: true; the input reads as it did. -/
def propBackUptoRow : OpenClaim := { program := "ythlaoidlhbjaiaa", sum := "d196bd69c479eb9f8bef8120484159b6f15ad14ff7e8539119f4ae958294c4dd", func := "arboret/arboretlaw07.PropBack", spec := "propBack", inPlace := ["internal/bytealg.IndexByteString", "internal/bytealg.IndexString", "internal/bytealg.Count", "internal/bytealg.IndexByte", "internal/bytealg.Index"], named := ["internal/bytealg.MaxLen"], apart := false, narrowed := true }
def PropBackUptoSaid : Prop := propBackUptoRow.holds Try.pinned (OpenSpec.upto propBackSpec)

/-- 'arboretlaw07.PropWide', WHERE WHAT IT READS IS OF BULK AT MOST 1048576: true; the input reads as it did. -/
def propWideUptoRow : OpenClaim := { program := "ythlaoidlhbjaiaa", sum := "d196bd69c479eb9f8bef8120484159b6f15ad14ff7e8539119f4ae958294c4dd", func := "arboret/arboretlaw07.PropWide", spec := "propWide", apart := false, narrowed := true }
def PropWideUptoSaid : Prop := propWideUptoRow.holds Try.pinned (OpenSpec.upto propWideSpec)

/-- 'arboretlaw07.PropOne', WHERE WHAT IT READS IS OF BULK AT MOST 1048576: true; the input reads as it did. -/
def propOneUptoRow : OpenClaim := { program := "ythlaoidlhbjaiaa", sum := "d196bd69c479eb9f8bef8120484159b6f15ad14ff7e8539119f4ae958294c4dd", func := "arboret/arboretlaw07.PropOne", spec := "propOne", recurses := true, loops := true, apart := false, narrowed := true }
def PropOneUptoSaid : Prop := propOneUptoRow.holds Try.pinned (OpenSpec.upto propOneSpec)

end Rows
end Go.Proofs.Ythlaoidlhbjaiaa
