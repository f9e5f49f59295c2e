/-
  NARROWER THAN 'FOR EVERY INPUT', by the rows' own cells (each row's printed sentence says how): XlateRanges: loops · XlateUp: loops · XlateWindows: loops · XlateParts: loops.
  DERIVED. THE GIVEN ROWS OF THIS SEAT. 4 by the template 'for every input the law returns true; each argument reads behind the call as it read before'; 0 by the template 'total and deterministic' (their statements: YtbblgkidgecdpaaTotals.lean).
  GIVEN WITH THE SEED: the statements are not yours to turn. If you find one false, say at which input.
  Laid BY PROGRAM, IN A SANDBOX (cutbox-rows.mjs): the forced cells as the released guide's own fill.sh prints them over the translation 709c6a2251524c0d… (all of the seat's roots in one cut). By AI agents, Wed Nov 11 2026. No macro, syntax, notation, axiom, sorry.
-/
import Derived.Test.YtbblgkidgecdpaaChecked
import GoSem.Claim
import GoSem.ClaimJoined
import GoSem.ClaimMapViews
import Derived.JoinedTies
import Derived.KernelRfl
namespace Go.Proofs.Ytbblgkidgecdpaa
/- THE CELL 'sum', in the pinned program and in every row, IS THE sha256 OF THE DUMP (.gsa) THAT YtbblgkidgecdpaaProg.lean LOADS. Nothing in Lean hashes anything: it is a label: what it is worth is what the hold of that sum in a sandbox is worth. -/
noncomputable def Try.pinned : Pinned := { name := "ytbblgkidgecdpaa", sum := "709c6a2251524c0d251e219b4c3f7c4acd23130bf093bf612e4d581127f83e3e", checked := Try.checked }
namespace Rows
def none {H : Type} : Left H := { results := [], args := [] }

/-- 'arboretlaw13.XlateRanges': WHATEVER THE INPUT: true; the input reads as it did. -/
def xlateRangesSpec : ChangeSpec := { name := "xlateRanges", fn := fun _ => fun
  | [d1, d2] => { results := [.lit (.bool true)], args := [d1, d2] }
  | _ => none }
def xlateRangesRow : OpenClaim := { program := "ytbblgkidgecdpaa", sum := "709c6a2251524c0d251e219b4c3f7c4acd23130bf093bf612e4d581127f83e3e", func := "arboret/arboretlaw13.XlateRanges", spec := "xlateRanges", unfollowed := true, recurses := true, loops := true, apart := false }
def XlateRangesSaid : Prop := xlateRangesRow.holds Try.pinned (OpenSpec.ofChange xlateRangesSpec)

/-- ITS FALSE NEIGHBOUR: 'it returns false'. Refute it at one input. -/
def xlateRangesWrong : ChangeSpec := { name := "xlateRanges", fn := fun _ => fun
  | [d1, d2] => { results := [.lit (.bool false)], args := [d1, d2] }
  | _ => none }
def XlateRangesWrongFalsely : Prop := xlateRangesRow.holds Try.pinned (OpenSpec.ofChange xlateRangesWrong)

/-- 'arboretlaw13.XlateUp': WHATEVER THE INPUT: true; the input reads as it did. -/
def xlateUpSpec : ChangeSpec := { name := "xlateUp", fn := fun _ => fun
  | [d1, d2, d3, d4] => { results := [.lit (.bool true)], args := [d1, d2, d3, d4] }
  | _ => none }
def xlateUpRow : OpenClaim := { program := "ytbblgkidgecdpaa", sum := "709c6a2251524c0d251e219b4c3f7c4acd23130bf093bf612e4d581127f83e3e", func := "arboret/arboretlaw13.XlateUp", spec := "xlateUp", unfollowed := true, recurses := true, loops := true, apart := false }
def XlateUpSaid : Prop := xlateUpRow.holds Try.pinned (OpenSpec.ofChange xlateUpSpec)

/-- ITS FALSE NEIGHBOUR: 'it returns false'. Refute it at one input. -/
def xlateUpWrong : ChangeSpec := { name := "xlateUp", fn := fun _ => fun
  | [d1, d2, d3, d4] => { results := [.lit (.bool false)], args := [d1, d2, d3, d4] }
  | _ => none }
def XlateUpWrongFalsely : Prop := xlateUpRow.holds Try.pinned (OpenSpec.ofChange xlateUpWrong)

/-- 'arboretlaw13.XlateWindows': WHATEVER THE INPUT: true; the input reads as it did. -/
def xlateWindowsSpec : ChangeSpec := { name := "xlateWindows", fn := fun _ => fun
  | [d1, d2] => { results := [.lit (.bool true)], args := [d1, d2] }
  | _ => none }
def xlateWindowsRow : OpenClaim := { program := "ytbblgkidgecdpaa", sum := "709c6a2251524c0d251e219b4c3f7c4acd23130bf093bf612e4d581127f83e3e", func := "arboret/arboretlaw13.XlateWindows", spec := "xlateWindows", unfollowed := true, recurses := true, loops := true, apart := false }
def XlateWindowsSaid : Prop := xlateWindowsRow.holds Try.pinned (OpenSpec.ofChange xlateWindowsSpec)

/-- ITS FALSE NEIGHBOUR: 'it returns false'. Refute it at one input. -/
def xlateWindowsWrong : ChangeSpec := { name := "xlateWindows", fn := fun _ => fun
  | [d1, d2] => { results := [.lit (.bool false)], args := [d1, d2] }
  | _ => none }
def XlateWindowsWrongFalsely : Prop := xlateWindowsRow.holds Try.pinned (OpenSpec.ofChange xlateWindowsWrong)

/-- 'arboretlaw13.XlateParts': WHATEVER THE INPUT: true; the input reads as it did. -/
def xlatePartsSpec : ChangeSpec := { name := "xlateParts", fn := fun _ => fun
  | [d1, d2, d3, d4, d5] => { results := [.lit (.bool true)], args := [d1, d2, d3, d4, d5] }
  | _ => none }
def xlatePartsRow : OpenClaim := { program := "ytbblgkidgecdpaa", sum := "709c6a2251524c0d251e219b4c3f7c4acd23130bf093bf612e4d581127f83e3e", func := "arboret/arboretlaw13.XlateParts", spec := "xlateParts", unfollowed := true, recurses := true, loops := true, apart := false }
def XlatePartsSaid : Prop := xlatePartsRow.holds Try.pinned (OpenSpec.ofChange xlatePartsSpec)

/-- ITS FALSE NEIGHBOUR: 'it returns false'. Refute it at one input. -/
def xlatePartsWrong : ChangeSpec := { name := "xlateParts", fn := fun _ => fun
  | [d1, d2, d3, d4, d5] => { results := [.lit (.bool false)], args := [d1, d2, d3, d4, d5] }
  | _ => none }
def XlatePartsWrongFalsely : Prop := xlatePartsRow.holds Try.pinned (OpenSpec.ofChange xlatePartsWrong)

/- THE SECOND FORM. 'bulk': how many values and letters a reading holds, each counted each time it is reached (what is shared counts as often as it is met; a slice's spare places count too). A statement '..UptoSaid' is the law's where the arguments, and the package variables that the reading takes, are together of bulk at most 1048576: NARROWER than '..Said'. Prove '..Said' where nothing that the law and all that it calls make is longer than what came in: it says more and counts as full. Else prove '..UptoSaid'. A law counts once. -/
mutual
def uptoBulk {H : Type} : DataW H → Nat
  | .lit (.string bytes) => bytes.length + 1
  | .lit _ => 1
  | .nil => 1
  | .ptr d => uptoBulk d + 1
  | .slice elems spare => uptoBulkAll elems + uptoBulkAll spare + 1
  | .agg parts => uptoBulkAll parts + 1
  | .iface _ d => uptoBulk d + 1
  | .map entries => uptoBulkEntries entries + 1
  | .held _ => 1
def uptoBulkAll {H : Type} : List (DataW H) → Nat
  | [] => 0
  | d :: r => uptoBulk d + uptoBulkAll r
def uptoBulkEntries {H : Type} : List (Lit × DataW H) → Nat
  | [] => 0
  | x :: r => uptoBulkEntry x + uptoBulkEntries r
def uptoBulkEntry {H : Type} : Lit × DataW H → Nat
  | (.string bytes, d) => bytes.length + uptoBulk d + 1
  | (_, d) => uptoBulk d + 1
 end
def uptoSmall : (H : Type) → List (DataW H) → Bool := fun _ ds => decide (uptoBulkAll ds ≤ 1048576)
def OpenSpec.upto (s : _root_.Go.ChangeSpec) : _root_.Go.OpenSpec := { _root_.Go.OpenSpec.ofChange s with cond := some uptoSmall }

/-- 'arboretlaw13.XlateRanges', WHERE WHAT IT READS IS OF BULK AT MOST 1048576: true; the input reads as it did. -/
def xlateRangesUptoRow : OpenClaim := { program := "ytbblgkidgecdpaa", sum := "709c6a2251524c0d251e219b4c3f7c4acd23130bf093bf612e4d581127f83e3e", func := "arboret/arboretlaw13.XlateRanges", spec := "xlateRanges", unfollowed := true, recurses := true, loops := true, apart := false, narrowed := true }
def XlateRangesUptoSaid : Prop := xlateRangesUptoRow.holds Try.pinned (OpenSpec.upto xlateRangesSpec)

/-- 'arboretlaw13.XlateUp', WHERE WHAT IT READS IS OF BULK AT MOST 1048576: true; the input reads as it did. -/
def xlateUpUptoRow : OpenClaim := { program := "ytbblgkidgecdpaa", sum := "709c6a2251524c0d251e219b4c3f7c4acd23130bf093bf612e4d581127f83e3e", func := "arboret/arboretlaw13.XlateUp", spec := "xlateUp", unfollowed := true, recurses := true, loops := true, apart := false, narrowed := true }
def XlateUpUptoSaid : Prop := xlateUpUptoRow.holds Try.pinned (OpenSpec.upto xlateUpSpec)

/-- 'arboretlaw13.XlateWindows', WHERE WHAT IT READS IS OF BULK AT MOST 1048576: true; the input reads as it did. -/
def xlateWindowsUptoRow : OpenClaim := { program := "ytbblgkidgecdpaa", sum := "709c6a2251524c0d251e219b4c3f7c4acd23130bf093bf612e4d581127f83e3e", func := "arboret/arboretlaw13.XlateWindows", spec := "xlateWindows", unfollowed := true, recurses := true, loops := true, apart := false, narrowed := true }
def XlateWindowsUptoSaid : Prop := xlateWindowsUptoRow.holds Try.pinned (OpenSpec.upto xlateWindowsSpec)

/-- 'arboretlaw13.XlateParts', WHERE WHAT IT READS IS OF BULK AT MOST 1048576: true; the input reads as it did. -/
def xlatePartsUptoRow : OpenClaim := { program := "ytbblgkidgecdpaa", sum := "709c6a2251524c0d251e219b4c3f7c4acd23130bf093bf612e4d581127f83e3e", func := "arboret/arboretlaw13.XlateParts", spec := "xlateParts", unfollowed := true, recurses := true, loops := true, apart := false, narrowed := true }
def XlatePartsUptoSaid : Prop := xlatePartsUptoRow.holds Try.pinned (OpenSpec.upto xlatePartsSpec)

end Rows
end Go.Proofs.Ytbblgkidgecdpaa
