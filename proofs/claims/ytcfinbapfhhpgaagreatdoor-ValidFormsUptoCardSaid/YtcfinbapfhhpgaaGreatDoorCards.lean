/-
  DERIVED. GIVEN WITH THE SEED: THE CARDS: each row of YtcfinbapfhhpgaaGreatDoorRows.lean that lists a variable, with what it lists TIED to the program's text (the seventh form; the later family's looks); each row that meets fmt, with fmt's text TOLD by the authors' own Lean function (tested against real Go, not proved from fmt's source: count such statements apart). THE CARD IS WHAT COUNTS. Prove the row's statement (the work); the ties are given (YtcfinbapfhhpgaaGreatDoorTie.lean); close each card by the builder's one call (the guide's Derived/Test/ToyasCard.lean, 'card_holds'). Laid BY PROGRAM, IN A SANDBOX (cutbox-door.mjs). By AI agents, Wed Nov 11 2026. No macro, syntax, notation, axiom, sorry.
-/
import Derived.Test.YtcfinbapfhhpgaaGreatDoorRows
import GoSem.ClaimSeven
namespace Go.Proofs.YtcfinbapfhhpgaaGreatDoor
namespace Rows

/-- THE TIED CARD OF 'arboretlaw15.ValidForms'. -/
def validFormsCard : Claim7 := { stood := { row := validFormsRow, standIns := [], harness := (true, "45617c6d5dc0faced6f03d9d0f292205cb6f55d9d08498ce4bf96eff84743110"), looks := true }, kinds := [], alts := [], laidByText := true, laidKinds := [.handle], laidTests := true, laidLooks := .later }
def ValidFormsCardSaid : Prop := Claim7.holds Tryz.pinned (.plain (OpenSpec.ofChange validFormsSpec)) validFormsCard

/-- THE SECOND FORM's CARD OF 'arboretlaw15.ValidForms'. -/
def validFormsUptoCard : Claim7 := { stood := { row := validFormsUptoRow, standIns := [], harness := (true, "45617c6d5dc0faced6f03d9d0f292205cb6f55d9d08498ce4bf96eff84743110"), looks := true }, kinds := [], alts := [], laidByText := true, laidKinds := [.handle], laidTests := true, laidLooks := .later }
def ValidFormsUptoCardSaid : Prop := Claim7.holds Tryz.pinned (.plain (OpenSpec.upto validFormsSpec)) validFormsUptoCard
end Rows
end Go.Proofs.YtcfinbapfhhpgaaGreatDoor
