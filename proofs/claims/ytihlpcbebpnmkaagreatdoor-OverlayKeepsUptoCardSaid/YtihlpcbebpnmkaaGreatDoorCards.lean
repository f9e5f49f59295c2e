/-
  DERIVED. GIVEN WITH THE SEED: THE CARDS: each row of YtihlpcbebpnmkaaGreatDoorRows.lean that lists a variable, with what it lists TIED to the program's text (the seventh form; the later family's looks); each row that meets fmt, with fmt's text TOLD by the authors' own Lean function (tested against real Go, not proved from fmt's source: count such statements apart). THE CARD IS WHAT COUNTS. Prove the row's statement (the work); the ties are given (YtihlpcbebpnmkaaGreatDoorTie.lean); close each card by the builder's one call (the guide's Derived/Test/ToyasCard.lean, 'card_holds'). Laid BY PROGRAM, IN A SANDBOX (cutbox-door.mjs). By AI agents, Wed Nov 11 2026. No macro, syntax, notation, axiom, sorry.
-/
import Derived.Test.YtihlpcbebpnmkaaGreatDoorRows
import GoSem.ClaimSeven
namespace Go.Proofs.YtihlpcbebpnmkaaGreatDoor
namespace Rows

/-- THE TIED CARD OF 'arboretlaw11.OverlayKeeps'. -/
def overlayKeepsCard : Claim7 := { stood := { row := overlayKeepsRow, standIns := [], harness := (true, "fb46ec4834c709447bb676d5f014590118ad323befdb455ad459c11484b2b57f"), looks := true }, kinds := [], alts := [], laidByText := true, laidKinds := [.data, .data, .data, .data, .sentinel, .sentinel, .pinned], laidTests := true, laidLooks := .later }
def OverlayKeepsCardSaid : Prop := Claim7.holds Tryz.pinned (.plain (OpenSpec.ofChange overlayKeepsSpec)) overlayKeepsCard

/-- THE SECOND FORM's CARD OF 'arboretlaw11.OverlayKeeps'. -/
def overlayKeepsUptoCard : Claim7 := { stood := { row := overlayKeepsUptoRow, standIns := [], harness := (true, "fb46ec4834c709447bb676d5f014590118ad323befdb455ad459c11484b2b57f"), looks := true }, kinds := [], alts := [], laidByText := true, laidKinds := [.data, .data, .data, .data, .sentinel, .sentinel, .pinned], laidTests := true, laidLooks := .later }
def OverlayKeepsUptoCardSaid : Prop := Claim7.holds Tryz.pinned (.plain (OpenSpec.upto overlayKeepsSpec)) overlayKeepsUptoCard
end Rows
end Go.Proofs.YtihlpcbebpnmkaaGreatDoor
