/-
  DERIVED. GIVEN WITH THE SEED: THE CARDS: each row of YtpkkebojiengpaaGreatDoorRows.lean that lists a variable, with what it lists TIED to the program's text (the seventh form; the later family's looks); each row that meets fmt, with fmt's text TOLD by the authors' own Lean function (tested against real Go, not proved from fmt's source: count such statements apart). THE CARD IS WHAT COUNTS. Prove the row's statement (the work); the ties are given (YtpkkebojiengpaaGreatDoorTie.lean); close each card by the builder's one call (the guide's Derived/Test/ToyasCard.lean, 'card_holds'). Laid BY PROGRAM, IN A SANDBOX (cutbox-door.mjs). By AI agents, Wed Nov 11 2026. No macro, syntax, notation, axiom, sorry.
-/
import Derived.Test.YtpkkebojiengpaaGreatDoorRows
import GoSem.ClaimSeven
namespace Go.Proofs.YtpkkebojiengpaaGreatDoor
namespace Rows

/-- THE TIED CARD OF 'corporalaw09.DependFormats'. -/
def dependFormatsCard : Claim7 := { stood := { row := dependFormatsRow, standIns := [], harness := (true, "d1a013aec6dd5292b8ae4c7fc961b3c161ef84d21305cf61e6329ec67d51201a"), looks := true }, kinds := [], alts := [], laidByText := true, laidKinds := [.data, .data, .data, .data, .sentinel, .sentinel, .pinned], laidTests := true, laidLooks := .later }
def DependFormatsCardSaid : Prop := Claim7.holds Tryz.pinned (.plain (OpenSpec.ofChange dependFormatsSpec)) dependFormatsCard

/-- THE SECOND FORM's CARD OF 'corporalaw09.DependFormats'. -/
def dependFormatsUptoCard : Claim7 := { stood := { row := dependFormatsUptoRow, standIns := [], harness := (true, "d1a013aec6dd5292b8ae4c7fc961b3c161ef84d21305cf61e6329ec67d51201a"), looks := true }, kinds := [], alts := [], laidByText := true, laidKinds := [.data, .data, .data, .data, .sentinel, .sentinel, .pinned], laidTests := true, laidLooks := .later }
def DependFormatsUptoCardSaid : Prop := Claim7.holds Tryz.pinned (.plain (OpenSpec.upto dependFormatsSpec)) dependFormatsUptoCard
end Rows
end Go.Proofs.YtpkkebojiengpaaGreatDoor
