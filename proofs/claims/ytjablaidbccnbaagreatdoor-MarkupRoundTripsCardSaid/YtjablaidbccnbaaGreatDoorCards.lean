/-
  DERIVED. GIVEN WITH THE SEED: THE CARDS: each row of YtjablaidbccnbaaGreatDoorRows.lean that lists a variable, with what it lists TIED to the program's text (the seventh form; the later family's looks); each row that meets fmt, with fmt's text TOLD by the authors' own Lean function (tested against real Go, not proved from fmt's source: count such statements apart). THE CARD IS WHAT COUNTS. Prove the row's statement (the work); the ties are given (YtjablaidbccnbaaGreatDoorTie.lean); close each card by the builder's one call (the guide's Derived/Test/ToyasCard.lean, 'card_holds'). Laid BY PROGRAM, IN A SANDBOX (cutbox-door.mjs). By AI agents, Wed Nov 11 2026. No macro, syntax, notation, axiom, sorry.
-/
import Derived.Test.YtjablaidbccnbaaGreatDoorRows
import GoSem.ClaimSeven
namespace Go.Proofs.YtjablaidbccnbaaGreatDoor
namespace Rows

/-- THE TIED CARD OF 'corporalaw04.MarkupParses'. -/
def markupParsesCard : Claim7 := { stood := { row := markupParsesRow, standIns := [], harness := (true, "3bee519fef5d36fc04317418d4852b2ae3eed1b8a9abff1dee794483084e068d"), looks := true }, kinds := [], alts := [], laidByText := true, laidKinds := [.data, .data, .data, .data, .sentinel, .sentinel, .data, .pinned], laidTests := true, laidLooks := .later }
def MarkupParsesCardSaid : Prop := Claim7.holds Tryz.pinned (.plain (OpenSpec.ofChange markupParsesSpec)) markupParsesCard

/-- THE TIED CARD OF 'corporalaw04.MarkupFormats'. -/
def markupFormatsCard : Claim7 := { stood := { row := markupFormatsRow, standIns := [], harness := (true, "3bee519fef5d36fc04317418d4852b2ae3eed1b8a9abff1dee794483084e068d"), looks := true }, kinds := [], alts := [], laidByText := true, laidKinds := [.data, .data, .data, .data, .sentinel, .sentinel, .data, .pinned], laidTests := true, laidLooks := .later }
def MarkupFormatsCardSaid : Prop := Claim7.holds Tryz.pinned (.plain (OpenSpec.ofChange markupFormatsSpec)) markupFormatsCard

/-- THE TIED CARD OF 'corporalaw04.MarkupRoundTrips'. -/
def markupRoundTripsCard : Claim7 := { stood := { row := markupRoundTripsRow, standIns := [], harness := (true, "3bee519fef5d36fc04317418d4852b2ae3eed1b8a9abff1dee794483084e068d"), looks := true }, kinds := [], alts := [], laidByText := true, laidKinds := [.data, .data, .data, .data, .sentinel, .sentinel, .data, .pinned], laidTests := true, laidLooks := .later }
def MarkupRoundTripsCardSaid : Prop := Claim7.holds Tryz.pinned (.plain (OpenSpec.ofChange markupRoundTripsSpec)) markupRoundTripsCard

/-- THE SECOND FORM's CARD OF 'corporalaw04.MarkupParses'. -/
def markupParsesUptoCard : Claim7 := { stood := { row := markupParsesUptoRow, standIns := [], harness := (true, "3bee519fef5d36fc04317418d4852b2ae3eed1b8a9abff1dee794483084e068d"), looks := true }, kinds := [], alts := [], laidByText := true, laidKinds := [.data, .data, .data, .data, .sentinel, .sentinel, .data, .pinned], laidTests := true, laidLooks := .later }
def MarkupParsesUptoCardSaid : Prop := Claim7.holds Tryz.pinned (.plain (OpenSpec.upto markupParsesSpec)) markupParsesUptoCard

/-- THE SECOND FORM's CARD OF 'corporalaw04.MarkupFormats'. -/
def markupFormatsUptoCard : Claim7 := { stood := { row := markupFormatsUptoRow, standIns := [], harness := (true, "3bee519fef5d36fc04317418d4852b2ae3eed1b8a9abff1dee794483084e068d"), looks := true }, kinds := [], alts := [], laidByText := true, laidKinds := [.data, .data, .data, .data, .sentinel, .sentinel, .data, .pinned], laidTests := true, laidLooks := .later }
def MarkupFormatsUptoCardSaid : Prop := Claim7.holds Tryz.pinned (.plain (OpenSpec.upto markupFormatsSpec)) markupFormatsUptoCard

/-- THE SECOND FORM's CARD OF 'corporalaw04.MarkupRoundTrips'. -/
def markupRoundTripsUptoCard : Claim7 := { stood := { row := markupRoundTripsUptoRow, standIns := [], harness := (true, "3bee519fef5d36fc04317418d4852b2ae3eed1b8a9abff1dee794483084e068d"), looks := true }, kinds := [], alts := [], laidByText := true, laidKinds := [.data, .data, .data, .data, .sentinel, .sentinel, .data, .pinned], laidTests := true, laidLooks := .later }
def MarkupRoundTripsUptoCardSaid : Prop := Claim7.holds Tryz.pinned (.plain (OpenSpec.upto markupRoundTripsSpec)) markupRoundTripsUptoCard
end Rows
end Go.Proofs.YtjablaidbccnbaaGreatDoor
