/-
  DERIVED. GIVEN WITH THE SEED: THE CARDS: each row of YtihekappojkgiaaGreatDoorRows.lean that lists a variable, with what it lists TIED to the program's text (the seventh form; the later family's looks); each row that meets fmt, with fmt's text TOLD by the authors' own Lean function (tested against real Go, not proved from fmt's source: count such statements apart). THE CARD IS WHAT COUNTS. Prove the row's statement (the work); the ties are given (YtihekappojkgiaaGreatDoorTie.lean); close each card by the builder's one call (the guide's Derived/Test/ToyasCard.lean, 'card_holds'). Laid BY PROGRAM, IN A SANDBOX (cutbox-door.mjs). By AI agents, Wed Nov 11 2026. No macro, syntax, notation, axiom, sorry.
-/
import Derived.Test.YtihekappojkgiaaGreatDoorRows
import GoSem.ClaimSeven
namespace Go.Proofs.YtihekappojkgiaaGreatDoor
namespace Rows

/-- THE TIED CARD OF 'corporalaw04.MarkupNames'. -/
def markupNamesCard : Claim7 := { stood := { row := markupNamesRow, standIns := [], harness := (true, "03c77d72a492821108160edecce40591d9dd59a65ab6be41429e8993521881cf"), looks := true }, kinds := [], alts := [], laidByText := true, laidKinds := [.data, .data, .data, .data, .sentinel, .sentinel, .data, .pinned], laidTests := true, laidLooks := .later }
def MarkupNamesCardSaid : Prop := Claim7.holds Tryz.pinned (.plain (OpenSpec.ofChange markupNamesSpec)) markupNamesCard

/-- THE TIED CARD OF 'corporalaw04.MarkupValues'. -/
def markupValuesCard : Claim7 := { stood := { row := markupValuesRow, standIns := [], harness := (true, "03c77d72a492821108160edecce40591d9dd59a65ab6be41429e8993521881cf"), looks := true }, kinds := [], alts := [], laidByText := true, laidKinds := [.data, .data, .data, .data, .sentinel, .sentinel, .data, .pinned], laidTests := true, laidLooks := .later }
def MarkupValuesCardSaid : Prop := Claim7.holds Tryz.pinned (.plain (OpenSpec.ofChange markupValuesSpec)) markupValuesCard

/-- THE TIED CARD OF 'corporalaw04.MarkupPrefixes'. -/
def markupPrefixesCard : Claim7 := { stood := { row := markupPrefixesRow, standIns := [], harness := (true, "03c77d72a492821108160edecce40591d9dd59a65ab6be41429e8993521881cf"), looks := true }, kinds := [], alts := [], laidByText := true, laidKinds := [.data, .data, .data, .data, .sentinel, .sentinel, .data, .pinned], laidTests := true, laidLooks := .later }
def MarkupPrefixesCardSaid : Prop := Claim7.holds Tryz.pinned (.plain (OpenSpec.ofChange markupPrefixesSpec)) markupPrefixesCard

/-- THE TIED CARD OF 'corporalaw04.MarkupEscapes'. -/
def markupEscapesCard : Claim7 := { stood := { row := markupEscapesRow, standIns := [], harness := (true, "03c77d72a492821108160edecce40591d9dd59a65ab6be41429e8993521881cf"), looks := true }, kinds := [], alts := [], laidByText := true, laidKinds := [.data, .data, .data, .data, .sentinel, .sentinel, .data, .pinned], laidTests := true, laidLooks := .later }
def MarkupEscapesCardSaid : Prop := Claim7.holds Tryz.pinned (.plain (OpenSpec.ofChange markupEscapesSpec)) markupEscapesCard

/-- THE TIED CARD OF 'corporalaw04.MarkupUnescapes'. -/
def markupUnescapesCard : Claim7 := { stood := { row := markupUnescapesRow, standIns := [], harness := (true, "03c77d72a492821108160edecce40591d9dd59a65ab6be41429e8993521881cf"), looks := true }, kinds := [], alts := [], laidByText := true, laidKinds := [.data, .data, .data, .data, .sentinel, .sentinel, .data, .pinned], laidTests := true, laidLooks := .later }
def MarkupUnescapesCardSaid : Prop := Claim7.holds Tryz.pinned (.plain (OpenSpec.ofChange markupUnescapesSpec)) markupUnescapesCard

/-- THE TIED CARD OF 'corporalaw04.MarkupNumbers'. -/
def markupNumbersCard : Claim7 := { stood := { row := markupNumbersRow, standIns := [], harness := (true, "03c77d72a492821108160edecce40591d9dd59a65ab6be41429e8993521881cf"), looks := true }, kinds := [], alts := [], laidByText := true, laidKinds := [.data, .data, .data, .data, .sentinel, .sentinel, .data, .pinned], laidTests := true, laidLooks := .later }
def MarkupNumbersCardSaid : Prop := Claim7.holds Tryz.pinned (.plain (OpenSpec.ofChange markupNumbersSpec)) markupNumbersCard

/-- THE SECOND FORM's CARD OF 'corporalaw04.MarkupNames'. -/
def markupNamesUptoCard : Claim7 := { stood := { row := markupNamesUptoRow, standIns := [], harness := (true, "03c77d72a492821108160edecce40591d9dd59a65ab6be41429e8993521881cf"), looks := true }, kinds := [], alts := [], laidByText := true, laidKinds := [.data, .data, .data, .data, .sentinel, .sentinel, .data, .pinned], laidTests := true, laidLooks := .later }
def MarkupNamesUptoCardSaid : Prop := Claim7.holds Tryz.pinned (.plain (OpenSpec.upto markupNamesSpec)) markupNamesUptoCard

/-- THE SECOND FORM's CARD OF 'corporalaw04.MarkupValues'. -/
def markupValuesUptoCard : Claim7 := { stood := { row := markupValuesUptoRow, standIns := [], harness := (true, "03c77d72a492821108160edecce40591d9dd59a65ab6be41429e8993521881cf"), looks := true }, kinds := [], alts := [], laidByText := true, laidKinds := [.data, .data, .data, .data, .sentinel, .sentinel, .data, .pinned], laidTests := true, laidLooks := .later }
def MarkupValuesUptoCardSaid : Prop := Claim7.holds Tryz.pinned (.plain (OpenSpec.upto markupValuesSpec)) markupValuesUptoCard

/-- THE SECOND FORM's CARD OF 'corporalaw04.MarkupPrefixes'. -/
def markupPrefixesUptoCard : Claim7 := { stood := { row := markupPrefixesUptoRow, standIns := [], harness := (true, "03c77d72a492821108160edecce40591d9dd59a65ab6be41429e8993521881cf"), looks := true }, kinds := [], alts := [], laidByText := true, laidKinds := [.data, .data, .data, .data, .sentinel, .sentinel, .data, .pinned], laidTests := true, laidLooks := .later }
def MarkupPrefixesUptoCardSaid : Prop := Claim7.holds Tryz.pinned (.plain (OpenSpec.upto markupPrefixesSpec)) markupPrefixesUptoCard

/-- THE SECOND FORM's CARD OF 'corporalaw04.MarkupEscapes'. -/
def markupEscapesUptoCard : Claim7 := { stood := { row := markupEscapesUptoRow, standIns := [], harness := (true, "03c77d72a492821108160edecce40591d9dd59a65ab6be41429e8993521881cf"), looks := true }, kinds := [], alts := [], laidByText := true, laidKinds := [.data, .data, .data, .data, .sentinel, .sentinel, .data, .pinned], laidTests := true, laidLooks := .later }
def MarkupEscapesUptoCardSaid : Prop := Claim7.holds Tryz.pinned (.plain (OpenSpec.upto markupEscapesSpec)) markupEscapesUptoCard

/-- THE SECOND FORM's CARD OF 'corporalaw04.MarkupUnescapes'. -/
def markupUnescapesUptoCard : Claim7 := { stood := { row := markupUnescapesUptoRow, standIns := [], harness := (true, "03c77d72a492821108160edecce40591d9dd59a65ab6be41429e8993521881cf"), looks := true }, kinds := [], alts := [], laidByText := true, laidKinds := [.data, .data, .data, .data, .sentinel, .sentinel, .data, .pinned], laidTests := true, laidLooks := .later }
def MarkupUnescapesUptoCardSaid : Prop := Claim7.holds Tryz.pinned (.plain (OpenSpec.upto markupUnescapesSpec)) markupUnescapesUptoCard

/-- THE SECOND FORM's CARD OF 'corporalaw04.MarkupNumbers'. -/
def markupNumbersUptoCard : Claim7 := { stood := { row := markupNumbersUptoRow, standIns := [], harness := (true, "03c77d72a492821108160edecce40591d9dd59a65ab6be41429e8993521881cf"), looks := true }, kinds := [], alts := [], laidByText := true, laidKinds := [.data, .data, .data, .data, .sentinel, .sentinel, .data, .pinned], laidTests := true, laidLooks := .later }
def MarkupNumbersUptoCardSaid : Prop := Claim7.holds Tryz.pinned (.plain (OpenSpec.upto markupNumbersSpec)) markupNumbersUptoCard
end Rows
end Go.Proofs.YtihekappojkgiaaGreatDoor
