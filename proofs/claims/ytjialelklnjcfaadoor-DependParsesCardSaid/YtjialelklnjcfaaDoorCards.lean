/-
  DERIVED. GIVEN WITH THE SEED: THE CARDS: each row of YtjialelklnjcfaaDoorRows.lean that lists a variable, with what it lists TIED to the program's text (the seventh form; the later family's looks); each row that meets fmt, with fmt's text TOLD by the authors' own Lean function (tested against real Go, not proved from fmt's source: count such statements apart). THE CARD IS WHAT COUNTS. Prove the row's statement (the work); the ties are given (YtjialelklnjcfaaDoorTie.lean); close each card by the builder's one call (the guide's Derived/Test/ToyasCard.lean, 'card_holds'). Laid BY PROGRAM, IN A SANDBOX (cutbox-door.mjs). By AI agents, Wed Nov 11 2026. No macro, syntax, notation, axiom, sorry.
-/
import Derived.Test.YtjialelklnjcfaaDoorRows
import GoSem.ClaimSeven
namespace Go.Proofs.YtjialelklnjcfaaDoor
namespace Rows

/-- THE TIED CARD OF 'corporalaw09.DependParses'. -/
def dependParsesCard : Claim7 := { stood := { row := dependParsesRow, standIns := [], harness := (true, "855090d899fb4e67699fea8273b36e788d103c76497867b735c722e9f29f699f"), looks := true }, kinds := [], alts := [], laidByText := true, laidKinds := [.data, .data, .data, .data, .sentinel, .sentinel, .pinned], laidTests := true, laidLooks := .later }
def DependParsesCardSaid : Prop := Claim7.holds Tryd.pinned (.plain (OpenSpec.ofChange dependParsesSpec)) dependParsesCard

/-- THE TIED CARD OF 'corporalaw09.DependRoundTrips'. -/
def dependRoundTripsCard : Claim7 := { stood := { row := dependRoundTripsRow, standIns := [], harness := (true, "855090d899fb4e67699fea8273b36e788d103c76497867b735c722e9f29f699f"), looks := true }, kinds := [], alts := [], laidByText := true, laidKinds := [.data, .data, .data, .data, .sentinel, .sentinel, .pinned], laidTests := true, laidLooks := .later }
def DependRoundTripsCardSaid : Prop := Claim7.holds Tryd.pinned (.plain (OpenSpec.ofChange dependRoundTripsSpec)) dependRoundTripsCard

/-- THE SECOND FORM's CARD OF 'corporalaw09.DependParses'. -/
def dependParsesUptoCard : Claim7 := { stood := { row := dependParsesUptoRow, standIns := [], harness := (true, "855090d899fb4e67699fea8273b36e788d103c76497867b735c722e9f29f699f"), looks := true }, kinds := [], alts := [], laidByText := true, laidKinds := [.data, .data, .data, .data, .sentinel, .sentinel, .pinned], laidTests := true, laidLooks := .later }
def DependParsesUptoCardSaid : Prop := Claim7.holds Tryd.pinned (.plain (OpenSpec.upto dependParsesSpec)) dependParsesUptoCard

/-- THE SECOND FORM's CARD OF 'corporalaw09.DependRoundTrips'. -/
def dependRoundTripsUptoCard : Claim7 := { stood := { row := dependRoundTripsUptoRow, standIns := [], harness := (true, "855090d899fb4e67699fea8273b36e788d103c76497867b735c722e9f29f699f"), looks := true }, kinds := [], alts := [], laidByText := true, laidKinds := [.data, .data, .data, .data, .sentinel, .sentinel, .pinned], laidTests := true, laidLooks := .later }
def DependRoundTripsUptoCardSaid : Prop := Claim7.holds Tryd.pinned (.plain (OpenSpec.upto dependRoundTripsSpec)) dependRoundTripsUptoCard
end Rows
end Go.Proofs.YtjialelklnjcfaaDoor
