/-
  DERIVED. GIVEN WITH THE SEED: THE CARDS: each row of YtpkkebojiengpaaDoorRows.lean that lists a variable, with what it lists TIED to the program's text (the seventh form; the later family's looks); each row that meets fmt, with fmt's text TOLD by the authors' own Lean function (tested against real Go, not proved from fmt's source: count such statements apart). THE CARD IS WHAT COUNTS. Prove the row's statement (the work); the ties are given (YtpkkebojiengpaaDoorTie.lean); close each card by the builder's one call (the guide's Derived/Test/ToyasCard.lean, 'card_holds'). Laid BY PROGRAM, IN A SANDBOX (cutbox-door.mjs). By AI agents, Wed Nov 11 2026. No macro, syntax, notation, axiom, sorry.
-/
import Derived.Test.YtpkkebojiengpaaDoorRows
import GoSem.ClaimSeven
namespace Go.Proofs.YtpkkebojiengpaaDoor
namespace Rows

/-- THE TIED CARD OF 'corporalaw09.DependRoundTrips'. -/
def dependRoundTripsCard : Claim7 := { stood := { row := dependRoundTripsRow, standIns := [], harness := (true, "3e6dd09fdb970628bd440224b0a5895cff6617f51182031e0974e0332cfdc1be"), looks := true }, kinds := [], alts := [], laidByText := true, laidKinds := [.data, .data, .data, .data, .sentinel, .sentinel, .pinned], laidTests := true, laidLooks := .later }
def DependRoundTripsCardSaid : Prop := Claim7.holds Tryd.pinned (.plain (OpenSpec.ofChange dependRoundTripsSpec)) dependRoundTripsCard

/-- THE SECOND FORM's CARD OF 'corporalaw09.DependRoundTrips'. -/
def dependRoundTripsUptoCard : Claim7 := { stood := { row := dependRoundTripsUptoRow, standIns := [], harness := (true, "3e6dd09fdb970628bd440224b0a5895cff6617f51182031e0974e0332cfdc1be"), looks := true }, kinds := [], alts := [], laidByText := true, laidKinds := [.data, .data, .data, .data, .sentinel, .sentinel, .pinned], laidTests := true, laidLooks := .later }
def DependRoundTripsUptoCardSaid : Prop := Claim7.holds Tryd.pinned (.plain (OpenSpec.upto dependRoundTripsSpec)) dependRoundTripsUptoCard
end Rows
end Go.Proofs.YtpkkebojiengpaaDoor
