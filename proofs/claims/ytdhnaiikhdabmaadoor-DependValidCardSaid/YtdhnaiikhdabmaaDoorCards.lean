/-
  DERIVED. GIVEN WITH THE SEED: THE CARDS: each row of YtdhnaiikhdabmaaDoorRows.lean that lists a variable, with what it lists TIED to the program's text (the seventh form; the later family's looks); each row that meets fmt, with fmt's text TOLD by the authors' own Lean function (tested against real Go, not proved from fmt's source: count such statements apart). THE CARD IS WHAT COUNTS. Prove the row's statement (the work); the ties are given (YtdhnaiikhdabmaaDoorTie.lean); close each card by the builder's one call (the guide's Derived/Test/ToyasCard.lean, 'card_holds'). Laid BY PROGRAM, IN A SANDBOX (cutbox-door.mjs). By AI agents, Wed Nov 11 2026. No macro, syntax, notation, axiom, sorry.
-/
import Derived.Test.YtdhnaiikhdabmaaDoorRows
import GoSem.ClaimSeven
namespace Go.Proofs.YtdhnaiikhdabmaaDoor
namespace Rows

/-- THE TIED CARD OF 'corporalaw09.DependChecks'. -/
def dependChecksCard : Claim7 := { stood := { row := dependChecksRow, standIns := [], harness := (true, "5ea11b0957448687a1bb7215665276ed0abb7dfcfdf723877ae1c6e4d566a22e"), looks := true }, kinds := [], alts := [], laidByText := true, laidKinds := [.data, .data, .data, .data, .sentinel, .sentinel, .pinned], laidTests := true, laidLooks := .later }
def DependChecksCardSaid : Prop := Claim7.holds Tryd.pinned (.plain (OpenSpec.ofChange dependChecksSpec)) dependChecksCard

/-- THE TIED CARD OF 'corporalaw09.DependDepths'. -/
def dependDepthsCard : Claim7 := { stood := { row := dependDepthsRow, standIns := [], harness := (true, "5ea11b0957448687a1bb7215665276ed0abb7dfcfdf723877ae1c6e4d566a22e"), looks := true }, kinds := [], alts := [], laidByText := true, laidKinds := [.data, .data, .data, .data, .sentinel, .sentinel, .pinned], laidTests := true, laidLooks := .later }
def DependDepthsCardSaid : Prop := Claim7.holds Tryd.pinned (.plain (OpenSpec.ofChange dependDepthsSpec)) dependDepthsCard

/-- THE TIED CARD OF 'corporalaw09.DependPaths'. -/
def dependPathsCard : Claim7 := { stood := { row := dependPathsRow, standIns := [], harness := (true, "5ea11b0957448687a1bb7215665276ed0abb7dfcfdf723877ae1c6e4d566a22e"), looks := true }, kinds := [], alts := [], laidByText := true, laidKinds := [.data, .data, .data, .data, .sentinel, .sentinel, .pinned], laidTests := true, laidLooks := .later }
def DependPathsCardSaid : Prop := Claim7.holds Tryd.pinned (.plain (OpenSpec.ofChange dependPathsSpec)) dependPathsCard

/-- THE TIED CARD OF 'corporalaw09.DependConnects'. -/
def dependConnectsCard : Claim7 := { stood := { row := dependConnectsRow, standIns := [], harness := (true, "5ea11b0957448687a1bb7215665276ed0abb7dfcfdf723877ae1c6e4d566a22e"), looks := true }, kinds := [], alts := [], laidByText := true, laidKinds := [.data, .data, .data, .data, .sentinel, .sentinel, .pinned], laidTests := true, laidLooks := .later }
def DependConnectsCardSaid : Prop := Claim7.holds Tryd.pinned (.plain (OpenSpec.ofChange dependConnectsSpec)) dependConnectsCard

/-- THE TIED CARD OF 'corporalaw09.DependProjects'. -/
def dependProjectsCard : Claim7 := { stood := { row := dependProjectsRow, standIns := [], harness := (true, "5ea11b0957448687a1bb7215665276ed0abb7dfcfdf723877ae1c6e4d566a22e"), looks := true }, kinds := [], alts := [], laidByText := true, laidKinds := [.data, .data, .data, .data, .sentinel, .sentinel, .pinned], laidTests := true, laidLooks := .later }
def DependProjectsCardSaid : Prop := Claim7.holds Tryd.pinned (.plain (OpenSpec.ofChange dependProjectsSpec)) dependProjectsCard

/-- THE TIED CARD OF 'corporalaw09.DependCrosses'. -/
def dependCrossesCard : Claim7 := { stood := { row := dependCrossesRow, standIns := [], harness := (true, "5ea11b0957448687a1bb7215665276ed0abb7dfcfdf723877ae1c6e4d566a22e"), looks := true }, kinds := [], alts := [], laidByText := true, laidKinds := [.data, .data, .data, .data, .sentinel, .sentinel, .pinned], laidTests := true, laidLooks := .later }
def DependCrossesCardSaid : Prop := Claim7.holds Tryd.pinned (.plain (OpenSpec.ofChange dependCrossesSpec)) dependCrossesCard

/-- THE TIED CARD OF 'corporalaw09.DependParses'. -/
def dependParsesCard : Claim7 := { stood := { row := dependParsesRow, standIns := [], harness := (true, "5ea11b0957448687a1bb7215665276ed0abb7dfcfdf723877ae1c6e4d566a22e"), looks := true }, kinds := [], alts := [], laidByText := true, laidKinds := [.data, .data, .data, .data, .sentinel, .sentinel, .pinned], laidTests := true, laidLooks := .later }
def DependParsesCardSaid : Prop := Claim7.holds Tryd.pinned (.plain (OpenSpec.ofChange dependParsesSpec)) dependParsesCard

/-- THE TIED CARD OF 'corporalaw09.DependValid'. -/
def dependValidCard : Claim7 := { stood := { row := dependValidRow, standIns := [], harness := (true, "5ea11b0957448687a1bb7215665276ed0abb7dfcfdf723877ae1c6e4d566a22e"), looks := true }, kinds := [], alts := [], laidByText := true, laidKinds := [.data, .data, .data, .data, .sentinel, .sentinel, .pinned], laidTests := true, laidLooks := .later }
def DependValidCardSaid : Prop := Claim7.holds Tryd.pinned (.plain (OpenSpec.ofChange dependValidSpec)) dependValidCard

/-- THE TIED CARD OF 'corporalaw09.DependRoundTrips'. -/
def dependRoundTripsCard : Claim7 := { stood := { row := dependRoundTripsRow, standIns := [], harness := (true, "5ea11b0957448687a1bb7215665276ed0abb7dfcfdf723877ae1c6e4d566a22e"), looks := true }, kinds := [], alts := [], laidByText := true, laidKinds := [.data, .data, .data, .data, .sentinel, .sentinel, .pinned], laidTests := true, laidLooks := .later }
def DependRoundTripsCardSaid : Prop := Claim7.holds Tryd.pinned (.plain (OpenSpec.ofChange dependRoundTripsSpec)) dependRoundTripsCard

/-- THE SECOND FORM's CARD OF 'corporalaw09.DependChecks'. -/
def dependChecksUptoCard : Claim7 := { stood := { row := dependChecksUptoRow, standIns := [], harness := (true, "5ea11b0957448687a1bb7215665276ed0abb7dfcfdf723877ae1c6e4d566a22e"), looks := true }, kinds := [], alts := [], laidByText := true, laidKinds := [.data, .data, .data, .data, .sentinel, .sentinel, .pinned], laidTests := true, laidLooks := .later }
def DependChecksUptoCardSaid : Prop := Claim7.holds Tryd.pinned (.plain (OpenSpec.upto dependChecksSpec)) dependChecksUptoCard

/-- THE SECOND FORM's CARD OF 'corporalaw09.DependDepths'. -/
def dependDepthsUptoCard : Claim7 := { stood := { row := dependDepthsUptoRow, standIns := [], harness := (true, "5ea11b0957448687a1bb7215665276ed0abb7dfcfdf723877ae1c6e4d566a22e"), looks := true }, kinds := [], alts := [], laidByText := true, laidKinds := [.data, .data, .data, .data, .sentinel, .sentinel, .pinned], laidTests := true, laidLooks := .later }
def DependDepthsUptoCardSaid : Prop := Claim7.holds Tryd.pinned (.plain (OpenSpec.upto dependDepthsSpec)) dependDepthsUptoCard

/-- THE SECOND FORM's CARD OF 'corporalaw09.DependPaths'. -/
def dependPathsUptoCard : Claim7 := { stood := { row := dependPathsUptoRow, standIns := [], harness := (true, "5ea11b0957448687a1bb7215665276ed0abb7dfcfdf723877ae1c6e4d566a22e"), looks := true }, kinds := [], alts := [], laidByText := true, laidKinds := [.data, .data, .data, .data, .sentinel, .sentinel, .pinned], laidTests := true, laidLooks := .later }
def DependPathsUptoCardSaid : Prop := Claim7.holds Tryd.pinned (.plain (OpenSpec.upto dependPathsSpec)) dependPathsUptoCard

/-- THE SECOND FORM's CARD OF 'corporalaw09.DependConnects'. -/
def dependConnectsUptoCard : Claim7 := { stood := { row := dependConnectsUptoRow, standIns := [], harness := (true, "5ea11b0957448687a1bb7215665276ed0abb7dfcfdf723877ae1c6e4d566a22e"), looks := true }, kinds := [], alts := [], laidByText := true, laidKinds := [.data, .data, .data, .data, .sentinel, .sentinel, .pinned], laidTests := true, laidLooks := .later }
def DependConnectsUptoCardSaid : Prop := Claim7.holds Tryd.pinned (.plain (OpenSpec.upto dependConnectsSpec)) dependConnectsUptoCard

/-- THE SECOND FORM's CARD OF 'corporalaw09.DependProjects'. -/
def dependProjectsUptoCard : Claim7 := { stood := { row := dependProjectsUptoRow, standIns := [], harness := (true, "5ea11b0957448687a1bb7215665276ed0abb7dfcfdf723877ae1c6e4d566a22e"), looks := true }, kinds := [], alts := [], laidByText := true, laidKinds := [.data, .data, .data, .data, .sentinel, .sentinel, .pinned], laidTests := true, laidLooks := .later }
def DependProjectsUptoCardSaid : Prop := Claim7.holds Tryd.pinned (.plain (OpenSpec.upto dependProjectsSpec)) dependProjectsUptoCard

/-- THE SECOND FORM's CARD OF 'corporalaw09.DependCrosses'. -/
def dependCrossesUptoCard : Claim7 := { stood := { row := dependCrossesUptoRow, standIns := [], harness := (true, "5ea11b0957448687a1bb7215665276ed0abb7dfcfdf723877ae1c6e4d566a22e"), looks := true }, kinds := [], alts := [], laidByText := true, laidKinds := [.data, .data, .data, .data, .sentinel, .sentinel, .pinned], laidTests := true, laidLooks := .later }
def DependCrossesUptoCardSaid : Prop := Claim7.holds Tryd.pinned (.plain (OpenSpec.upto dependCrossesSpec)) dependCrossesUptoCard

/-- THE SECOND FORM's CARD OF 'corporalaw09.DependParses'. -/
def dependParsesUptoCard : Claim7 := { stood := { row := dependParsesUptoRow, standIns := [], harness := (true, "5ea11b0957448687a1bb7215665276ed0abb7dfcfdf723877ae1c6e4d566a22e"), looks := true }, kinds := [], alts := [], laidByText := true, laidKinds := [.data, .data, .data, .data, .sentinel, .sentinel, .pinned], laidTests := true, laidLooks := .later }
def DependParsesUptoCardSaid : Prop := Claim7.holds Tryd.pinned (.plain (OpenSpec.upto dependParsesSpec)) dependParsesUptoCard

/-- THE SECOND FORM's CARD OF 'corporalaw09.DependValid'. -/
def dependValidUptoCard : Claim7 := { stood := { row := dependValidUptoRow, standIns := [], harness := (true, "5ea11b0957448687a1bb7215665276ed0abb7dfcfdf723877ae1c6e4d566a22e"), looks := true }, kinds := [], alts := [], laidByText := true, laidKinds := [.data, .data, .data, .data, .sentinel, .sentinel, .pinned], laidTests := true, laidLooks := .later }
def DependValidUptoCardSaid : Prop := Claim7.holds Tryd.pinned (.plain (OpenSpec.upto dependValidSpec)) dependValidUptoCard

/-- THE SECOND FORM's CARD OF 'corporalaw09.DependRoundTrips'. -/
def dependRoundTripsUptoCard : Claim7 := { stood := { row := dependRoundTripsUptoRow, standIns := [], harness := (true, "5ea11b0957448687a1bb7215665276ed0abb7dfcfdf723877ae1c6e4d566a22e"), looks := true }, kinds := [], alts := [], laidByText := true, laidKinds := [.data, .data, .data, .data, .sentinel, .sentinel, .pinned], laidTests := true, laidLooks := .later }
def DependRoundTripsUptoCardSaid : Prop := Claim7.holds Tryd.pinned (.plain (OpenSpec.upto dependRoundTripsSpec)) dependRoundTripsUptoCard
end Rows
end Go.Proofs.YtdhnaiikhdabmaaDoor
