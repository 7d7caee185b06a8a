/-
  DERIVED. GIVEN WITH THE SEED: THE CARDS: each row of YtifdencdbpdbfaaDoorRows.lean that lists a variable, with what it lists TIED to the program's text (the seventh form; the later family's looks); each row that meets fmt, with fmt's text TOLD by the authors' own Lean function (tested against real Go, not proved from fmt's source: count such statements apart). THE CARD IS WHAT COUNTS. Prove the row's statement (the work); the ties are given (YtifdencdbpdbfaaDoorTie.lean); close each card by the builder's one call (the guide's Derived/Test/ToyasCard.lean, 'card_holds'). Laid BY PROGRAM, IN A SANDBOX (cutbox-door.mjs). By AI agents, Wed Nov 11 2026. No macro, syntax, notation, axiom, sorry.
-/
import Derived.Test.YtifdencdbpdbfaaDoorRows
import GoSem.ClaimSeven
namespace Go.Proofs.YtifdencdbpdbfaaDoor
namespace Rows

/-- THE TIED CARD OF 'corporalaw12.StabEncodes'. -/
def stabEncodesCard : Claim7 := { stood := { row := stabEncodesRow, standIns := [], harness := (true, "1f0a5f734145944f278fae351a10311ab6ba36ddd0091840b2a395c5ef12dcdd"), looks := false }, kinds := [], alts := [], laidByText := true, laidKinds := [.data], laidTests := true, laidLooks := .later }
def StabEncodesCardSaid : Prop := Claim7.holds Tryd.pinned (.plain (OpenSpec.ofChange stabEncodesSpec)) stabEncodesCard

/-- THE TIED CARD OF 'corporalaw12.StabDecodes'. -/
def stabDecodesCard : Claim7 := { stood := { row := stabDecodesRow, standIns := [], harness := (true, "1f0a5f734145944f278fae351a10311ab6ba36ddd0091840b2a395c5ef12dcdd"), looks := false }, kinds := [], alts := [], laidByText := true, laidKinds := [.data], laidTests := true, laidLooks := .later }
def StabDecodesCardSaid : Prop := Claim7.holds Tryd.pinned (.plain (OpenSpec.ofChange stabDecodesSpec)) stabDecodesCard

/-- THE SECOND FORM's CARD OF 'corporalaw12.StabEncodes'. -/
def stabEncodesUptoCard : Claim7 := { stood := { row := stabEncodesUptoRow, standIns := [], harness := (true, "1f0a5f734145944f278fae351a10311ab6ba36ddd0091840b2a395c5ef12dcdd"), looks := false }, kinds := [], alts := [], laidByText := true, laidKinds := [.data], laidTests := true, laidLooks := .later }
def StabEncodesUptoCardSaid : Prop := Claim7.holds Tryd.pinned (.plain (OpenSpec.upto stabEncodesSpec)) stabEncodesUptoCard

/-- THE SECOND FORM's CARD OF 'corporalaw12.StabDecodes'. -/
def stabDecodesUptoCard : Claim7 := { stood := { row := stabDecodesUptoRow, standIns := [], harness := (true, "1f0a5f734145944f278fae351a10311ab6ba36ddd0091840b2a395c5ef12dcdd"), looks := false }, kinds := [], alts := [], laidByText := true, laidKinds := [.data], laidTests := true, laidLooks := .later }
def StabDecodesUptoCardSaid : Prop := Claim7.holds Tryd.pinned (.plain (OpenSpec.upto stabDecodesSpec)) stabDecodesUptoCard
end Rows
end Go.Proofs.YtifdencdbpdbfaaDoor
