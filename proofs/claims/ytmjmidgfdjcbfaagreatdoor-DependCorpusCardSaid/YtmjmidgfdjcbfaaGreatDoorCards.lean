/-
  DERIVED. GIVEN WITH THE SEED: THE CARDS: each row of YtmjmidgfdjcbfaaGreatDoorRows.lean that lists a variable, with what it lists TIED to the program's text (the seventh form; the later family's looks); each row that meets fmt, with fmt's text TOLD by the authors' own Lean function (tested against real Go, not proved from fmt's source: count such statements apart). THE CARD IS WHAT COUNTS. Prove the row's statement (the work); the ties are given (YtmjmidgfdjcbfaaGreatDoorTie.lean); close each card by the builder's one call (the guide's Derived/Test/ToyasCard.lean, 'card_holds'). Laid BY PROGRAM, IN A SANDBOX (cutbox-door.mjs). By AI agents, Wed Nov 11 2026. No macro, syntax, notation, axiom, sorry.
-/
import Derived.Test.YtmjmidgfdjcbfaaGreatDoorRows
import GoSem.ClaimSeven
namespace Go.Proofs.YtmjmidgfdjcbfaaGreatDoor
namespace Rows

/-- THE TIED CARD OF 'corporalaw09.DependCorpus'. -/
def dependCorpusCard : Claim7 := { stood := { row := dependCorpusRow, standIns := [], harness := (true, "f253c65c5d73cab76cda6c277916e33be5f8fbc863b2e977c274e31be1961f18"), looks := true }, kinds := [], alts := [], laidByText := true, laidKinds := [.data, .data, .data, .data, .sentinel, .sentinel, .pinned], laidTests := true, laidLooks := .later }
def DependCorpusCardSaid : Prop := Claim7.holds Tryz.pinned (.plain (OpenSpec.ofChange dependCorpusSpec)) dependCorpusCard

/-- THE SECOND FORM's CARD OF 'corporalaw09.DependCorpus'. -/
def dependCorpusUptoCard : Claim7 := { stood := { row := dependCorpusUptoRow, standIns := [], harness := (true, "f253c65c5d73cab76cda6c277916e33be5f8fbc863b2e977c274e31be1961f18"), looks := true }, kinds := [], alts := [], laidByText := true, laidKinds := [.data, .data, .data, .data, .sentinel, .sentinel, .pinned], laidTests := true, laidLooks := .later }
def DependCorpusUptoCardSaid : Prop := Claim7.holds Tryz.pinned (.plain (OpenSpec.upto dependCorpusSpec)) dependCorpusUptoCard
end Rows
end Go.Proofs.YtmjmidgfdjcbfaaGreatDoor
