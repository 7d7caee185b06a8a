/-
  DERIVED. GIVEN WITH THE SEED: THE CARDS: each row of YtgclmiheahfakaaDoorRows.lean that lists a variable, with what it lists TIED to the program's text (the seventh form; the later family's looks); each row that meets fmt, with fmt's text TOLD by the authors' own Lean function (tested against real Go, not proved from fmt's source: count such statements apart). THE CARD IS WHAT COUNTS. Prove the row's statement (the work); the ties are given (YtgclmiheahfakaaDoorTie.lean); close each card by the builder's one call (the guide's Derived/Test/ToyasCard.lean, 'card_holds'). Laid BY PROGRAM, IN A SANDBOX (cutbox-door.mjs). By AI agents, Wed Nov 11 2026. No macro, syntax, notation, axiom, sorry.
-/
import Derived.Test.YtgclmiheahfakaaDoorRows
import GoSem.ClaimSeven
namespace Go.Proofs.YtgclmiheahfakaaDoor
namespace Rows

/-- THE TIED CARD OF 'corporalaw03.ChecksumSums'. -/
def checksumSumsCard : Claim7 := { stood := { row := checksumSumsRow, standIns := [], harness := (true, "8f9288a2c5e09fc230643a6e0dcabe8553f41246c8bdfc1d78fab022536f666d"), looks := false }, kinds := [], alts := [], laidByText := true, laidKinds := [.data], laidTests := true, laidLooks := .later }
def ChecksumSumsCardSaid : Prop := Claim7.holds Tryd.pinned (.plain (OpenSpec.ofChange checksumSumsSpec)) checksumSumsCard

/-- THE TIED CARD OF 'corporalaw03.ChecksumCombines'. -/
def checksumCombinesCard : Claim7 := { stood := { row := checksumCombinesRow, standIns := [], harness := (true, "8f9288a2c5e09fc230643a6e0dcabe8553f41246c8bdfc1d78fab022536f666d"), looks := false }, kinds := [], alts := [], laidByText := true, laidKinds := [.data], laidTests := true, laidLooks := .later }
def ChecksumCombinesCardSaid : Prop := Claim7.holds Tryd.pinned (.plain (OpenSpec.ofChange checksumCombinesSpec)) checksumCombinesCard

/-- THE TIED CARD OF 'corporalaw03.ChecksumCombined'. -/
def checksumCombinedCard : Claim7 := { stood := { row := checksumCombinedRow, standIns := [], harness := (true, "8f9288a2c5e09fc230643a6e0dcabe8553f41246c8bdfc1d78fab022536f666d"), looks := false }, kinds := [], alts := [], laidByText := true, laidKinds := [.data], laidTests := true, laidLooks := .later }
def ChecksumCombinedCardSaid : Prop := Claim7.holds Tryd.pinned (.plain (OpenSpec.ofChange checksumCombinedSpec)) checksumCombinedCard

/-- THE TIED CARD OF 'corporalaw03.ChecksumChains'. -/
def checksumChainsCard : Claim7 := { stood := { row := checksumChainsRow, standIns := [], harness := (true, "8f9288a2c5e09fc230643a6e0dcabe8553f41246c8bdfc1d78fab022536f666d"), looks := false }, kinds := [], alts := [], laidByText := true, laidKinds := [.data], laidTests := true, laidLooks := .later }
def ChecksumChainsCardSaid : Prop := Claim7.holds Tryd.pinned (.plain (OpenSpec.ofChange checksumChainsSpec)) checksumChainsCard

/-- THE TIED CARD OF 'corporalaw03.ChecksumSeals'. -/
def checksumSealsCard : Claim7 := { stood := { row := checksumSealsRow, standIns := [], harness := (true, "8f9288a2c5e09fc230643a6e0dcabe8553f41246c8bdfc1d78fab022536f666d"), looks := false }, kinds := [], alts := [], laidByText := true, laidKinds := [.data], laidTests := true, laidLooks := .later }
def ChecksumSealsCardSaid : Prop := Claim7.holds Tryd.pinned (.plain (OpenSpec.ofChange checksumSealsSpec)) checksumSealsCard

/-- THE TIED CARD OF 'corporalaw03.ChecksumUnseals'. -/
def checksumUnsealsCard : Claim7 := { stood := { row := checksumUnsealsRow, standIns := [], harness := (true, "8f9288a2c5e09fc230643a6e0dcabe8553f41246c8bdfc1d78fab022536f666d"), looks := false }, kinds := [], alts := [], laidByText := true, laidKinds := [.data], laidTests := true, laidLooks := .later }
def ChecksumUnsealsCardSaid : Prop := Claim7.holds Tryd.pinned (.plain (OpenSpec.ofChange checksumUnsealsSpec)) checksumUnsealsCard

/-- THE TIED CARD OF 'corporalaw03.ChecksumLinear'. -/
def checksumLinearCard : Claim7 := { stood := { row := checksumLinearRow, standIns := [], harness := (true, "8f9288a2c5e09fc230643a6e0dcabe8553f41246c8bdfc1d78fab022536f666d"), looks := false }, kinds := [], alts := [], laidByText := true, laidKinds := [.data], laidTests := true, laidLooks := .later }
def ChecksumLinearCardSaid : Prop := Claim7.holds Tryd.pinned (.plain (OpenSpec.ofChange checksumLinearSpec)) checksumLinearCard

/-- THE TIED CARD OF 'corporalaw03.ChecksumBursts'. -/
def checksumBurstsCard : Claim7 := { stood := { row := checksumBurstsRow, standIns := [], harness := (true, "8f9288a2c5e09fc230643a6e0dcabe8553f41246c8bdfc1d78fab022536f666d"), looks := false }, kinds := [], alts := [], laidByText := true, laidKinds := [.data], laidTests := true, laidLooks := .later }
def ChecksumBurstsCardSaid : Prop := Claim7.holds Tryd.pinned (.plain (OpenSpec.ofChange checksumBurstsSpec)) checksumBurstsCard

/-- THE SECOND FORM's CARD OF 'corporalaw03.ChecksumSums'. -/
def checksumSumsUptoCard : Claim7 := { stood := { row := checksumSumsUptoRow, standIns := [], harness := (true, "8f9288a2c5e09fc230643a6e0dcabe8553f41246c8bdfc1d78fab022536f666d"), looks := false }, kinds := [], alts := [], laidByText := true, laidKinds := [.data], laidTests := true, laidLooks := .later }
def ChecksumSumsUptoCardSaid : Prop := Claim7.holds Tryd.pinned (.plain (OpenSpec.upto checksumSumsSpec)) checksumSumsUptoCard

/-- THE SECOND FORM's CARD OF 'corporalaw03.ChecksumCombines'. -/
def checksumCombinesUptoCard : Claim7 := { stood := { row := checksumCombinesUptoRow, standIns := [], harness := (true, "8f9288a2c5e09fc230643a6e0dcabe8553f41246c8bdfc1d78fab022536f666d"), looks := false }, kinds := [], alts := [], laidByText := true, laidKinds := [.data], laidTests := true, laidLooks := .later }
def ChecksumCombinesUptoCardSaid : Prop := Claim7.holds Tryd.pinned (.plain (OpenSpec.upto checksumCombinesSpec)) checksumCombinesUptoCard

/-- THE SECOND FORM's CARD OF 'corporalaw03.ChecksumCombined'. -/
def checksumCombinedUptoCard : Claim7 := { stood := { row := checksumCombinedUptoRow, standIns := [], harness := (true, "8f9288a2c5e09fc230643a6e0dcabe8553f41246c8bdfc1d78fab022536f666d"), looks := false }, kinds := [], alts := [], laidByText := true, laidKinds := [.data], laidTests := true, laidLooks := .later }
def ChecksumCombinedUptoCardSaid : Prop := Claim7.holds Tryd.pinned (.plain (OpenSpec.upto checksumCombinedSpec)) checksumCombinedUptoCard

/-- THE SECOND FORM's CARD OF 'corporalaw03.ChecksumChains'. -/
def checksumChainsUptoCard : Claim7 := { stood := { row := checksumChainsUptoRow, standIns := [], harness := (true, "8f9288a2c5e09fc230643a6e0dcabe8553f41246c8bdfc1d78fab022536f666d"), looks := false }, kinds := [], alts := [], laidByText := true, laidKinds := [.data], laidTests := true, laidLooks := .later }
def ChecksumChainsUptoCardSaid : Prop := Claim7.holds Tryd.pinned (.plain (OpenSpec.upto checksumChainsSpec)) checksumChainsUptoCard

/-- THE SECOND FORM's CARD OF 'corporalaw03.ChecksumSeals'. -/
def checksumSealsUptoCard : Claim7 := { stood := { row := checksumSealsUptoRow, standIns := [], harness := (true, "8f9288a2c5e09fc230643a6e0dcabe8553f41246c8bdfc1d78fab022536f666d"), looks := false }, kinds := [], alts := [], laidByText := true, laidKinds := [.data], laidTests := true, laidLooks := .later }
def ChecksumSealsUptoCardSaid : Prop := Claim7.holds Tryd.pinned (.plain (OpenSpec.upto checksumSealsSpec)) checksumSealsUptoCard

/-- THE SECOND FORM's CARD OF 'corporalaw03.ChecksumUnseals'. -/
def checksumUnsealsUptoCard : Claim7 := { stood := { row := checksumUnsealsUptoRow, standIns := [], harness := (true, "8f9288a2c5e09fc230643a6e0dcabe8553f41246c8bdfc1d78fab022536f666d"), looks := false }, kinds := [], alts := [], laidByText := true, laidKinds := [.data], laidTests := true, laidLooks := .later }
def ChecksumUnsealsUptoCardSaid : Prop := Claim7.holds Tryd.pinned (.plain (OpenSpec.upto checksumUnsealsSpec)) checksumUnsealsUptoCard

/-- THE SECOND FORM's CARD OF 'corporalaw03.ChecksumLinear'. -/
def checksumLinearUptoCard : Claim7 := { stood := { row := checksumLinearUptoRow, standIns := [], harness := (true, "8f9288a2c5e09fc230643a6e0dcabe8553f41246c8bdfc1d78fab022536f666d"), looks := false }, kinds := [], alts := [], laidByText := true, laidKinds := [.data], laidTests := true, laidLooks := .later }
def ChecksumLinearUptoCardSaid : Prop := Claim7.holds Tryd.pinned (.plain (OpenSpec.upto checksumLinearSpec)) checksumLinearUptoCard

/-- THE SECOND FORM's CARD OF 'corporalaw03.ChecksumBursts'. -/
def checksumBurstsUptoCard : Claim7 := { stood := { row := checksumBurstsUptoRow, standIns := [], harness := (true, "8f9288a2c5e09fc230643a6e0dcabe8553f41246c8bdfc1d78fab022536f666d"), looks := false }, kinds := [], alts := [], laidByText := true, laidKinds := [.data], laidTests := true, laidLooks := .later }
def ChecksumBurstsUptoCardSaid : Prop := Claim7.holds Tryd.pinned (.plain (OpenSpec.upto checksumBurstsSpec)) checksumBurstsUptoCard
end Rows
end Go.Proofs.YtgclmiheahfakaaDoor
