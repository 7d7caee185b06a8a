/-
  DERIVED. GIVEN WITH THE SEED: THE CARDS: each row of YteennnhinfnahaaDoorRows.lean that lists a variable, with what it lists TIED to the program's text (the seventh form; the later family's looks); each row that meets fmt, with fmt's text TOLD by the authors' own Lean function (tested against real Go, not proved from fmt's source: count such statements apart). THE CARD IS WHAT COUNTS. Prove the row's statement (the work); the ties are given (YteennnhinfnahaaDoorTie.lean); close each card by the builder's one call (the guide's Derived/Test/ToyasCard.lean, 'card_holds'). Laid BY PROGRAM, IN A SANDBOX (cutbox-door.mjs). By AI agents, Wed Nov 11 2026. No macro, syntax, notation, axiom, sorry.
-/
import Derived.Test.YteennnhinfnahaaDoorRows
import GoSem.ClaimSeven
namespace Go.Proofs.YteennnhinfnahaaDoor
namespace Rows

/-- THE TIED CARD OF 'corporalaw16.TokensBuilds'. -/
def tokensBuildsCard : Claim7 := { stood := { row := tokensBuildsRow, standIns := [], harness := (true, "f15e89d85d5104f7298f89634556c904dfea5ff4821effe9796fb63754f3b4fc"), looks := false }, kinds := [], alts := [], laidByText := true, laidKinds := [.data], laidTests := true, laidLooks := .later }
def TokensBuildsCardSaid : Prop := Claim7.holds Tryd.pinned (.plain (OpenSpec.ofChange tokensBuildsSpec)) tokensBuildsCard

/-- THE TIED CARD OF 'corporalaw16.TokensLimits'. -/
def tokensLimitsCard : Claim7 := { stood := { row := tokensLimitsRow, standIns := [], harness := (true, "f15e89d85d5104f7298f89634556c904dfea5ff4821effe9796fb63754f3b4fc"), looks := false }, kinds := [], alts := [], laidByText := true, laidKinds := [.data], laidTests := true, laidLooks := .later }
def TokensLimitsCardSaid : Prop := Claim7.holds Tryd.pinned (.plain (OpenSpec.ofChange tokensLimitsSpec)) tokensLimitsCard

/-- THE TIED CARD OF 'corporalaw16.TokensReads'. -/
def tokensReadsCard : Claim7 := { stood := { row := tokensReadsRow, standIns := [], harness := (true, "f15e89d85d5104f7298f89634556c904dfea5ff4821effe9796fb63754f3b4fc"), looks := false }, kinds := [], alts := [], laidByText := true, laidKinds := [.data], laidTests := true, laidLooks := .later }
def TokensReadsCardSaid : Prop := Claim7.holds Tryd.pinned (.plain (OpenSpec.ofChange tokensReadsSpec)) tokensReadsCard

/-- THE TIED CARD OF 'corporalaw16.TokensSlices'. -/
def tokensSlicesCard : Claim7 := { stood := { row := tokensSlicesRow, standIns := [], harness := (true, "f15e89d85d5104f7298f89634556c904dfea5ff4821effe9796fb63754f3b4fc"), looks := false }, kinds := [], alts := [], laidByText := true, laidKinds := [.data], laidTests := true, laidLooks := .later }
def TokensSlicesCardSaid : Prop := Claim7.holds Tryd.pinned (.plain (OpenSpec.ofChange tokensSlicesSpec)) tokensSlicesCard

/-- THE TIED CARD OF 'corporalaw16.TokensParts'. -/
def tokensPartsCard : Claim7 := { stood := { row := tokensPartsRow, standIns := [], harness := (true, "f15e89d85d5104f7298f89634556c904dfea5ff4821effe9796fb63754f3b4fc"), looks := false }, kinds := [], alts := [], laidByText := true, laidKinds := [.data], laidTests := true, laidLooks := .later }
def TokensPartsCardSaid : Prop := Claim7.holds Tryd.pinned (.plain (OpenSpec.ofChange tokensPartsSpec)) tokensPartsCard

/-- THE SECOND FORM's CARD OF 'corporalaw16.TokensBuilds'. -/
def tokensBuildsUptoCard : Claim7 := { stood := { row := tokensBuildsUptoRow, standIns := [], harness := (true, "f15e89d85d5104f7298f89634556c904dfea5ff4821effe9796fb63754f3b4fc"), looks := false }, kinds := [], alts := [], laidByText := true, laidKinds := [.data], laidTests := true, laidLooks := .later }
def TokensBuildsUptoCardSaid : Prop := Claim7.holds Tryd.pinned (.plain (OpenSpec.upto tokensBuildsSpec)) tokensBuildsUptoCard

/-- THE SECOND FORM's CARD OF 'corporalaw16.TokensLimits'. -/
def tokensLimitsUptoCard : Claim7 := { stood := { row := tokensLimitsUptoRow, standIns := [], harness := (true, "f15e89d85d5104f7298f89634556c904dfea5ff4821effe9796fb63754f3b4fc"), looks := false }, kinds := [], alts := [], laidByText := true, laidKinds := [.data], laidTests := true, laidLooks := .later }
def TokensLimitsUptoCardSaid : Prop := Claim7.holds Tryd.pinned (.plain (OpenSpec.upto tokensLimitsSpec)) tokensLimitsUptoCard

/-- THE SECOND FORM's CARD OF 'corporalaw16.TokensReads'. -/
def tokensReadsUptoCard : Claim7 := { stood := { row := tokensReadsUptoRow, standIns := [], harness := (true, "f15e89d85d5104f7298f89634556c904dfea5ff4821effe9796fb63754f3b4fc"), looks := false }, kinds := [], alts := [], laidByText := true, laidKinds := [.data], laidTests := true, laidLooks := .later }
def TokensReadsUptoCardSaid : Prop := Claim7.holds Tryd.pinned (.plain (OpenSpec.upto tokensReadsSpec)) tokensReadsUptoCard

/-- THE SECOND FORM's CARD OF 'corporalaw16.TokensSlices'. -/
def tokensSlicesUptoCard : Claim7 := { stood := { row := tokensSlicesUptoRow, standIns := [], harness := (true, "f15e89d85d5104f7298f89634556c904dfea5ff4821effe9796fb63754f3b4fc"), looks := false }, kinds := [], alts := [], laidByText := true, laidKinds := [.data], laidTests := true, laidLooks := .later }
def TokensSlicesUptoCardSaid : Prop := Claim7.holds Tryd.pinned (.plain (OpenSpec.upto tokensSlicesSpec)) tokensSlicesUptoCard

/-- THE SECOND FORM's CARD OF 'corporalaw16.TokensParts'. -/
def tokensPartsUptoCard : Claim7 := { stood := { row := tokensPartsUptoRow, standIns := [], harness := (true, "f15e89d85d5104f7298f89634556c904dfea5ff4821effe9796fb63754f3b4fc"), looks := false }, kinds := [], alts := [], laidByText := true, laidKinds := [.data], laidTests := true, laidLooks := .later }
def TokensPartsUptoCardSaid : Prop := Claim7.holds Tryd.pinned (.plain (OpenSpec.upto tokensPartsSpec)) tokensPartsUptoCard
end Rows
end Go.Proofs.YteennnhinfnahaaDoor
