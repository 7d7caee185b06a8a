/-
  NARROWER THAN 'FOR EVERY INPUT', by the rows' own cells (each row's printed sentence says how): TokensBuilds: laid · TokensLimits: laid · TokensReads: laid · TokensSlices: laid · TokensParts: laid.
  DERIVED. THE GIVEN ROWS OF THIS SEAT. 5 by the template 'for every input the law returns true; each argument reads behind the call as it read before'; 0 by the template 'total and deterministic' (their statements: YteennnhinfnahaaDoorTotals.lean).
  GIVEN WITH THE SEED: the statements are not yours to turn. If you find one false, say at which input.
  Laid BY PROGRAM, IN A SANDBOX (cutbox-rows.mjs): the forced cells as the released guide's own fill.sh prints them over the translation ded98da1d9e3fbd1… (all of the seat's roots in one cut). By AI agents, Wed Nov 11 2026. No macro, syntax, notation, axiom, sorry.
-/
import Derived.Test.YteennnhinfnahaaDoorChecked
import GoSem.Claim
import GoSem.ClaimJoined
import GoSem.ClaimMapViews
import Derived.JoinedTies
import Derived.KernelRfl
namespace Go.Proofs.YteennnhinfnahaaDoor
/- THE CELL 'sum', in the pinned program and in every row, IS THE sha256 OF THE DUMP (.gsa) THAT YteennnhinfnahaaDoorProg.lean LOADS. Nothing in Lean hashes anything: it is a label: what it is worth is what the hold of that sum in a sandbox is worth. -/
noncomputable def Tryd.pinned : Pinned := { name := "yteennnhinfnahaadoor", sum := "ded98da1d9e3fbd16127ce1c86e1be31d700658c6024546faeb73812516a15c8", checked := Tryd.checked }
namespace Rows
def none {H : Type} : Left H := { results := [], args := [] }

/- WHAT THE LISTED PACKAGE-LEVEL VARIABLES READ AS WHEN THE CALL BEGINS. Each datum BY PROGRAM (the guide's laid-datum.mjs) off the statement by which the dump's own 'gosem.cut.vars' lays the variable. In a bare row this is a premise. The card (YteennnhinfnahaaDoorCards.lean) ties it to the program's text. -/
def laid_corpora_checksum_afterNibble {H : Type} : DataW H := .agg [.lit (.int .u32 0), .lit (.int .u32 274646895), .lit (.int .u32 549293790), .lit (.int .u32 820201905), .lit (.int .u32 1098587580), .lit (.int .u32 1361435347), .lit (.int .u32 1640403810), .lit (.int .u32 1905808397), .lit (.int .u32 2197175160), .lit (.int .u32 2460548119), .lit (.int .u32 2722870694), .lit (.int .u32 2987750089), .lit (.int .u32 3280807620), .lit (.int .u32 3553878443), .lit (.int .u32 3811616794), .lit (.int .u32 4084100981)]

/-- 'corporalaw16.TokensBuilds': WHATEVER THE INPUT: true; the input reads as it did. -/
def tokensBuildsSpec : ChangeSpec := { name := "tokensBuilds", fn := fun _ => fun
  | [d] => { results := [.lit (.bool true)], args := [d] }
  | _ => none }
def tokensBuildsRow : OpenClaim := { program := "yteennnhinfnahaadoor", sum := "ded98da1d9e3fbd16127ce1c86e1be31d700658c6024546faeb73812516a15c8", func := "corpora/corporalaw16.TokensBuilds", spec := "tokensBuilds", unfollowed := true, recurses := true, named := ["corpora/checksum.afterNibble"], apart := false, laid := [("corpora/checksum.afterNibble", laid_corpora_checksum_afterNibble)] }
def TokensBuildsSaid : Prop := tokensBuildsRow.holds Tryd.pinned (OpenSpec.ofChange tokensBuildsSpec)

/-- ITS FALSE NEIGHBOUR: 'it returns false'. Refute it at one input. -/
def tokensBuildsWrong : ChangeSpec := { name := "tokensBuilds", fn := fun _ => fun
  | [d] => { results := [.lit (.bool false)], args := [d] }
  | _ => none }
def TokensBuildsWrongFalsely : Prop := tokensBuildsRow.holds Tryd.pinned (OpenSpec.ofChange tokensBuildsWrong)

/-- 'corporalaw16.TokensLimits': WHATEVER THE INPUT: true; the input reads as it did. -/
def tokensLimitsSpec : ChangeSpec := { name := "tokensLimits", fn := fun _ => fun
  | [d1, d2] => { results := [.lit (.bool true)], args := [d1, d2] }
  | _ => none }
def tokensLimitsRow : OpenClaim := { program := "yteennnhinfnahaadoor", sum := "ded98da1d9e3fbd16127ce1c86e1be31d700658c6024546faeb73812516a15c8", func := "corpora/corporalaw16.TokensLimits", spec := "tokensLimits", unfollowed := true, recurses := true, named := ["corpora/checksum.afterNibble"], apart := false, laid := [("corpora/checksum.afterNibble", laid_corpora_checksum_afterNibble)] }
def TokensLimitsSaid : Prop := tokensLimitsRow.holds Tryd.pinned (OpenSpec.ofChange tokensLimitsSpec)

/-- ITS FALSE NEIGHBOUR: 'it returns false'. Refute it at one input. -/
def tokensLimitsWrong : ChangeSpec := { name := "tokensLimits", fn := fun _ => fun
  | [d1, d2] => { results := [.lit (.bool false)], args := [d1, d2] }
  | _ => none }
def TokensLimitsWrongFalsely : Prop := tokensLimitsRow.holds Tryd.pinned (OpenSpec.ofChange tokensLimitsWrong)

/-- 'corporalaw16.TokensReads': WHATEVER THE INPUT: true; the input reads as it did. -/
def tokensReadsSpec : ChangeSpec := { name := "tokensReads", fn := fun _ => fun
  | [d1, d2] => { results := [.lit (.bool true)], args := [d1, d2] }
  | _ => none }
def tokensReadsRow : OpenClaim := { program := "yteennnhinfnahaadoor", sum := "ded98da1d9e3fbd16127ce1c86e1be31d700658c6024546faeb73812516a15c8", func := "corpora/corporalaw16.TokensReads", spec := "tokensReads", unfollowed := true, recurses := true, named := ["corpora/checksum.afterNibble"], apart := false, laid := [("corpora/checksum.afterNibble", laid_corpora_checksum_afterNibble)] }
def TokensReadsSaid : Prop := tokensReadsRow.holds Tryd.pinned (OpenSpec.ofChange tokensReadsSpec)

/-- ITS FALSE NEIGHBOUR: 'it returns false'. Refute it at one input. -/
def tokensReadsWrong : ChangeSpec := { name := "tokensReads", fn := fun _ => fun
  | [d1, d2] => { results := [.lit (.bool false)], args := [d1, d2] }
  | _ => none }
def TokensReadsWrongFalsely : Prop := tokensReadsRow.holds Tryd.pinned (OpenSpec.ofChange tokensReadsWrong)

/-- 'corporalaw16.TokensSlices': WHATEVER THE INPUT: true; the input reads as it did. -/
def tokensSlicesSpec : ChangeSpec := { name := "tokensSlices", fn := fun _ => fun
  | [d1, d2, d3] => { results := [.lit (.bool true)], args := [d1, d2, d3] }
  | _ => none }
def tokensSlicesRow : OpenClaim := { program := "yteennnhinfnahaadoor", sum := "ded98da1d9e3fbd16127ce1c86e1be31d700658c6024546faeb73812516a15c8", func := "corpora/corporalaw16.TokensSlices", spec := "tokensSlices", unfollowed := true, recurses := true, named := ["corpora/checksum.afterNibble"], apart := false, laid := [("corpora/checksum.afterNibble", laid_corpora_checksum_afterNibble)] }
def TokensSlicesSaid : Prop := tokensSlicesRow.holds Tryd.pinned (OpenSpec.ofChange tokensSlicesSpec)

/-- ITS FALSE NEIGHBOUR: 'it returns false'. Refute it at one input. -/
def tokensSlicesWrong : ChangeSpec := { name := "tokensSlices", fn := fun _ => fun
  | [d1, d2, d3] => { results := [.lit (.bool false)], args := [d1, d2, d3] }
  | _ => none }
def TokensSlicesWrongFalsely : Prop := tokensSlicesRow.holds Tryd.pinned (OpenSpec.ofChange tokensSlicesWrong)

/-- 'corporalaw16.TokensParts': WHATEVER THE INPUT: true; the input reads as it did. -/
def tokensPartsSpec : ChangeSpec := { name := "tokensParts", fn := fun _ => fun
  | [d1, d2] => { results := [.lit (.bool true)], args := [d1, d2] }
  | _ => none }
def tokensPartsRow : OpenClaim := { program := "yteennnhinfnahaadoor", sum := "ded98da1d9e3fbd16127ce1c86e1be31d700658c6024546faeb73812516a15c8", func := "corpora/corporalaw16.TokensParts", spec := "tokensParts", unfollowed := true, recurses := true, named := ["corpora/checksum.afterNibble"], apart := false, laid := [("corpora/checksum.afterNibble", laid_corpora_checksum_afterNibble)] }
def TokensPartsSaid : Prop := tokensPartsRow.holds Tryd.pinned (OpenSpec.ofChange tokensPartsSpec)

/-- ITS FALSE NEIGHBOUR: 'it returns false'. Refute it at one input. -/
def tokensPartsWrong : ChangeSpec := { name := "tokensParts", fn := fun _ => fun
  | [d1, d2] => { results := [.lit (.bool false)], args := [d1, d2] }
  | _ => none }
def TokensPartsWrongFalsely : Prop := tokensPartsRow.holds Tryd.pinned (OpenSpec.ofChange tokensPartsWrong)

/- THE SECOND FORM. 'bulk': how many values and letters a reading holds, each counted each time it is reached (what is shared counts as often as it is met; a slice's spare places count too). A statement '..UptoSaid' is the law's where the arguments, and the package variables that the reading takes, are together of bulk at most 1048576: NARROWER than '..Said'. Prove '..Said' where nothing that the law and all that it calls make is longer than what came in: it says more and counts as full. Else prove '..UptoSaid'. A law counts once. -/
mutual
def uptoBulk {H : Type} : DataW H → Nat
  | .lit (.string bytes) => bytes.length + 1
  | .lit _ => 1
  | .nil => 1
  | .ptr d => uptoBulk d + 1
  | .slice elems spare => uptoBulkAll elems + uptoBulkAll spare + 1
  | .agg parts => uptoBulkAll parts + 1
  | .iface _ d => uptoBulk d + 1
  | .map entries => uptoBulkEntries entries + 1
  | .held _ => 1
def uptoBulkAll {H : Type} : List (DataW H) → Nat
  | [] => 0
  | d :: r => uptoBulk d + uptoBulkAll r
def uptoBulkEntries {H : Type} : List (Lit × DataW H) → Nat
  | [] => 0
  | x :: r => uptoBulkEntry x + uptoBulkEntries r
def uptoBulkEntry {H : Type} : Lit × DataW H → Nat
  | (.string bytes, d) => bytes.length + uptoBulk d + 1
  | (_, d) => uptoBulk d + 1
 end
def uptoSmall : (H : Type) → List (DataW H) → Bool := fun _ ds => decide (uptoBulkAll ds ≤ 1048576)
def OpenSpec.upto (s : _root_.Go.ChangeSpec) : _root_.Go.OpenSpec := { _root_.Go.OpenSpec.ofChange s with cond := some uptoSmall }

/-- 'corporalaw16.TokensBuilds', WHERE WHAT IT READS IS OF BULK AT MOST 1048576: true; the input reads as it did. -/
def tokensBuildsUptoRow : OpenClaim := { program := "yteennnhinfnahaadoor", sum := "ded98da1d9e3fbd16127ce1c86e1be31d700658c6024546faeb73812516a15c8", func := "corpora/corporalaw16.TokensBuilds", spec := "tokensBuilds", unfollowed := true, recurses := true, named := ["corpora/checksum.afterNibble"], apart := false, laid := [("corpora/checksum.afterNibble", laid_corpora_checksum_afterNibble)], narrowed := true }
def TokensBuildsUptoSaid : Prop := tokensBuildsUptoRow.holds Tryd.pinned (OpenSpec.upto tokensBuildsSpec)

/-- 'corporalaw16.TokensLimits', WHERE WHAT IT READS IS OF BULK AT MOST 1048576: true; the input reads as it did. -/
def tokensLimitsUptoRow : OpenClaim := { program := "yteennnhinfnahaadoor", sum := "ded98da1d9e3fbd16127ce1c86e1be31d700658c6024546faeb73812516a15c8", func := "corpora/corporalaw16.TokensLimits", spec := "tokensLimits", unfollowed := true, recurses := true, named := ["corpora/checksum.afterNibble"], apart := false, laid := [("corpora/checksum.afterNibble", laid_corpora_checksum_afterNibble)], narrowed := true }
def TokensLimitsUptoSaid : Prop := tokensLimitsUptoRow.holds Tryd.pinned (OpenSpec.upto tokensLimitsSpec)

/-- 'corporalaw16.TokensReads', WHERE WHAT IT READS IS OF BULK AT MOST 1048576: true; the input reads as it did. -/
def tokensReadsUptoRow : OpenClaim := { program := "yteennnhinfnahaadoor", sum := "ded98da1d9e3fbd16127ce1c86e1be31d700658c6024546faeb73812516a15c8", func := "corpora/corporalaw16.TokensReads", spec := "tokensReads", unfollowed := true, recurses := true, named := ["corpora/checksum.afterNibble"], apart := false, laid := [("corpora/checksum.afterNibble", laid_corpora_checksum_afterNibble)], narrowed := true }
def TokensReadsUptoSaid : Prop := tokensReadsUptoRow.holds Tryd.pinned (OpenSpec.upto tokensReadsSpec)

/-- 'corporalaw16.TokensSlices', WHERE WHAT IT READS IS OF BULK AT MOST 1048576: true; the input reads as it did. -/
def tokensSlicesUptoRow : OpenClaim := { program := "yteennnhinfnahaadoor", sum := "ded98da1d9e3fbd16127ce1c86e1be31d700658c6024546faeb73812516a15c8", func := "corpora/corporalaw16.TokensSlices", spec := "tokensSlices", unfollowed := true, recurses := true, named := ["corpora/checksum.afterNibble"], apart := false, laid := [("corpora/checksum.afterNibble", laid_corpora_checksum_afterNibble)], narrowed := true }
def TokensSlicesUptoSaid : Prop := tokensSlicesUptoRow.holds Tryd.pinned (OpenSpec.upto tokensSlicesSpec)

/-- 'corporalaw16.TokensParts', WHERE WHAT IT READS IS OF BULK AT MOST 1048576: true; the input reads as it did. -/
def tokensPartsUptoRow : OpenClaim := { program := "yteennnhinfnahaadoor", sum := "ded98da1d9e3fbd16127ce1c86e1be31d700658c6024546faeb73812516a15c8", func := "corpora/corporalaw16.TokensParts", spec := "tokensParts", unfollowed := true, recurses := true, named := ["corpora/checksum.afterNibble"], apart := false, laid := [("corpora/checksum.afterNibble", laid_corpora_checksum_afterNibble)], narrowed := true }
def TokensPartsUptoSaid : Prop := tokensPartsUptoRow.holds Tryd.pinned (OpenSpec.upto tokensPartsSpec)

end Rows
end Go.Proofs.YteennnhinfnahaaDoor
