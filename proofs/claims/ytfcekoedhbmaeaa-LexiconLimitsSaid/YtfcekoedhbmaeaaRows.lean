/-
  No cell of these rows narrows 'for every input' (looked for: loops, veiled, ifaces, maps, wideKeys, modest, calm, conditions, laid).
  DERIVED. THE GIVEN ROWS OF THIS SEAT. 8 by the template 'for every input the law returns true; each argument reads behind the call as it read before'; 0 by the template 'total and deterministic' (their statements: YtfcekoedhbmaeaaTotals.lean).
  GIVEN WITH THE SEED: the statements are not yours to turn. If you find one false, say at which input.
  Laid BY PROGRAM, IN A SANDBOX (cutbox-rows.mjs): the forced cells as the released guide's own fill.sh prints them over the translation a77ab528e0fe8892… (all of the seat's roots in one cut). By AI agents, Wed Nov 11 2026. No macro, syntax, notation, axiom, sorry.
-/
import Derived.Test.YtfcekoedhbmaeaaChecked
import GoSem.Claim
import GoSem.ClaimJoined
import GoSem.ClaimMapViews
import Derived.JoinedTies
import Derived.KernelRfl
namespace Go.Proofs.Ytfcekoedhbmaeaa
/- THE CELL 'sum', in the pinned program and in every row, IS THE sha256 OF THE DUMP (.gsa) THAT YtfcekoedhbmaeaaProg.lean LOADS. Nothing in Lean hashes anything: it is a label: what it is worth is what the hold of that sum in a sandbox is worth. -/
noncomputable def Try.pinned : Pinned := { name := "ytfcekoedhbmaeaa", sum := "a77ab528e0fe8892076c531e66adc8a012b1fb08386a89da5021c00bb9f5f73c", checked := Try.checked }
namespace Rows
def none {H : Type} : Left H := { results := [], args := [] }

/-- 'corporalaw13.LexiconBuilds': WHATEVER THE INPUT: true; the input reads as it did. -/
def lexiconBuildsSpec : ChangeSpec := { name := "lexiconBuilds", fn := fun _ => fun
  | [d] => { results := [.lit (.bool true)], args := [d] }
  | _ => none }
def lexiconBuildsRow : OpenClaim := { program := "ytfcekoedhbmaeaa", sum := "a77ab528e0fe8892076c531e66adc8a012b1fb08386a89da5021c00bb9f5f73c", func := "corpora/corporalaw13.LexiconBuilds", spec := "lexiconBuilds", inPlace := ["internal/bytealg.abigen_runtime_cmpstring"], unfollowed := true, recurses := true, apart := false }
def LexiconBuildsSaid : Prop := lexiconBuildsRow.holds Try.pinned (OpenSpec.ofChange lexiconBuildsSpec)

/-- ITS FALSE NEIGHBOUR: 'it returns false'. Refute it at one input. -/
def lexiconBuildsWrong : ChangeSpec := { name := "lexiconBuilds", fn := fun _ => fun
  | [d] => { results := [.lit (.bool false)], args := [d] }
  | _ => none }
def LexiconBuildsWrongFalsely : Prop := lexiconBuildsRow.holds Try.pinned (OpenSpec.ofChange lexiconBuildsWrong)

/-- 'corporalaw13.LexiconLimits': WHATEVER THE INPUT: true; the input reads as it did. -/
def lexiconLimitsSpec : ChangeSpec := { name := "lexiconLimits", fn := fun _ => fun
  | [d1, d2] => { results := [.lit (.bool true)], args := [d1, d2] }
  | _ => none }
def lexiconLimitsRow : OpenClaim := { program := "ytfcekoedhbmaeaa", sum := "a77ab528e0fe8892076c531e66adc8a012b1fb08386a89da5021c00bb9f5f73c", func := "corpora/corporalaw13.LexiconLimits", spec := "lexiconLimits", inPlace := ["internal/bytealg.abigen_runtime_cmpstring"], unfollowed := true, recurses := true, apart := false }
def LexiconLimitsSaid : Prop := lexiconLimitsRow.holds Try.pinned (OpenSpec.ofChange lexiconLimitsSpec)

/-- ITS FALSE NEIGHBOUR: 'it returns false'. Refute it at one input. -/
def lexiconLimitsWrong : ChangeSpec := { name := "lexiconLimits", fn := fun _ => fun
  | [d1, d2] => { results := [.lit (.bool false)], args := [d1, d2] }
  | _ => none }
def LexiconLimitsWrongFalsely : Prop := lexiconLimitsRow.holds Try.pinned (OpenSpec.ofChange lexiconLimitsWrong)

/-- 'corporalaw13.LexiconFinds': WHATEVER THE INPUT: true; the input reads as it did. -/
def lexiconFindsSpec : ChangeSpec := { name := "lexiconFinds", fn := fun _ => fun
  | [d1, d2, d3] => { results := [.lit (.bool true)], args := [d1, d2, d3] }
  | _ => none }
def lexiconFindsRow : OpenClaim := { program := "ytfcekoedhbmaeaa", sum := "a77ab528e0fe8892076c531e66adc8a012b1fb08386a89da5021c00bb9f5f73c", func := "corpora/corporalaw13.LexiconFinds", spec := "lexiconFinds", inPlace := ["internal/bytealg.abigen_runtime_cmpstring"], unfollowed := true, recurses := true, apart := false }
def LexiconFindsSaid : Prop := lexiconFindsRow.holds Try.pinned (OpenSpec.ofChange lexiconFindsSpec)

/-- ITS FALSE NEIGHBOUR: 'it returns false'. Refute it at one input. -/
def lexiconFindsWrong : ChangeSpec := { name := "lexiconFinds", fn := fun _ => fun
  | [d1, d2, d3] => { results := [.lit (.bool false)], args := [d1, d2, d3] }
  | _ => none }
def LexiconFindsWrongFalsely : Prop := lexiconFindsRow.holds Try.pinned (OpenSpec.ofChange lexiconFindsWrong)

/-- 'corporalaw13.LexiconParts': WHATEVER THE INPUT: true; the input reads as it did. -/
def lexiconPartsSpec : ChangeSpec := { name := "lexiconParts", fn := fun _ => fun
  | [d1, d2] => { results := [.lit (.bool true)], args := [d1, d2] }
  | _ => none }
def lexiconPartsRow : OpenClaim := { program := "ytfcekoedhbmaeaa", sum := "a77ab528e0fe8892076c531e66adc8a012b1fb08386a89da5021c00bb9f5f73c", func := "corpora/corporalaw13.LexiconParts", spec := "lexiconParts", inPlace := ["internal/bytealg.abigen_runtime_cmpstring"], unfollowed := true, recurses := true, apart := false }
def LexiconPartsSaid : Prop := lexiconPartsRow.holds Try.pinned (OpenSpec.ofChange lexiconPartsSpec)

/-- ITS FALSE NEIGHBOUR: 'it returns false'. Refute it at one input. -/
def lexiconPartsWrong : ChangeSpec := { name := "lexiconParts", fn := fun _ => fun
  | [d1, d2] => { results := [.lit (.bool false)], args := [d1, d2] }
  | _ => none }
def LexiconPartsWrongFalsely : Prop := lexiconPartsRow.holds Try.pinned (OpenSpec.ofChange lexiconPartsWrong)

/-- 'corporalaw13.LexiconOrders': WHATEVER THE INPUT: true; the input reads as it did. -/
def lexiconOrdersSpec : ChangeSpec := { name := "lexiconOrders", fn := fun _ => fun
  | [d] => { results := [.lit (.bool true)], args := [d] }
  | _ => none }
def lexiconOrdersRow : OpenClaim := { program := "ytfcekoedhbmaeaa", sum := "a77ab528e0fe8892076c531e66adc8a012b1fb08386a89da5021c00bb9f5f73c", func := "corpora/corporalaw13.LexiconOrders", spec := "lexiconOrders", inPlace := ["internal/bytealg.abigen_runtime_cmpstring"], unfollowed := true, recurses := true, apart := false }
def LexiconOrdersSaid : Prop := lexiconOrdersRow.holds Try.pinned (OpenSpec.ofChange lexiconOrdersSpec)

/-- ITS FALSE NEIGHBOUR: 'it returns false'. Refute it at one input. -/
def lexiconOrdersWrong : ChangeSpec := { name := "lexiconOrders", fn := fun _ => fun
  | [d] => { results := [.lit (.bool false)], args := [d] }
  | _ => none }
def LexiconOrdersWrongFalsely : Prop := lexiconOrdersRow.holds Try.pinned (OpenSpec.ofChange lexiconOrdersWrong)

/-- 'corporalaw13.LexiconSorted': WHATEVER THE INPUT: true; the input reads as it did. -/
def lexiconSortedSpec : ChangeSpec := { name := "lexiconSorted", fn := fun _ => fun
  | [d] => { results := [.lit (.bool true)], args := [d] }
  | _ => none }
def lexiconSortedRow : OpenClaim := { program := "ytfcekoedhbmaeaa", sum := "a77ab528e0fe8892076c531e66adc8a012b1fb08386a89da5021c00bb9f5f73c", func := "corpora/corporalaw13.LexiconSorted", spec := "lexiconSorted", inPlace := ["internal/bytealg.abigen_runtime_cmpstring"], unfollowed := true, recurses := true, apart := false }
def LexiconSortedSaid : Prop := lexiconSortedRow.holds Try.pinned (OpenSpec.ofChange lexiconSortedSpec)

/-- ITS FALSE NEIGHBOUR: 'it returns false'. Refute it at one input. -/
def lexiconSortedWrong : ChangeSpec := { name := "lexiconSorted", fn := fun _ => fun
  | [d] => { results := [.lit (.bool false)], args := [d] }
  | _ => none }
def LexiconSortedWrongFalsely : Prop := lexiconSortedRow.holds Try.pinned (OpenSpec.ofChange lexiconSortedWrong)

/-- 'corporalaw13.LexiconAffixes': WHATEVER THE INPUT: true; the input reads as it did. -/
def lexiconAffixesSpec : ChangeSpec := { name := "lexiconAffixes", fn := fun _ => fun
  | [d1, d2] => { results := [.lit (.bool true)], args := [d1, d2] }
  | _ => none }
def lexiconAffixesRow : OpenClaim := { program := "ytfcekoedhbmaeaa", sum := "a77ab528e0fe8892076c531e66adc8a012b1fb08386a89da5021c00bb9f5f73c", func := "corpora/corporalaw13.LexiconAffixes", spec := "lexiconAffixes", inPlace := ["internal/bytealg.abigen_runtime_cmpstring"], unfollowed := true, recurses := true, apart := false }
def LexiconAffixesSaid : Prop := lexiconAffixesRow.holds Try.pinned (OpenSpec.ofChange lexiconAffixesSpec)

/-- ITS FALSE NEIGHBOUR: 'it returns false'. Refute it at one input. -/
def lexiconAffixesWrong : ChangeSpec := { name := "lexiconAffixes", fn := fun _ => fun
  | [d1, d2] => { results := [.lit (.bool false)], args := [d1, d2] }
  | _ => none }
def LexiconAffixesWrongFalsely : Prop := lexiconAffixesRow.holds Try.pinned (OpenSpec.ofChange lexiconAffixesWrong)

/-- 'corporalaw13.LexiconMerges': WHATEVER THE INPUT: true; the input reads as it did. -/
def lexiconMergesSpec : ChangeSpec := { name := "lexiconMerges", fn := fun _ => fun
  | [d1, d2] => { results := [.lit (.bool true)], args := [d1, d2] }
  | _ => none }
def lexiconMergesRow : OpenClaim := { program := "ytfcekoedhbmaeaa", sum := "a77ab528e0fe8892076c531e66adc8a012b1fb08386a89da5021c00bb9f5f73c", func := "corpora/corporalaw13.LexiconMerges", spec := "lexiconMerges", inPlace := ["internal/bytealg.abigen_runtime_cmpstring"], unfollowed := true, recurses := true, apart := false }
def LexiconMergesSaid : Prop := lexiconMergesRow.holds Try.pinned (OpenSpec.ofChange lexiconMergesSpec)

/-- ITS FALSE NEIGHBOUR: 'it returns false'. Refute it at one input. -/
def lexiconMergesWrong : ChangeSpec := { name := "lexiconMerges", fn := fun _ => fun
  | [d1, d2] => { results := [.lit (.bool false)], args := [d1, d2] }
  | _ => none }
def LexiconMergesWrongFalsely : Prop := lexiconMergesRow.holds Try.pinned (OpenSpec.ofChange lexiconMergesWrong)

/- THE SECOND FORM. 'bulk': how many values and letters a reading holds, each counted each time it is reached (what is shared counts as often as it is met; a slice's spare places count too). A statement '..UptoSaid' is the law's where the arguments, and the package variables that the reading takes, are together of bulk at most 1048576: NARROWER than '..Said'. Prove '..Said' where nothing that the law and all that it calls make is longer than what came in: it says more and counts as full. Else prove '..UptoSaid'. A law counts once. -/
mutual
def uptoBulk {H : Type} : DataW H → Nat
  | .lit (.string bytes) => bytes.length + 1
  | .lit _ => 1
  | .nil => 1
  | .ptr d => uptoBulk d + 1
  | .slice elems spare => uptoBulkAll elems + uptoBulkAll spare + 1
  | .agg parts => uptoBulkAll parts + 1
  | .iface _ d => uptoBulk d + 1
  | .map entries => uptoBulkEntries entries + 1
  | .held _ => 1
def uptoBulkAll {H : Type} : List (DataW H) → Nat
  | [] => 0
  | d :: r => uptoBulk d + uptoBulkAll r
def uptoBulkEntries {H : Type} : List (Lit × DataW H) → Nat
  | [] => 0
  | x :: r => uptoBulkEntry x + uptoBulkEntries r
def uptoBulkEntry {H : Type} : Lit × DataW H → Nat
  | (.string bytes, d) => bytes.length + uptoBulk d + 1
  | (_, d) => uptoBulk d + 1
 end
def uptoSmall : (H : Type) → List (DataW H) → Bool := fun _ ds => decide (uptoBulkAll ds ≤ 1048576)
def OpenSpec.upto (s : _root_.Go.ChangeSpec) : _root_.Go.OpenSpec := { _root_.Go.OpenSpec.ofChange s with cond := some uptoSmall }

/-- 'corporalaw13.LexiconBuilds', WHERE WHAT IT READS IS OF BULK AT MOST 1048576: true; the input reads as it did. -/
def lexiconBuildsUptoRow : OpenClaim := { program := "ytfcekoedhbmaeaa", sum := "a77ab528e0fe8892076c531e66adc8a012b1fb08386a89da5021c00bb9f5f73c", func := "corpora/corporalaw13.LexiconBuilds", spec := "lexiconBuilds", inPlace := ["internal/bytealg.abigen_runtime_cmpstring"], unfollowed := true, recurses := true, apart := false, narrowed := true }
def LexiconBuildsUptoSaid : Prop := lexiconBuildsUptoRow.holds Try.pinned (OpenSpec.upto lexiconBuildsSpec)

/-- 'corporalaw13.LexiconLimits', WHERE WHAT IT READS IS OF BULK AT MOST 1048576: true; the input reads as it did. -/
def lexiconLimitsUptoRow : OpenClaim := { program := "ytfcekoedhbmaeaa", sum := "a77ab528e0fe8892076c531e66adc8a012b1fb08386a89da5021c00bb9f5f73c", func := "corpora/corporalaw13.LexiconLimits", spec := "lexiconLimits", inPlace := ["internal/bytealg.abigen_runtime_cmpstring"], unfollowed := true, recurses := true, apart := false, narrowed := true }
def LexiconLimitsUptoSaid : Prop := lexiconLimitsUptoRow.holds Try.pinned (OpenSpec.upto lexiconLimitsSpec)

/-- 'corporalaw13.LexiconFinds', WHERE WHAT IT READS IS OF BULK AT MOST 1048576: true; the input reads as it did. -/
def lexiconFindsUptoRow : OpenClaim := { program := "ytfcekoedhbmaeaa", sum := "a77ab528e0fe8892076c531e66adc8a012b1fb08386a89da5021c00bb9f5f73c", func := "corpora/corporalaw13.LexiconFinds", spec := "lexiconFinds", inPlace := ["internal/bytealg.abigen_runtime_cmpstring"], unfollowed := true, recurses := true, apart := false, narrowed := true }
def LexiconFindsUptoSaid : Prop := lexiconFindsUptoRow.holds Try.pinned (OpenSpec.upto lexiconFindsSpec)

/-- 'corporalaw13.LexiconParts', WHERE WHAT IT READS IS OF BULK AT MOST 1048576: true; the input reads as it did. -/
def lexiconPartsUptoRow : OpenClaim := { program := "ytfcekoedhbmaeaa", sum := "a77ab528e0fe8892076c531e66adc8a012b1fb08386a89da5021c00bb9f5f73c", func := "corpora/corporalaw13.LexiconParts", spec := "lexiconParts", inPlace := ["internal/bytealg.abigen_runtime_cmpstring"], unfollowed := true, recurses := true, apart := false, narrowed := true }
def LexiconPartsUptoSaid : Prop := lexiconPartsUptoRow.holds Try.pinned (OpenSpec.upto lexiconPartsSpec)

/-- 'corporalaw13.LexiconOrders', WHERE WHAT IT READS IS OF BULK AT MOST 1048576: true; the input reads as it did. -/
def lexiconOrdersUptoRow : OpenClaim := { program := "ytfcekoedhbmaeaa", sum := "a77ab528e0fe8892076c531e66adc8a012b1fb08386a89da5021c00bb9f5f73c", func := "corpora/corporalaw13.LexiconOrders", spec := "lexiconOrders", inPlace := ["internal/bytealg.abigen_runtime_cmpstring"], unfollowed := true, recurses := true, apart := false, narrowed := true }
def LexiconOrdersUptoSaid : Prop := lexiconOrdersUptoRow.holds Try.pinned (OpenSpec.upto lexiconOrdersSpec)

/-- 'corporalaw13.LexiconSorted', WHERE WHAT IT READS IS OF BULK AT MOST 1048576: true; the input reads as it did. -/
def lexiconSortedUptoRow : OpenClaim := { program := "ytfcekoedhbmaeaa", sum := "a77ab528e0fe8892076c531e66adc8a012b1fb08386a89da5021c00bb9f5f73c", func := "corpora/corporalaw13.LexiconSorted", spec := "lexiconSorted", inPlace := ["internal/bytealg.abigen_runtime_cmpstring"], unfollowed := true, recurses := true, apart := false, narrowed := true }
def LexiconSortedUptoSaid : Prop := lexiconSortedUptoRow.holds Try.pinned (OpenSpec.upto lexiconSortedSpec)

/-- 'corporalaw13.LexiconAffixes', WHERE WHAT IT READS IS OF BULK AT MOST 1048576: true; the input reads as it did. -/
def lexiconAffixesUptoRow : OpenClaim := { program := "ytfcekoedhbmaeaa", sum := "a77ab528e0fe8892076c531e66adc8a012b1fb08386a89da5021c00bb9f5f73c", func := "corpora/corporalaw13.LexiconAffixes", spec := "lexiconAffixes", inPlace := ["internal/bytealg.abigen_runtime_cmpstring"], unfollowed := true, recurses := true, apart := false, narrowed := true }
def LexiconAffixesUptoSaid : Prop := lexiconAffixesUptoRow.holds Try.pinned (OpenSpec.upto lexiconAffixesSpec)

/-- 'corporalaw13.LexiconMerges', WHERE WHAT IT READS IS OF BULK AT MOST 1048576: true; the input reads as it did. -/
def lexiconMergesUptoRow : OpenClaim := { program := "ytfcekoedhbmaeaa", sum := "a77ab528e0fe8892076c531e66adc8a012b1fb08386a89da5021c00bb9f5f73c", func := "corpora/corporalaw13.LexiconMerges", spec := "lexiconMerges", inPlace := ["internal/bytealg.abigen_runtime_cmpstring"], unfollowed := true, recurses := true, apart := false, narrowed := true }
def LexiconMergesUptoSaid : Prop := lexiconMergesUptoRow.holds Try.pinned (OpenSpec.upto lexiconMergesSpec)

end Rows
end Go.Proofs.Ytfcekoedhbmaeaa
