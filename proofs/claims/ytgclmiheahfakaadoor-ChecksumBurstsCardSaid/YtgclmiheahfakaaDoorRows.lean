/-
  NARROWER THAN 'FOR EVERY INPUT', by the rows' own cells (each row's printed sentence says how): ChecksumSums: laid · ChecksumCombines: laid · ChecksumCombined: laid · ChecksumChains: laid · ChecksumSeals: laid · ChecksumUnseals: laid · ChecksumLinear: laid · ChecksumBursts: laid.
  DERIVED. THE GIVEN ROWS OF THIS SEAT. 8 by the template 'for every input the law returns true; each argument reads behind the call as it read before'; 0 by the template 'total and deterministic' (their statements: YtgclmiheahfakaaDoorTotals.lean).
  GIVEN WITH THE SEED: the statements are not yours to turn. If you find one false, say at which input.
  Laid BY PROGRAM, IN A SANDBOX (cutbox-rows.mjs): the forced cells as the released guide's own fill.sh prints them over the translation 26ca0dc3e9a3fb58… (all of the seat's roots in one cut). By AI agents, Wed Nov 11 2026. No macro, syntax, notation, axiom, sorry.
-/
import Derived.Test.YtgclmiheahfakaaDoorChecked
import GoSem.Claim
import GoSem.ClaimJoined
import GoSem.ClaimMapViews
import Derived.JoinedTies
import Derived.KernelRfl
namespace Go.Proofs.YtgclmiheahfakaaDoor
/- THE CELL 'sum', in the pinned program and in every row, IS THE sha256 OF THE DUMP (.gsa) THAT YtgclmiheahfakaaDoorProg.lean LOADS. Nothing in Lean hashes anything: it is a label: what it is worth is what the hold of that sum in a sandbox is worth. -/
noncomputable def Tryd.pinned : Pinned := { name := "ytgclmiheahfakaadoor", sum := "26ca0dc3e9a3fb58bc7afceb2ae6e9203f394f4e38f41457bd5dee550f1c1135", checked := Tryd.checked }
namespace Rows
def none {H : Type} : Left H := { results := [], args := [] }

/- WHAT THE LISTED PACKAGE-LEVEL VARIABLES READ AS WHEN THE CALL BEGINS. Each datum BY PROGRAM (the guide's laid-datum.mjs) off the statement by which the dump's own 'gosem.cut.vars' lays the variable. In a bare row this is a premise. The card (YtgclmiheahfakaaDoorCards.lean) ties it to the program's text. -/
def laid_corpora_checksum_afterNibble {H : Type} : DataW H := .agg [.lit (.int .u32 0), .lit (.int .u32 274646895), .lit (.int .u32 549293790), .lit (.int .u32 820201905), .lit (.int .u32 1098587580), .lit (.int .u32 1361435347), .lit (.int .u32 1640403810), .lit (.int .u32 1905808397), .lit (.int .u32 2197175160), .lit (.int .u32 2460548119), .lit (.int .u32 2722870694), .lit (.int .u32 2987750089), .lit (.int .u32 3280807620), .lit (.int .u32 3553878443), .lit (.int .u32 3811616794), .lit (.int .u32 4084100981)]

/-- 'corporalaw03.ChecksumSums': WHATEVER THE INPUT: true; the input reads as it did. -/
def checksumSumsSpec : ChangeSpec := { name := "checksumSums", fn := fun _ => fun
  | [d] => { results := [.lit (.bool true)], args := [d] }
  | _ => none }
def checksumSumsRow : OpenClaim := { program := "ytgclmiheahfakaadoor", sum := "26ca0dc3e9a3fb58bc7afceb2ae6e9203f394f4e38f41457bd5dee550f1c1135", func := "corpora/corporalaw03.ChecksumSums", spec := "checksumSums", named := ["corpora/checksum.afterNibble"], apart := false, laid := [("corpora/checksum.afterNibble", laid_corpora_checksum_afterNibble)] }
def ChecksumSumsSaid : Prop := checksumSumsRow.holds Tryd.pinned (OpenSpec.ofChange checksumSumsSpec)

/-- ITS FALSE NEIGHBOUR: 'it returns false'. Refute it at one input. -/
def checksumSumsWrong : ChangeSpec := { name := "checksumSums", fn := fun _ => fun
  | [d] => { results := [.lit (.bool false)], args := [d] }
  | _ => none }
def ChecksumSumsWrongFalsely : Prop := checksumSumsRow.holds Tryd.pinned (OpenSpec.ofChange checksumSumsWrong)

/-- 'corporalaw03.ChecksumCombines': WHATEVER THE INPUT: true; the input reads as it did. -/
def checksumCombinesSpec : ChangeSpec := { name := "checksumCombines", fn := fun _ => fun
  | [d1, d2] => { results := [.lit (.bool true)], args := [d1, d2] }
  | _ => none }
def checksumCombinesRow : OpenClaim := { program := "ytgclmiheahfakaadoor", sum := "26ca0dc3e9a3fb58bc7afceb2ae6e9203f394f4e38f41457bd5dee550f1c1135", func := "corpora/corporalaw03.ChecksumCombines", spec := "checksumCombines", named := ["corpora/checksum.afterNibble"], apart := false, laid := [("corpora/checksum.afterNibble", laid_corpora_checksum_afterNibble)] }
def ChecksumCombinesSaid : Prop := checksumCombinesRow.holds Tryd.pinned (OpenSpec.ofChange checksumCombinesSpec)

/-- ITS FALSE NEIGHBOUR: 'it returns false'. Refute it at one input. -/
def checksumCombinesWrong : ChangeSpec := { name := "checksumCombines", fn := fun _ => fun
  | [d1, d2] => { results := [.lit (.bool false)], args := [d1, d2] }
  | _ => none }
def ChecksumCombinesWrongFalsely : Prop := checksumCombinesRow.holds Tryd.pinned (OpenSpec.ofChange checksumCombinesWrong)

/-- 'corporalaw03.ChecksumCombined': WHATEVER THE INPUT: true; the input reads as it did. -/
def checksumCombinedSpec : ChangeSpec := { name := "checksumCombined", fn := fun _ => fun
  | [d1, d2, d3] => { results := [.lit (.bool true)], args := [d1, d2, d3] }
  | _ => none }
def checksumCombinedRow : OpenClaim := { program := "ytgclmiheahfakaadoor", sum := "26ca0dc3e9a3fb58bc7afceb2ae6e9203f394f4e38f41457bd5dee550f1c1135", func := "corpora/corporalaw03.ChecksumCombined", spec := "checksumCombined", named := ["corpora/checksum.afterNibble"], apart := false, laid := [("corpora/checksum.afterNibble", laid_corpora_checksum_afterNibble)] }
def ChecksumCombinedSaid : Prop := checksumCombinedRow.holds Tryd.pinned (OpenSpec.ofChange checksumCombinedSpec)

/-- ITS FALSE NEIGHBOUR: 'it returns false'. Refute it at one input. -/
def checksumCombinedWrong : ChangeSpec := { name := "checksumCombined", fn := fun _ => fun
  | [d1, d2, d3] => { results := [.lit (.bool false)], args := [d1, d2, d3] }
  | _ => none }
def ChecksumCombinedWrongFalsely : Prop := checksumCombinedRow.holds Tryd.pinned (OpenSpec.ofChange checksumCombinedWrong)

/-- 'corporalaw03.ChecksumChains': WHATEVER THE INPUT: true; the input reads as it did. -/
def checksumChainsSpec : ChangeSpec := { name := "checksumChains", fn := fun _ => fun
  | [d] => { results := [.lit (.bool true)], args := [d] }
  | _ => none }
def checksumChainsRow : OpenClaim := { program := "ytgclmiheahfakaadoor", sum := "26ca0dc3e9a3fb58bc7afceb2ae6e9203f394f4e38f41457bd5dee550f1c1135", func := "corpora/corporalaw03.ChecksumChains", spec := "checksumChains", named := ["corpora/checksum.afterNibble"], apart := false, laid := [("corpora/checksum.afterNibble", laid_corpora_checksum_afterNibble)] }
def ChecksumChainsSaid : Prop := checksumChainsRow.holds Tryd.pinned (OpenSpec.ofChange checksumChainsSpec)

/-- ITS FALSE NEIGHBOUR: 'it returns false'. Refute it at one input. -/
def checksumChainsWrong : ChangeSpec := { name := "checksumChains", fn := fun _ => fun
  | [d] => { results := [.lit (.bool false)], args := [d] }
  | _ => none }
def ChecksumChainsWrongFalsely : Prop := checksumChainsRow.holds Tryd.pinned (OpenSpec.ofChange checksumChainsWrong)

/-- 'corporalaw03.ChecksumSeals': WHATEVER THE INPUT: true; the input reads as it did. -/
def checksumSealsSpec : ChangeSpec := { name := "checksumSeals", fn := fun _ => fun
  | [d] => { results := [.lit (.bool true)], args := [d] }
  | _ => none }
def checksumSealsRow : OpenClaim := { program := "ytgclmiheahfakaadoor", sum := "26ca0dc3e9a3fb58bc7afceb2ae6e9203f394f4e38f41457bd5dee550f1c1135", func := "corpora/corporalaw03.ChecksumSeals", spec := "checksumSeals", named := ["corpora/checksum.afterNibble"], apart := false, laid := [("corpora/checksum.afterNibble", laid_corpora_checksum_afterNibble)] }
def ChecksumSealsSaid : Prop := checksumSealsRow.holds Tryd.pinned (OpenSpec.ofChange checksumSealsSpec)

/-- ITS FALSE NEIGHBOUR: 'it returns false'. Refute it at one input. -/
def checksumSealsWrong : ChangeSpec := { name := "checksumSeals", fn := fun _ => fun
  | [d] => { results := [.lit (.bool false)], args := [d] }
  | _ => none }
def ChecksumSealsWrongFalsely : Prop := checksumSealsRow.holds Tryd.pinned (OpenSpec.ofChange checksumSealsWrong)

/-- 'corporalaw03.ChecksumUnseals': WHATEVER THE INPUT: true; the input reads as it did. -/
def checksumUnsealsSpec : ChangeSpec := { name := "checksumUnseals", fn := fun _ => fun
  | [d] => { results := [.lit (.bool true)], args := [d] }
  | _ => none }
def checksumUnsealsRow : OpenClaim := { program := "ytgclmiheahfakaadoor", sum := "26ca0dc3e9a3fb58bc7afceb2ae6e9203f394f4e38f41457bd5dee550f1c1135", func := "corpora/corporalaw03.ChecksumUnseals", spec := "checksumUnseals", named := ["corpora/checksum.afterNibble"], apart := false, laid := [("corpora/checksum.afterNibble", laid_corpora_checksum_afterNibble)] }
def ChecksumUnsealsSaid : Prop := checksumUnsealsRow.holds Tryd.pinned (OpenSpec.ofChange checksumUnsealsSpec)

/-- ITS FALSE NEIGHBOUR: 'it returns false'. Refute it at one input. -/
def checksumUnsealsWrong : ChangeSpec := { name := "checksumUnseals", fn := fun _ => fun
  | [d] => { results := [.lit (.bool false)], args := [d] }
  | _ => none }
def ChecksumUnsealsWrongFalsely : Prop := checksumUnsealsRow.holds Tryd.pinned (OpenSpec.ofChange checksumUnsealsWrong)

/-- 'corporalaw03.ChecksumLinear': WHATEVER THE INPUT: true; the input reads as it did. -/
def checksumLinearSpec : ChangeSpec := { name := "checksumLinear", fn := fun _ => fun
  | [d1, d2, d3] => { results := [.lit (.bool true)], args := [d1, d2, d3] }
  | _ => none }
def checksumLinearRow : OpenClaim := { program := "ytgclmiheahfakaadoor", sum := "26ca0dc3e9a3fb58bc7afceb2ae6e9203f394f4e38f41457bd5dee550f1c1135", func := "corpora/corporalaw03.ChecksumLinear", spec := "checksumLinear", named := ["corpora/checksum.afterNibble"], apart := false, laid := [("corpora/checksum.afterNibble", laid_corpora_checksum_afterNibble)] }
def ChecksumLinearSaid : Prop := checksumLinearRow.holds Tryd.pinned (OpenSpec.ofChange checksumLinearSpec)

/-- ITS FALSE NEIGHBOUR: 'it returns false'. Refute it at one input. -/
def checksumLinearWrong : ChangeSpec := { name := "checksumLinear", fn := fun _ => fun
  | [d1, d2, d3] => { results := [.lit (.bool false)], args := [d1, d2, d3] }
  | _ => none }
def ChecksumLinearWrongFalsely : Prop := checksumLinearRow.holds Tryd.pinned (OpenSpec.ofChange checksumLinearWrong)

/-- 'corporalaw03.ChecksumBursts': WHATEVER THE INPUT: true; the input reads as it did. -/
def checksumBurstsSpec : ChangeSpec := { name := "checksumBursts", fn := fun _ => fun
  | [d1, d2, d3] => { results := [.lit (.bool true)], args := [d1, d2, d3] }
  | _ => none }
def checksumBurstsRow : OpenClaim := { program := "ytgclmiheahfakaadoor", sum := "26ca0dc3e9a3fb58bc7afceb2ae6e9203f394f4e38f41457bd5dee550f1c1135", func := "corpora/corporalaw03.ChecksumBursts", spec := "checksumBursts", named := ["corpora/checksum.afterNibble"], apart := false, laid := [("corpora/checksum.afterNibble", laid_corpora_checksum_afterNibble)] }
def ChecksumBurstsSaid : Prop := checksumBurstsRow.holds Tryd.pinned (OpenSpec.ofChange checksumBurstsSpec)

/-- ITS FALSE NEIGHBOUR: 'it returns false'. Refute it at one input. -/
def checksumBurstsWrong : ChangeSpec := { name := "checksumBursts", fn := fun _ => fun
  | [d1, d2, d3] => { results := [.lit (.bool false)], args := [d1, d2, d3] }
  | _ => none }
def ChecksumBurstsWrongFalsely : Prop := checksumBurstsRow.holds Tryd.pinned (OpenSpec.ofChange checksumBurstsWrong)

/- THE SECOND FORM. 'bulk': how many values and letters a reading holds, each counted each time it is reached (what is shared counts as often as it is met; a slice's spare places count too). A statement '..UptoSaid' is the law's where the arguments, and the package variables that the reading takes, are together of bulk at most 1048576: NARROWER than '..Said'. Prove '..Said' where nothing that the law and all that it calls make is longer than what came in: it says more and counts as full. Else prove '..UptoSaid'. A law counts once. -/
mutual
def uptoBulk {H : Type} : DataW H → Nat
  | .lit (.string bytes) => bytes.length + 1
  | .lit _ => 1
  | .nil => 1
  | .ptr d => uptoBulk d + 1
  | .slice elems spare => uptoBulkAll elems + uptoBulkAll spare + 1
  | .agg parts => uptoBulkAll parts + 1
  | .iface _ d => uptoBulk d + 1
  | .map entries => uptoBulkEntries entries + 1
  | .held _ => 1
def uptoBulkAll {H : Type} : List (DataW H) → Nat
  | [] => 0
  | d :: r => uptoBulk d + uptoBulkAll r
def uptoBulkEntries {H : Type} : List (Lit × DataW H) → Nat
  | [] => 0
  | x :: r => uptoBulkEntry x + uptoBulkEntries r
def uptoBulkEntry {H : Type} : Lit × DataW H → Nat
  | (.string bytes, d) => bytes.length + uptoBulk d + 1
  | (_, d) => uptoBulk d + 1
 end
def uptoSmall : (H : Type) → List (DataW H) → Bool := fun _ ds => decide (uptoBulkAll ds ≤ 1048576)
def OpenSpec.upto (s : _root_.Go.ChangeSpec) : _root_.Go.OpenSpec := { _root_.Go.OpenSpec.ofChange s with cond := some uptoSmall }

/-- 'corporalaw03.ChecksumSums', WHERE WHAT IT READS IS OF BULK AT MOST 1048576: true; the input reads as it did. -/
def checksumSumsUptoRow : OpenClaim := { program := "ytgclmiheahfakaadoor", sum := "26ca0dc3e9a3fb58bc7afceb2ae6e9203f394f4e38f41457bd5dee550f1c1135", func := "corpora/corporalaw03.ChecksumSums", spec := "checksumSums", named := ["corpora/checksum.afterNibble"], apart := false, laid := [("corpora/checksum.afterNibble", laid_corpora_checksum_afterNibble)], narrowed := true }
def ChecksumSumsUptoSaid : Prop := checksumSumsUptoRow.holds Tryd.pinned (OpenSpec.upto checksumSumsSpec)

/-- 'corporalaw03.ChecksumCombines', WHERE WHAT IT READS IS OF BULK AT MOST 1048576: true; the input reads as it did. -/
def checksumCombinesUptoRow : OpenClaim := { program := "ytgclmiheahfakaadoor", sum := "26ca0dc3e9a3fb58bc7afceb2ae6e9203f394f4e38f41457bd5dee550f1c1135", func := "corpora/corporalaw03.ChecksumCombines", spec := "checksumCombines", named := ["corpora/checksum.afterNibble"], apart := false, laid := [("corpora/checksum.afterNibble", laid_corpora_checksum_afterNibble)], narrowed := true }
def ChecksumCombinesUptoSaid : Prop := checksumCombinesUptoRow.holds Tryd.pinned (OpenSpec.upto checksumCombinesSpec)

/-- 'corporalaw03.ChecksumCombined', WHERE WHAT IT READS IS OF BULK AT MOST 1048576: true; the input reads as it did. -/
def checksumCombinedUptoRow : OpenClaim := { program := "ytgclmiheahfakaadoor", sum := "26ca0dc3e9a3fb58bc7afceb2ae6e9203f394f4e38f41457bd5dee550f1c1135", func := "corpora/corporalaw03.ChecksumCombined", spec := "checksumCombined", named := ["corpora/checksum.afterNibble"], apart := false, laid := [("corpora/checksum.afterNibble", laid_corpora_checksum_afterNibble)], narrowed := true }
def ChecksumCombinedUptoSaid : Prop := checksumCombinedUptoRow.holds Tryd.pinned (OpenSpec.upto checksumCombinedSpec)

/-- 'corporalaw03.ChecksumChains', WHERE WHAT IT READS IS OF BULK AT MOST 1048576: true; the input reads as it did. -/
def checksumChainsUptoRow : OpenClaim := { program := "ytgclmiheahfakaadoor", sum := "26ca0dc3e9a3fb58bc7afceb2ae6e9203f394f4e38f41457bd5dee550f1c1135", func := "corpora/corporalaw03.ChecksumChains", spec := "checksumChains", named := ["corpora/checksum.afterNibble"], apart := false, laid := [("corpora/checksum.afterNibble", laid_corpora_checksum_afterNibble)], narrowed := true }
def ChecksumChainsUptoSaid : Prop := checksumChainsUptoRow.holds Tryd.pinned (OpenSpec.upto checksumChainsSpec)

/-- 'corporalaw03.ChecksumSeals', WHERE WHAT IT READS IS OF BULK AT MOST 1048576: true; the input reads as it did. -/
def checksumSealsUptoRow : OpenClaim := { program := "ytgclmiheahfakaadoor", sum := "26ca0dc3e9a3fb58bc7afceb2ae6e9203f394f4e38f41457bd5dee550f1c1135", func := "corpora/corporalaw03.ChecksumSeals", spec := "checksumSeals", named := ["corpora/checksum.afterNibble"], apart := false, laid := [("corpora/checksum.afterNibble", laid_corpora_checksum_afterNibble)], narrowed := true }
def ChecksumSealsUptoSaid : Prop := checksumSealsUptoRow.holds Tryd.pinned (OpenSpec.upto checksumSealsSpec)

/-- 'corporalaw03.ChecksumUnseals', WHERE WHAT IT READS IS OF BULK AT MOST 1048576: true; the input reads as it did. -/
def checksumUnsealsUptoRow : OpenClaim := { program := "ytgclmiheahfakaadoor", sum := "26ca0dc3e9a3fb58bc7afceb2ae6e9203f394f4e38f41457bd5dee550f1c1135", func := "corpora/corporalaw03.ChecksumUnseals", spec := "checksumUnseals", named := ["corpora/checksum.afterNibble"], apart := false, laid := [("corpora/checksum.afterNibble", laid_corpora_checksum_afterNibble)], narrowed := true }
def ChecksumUnsealsUptoSaid : Prop := checksumUnsealsUptoRow.holds Tryd.pinned (OpenSpec.upto checksumUnsealsSpec)

/-- 'corporalaw03.ChecksumLinear', WHERE WHAT IT READS IS OF BULK AT MOST 1048576: true; the input reads as it did. -/
def checksumLinearUptoRow : OpenClaim := { program := "ytgclmiheahfakaadoor", sum := "26ca0dc3e9a3fb58bc7afceb2ae6e9203f394f4e38f41457bd5dee550f1c1135", func := "corpora/corporalaw03.ChecksumLinear", spec := "checksumLinear", named := ["corpora/checksum.afterNibble"], apart := false, laid := [("corpora/checksum.afterNibble", laid_corpora_checksum_afterNibble)], narrowed := true }
def ChecksumLinearUptoSaid : Prop := checksumLinearUptoRow.holds Tryd.pinned (OpenSpec.upto checksumLinearSpec)

/-- 'corporalaw03.ChecksumBursts', WHERE WHAT IT READS IS OF BULK AT MOST 1048576: true; the input reads as it did. -/
def checksumBurstsUptoRow : OpenClaim := { program := "ytgclmiheahfakaadoor", sum := "26ca0dc3e9a3fb58bc7afceb2ae6e9203f394f4e38f41457bd5dee550f1c1135", func := "corpora/corporalaw03.ChecksumBursts", spec := "checksumBursts", named := ["corpora/checksum.afterNibble"], apart := false, laid := [("corpora/checksum.afterNibble", laid_corpora_checksum_afterNibble)], narrowed := true }
def ChecksumBurstsUptoSaid : Prop := checksumBurstsUptoRow.holds Tryd.pinned (OpenSpec.upto checksumBurstsSpec)

end Rows
end Go.Proofs.YtgclmiheahfakaaDoor
