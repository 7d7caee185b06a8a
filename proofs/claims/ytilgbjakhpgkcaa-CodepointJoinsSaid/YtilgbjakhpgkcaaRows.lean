/-
  No cell of these rows narrows 'for every input' (looked for: loops, veiled, ifaces, maps, wideKeys, modest, calm, conditions, laid).
  DERIVED. THE GIVEN ROWS OF THIS SEAT. 10 by the template 'for every input the law returns true; each argument reads behind the call as it read before'; 0 by the template 'total and deterministic' (their statements: YtilgbjakhpgkcaaTotals.lean).
  GIVEN WITH THE SEED: the statements are not yours to turn. If you find one false, say at which input.
  Laid BY PROGRAM, IN A SANDBOX (cutbox-rows.mjs): the forced cells as the released guide's own fill.sh prints them over the translation f7122df97267e607… (all of the seat's roots in one cut). By AI agents, Wed Nov 11 2026. No macro, syntax, notation, axiom, sorry.
-/
import Derived.Test.YtilgbjakhpgkcaaChecked
import GoSem.Claim
import GoSem.ClaimJoined
import GoSem.ClaimMapViews
import Derived.JoinedTies
import Derived.KernelRfl
namespace Go.Proofs.Ytilgbjakhpgkcaa
/- THE CELL 'sum', in the pinned program and in every row, IS THE sha256 OF THE DUMP (.gsa) THAT YtilgbjakhpgkcaaProg.lean LOADS. Nothing in Lean hashes anything: it is a label: what it is worth is what the hold of that sum in a sandbox is worth. -/
noncomputable def Try.pinned : Pinned := { name := "ytilgbjakhpgkcaa", sum := "f7122df97267e6076c6d7c30af0a3ffcdd5145dec312a539e8372ba25f265358", checked := Try.checked }
namespace Rows
def none {H : Type} : Left H := { results := [], args := [] }

/-- 'corporalaw01.CodepointUnits': WHATEVER THE INPUT: true; the input reads as it did. -/
def codepointUnitsSpec : ChangeSpec := { name := "codepointUnits", fn := fun _ => fun
  | [d1, d2] => { results := [.lit (.bool true)], args := [d1, d2] }
  | _ => none }
def codepointUnitsRow : OpenClaim := { program := "ytilgbjakhpgkcaa", sum := "f7122df97267e6076c6d7c30af0a3ffcdd5145dec312a539e8372ba25f265358", func := "corpora/corporalaw01.CodepointUnits", spec := "codepointUnits", unfollowed := true, recurses := true, apart := false }
def CodepointUnitsSaid : Prop := codepointUnitsRow.holds Try.pinned (OpenSpec.ofChange codepointUnitsSpec)

/-- ITS FALSE NEIGHBOUR: 'it returns false'. Refute it at one input. -/
def codepointUnitsWrong : ChangeSpec := { name := "codepointUnits", fn := fun _ => fun
  | [d1, d2] => { results := [.lit (.bool false)], args := [d1, d2] }
  | _ => none }
def CodepointUnitsWrongFalsely : Prop := codepointUnitsRow.holds Try.pinned (OpenSpec.ofChange codepointUnitsWrong)

/-- 'corporalaw01.CodepointValid': WHATEVER THE INPUT: true; the input reads as it did. -/
def codepointValidSpec : ChangeSpec := { name := "codepointValid", fn := fun _ => fun
  | [d1, d2] => { results := [.lit (.bool true)], args := [d1, d2] }
  | _ => none }
def codepointValidRow : OpenClaim := { program := "ytilgbjakhpgkcaa", sum := "f7122df97267e6076c6d7c30af0a3ffcdd5145dec312a539e8372ba25f265358", func := "corpora/corporalaw01.CodepointValid", spec := "codepointValid", unfollowed := true, recurses := true, apart := false }
def CodepointValidSaid : Prop := codepointValidRow.holds Try.pinned (OpenSpec.ofChange codepointValidSpec)

/-- ITS FALSE NEIGHBOUR: 'it returns false'. Refute it at one input. -/
def codepointValidWrong : ChangeSpec := { name := "codepointValid", fn := fun _ => fun
  | [d1, d2] => { results := [.lit (.bool false)], args := [d1, d2] }
  | _ => none }
def CodepointValidWrongFalsely : Prop := codepointValidRow.holds Try.pinned (OpenSpec.ofChange codepointValidWrong)

/-- 'corporalaw01.CodepointPositions': WHATEVER THE INPUT: true; the input reads as it did. -/
def codepointPositionsSpec : ChangeSpec := { name := "codepointPositions", fn := fun _ => fun
  | [d1, d2] => { results := [.lit (.bool true)], args := [d1, d2] }
  | _ => none }
def codepointPositionsRow : OpenClaim := { program := "ytilgbjakhpgkcaa", sum := "f7122df97267e6076c6d7c30af0a3ffcdd5145dec312a539e8372ba25f265358", func := "corpora/corporalaw01.CodepointPositions", spec := "codepointPositions", unfollowed := true, recurses := true, apart := false }
def CodepointPositionsSaid : Prop := codepointPositionsRow.holds Try.pinned (OpenSpec.ofChange codepointPositionsSpec)

/-- ITS FALSE NEIGHBOUR: 'it returns false'. Refute it at one input. -/
def codepointPositionsWrong : ChangeSpec := { name := "codepointPositions", fn := fun _ => fun
  | [d1, d2] => { results := [.lit (.bool false)], args := [d1, d2] }
  | _ => none }
def CodepointPositionsWrongFalsely : Prop := codepointPositionsRow.holds Try.pinned (OpenSpec.ofChange codepointPositionsWrong)

/-- 'corporalaw01.CodepointLines': WHATEVER THE INPUT: true; the input reads as it did. -/
def codepointLinesSpec : ChangeSpec := { name := "codepointLines", fn := fun _ => fun
  | [d1, d2, d3] => { results := [.lit (.bool true)], args := [d1, d2, d3] }
  | _ => none }
def codepointLinesRow : OpenClaim := { program := "ytilgbjakhpgkcaa", sum := "f7122df97267e6076c6d7c30af0a3ffcdd5145dec312a539e8372ba25f265358", func := "corpora/corporalaw01.CodepointLines", spec := "codepointLines", unfollowed := true, recurses := true, apart := false }
def CodepointLinesSaid : Prop := codepointLinesRow.holds Try.pinned (OpenSpec.ofChange codepointLinesSpec)

/-- ITS FALSE NEIGHBOUR: 'it returns false'. Refute it at one input. -/
def codepointLinesWrong : ChangeSpec := { name := "codepointLines", fn := fun _ => fun
  | [d1, d2, d3] => { results := [.lit (.bool false)], args := [d1, d2, d3] }
  | _ => none }
def CodepointLinesWrongFalsely : Prop := codepointLinesRow.holds Try.pinned (OpenSpec.ofChange codepointLinesWrong)

/-- 'corporalaw01.CodepointFolds': WHATEVER THE INPUT: true; the input reads as it did. -/
def codepointFoldsSpec : ChangeSpec := { name := "codepointFolds", fn := fun _ => fun
  | [d] => { results := [.lit (.bool true)], args := [d] }
  | _ => none }
def codepointFoldsRow : OpenClaim := { program := "ytilgbjakhpgkcaa", sum := "f7122df97267e6076c6d7c30af0a3ffcdd5145dec312a539e8372ba25f265358", func := "corpora/corporalaw01.CodepointFolds", spec := "codepointFolds", inPlace := ["internal/abi.NoEscape"], unfollowed := true, recurses := true, apart := false }
def CodepointFoldsSaid : Prop := codepointFoldsRow.holds Try.pinned (OpenSpec.ofChange codepointFoldsSpec)

/-- ITS FALSE NEIGHBOUR: 'it returns false'. Refute it at one input. -/
def codepointFoldsWrong : ChangeSpec := { name := "codepointFolds", fn := fun _ => fun
  | [d] => { results := [.lit (.bool false)], args := [d] }
  | _ => none }
def CodepointFoldsWrongFalsely : Prop := codepointFoldsRow.holds Try.pinned (OpenSpec.ofChange codepointFoldsWrong)

/-- 'corporalaw01.CodepointSettles': WHATEVER THE INPUT: true; the input reads as it did. -/
def codepointSettlesSpec : ChangeSpec := { name := "codepointSettles", fn := fun _ => fun
  | [d] => { results := [.lit (.bool true)], args := [d] }
  | _ => none }
def codepointSettlesRow : OpenClaim := { program := "ytilgbjakhpgkcaa", sum := "f7122df97267e6076c6d7c30af0a3ffcdd5145dec312a539e8372ba25f265358", func := "corpora/corporalaw01.CodepointSettles", spec := "codepointSettles", inPlace := ["internal/abi.NoEscape"], unfollowed := true, recurses := true, apart := false }
def CodepointSettlesSaid : Prop := codepointSettlesRow.holds Try.pinned (OpenSpec.ofChange codepointSettlesSpec)

/-- ITS FALSE NEIGHBOUR: 'it returns false'. Refute it at one input. -/
def codepointSettlesWrong : ChangeSpec := { name := "codepointSettles", fn := fun _ => fun
  | [d] => { results := [.lit (.bool false)], args := [d] }
  | _ => none }
def CodepointSettlesWrongFalsely : Prop := codepointSettlesRow.holds Try.pinned (OpenSpec.ofChange codepointSettlesWrong)

/-- 'corporalaw01.CodepointReverses': WHATEVER THE INPUT: true; the input reads as it did. -/
def codepointReversesSpec : ChangeSpec := { name := "codepointReverses", fn := fun _ => fun
  | [d] => { results := [.lit (.bool true)], args := [d] }
  | _ => none }
def codepointReversesRow : OpenClaim := { program := "ytilgbjakhpgkcaa", sum := "f7122df97267e6076c6d7c30af0a3ffcdd5145dec312a539e8372ba25f265358", func := "corpora/corporalaw01.CodepointReverses", spec := "codepointReverses", unfollowed := true, recurses := true, apart := false }
def CodepointReversesSaid : Prop := codepointReversesRow.holds Try.pinned (OpenSpec.ofChange codepointReversesSpec)

/-- ITS FALSE NEIGHBOUR: 'it returns false'. Refute it at one input. -/
def codepointReversesWrong : ChangeSpec := { name := "codepointReverses", fn := fun _ => fun
  | [d] => { results := [.lit (.bool false)], args := [d] }
  | _ => none }
def CodepointReversesWrongFalsely : Prop := codepointReversesRow.holds Try.pinned (OpenSpec.ofChange codepointReversesWrong)

/-- 'corporalaw01.CodepointJoins': WHATEVER THE INPUT: true; the input reads as it did. -/
def codepointJoinsSpec : ChangeSpec := { name := "codepointJoins", fn := fun _ => fun
  | [d1, d2] => { results := [.lit (.bool true)], args := [d1, d2] }
  | _ => none }
def codepointJoinsRow : OpenClaim := { program := "ytilgbjakhpgkcaa", sum := "f7122df97267e6076c6d7c30af0a3ffcdd5145dec312a539e8372ba25f265358", func := "corpora/corporalaw01.CodepointJoins", spec := "codepointJoins", inPlace := ["internal/abi.NoEscape"], unfollowed := true, recurses := true, apart := false }
def CodepointJoinsSaid : Prop := codepointJoinsRow.holds Try.pinned (OpenSpec.ofChange codepointJoinsSpec)

/-- ITS FALSE NEIGHBOUR: 'it returns false'. Refute it at one input. -/
def codepointJoinsWrong : ChangeSpec := { name := "codepointJoins", fn := fun _ => fun
  | [d1, d2] => { results := [.lit (.bool false)], args := [d1, d2] }
  | _ => none }
def CodepointJoinsWrongFalsely : Prop := codepointJoinsRow.holds Try.pinned (OpenSpec.ofChange codepointJoinsWrong)

/-- 'corporalaw01.CodepointCompares': WHATEVER THE INPUT: true; the input reads as it did. -/
def codepointComparesSpec : ChangeSpec := { name := "codepointCompares", fn := fun _ => fun
  | [d1, d2] => { results := [.lit (.bool true)], args := [d1, d2] }
  | _ => none }
def codepointComparesRow : OpenClaim := { program := "ytilgbjakhpgkcaa", sum := "f7122df97267e6076c6d7c30af0a3ffcdd5145dec312a539e8372ba25f265358", func := "corpora/corporalaw01.CodepointCompares", spec := "codepointCompares", inPlace := ["internal/bytealg.abigen_runtime_cmpstring"], unfollowed := true, recurses := true, apart := false }
def CodepointComparesSaid : Prop := codepointComparesRow.holds Try.pinned (OpenSpec.ofChange codepointComparesSpec)

/-- ITS FALSE NEIGHBOUR: 'it returns false'. Refute it at one input. -/
def codepointComparesWrong : ChangeSpec := { name := "codepointCompares", fn := fun _ => fun
  | [d1, d2] => { results := [.lit (.bool false)], args := [d1, d2] }
  | _ => none }
def CodepointComparesWrongFalsely : Prop := codepointComparesRow.holds Try.pinned (OpenSpec.ofChange codepointComparesWrong)

/-- 'corporalaw01.CodepointOrders': WHATEVER THE INPUT: true; the input reads as it did. -/
def codepointOrdersSpec : ChangeSpec := { name := "codepointOrders", fn := fun _ => fun
  | [d1, d2, d3] => { results := [.lit (.bool true)], args := [d1, d2, d3] }
  | _ => none }
def codepointOrdersRow : OpenClaim := { program := "ytilgbjakhpgkcaa", sum := "f7122df97267e6076c6d7c30af0a3ffcdd5145dec312a539e8372ba25f265358", func := "corpora/corporalaw01.CodepointOrders", spec := "codepointOrders", inPlace := ["internal/bytealg.abigen_runtime_cmpstring"], unfollowed := true, recurses := true, apart := false }
def CodepointOrdersSaid : Prop := codepointOrdersRow.holds Try.pinned (OpenSpec.ofChange codepointOrdersSpec)

/-- ITS FALSE NEIGHBOUR: 'it returns false'. Refute it at one input. -/
def codepointOrdersWrong : ChangeSpec := { name := "codepointOrders", fn := fun _ => fun
  | [d1, d2, d3] => { results := [.lit (.bool false)], args := [d1, d2, d3] }
  | _ => none }
def CodepointOrdersWrongFalsely : Prop := codepointOrdersRow.holds Try.pinned (OpenSpec.ofChange codepointOrdersWrong)

/- THE SECOND FORM. 'bulk': how many values and letters a reading holds, each counted each time it is reached (what is shared counts as often as it is met; a slice's spare places count too). A statement '..UptoSaid' is the law's where the arguments, and the package variables that the reading takes, are together of bulk at most 1048576: NARROWER than '..Said'. Prove '..Said' where nothing that the law and all that it calls make is longer than what came in: it says more and counts as full. Else prove '..UptoSaid'. A law counts once. -/
mutual
def uptoBulk {H : Type} : DataW H → Nat
  | .lit (.string bytes) => bytes.length + 1
  | .lit _ => 1
  | .nil => 1
  | .ptr d => uptoBulk d + 1
  | .slice elems spare => uptoBulkAll elems + uptoBulkAll spare + 1
  | .agg parts => uptoBulkAll parts + 1
  | .iface _ d => uptoBulk d + 1
  | .map entries => uptoBulkEntries entries + 1
  | .held _ => 1
def uptoBulkAll {H : Type} : List (DataW H) → Nat
  | [] => 0
  | d :: r => uptoBulk d + uptoBulkAll r
def uptoBulkEntries {H : Type} : List (Lit × DataW H) → Nat
  | [] => 0
  | x :: r => uptoBulkEntry x + uptoBulkEntries r
def uptoBulkEntry {H : Type} : Lit × DataW H → Nat
  | (.string bytes, d) => bytes.length + uptoBulk d + 1
  | (_, d) => uptoBulk d + 1
 end
def uptoSmall : (H : Type) → List (DataW H) → Bool := fun _ ds => decide (uptoBulkAll ds ≤ 1048576)
def OpenSpec.upto (s : _root_.Go.ChangeSpec) : _root_.Go.OpenSpec := { _root_.Go.OpenSpec.ofChange s with cond := some uptoSmall }

/-- 'corporalaw01.CodepointUnits', WHERE WHAT IT READS IS OF BULK AT MOST 1048576: true; the input reads as it did. -/
def codepointUnitsUptoRow : OpenClaim := { program := "ytilgbjakhpgkcaa", sum := "f7122df97267e6076c6d7c30af0a3ffcdd5145dec312a539e8372ba25f265358", func := "corpora/corporalaw01.CodepointUnits", spec := "codepointUnits", unfollowed := true, recurses := true, apart := false, narrowed := true }
def CodepointUnitsUptoSaid : Prop := codepointUnitsUptoRow.holds Try.pinned (OpenSpec.upto codepointUnitsSpec)

/-- 'corporalaw01.CodepointValid', WHERE WHAT IT READS IS OF BULK AT MOST 1048576: true; the input reads as it did. -/
def codepointValidUptoRow : OpenClaim := { program := "ytilgbjakhpgkcaa", sum := "f7122df97267e6076c6d7c30af0a3ffcdd5145dec312a539e8372ba25f265358", func := "corpora/corporalaw01.CodepointValid", spec := "codepointValid", unfollowed := true, recurses := true, apart := false, narrowed := true }
def CodepointValidUptoSaid : Prop := codepointValidUptoRow.holds Try.pinned (OpenSpec.upto codepointValidSpec)

/-- 'corporalaw01.CodepointPositions', WHERE WHAT IT READS IS OF BULK AT MOST 1048576: true; the input reads as it did. -/
def codepointPositionsUptoRow : OpenClaim := { program := "ytilgbjakhpgkcaa", sum := "f7122df97267e6076c6d7c30af0a3ffcdd5145dec312a539e8372ba25f265358", func := "corpora/corporalaw01.CodepointPositions", spec := "codepointPositions", unfollowed := true, recurses := true, apart := false, narrowed := true }
def CodepointPositionsUptoSaid : Prop := codepointPositionsUptoRow.holds Try.pinned (OpenSpec.upto codepointPositionsSpec)

/-- 'corporalaw01.CodepointLines', WHERE WHAT IT READS IS OF BULK AT MOST 1048576: true; the input reads as it did. -/
def codepointLinesUptoRow : OpenClaim := { program := "ytilgbjakhpgkcaa", sum := "f7122df97267e6076c6d7c30af0a3ffcdd5145dec312a539e8372ba25f265358", func := "corpora/corporalaw01.CodepointLines", spec := "codepointLines", unfollowed := true, recurses := true, apart := false, narrowed := true }
def CodepointLinesUptoSaid : Prop := codepointLinesUptoRow.holds Try.pinned (OpenSpec.upto codepointLinesSpec)

/-- 'corporalaw01.CodepointFolds', WHERE WHAT IT READS IS OF BULK AT MOST 1048576: true; the input reads as it did. -/
def codepointFoldsUptoRow : OpenClaim := { program := "ytilgbjakhpgkcaa", sum := "f7122df97267e6076c6d7c30af0a3ffcdd5145dec312a539e8372ba25f265358", func := "corpora/corporalaw01.CodepointFolds", spec := "codepointFolds", inPlace := ["internal/abi.NoEscape"], unfollowed := true, recurses := true, apart := false, narrowed := true }
def CodepointFoldsUptoSaid : Prop := codepointFoldsUptoRow.holds Try.pinned (OpenSpec.upto codepointFoldsSpec)

/-- 'corporalaw01.CodepointSettles', WHERE WHAT IT READS IS OF BULK AT MOST 1048576: true; the input reads as it did. -/
def codepointSettlesUptoRow : OpenClaim := { program := "ytilgbjakhpgkcaa", sum := "f7122df97267e6076c6d7c30af0a3ffcdd5145dec312a539e8372ba25f265358", func := "corpora/corporalaw01.CodepointSettles", spec := "codepointSettles", inPlace := ["internal/abi.NoEscape"], unfollowed := true, recurses := true, apart := false, narrowed := true }
def CodepointSettlesUptoSaid : Prop := codepointSettlesUptoRow.holds Try.pinned (OpenSpec.upto codepointSettlesSpec)

/-- 'corporalaw01.CodepointReverses', WHERE WHAT IT READS IS OF BULK AT MOST 1048576: true; the input reads as it did. -/
def codepointReversesUptoRow : OpenClaim := { program := "ytilgbjakhpgkcaa", sum := "f7122df97267e6076c6d7c30af0a3ffcdd5145dec312a539e8372ba25f265358", func := "corpora/corporalaw01.CodepointReverses", spec := "codepointReverses", unfollowed := true, recurses := true, apart := false, narrowed := true }
def CodepointReversesUptoSaid : Prop := codepointReversesUptoRow.holds Try.pinned (OpenSpec.upto codepointReversesSpec)

/-- 'corporalaw01.CodepointJoins', WHERE WHAT IT READS IS OF BULK AT MOST 1048576: true; the input reads as it did. -/
def codepointJoinsUptoRow : OpenClaim := { program := "ytilgbjakhpgkcaa", sum := "f7122df97267e6076c6d7c30af0a3ffcdd5145dec312a539e8372ba25f265358", func := "corpora/corporalaw01.CodepointJoins", spec := "codepointJoins", inPlace := ["internal/abi.NoEscape"], unfollowed := true, recurses := true, apart := false, narrowed := true }
def CodepointJoinsUptoSaid : Prop := codepointJoinsUptoRow.holds Try.pinned (OpenSpec.upto codepointJoinsSpec)

/-- 'corporalaw01.CodepointCompares', WHERE WHAT IT READS IS OF BULK AT MOST 1048576: true; the input reads as it did. -/
def codepointComparesUptoRow : OpenClaim := { program := "ytilgbjakhpgkcaa", sum := "f7122df97267e6076c6d7c30af0a3ffcdd5145dec312a539e8372ba25f265358", func := "corpora/corporalaw01.CodepointCompares", spec := "codepointCompares", inPlace := ["internal/bytealg.abigen_runtime_cmpstring"], unfollowed := true, recurses := true, apart := false, narrowed := true }
def CodepointComparesUptoSaid : Prop := codepointComparesUptoRow.holds Try.pinned (OpenSpec.upto codepointComparesSpec)

/-- 'corporalaw01.CodepointOrders', WHERE WHAT IT READS IS OF BULK AT MOST 1048576: true; the input reads as it did. -/
def codepointOrdersUptoRow : OpenClaim := { program := "ytilgbjakhpgkcaa", sum := "f7122df97267e6076c6d7c30af0a3ffcdd5145dec312a539e8372ba25f265358", func := "corpora/corporalaw01.CodepointOrders", spec := "codepointOrders", inPlace := ["internal/bytealg.abigen_runtime_cmpstring"], unfollowed := true, recurses := true, apart := false, narrowed := true }
def CodepointOrdersUptoSaid : Prop := codepointOrdersUptoRow.holds Try.pinned (OpenSpec.upto codepointOrdersSpec)

end Rows
end Go.Proofs.Ytilgbjakhpgkcaa
