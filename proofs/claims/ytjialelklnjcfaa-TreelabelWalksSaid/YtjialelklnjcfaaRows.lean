/-
  No cell of these rows narrows 'for every input' (looked for: loops, veiled, ifaces, maps, wideKeys, modest, calm, conditions, laid).
  DERIVED. THE GIVEN ROWS OF THIS SEAT. 8 by the template 'for every input the law returns true; each argument reads behind the call as it read before'; 0 by the template 'total and deterministic' (their statements: YtjialelklnjcfaaTotals.lean).
  GIVEN WITH THE SEED: the statements are not yours to turn. If you find one false, say at which input.
  Laid BY PROGRAM, IN A SANDBOX (cutbox-rows.mjs): the forced cells as the released guide's own fill.sh prints them over the translation 181f86e320ce700a… (all of the seat's roots in one cut). By AI agents, Wed Nov 11 2026. No macro, syntax, notation, axiom, sorry.
-/
import Derived.Test.YtjialelklnjcfaaChecked
import GoSem.Claim
import GoSem.ClaimJoined
import GoSem.ClaimMapViews
import Derived.JoinedTies
import Derived.KernelRfl
namespace Go.Proofs.Ytjialelklnjcfaa
/- THE CELL 'sum', in the pinned program and in every row, IS THE sha256 OF THE DUMP (.gsa) THAT YtjialelklnjcfaaProg.lean LOADS. Nothing in Lean hashes anything: it is a label: what it is worth is what the hold of that sum in a sandbox is worth. -/
noncomputable def Try.pinned : Pinned := { name := "ytjialelklnjcfaa", sum := "181f86e320ce700acff9b9e18680e914c6ce1f14ebef6ac5f4c48af18816d41a", checked := Try.checked }
namespace Rows
def none {H : Type} : Left H := { results := [], args := [] }

/-- 'corporalaw10.TreelabelAssigns': WHATEVER THE INPUT: true; the input reads as it did. -/
def treelabelAssignsSpec : ChangeSpec := { name := "treelabelAssigns", fn := fun _ => fun
  | [d] => { results := [.lit (.bool true)], args := [d] }
  | _ => none }
def treelabelAssignsRow : OpenClaim := { program := "ytjialelklnjcfaa", sum := "181f86e320ce700acff9b9e18680e914c6ce1f14ebef6ac5f4c48af18816d41a", func := "corpora/corporalaw10.TreelabelAssigns", spec := "treelabelAssigns", unfollowed := true, recurses := true, apart := false }
def TreelabelAssignsSaid : Prop := treelabelAssignsRow.holds Try.pinned (OpenSpec.ofChange treelabelAssignsSpec)

/-- ITS FALSE NEIGHBOUR: 'it returns false'. Refute it at one input. -/
def treelabelAssignsWrong : ChangeSpec := { name := "treelabelAssigns", fn := fun _ => fun
  | [d] => { results := [.lit (.bool false)], args := [d] }
  | _ => none }
def TreelabelAssignsWrongFalsely : Prop := treelabelAssignsRow.holds Try.pinned (OpenSpec.ofChange treelabelAssignsWrong)

/-- 'corporalaw10.TreelabelParents': WHATEVER THE INPUT: true; the input reads as it did. -/
def treelabelParentsSpec : ChangeSpec := { name := "treelabelParents", fn := fun _ => fun
  | [d] => { results := [.lit (.bool true)], args := [d] }
  | _ => none }
def treelabelParentsRow : OpenClaim := { program := "ytjialelklnjcfaa", sum := "181f86e320ce700acff9b9e18680e914c6ce1f14ebef6ac5f4c48af18816d41a", func := "corpora/corporalaw10.TreelabelParents", spec := "treelabelParents", unfollowed := true, recurses := true, apart := false }
def TreelabelParentsSaid : Prop := treelabelParentsRow.holds Try.pinned (OpenSpec.ofChange treelabelParentsSpec)

/-- ITS FALSE NEIGHBOUR: 'it returns false'. Refute it at one input. -/
def treelabelParentsWrong : ChangeSpec := { name := "treelabelParents", fn := fun _ => fun
  | [d] => { results := [.lit (.bool false)], args := [d] }
  | _ => none }
def TreelabelParentsWrongFalsely : Prop := treelabelParentsRow.holds Try.pinned (OpenSpec.ofChange treelabelParentsWrong)

/-- 'corporalaw10.TreelabelBack': WHATEVER THE INPUT: true; the input reads as it did. -/
def treelabelBackSpec : ChangeSpec := { name := "treelabelBack", fn := fun _ => fun
  | [d] => { results := [.lit (.bool true)], args := [d] }
  | _ => none }
def treelabelBackRow : OpenClaim := { program := "ytjialelklnjcfaa", sum := "181f86e320ce700acff9b9e18680e914c6ce1f14ebef6ac5f4c48af18816d41a", func := "corpora/corporalaw10.TreelabelBack", spec := "treelabelBack", unfollowed := true, recurses := true, apart := false }
def TreelabelBackSaid : Prop := treelabelBackRow.holds Try.pinned (OpenSpec.ofChange treelabelBackSpec)

/-- ITS FALSE NEIGHBOUR: 'it returns false'. Refute it at one input. -/
def treelabelBackWrong : ChangeSpec := { name := "treelabelBack", fn := fun _ => fun
  | [d] => { results := [.lit (.bool false)], args := [d] }
  | _ => none }
def TreelabelBackWrongFalsely : Prop := treelabelBackRow.holds Try.pinned (OpenSpec.ofChange treelabelBackWrong)

/-- 'corporalaw10.TreelabelWalks': WHATEVER THE INPUT: true; the input reads as it did. -/
def treelabelWalksSpec : ChangeSpec := { name := "treelabelWalks", fn := fun _ => fun
  | [d] => { results := [.lit (.bool true)], args := [d] }
  | _ => none }
def treelabelWalksRow : OpenClaim := { program := "ytjialelklnjcfaa", sum := "181f86e320ce700acff9b9e18680e914c6ce1f14ebef6ac5f4c48af18816d41a", func := "corpora/corporalaw10.TreelabelWalks", spec := "treelabelWalks", unfollowed := true, recurses := true, apart := false }
def TreelabelWalksSaid : Prop := treelabelWalksRow.holds Try.pinned (OpenSpec.ofChange treelabelWalksSpec)

/-- ITS FALSE NEIGHBOUR: 'it returns false'. Refute it at one input. -/
def treelabelWalksWrong : ChangeSpec := { name := "treelabelWalks", fn := fun _ => fun
  | [d] => { results := [.lit (.bool false)], args := [d] }
  | _ => none }
def TreelabelWalksWrongFalsely : Prop := treelabelWalksRow.holds Try.pinned (OpenSpec.ofChange treelabelWalksWrong)

/-- 'corporalaw10.TreelabelCompares': WHATEVER THE INPUT: true; the input reads as it did. -/
def treelabelComparesSpec : ChangeSpec := { name := "treelabelCompares", fn := fun _ => fun
  | [d1, d2] => { results := [.lit (.bool true)], args := [d1, d2] }
  | _ => none }
def treelabelComparesRow : OpenClaim := { program := "ytjialelklnjcfaa", sum := "181f86e320ce700acff9b9e18680e914c6ce1f14ebef6ac5f4c48af18816d41a", func := "corpora/corporalaw10.TreelabelCompares", spec := "treelabelCompares", unfollowed := true, recurses := true, apart := false }
def TreelabelComparesSaid : Prop := treelabelComparesRow.holds Try.pinned (OpenSpec.ofChange treelabelComparesSpec)

/-- ITS FALSE NEIGHBOUR: 'it returns false'. Refute it at one input. -/
def treelabelComparesWrong : ChangeSpec := { name := "treelabelCompares", fn := fun _ => fun
  | [d1, d2] => { results := [.lit (.bool false)], args := [d1, d2] }
  | _ => none }
def TreelabelComparesWrongFalsely : Prop := treelabelComparesRow.holds Try.pinned (OpenSpec.ofChange treelabelComparesWrong)

/-- 'corporalaw10.TreelabelRelates': WHATEVER THE INPUT: true; the input reads as it did. -/
def treelabelRelatesSpec : ChangeSpec := { name := "treelabelRelates", fn := fun _ => fun
  | [d1, d2, d3] => { results := [.lit (.bool true)], args := [d1, d2, d3] }
  | _ => none }
def treelabelRelatesRow : OpenClaim := { program := "ytjialelklnjcfaa", sum := "181f86e320ce700acff9b9e18680e914c6ce1f14ebef6ac5f4c48af18816d41a", func := "corpora/corporalaw10.TreelabelRelates", spec := "treelabelRelates", unfollowed := true, recurses := true, apart := false }
def TreelabelRelatesSaid : Prop := treelabelRelatesRow.holds Try.pinned (OpenSpec.ofChange treelabelRelatesSpec)

/-- ITS FALSE NEIGHBOUR: 'it returns false'. Refute it at one input. -/
def treelabelRelatesWrong : ChangeSpec := { name := "treelabelRelates", fn := fun _ => fun
  | [d1, d2, d3] => { results := [.lit (.bool false)], args := [d1, d2, d3] }
  | _ => none }
def TreelabelRelatesWrongFalsely : Prop := treelabelRelatesRow.holds Try.pinned (OpenSpec.ofChange treelabelRelatesWrong)

/-- 'corporalaw10.TreelabelCommon': WHATEVER THE INPUT: true; the input reads as it did. -/
def treelabelCommonSpec : ChangeSpec := { name := "treelabelCommon", fn := fun _ => fun
  | [d1, d2, d3] => { results := [.lit (.bool true)], args := [d1, d2, d3] }
  | _ => none }
def treelabelCommonRow : OpenClaim := { program := "ytjialelklnjcfaa", sum := "181f86e320ce700acff9b9e18680e914c6ce1f14ebef6ac5f4c48af18816d41a", func := "corpora/corporalaw10.TreelabelCommon", spec := "treelabelCommon", unfollowed := true, recurses := true, apart := false }
def TreelabelCommonSaid : Prop := treelabelCommonRow.holds Try.pinned (OpenSpec.ofChange treelabelCommonSpec)

/-- ITS FALSE NEIGHBOUR: 'it returns false'. Refute it at one input. -/
def treelabelCommonWrong : ChangeSpec := { name := "treelabelCommon", fn := fun _ => fun
  | [d1, d2, d3] => { results := [.lit (.bool false)], args := [d1, d2, d3] }
  | _ => none }
def TreelabelCommonWrongFalsely : Prop := treelabelCommonRow.holds Try.pinned (OpenSpec.ofChange treelabelCommonWrong)

/-- 'corporalaw10.TreelabelHeads': WHATEVER THE INPUT: true; the input reads as it did. -/
def treelabelHeadsSpec : ChangeSpec := { name := "treelabelHeads", fn := fun _ => fun
  | [d1, d2, d3] => { results := [.lit (.bool true)], args := [d1, d2, d3] }
  | _ => none }
def treelabelHeadsRow : OpenClaim := { program := "ytjialelklnjcfaa", sum := "181f86e320ce700acff9b9e18680e914c6ce1f14ebef6ac5f4c48af18816d41a", func := "corpora/corporalaw10.TreelabelHeads", spec := "treelabelHeads", unfollowed := true, recurses := true, apart := false }
def TreelabelHeadsSaid : Prop := treelabelHeadsRow.holds Try.pinned (OpenSpec.ofChange treelabelHeadsSpec)

/-- ITS FALSE NEIGHBOUR: 'it returns false'. Refute it at one input. -/
def treelabelHeadsWrong : ChangeSpec := { name := "treelabelHeads", fn := fun _ => fun
  | [d1, d2, d3] => { results := [.lit (.bool false)], args := [d1, d2, d3] }
  | _ => none }
def TreelabelHeadsWrongFalsely : Prop := treelabelHeadsRow.holds Try.pinned (OpenSpec.ofChange treelabelHeadsWrong)

/- THE SECOND FORM. 'bulk': how many values and letters a reading holds, each counted each time it is reached (what is shared counts as often as it is met; a slice's spare places count too). A statement '..UptoSaid' is the law's where the arguments, and the package variables that the reading takes, are together of bulk at most 1048576: NARROWER than '..Said'. Prove '..Said' where nothing that the law and all that it calls make is longer than what came in: it says more and counts as full. Else prove '..UptoSaid'. A law counts once. -/
mutual
def uptoBulk {H : Type} : DataW H → Nat
  | .lit (.string bytes) => bytes.length + 1
  | .lit _ => 1
  | .nil => 1
  | .ptr d => uptoBulk d + 1
  | .slice elems spare => uptoBulkAll elems + uptoBulkAll spare + 1
  | .agg parts => uptoBulkAll parts + 1
  | .iface _ d => uptoBulk d + 1
  | .map entries => uptoBulkEntries entries + 1
  | .held _ => 1
def uptoBulkAll {H : Type} : List (DataW H) → Nat
  | [] => 0
  | d :: r => uptoBulk d + uptoBulkAll r
def uptoBulkEntries {H : Type} : List (Lit × DataW H) → Nat
  | [] => 0
  | x :: r => uptoBulkEntry x + uptoBulkEntries r
def uptoBulkEntry {H : Type} : Lit × DataW H → Nat
  | (.string bytes, d) => bytes.length + uptoBulk d + 1
  | (_, d) => uptoBulk d + 1
 end
def uptoSmall : (H : Type) → List (DataW H) → Bool := fun _ ds => decide (uptoBulkAll ds ≤ 1048576)
def OpenSpec.upto (s : _root_.Go.ChangeSpec) : _root_.Go.OpenSpec := { _root_.Go.OpenSpec.ofChange s with cond := some uptoSmall }

/-- 'corporalaw10.TreelabelAssigns', WHERE WHAT IT READS IS OF BULK AT MOST 1048576: true; the input reads as it did. -/
def treelabelAssignsUptoRow : OpenClaim := { program := "ytjialelklnjcfaa", sum := "181f86e320ce700acff9b9e18680e914c6ce1f14ebef6ac5f4c48af18816d41a", func := "corpora/corporalaw10.TreelabelAssigns", spec := "treelabelAssigns", unfollowed := true, recurses := true, apart := false, narrowed := true }
def TreelabelAssignsUptoSaid : Prop := treelabelAssignsUptoRow.holds Try.pinned (OpenSpec.upto treelabelAssignsSpec)

/-- 'corporalaw10.TreelabelParents', WHERE WHAT IT READS IS OF BULK AT MOST 1048576: true; the input reads as it did. -/
def treelabelParentsUptoRow : OpenClaim := { program := "ytjialelklnjcfaa", sum := "181f86e320ce700acff9b9e18680e914c6ce1f14ebef6ac5f4c48af18816d41a", func := "corpora/corporalaw10.TreelabelParents", spec := "treelabelParents", unfollowed := true, recurses := true, apart := false, narrowed := true }
def TreelabelParentsUptoSaid : Prop := treelabelParentsUptoRow.holds Try.pinned (OpenSpec.upto treelabelParentsSpec)

/-- 'corporalaw10.TreelabelBack', WHERE WHAT IT READS IS OF BULK AT MOST 1048576: true; the input reads as it did. -/
def treelabelBackUptoRow : OpenClaim := { program := "ytjialelklnjcfaa", sum := "181f86e320ce700acff9b9e18680e914c6ce1f14ebef6ac5f4c48af18816d41a", func := "corpora/corporalaw10.TreelabelBack", spec := "treelabelBack", unfollowed := true, recurses := true, apart := false, narrowed := true }
def TreelabelBackUptoSaid : Prop := treelabelBackUptoRow.holds Try.pinned (OpenSpec.upto treelabelBackSpec)

/-- 'corporalaw10.TreelabelWalks', WHERE WHAT IT READS IS OF BULK AT MOST 1048576: true; the input reads as it did. -/
def treelabelWalksUptoRow : OpenClaim := { program := "ytjialelklnjcfaa", sum := "181f86e320ce700acff9b9e18680e914c6ce1f14ebef6ac5f4c48af18816d41a", func := "corpora/corporalaw10.TreelabelWalks", spec := "treelabelWalks", unfollowed := true, recurses := true, apart := false, narrowed := true }
def TreelabelWalksUptoSaid : Prop := treelabelWalksUptoRow.holds Try.pinned (OpenSpec.upto treelabelWalksSpec)

/-- 'corporalaw10.TreelabelCompares', WHERE WHAT IT READS IS OF BULK AT MOST 1048576: true; the input reads as it did. -/
def treelabelComparesUptoRow : OpenClaim := { program := "ytjialelklnjcfaa", sum := "181f86e320ce700acff9b9e18680e914c6ce1f14ebef6ac5f4c48af18816d41a", func := "corpora/corporalaw10.TreelabelCompares", spec := "treelabelCompares", unfollowed := true, recurses := true, apart := false, narrowed := true }
def TreelabelComparesUptoSaid : Prop := treelabelComparesUptoRow.holds Try.pinned (OpenSpec.upto treelabelComparesSpec)

/-- 'corporalaw10.TreelabelRelates', WHERE WHAT IT READS IS OF BULK AT MOST 1048576: true; the input reads as it did. -/
def treelabelRelatesUptoRow : OpenClaim := { program := "ytjialelklnjcfaa", sum := "181f86e320ce700acff9b9e18680e914c6ce1f14ebef6ac5f4c48af18816d41a", func := "corpora/corporalaw10.TreelabelRelates", spec := "treelabelRelates", unfollowed := true, recurses := true, apart := false, narrowed := true }
def TreelabelRelatesUptoSaid : Prop := treelabelRelatesUptoRow.holds Try.pinned (OpenSpec.upto treelabelRelatesSpec)

/-- 'corporalaw10.TreelabelCommon', WHERE WHAT IT READS IS OF BULK AT MOST 1048576: true; the input reads as it did. -/
def treelabelCommonUptoRow : OpenClaim := { program := "ytjialelklnjcfaa", sum := "181f86e320ce700acff9b9e18680e914c6ce1f14ebef6ac5f4c48af18816d41a", func := "corpora/corporalaw10.TreelabelCommon", spec := "treelabelCommon", unfollowed := true, recurses := true, apart := false, narrowed := true }
def TreelabelCommonUptoSaid : Prop := treelabelCommonUptoRow.holds Try.pinned (OpenSpec.upto treelabelCommonSpec)

/-- 'corporalaw10.TreelabelHeads', WHERE WHAT IT READS IS OF BULK AT MOST 1048576: true; the input reads as it did. -/
def treelabelHeadsUptoRow : OpenClaim := { program := "ytjialelklnjcfaa", sum := "181f86e320ce700acff9b9e18680e914c6ce1f14ebef6ac5f4c48af18816d41a", func := "corpora/corporalaw10.TreelabelHeads", spec := "treelabelHeads", unfollowed := true, recurses := true, apart := false, narrowed := true }
def TreelabelHeadsUptoSaid : Prop := treelabelHeadsUptoRow.holds Try.pinned (OpenSpec.upto treelabelHeadsSpec)

end Rows
end Go.Proofs.Ytjialelklnjcfaa
