/-
  No cell of these rows narrows 'for every input' (looked for: loops, veiled, ifaces, maps, wideKeys, modest, calm, conditions, laid).
  DERIVED. THE GIVEN ROWS OF THIS SEAT. 8 by the template 'for every input the law returns true; each argument reads behind the call as it read before'; 0 by the template 'total and deterministic' (their statements: YthagjdhfngdigaaTotals.lean).
  GIVEN WITH THE SEED: the statements are not yours to turn. If you find one false, say at which input.
  Laid BY PROGRAM, IN A SANDBOX (cutbox-rows.mjs): the forced cells as the released guide's own fill.sh prints them over the translation 7586e02ec67cb81d… (all of the seat's roots in one cut). By AI agents, Wed Nov 11 2026. No macro, syntax, notation, axiom, sorry.
-/
import Derived.Test.YthagjdhfngdigaaChecked
import GoSem.Claim
import GoSem.ClaimJoined
import GoSem.ClaimMapViews
import Derived.JoinedTies
import Derived.KernelRfl
namespace Go.Proofs.Ythagjdhfngdigaa
/- THE CELL 'sum', in the pinned program and in every row, IS THE sha256 OF THE DUMP (.gsa) THAT YthagjdhfngdigaaProg.lean LOADS. Nothing in Lean hashes anything: it is a label: what it is worth is what the hold of that sum in a sandbox is worth. -/
noncomputable def Try.pinned : Pinned := { name := "ythagjdhfngdigaa", sum := "7586e02ec67cb81da4841e5caa3f5ae1685129da32da108a0576b9c635e6d65c", checked := Try.checked }
namespace Rows
def none {H : Type} : Left H := { results := [], args := [] }

/-- 'corporalaw05.FeatureParses': WHATEVER THE INPUT: true; the input reads as it did. -/
def featureParsesSpec : ChangeSpec := { name := "featureParses", fn := fun _ => fun
  | [d] => { results := [.lit (.bool true)], args := [d] }
  | _ => none }
def featureParsesRow : OpenClaim := { program := "ythagjdhfngdigaa", sum := "7586e02ec67cb81da4841e5caa3f5ae1685129da32da108a0576b9c635e6d65c", func := "corpora/corporalaw05.FeatureParses", spec := "featureParses", inPlace := ["internal/bytealg.IndexByteString", "internal/bytealg.IndexString", "internal/abi.NoEscape"], unfollowed := true, recurses := true, named := ["internal/bytealg.MaxLen"], apart := false }
def FeatureParsesSaid : Prop := featureParsesRow.holds Try.pinned (OpenSpec.ofChange featureParsesSpec)

/-- ITS FALSE NEIGHBOUR: 'it returns false'. Refute it at one input. -/
def featureParsesWrong : ChangeSpec := { name := "featureParses", fn := fun _ => fun
  | [d] => { results := [.lit (.bool false)], args := [d] }
  | _ => none }
def FeatureParsesWrongFalsely : Prop := featureParsesRow.holds Try.pinned (OpenSpec.ofChange featureParsesWrong)

/-- 'corporalaw05.FeatureFormats': WHATEVER THE INPUT: true; the input reads as it did. -/
def featureFormatsSpec : ChangeSpec := { name := "featureFormats", fn := fun _ => fun
  | [d] => { results := [.lit (.bool true)], args := [d] }
  | _ => none }
def featureFormatsRow : OpenClaim := { program := "ythagjdhfngdigaa", sum := "7586e02ec67cb81da4841e5caa3f5ae1685129da32da108a0576b9c635e6d65c", func := "corpora/corporalaw05.FeatureFormats", spec := "featureFormats", inPlace := ["internal/bytealg.IndexByteString", "internal/bytealg.IndexString", "internal/abi.NoEscape"], unfollowed := true, recurses := true, named := ["internal/bytealg.MaxLen"], apart := false }
def FeatureFormatsSaid : Prop := featureFormatsRow.holds Try.pinned (OpenSpec.ofChange featureFormatsSpec)

/-- ITS FALSE NEIGHBOUR: 'it returns false'. Refute it at one input. -/
def featureFormatsWrong : ChangeSpec := { name := "featureFormats", fn := fun _ => fun
  | [d] => { results := [.lit (.bool false)], args := [d] }
  | _ => none }
def FeatureFormatsWrongFalsely : Prop := featureFormatsRow.holds Try.pinned (OpenSpec.ofChange featureFormatsWrong)

/-- 'corporalaw05.FeatureRoundTrips': WHATEVER THE INPUT: true; the input reads as it did. -/
def featureRoundTripsSpec : ChangeSpec := { name := "featureRoundTrips", fn := fun _ => fun
  | [d1, d2] => { results := [.lit (.bool true)], args := [d1, d2] }
  | _ => none }
def featureRoundTripsRow : OpenClaim := { program := "ythagjdhfngdigaa", sum := "7586e02ec67cb81da4841e5caa3f5ae1685129da32da108a0576b9c635e6d65c", func := "corpora/corporalaw05.FeatureRoundTrips", spec := "featureRoundTrips", inPlace := ["internal/bytealg.IndexByteString", "internal/bytealg.IndexString", "internal/abi.NoEscape"], unfollowed := true, recurses := true, named := ["internal/bytealg.MaxLen"], apart := false }
def FeatureRoundTripsSaid : Prop := featureRoundTripsRow.holds Try.pinned (OpenSpec.ofChange featureRoundTripsSpec)

/-- ITS FALSE NEIGHBOUR: 'it returns false'. Refute it at one input. -/
def featureRoundTripsWrong : ChangeSpec := { name := "featureRoundTrips", fn := fun _ => fun
  | [d1, d2] => { results := [.lit (.bool false)], args := [d1, d2] }
  | _ => none }
def FeatureRoundTripsWrongFalsely : Prop := featureRoundTripsRow.holds Try.pinned (OpenSpec.ofChange featureRoundTripsWrong)

/-- 'corporalaw05.FeatureHas': WHATEVER THE INPUT: true; the input reads as it did. -/
def featureHasSpec : ChangeSpec := { name := "featureHas", fn := fun _ => fun
  | [d1, d2] => { results := [.lit (.bool true)], args := [d1, d2] }
  | _ => none }
def featureHasRow : OpenClaim := { program := "ythagjdhfngdigaa", sum := "7586e02ec67cb81da4841e5caa3f5ae1685129da32da108a0576b9c635e6d65c", func := "corpora/corporalaw05.FeatureHas", spec := "featureHas", inPlace := ["internal/bytealg.IndexByteString", "internal/bytealg.IndexString", "internal/abi.NoEscape"], unfollowed := true, recurses := true, named := ["internal/bytealg.MaxLen"], apart := false }
def FeatureHasSaid : Prop := featureHasRow.holds Try.pinned (OpenSpec.ofChange featureHasSpec)

/-- ITS FALSE NEIGHBOUR: 'it returns false'. Refute it at one input. -/
def featureHasWrong : ChangeSpec := { name := "featureHas", fn := fun _ => fun
  | [d1, d2] => { results := [.lit (.bool false)], args := [d1, d2] }
  | _ => none }
def FeatureHasWrongFalsely : Prop := featureHasRow.holds Try.pinned (OpenSpec.ofChange featureHasWrong)

/-- 'corporalaw05.FeatureCombines': WHATEVER THE INPUT: true; the input reads as it did. -/
def featureCombinesSpec : ChangeSpec := { name := "featureCombines", fn := fun _ => fun
  | [d1, d2] => { results := [.lit (.bool true)], args := [d1, d2] }
  | _ => none }
def featureCombinesRow : OpenClaim := { program := "ythagjdhfngdigaa", sum := "7586e02ec67cb81da4841e5caa3f5ae1685129da32da108a0576b9c635e6d65c", func := "corpora/corporalaw05.FeatureCombines", spec := "featureCombines", inPlace := ["internal/bytealg.IndexByteString", "internal/bytealg.IndexString", "internal/abi.NoEscape"], unfollowed := true, recurses := true, named := ["internal/bytealg.MaxLen"], apart := false }
def FeatureCombinesSaid : Prop := featureCombinesRow.holds Try.pinned (OpenSpec.ofChange featureCombinesSpec)

/-- ITS FALSE NEIGHBOUR: 'it returns false'. Refute it at one input. -/
def featureCombinesWrong : ChangeSpec := { name := "featureCombines", fn := fun _ => fun
  | [d1, d2] => { results := [.lit (.bool false)], args := [d1, d2] }
  | _ => none }
def FeatureCombinesWrongFalsely : Prop := featureCombinesRow.holds Try.pinned (OpenSpec.ofChange featureCombinesWrong)

/-- 'corporalaw05.FeatureMembers': WHATEVER THE INPUT: true; the input reads as it did. -/
def featureMembersSpec : ChangeSpec := { name := "featureMembers", fn := fun _ => fun
  | [d1, d2, d3] => { results := [.lit (.bool true)], args := [d1, d2, d3] }
  | _ => none }
def featureMembersRow : OpenClaim := { program := "ythagjdhfngdigaa", sum := "7586e02ec67cb81da4841e5caa3f5ae1685129da32da108a0576b9c635e6d65c", func := "corpora/corporalaw05.FeatureMembers", spec := "featureMembers", inPlace := ["internal/bytealg.IndexByteString", "internal/bytealg.IndexString", "internal/abi.NoEscape"], unfollowed := true, recurses := true, named := ["internal/bytealg.MaxLen"], apart := false }
def FeatureMembersSaid : Prop := featureMembersRow.holds Try.pinned (OpenSpec.ofChange featureMembersSpec)

/-- ITS FALSE NEIGHBOUR: 'it returns false'. Refute it at one input. -/
def featureMembersWrong : ChangeSpec := { name := "featureMembers", fn := fun _ => fun
  | [d1, d2, d3] => { results := [.lit (.bool false)], args := [d1, d2, d3] }
  | _ => none }
def FeatureMembersWrongFalsely : Prop := featureMembersRow.holds Try.pinned (OpenSpec.ofChange featureMembersWrong)

/-- 'corporalaw05.FeatureLattice': WHATEVER THE INPUT: true; the input reads as it did. -/
def featureLatticeSpec : ChangeSpec := { name := "featureLattice", fn := fun _ => fun
  | [d1, d2] => { results := [.lit (.bool true)], args := [d1, d2] }
  | _ => none }
def featureLatticeRow : OpenClaim := { program := "ythagjdhfngdigaa", sum := "7586e02ec67cb81da4841e5caa3f5ae1685129da32da108a0576b9c635e6d65c", func := "corpora/corporalaw05.FeatureLattice", spec := "featureLattice", inPlace := ["internal/bytealg.IndexByteString", "internal/bytealg.IndexString", "internal/abi.NoEscape"], unfollowed := true, recurses := true, named := ["internal/bytealg.MaxLen"], apart := false }
def FeatureLatticeSaid : Prop := featureLatticeRow.holds Try.pinned (OpenSpec.ofChange featureLatticeSpec)

/-- ITS FALSE NEIGHBOUR: 'it returns false'. Refute it at one input. -/
def featureLatticeWrong : ChangeSpec := { name := "featureLattice", fn := fun _ => fun
  | [d1, d2] => { results := [.lit (.bool false)], args := [d1, d2] }
  | _ => none }
def FeatureLatticeWrongFalsely : Prop := featureLatticeRow.holds Try.pinned (OpenSpec.ofChange featureLatticeWrong)

/-- 'corporalaw05.FeatureAssociates': WHATEVER THE INPUT: true; the input reads as it did. -/
def featureAssociatesSpec : ChangeSpec := { name := "featureAssociates", fn := fun _ => fun
  | [d1, d2, d3] => { results := [.lit (.bool true)], args := [d1, d2, d3] }
  | _ => none }
def featureAssociatesRow : OpenClaim := { program := "ythagjdhfngdigaa", sum := "7586e02ec67cb81da4841e5caa3f5ae1685129da32da108a0576b9c635e6d65c", func := "corpora/corporalaw05.FeatureAssociates", spec := "featureAssociates", inPlace := ["internal/bytealg.IndexByteString", "internal/bytealg.IndexString", "internal/abi.NoEscape"], unfollowed := true, recurses := true, named := ["internal/bytealg.MaxLen"], apart := false }
def FeatureAssociatesSaid : Prop := featureAssociatesRow.holds Try.pinned (OpenSpec.ofChange featureAssociatesSpec)

/-- ITS FALSE NEIGHBOUR: 'it returns false'. Refute it at one input. -/
def featureAssociatesWrong : ChangeSpec := { name := "featureAssociates", fn := fun _ => fun
  | [d1, d2, d3] => { results := [.lit (.bool false)], args := [d1, d2, d3] }
  | _ => none }
def FeatureAssociatesWrongFalsely : Prop := featureAssociatesRow.holds Try.pinned (OpenSpec.ofChange featureAssociatesWrong)

/- THE SECOND FORM. 'bulk': how many values and letters a reading holds, each counted each time it is reached (what is shared counts as often as it is met; a slice's spare places count too). A statement '..UptoSaid' is the law's where the arguments, and the package variables that the reading takes, are together of bulk at most 1048576: NARROWER than '..Said'. Prove '..Said' where nothing that the law and all that it calls make is longer than what came in: it says more and counts as full. Else prove '..UptoSaid'. A law counts once. -/
mutual
def uptoBulk {H : Type} : DataW H → Nat
  | .lit (.string bytes) => bytes.length + 1
  | .lit _ => 1
  | .nil => 1
  | .ptr d => uptoBulk d + 1
  | .slice elems spare => uptoBulkAll elems + uptoBulkAll spare + 1
  | .agg parts => uptoBulkAll parts + 1
  | .iface _ d => uptoBulk d + 1
  | .map entries => uptoBulkEntries entries + 1
  | .held _ => 1
def uptoBulkAll {H : Type} : List (DataW H) → Nat
  | [] => 0
  | d :: r => uptoBulk d + uptoBulkAll r
def uptoBulkEntries {H : Type} : List (Lit × DataW H) → Nat
  | [] => 0
  | x :: r => uptoBulkEntry x + uptoBulkEntries r
def uptoBulkEntry {H : Type} : Lit × DataW H → Nat
  | (.string bytes, d) => bytes.length + uptoBulk d + 1
  | (_, d) => uptoBulk d + 1
 end
def uptoSmall : (H : Type) → List (DataW H) → Bool := fun _ ds => decide (uptoBulkAll ds ≤ 1048576)
def OpenSpec.upto (s : _root_.Go.ChangeSpec) : _root_.Go.OpenSpec := { _root_.Go.OpenSpec.ofChange s with cond := some uptoSmall }

/-- 'corporalaw05.FeatureParses', WHERE WHAT IT READS IS OF BULK AT MOST 1048576: true; the input reads as it did. -/
def featureParsesUptoRow : OpenClaim := { program := "ythagjdhfngdigaa", sum := "7586e02ec67cb81da4841e5caa3f5ae1685129da32da108a0576b9c635e6d65c", func := "corpora/corporalaw05.FeatureParses", spec := "featureParses", inPlace := ["internal/bytealg.IndexByteString", "internal/bytealg.IndexString", "internal/abi.NoEscape"], unfollowed := true, recurses := true, named := ["internal/bytealg.MaxLen"], apart := false, narrowed := true }
def FeatureParsesUptoSaid : Prop := featureParsesUptoRow.holds Try.pinned (OpenSpec.upto featureParsesSpec)

/-- 'corporalaw05.FeatureFormats', WHERE WHAT IT READS IS OF BULK AT MOST 1048576: true; the input reads as it did. -/
def featureFormatsUptoRow : OpenClaim := { program := "ythagjdhfngdigaa", sum := "7586e02ec67cb81da4841e5caa3f5ae1685129da32da108a0576b9c635e6d65c", func := "corpora/corporalaw05.FeatureFormats", spec := "featureFormats", inPlace := ["internal/bytealg.IndexByteString", "internal/bytealg.IndexString", "internal/abi.NoEscape"], unfollowed := true, recurses := true, named := ["internal/bytealg.MaxLen"], apart := false, narrowed := true }
def FeatureFormatsUptoSaid : Prop := featureFormatsUptoRow.holds Try.pinned (OpenSpec.upto featureFormatsSpec)

/-- 'corporalaw05.FeatureRoundTrips', WHERE WHAT IT READS IS OF BULK AT MOST 1048576: true; the input reads as it did. -/
def featureRoundTripsUptoRow : OpenClaim := { program := "ythagjdhfngdigaa", sum := "7586e02ec67cb81da4841e5caa3f5ae1685129da32da108a0576b9c635e6d65c", func := "corpora/corporalaw05.FeatureRoundTrips", spec := "featureRoundTrips", inPlace := ["internal/bytealg.IndexByteString", "internal/bytealg.IndexString", "internal/abi.NoEscape"], unfollowed := true, recurses := true, named := ["internal/bytealg.MaxLen"], apart := false, narrowed := true }
def FeatureRoundTripsUptoSaid : Prop := featureRoundTripsUptoRow.holds Try.pinned (OpenSpec.upto featureRoundTripsSpec)

/-- 'corporalaw05.FeatureHas', WHERE WHAT IT READS IS OF BULK AT MOST 1048576: true; the input reads as it did. -/
def featureHasUptoRow : OpenClaim := { program := "ythagjdhfngdigaa", sum := "7586e02ec67cb81da4841e5caa3f5ae1685129da32da108a0576b9c635e6d65c", func := "corpora/corporalaw05.FeatureHas", spec := "featureHas", inPlace := ["internal/bytealg.IndexByteString", "internal/bytealg.IndexString", "internal/abi.NoEscape"], unfollowed := true, recurses := true, named := ["internal/bytealg.MaxLen"], apart := false, narrowed := true }
def FeatureHasUptoSaid : Prop := featureHasUptoRow.holds Try.pinned (OpenSpec.upto featureHasSpec)

/-- 'corporalaw05.FeatureCombines', WHERE WHAT IT READS IS OF BULK AT MOST 1048576: true; the input reads as it did. -/
def featureCombinesUptoRow : OpenClaim := { program := "ythagjdhfngdigaa", sum := "7586e02ec67cb81da4841e5caa3f5ae1685129da32da108a0576b9c635e6d65c", func := "corpora/corporalaw05.FeatureCombines", spec := "featureCombines", inPlace := ["internal/bytealg.IndexByteString", "internal/bytealg.IndexString", "internal/abi.NoEscape"], unfollowed := true, recurses := true, named := ["internal/bytealg.MaxLen"], apart := false, narrowed := true }
def FeatureCombinesUptoSaid : Prop := featureCombinesUptoRow.holds Try.pinned (OpenSpec.upto featureCombinesSpec)

/-- 'corporalaw05.FeatureMembers', WHERE WHAT IT READS IS OF BULK AT MOST 1048576: true; the input reads as it did. -/
def featureMembersUptoRow : OpenClaim := { program := "ythagjdhfngdigaa", sum := "7586e02ec67cb81da4841e5caa3f5ae1685129da32da108a0576b9c635e6d65c", func := "corpora/corporalaw05.FeatureMembers", spec := "featureMembers", inPlace := ["internal/bytealg.IndexByteString", "internal/bytealg.IndexString", "internal/abi.NoEscape"], unfollowed := true, recurses := true, named := ["internal/bytealg.MaxLen"], apart := false, narrowed := true }
def FeatureMembersUptoSaid : Prop := featureMembersUptoRow.holds Try.pinned (OpenSpec.upto featureMembersSpec)

/-- 'corporalaw05.FeatureLattice', WHERE WHAT IT READS IS OF BULK AT MOST 1048576: true; the input reads as it did. -/
def featureLatticeUptoRow : OpenClaim := { program := "ythagjdhfngdigaa", sum := "7586e02ec67cb81da4841e5caa3f5ae1685129da32da108a0576b9c635e6d65c", func := "corpora/corporalaw05.FeatureLattice", spec := "featureLattice", inPlace := ["internal/bytealg.IndexByteString", "internal/bytealg.IndexString", "internal/abi.NoEscape"], unfollowed := true, recurses := true, named := ["internal/bytealg.MaxLen"], apart := false, narrowed := true }
def FeatureLatticeUptoSaid : Prop := featureLatticeUptoRow.holds Try.pinned (OpenSpec.upto featureLatticeSpec)

/-- 'corporalaw05.FeatureAssociates', WHERE WHAT IT READS IS OF BULK AT MOST 1048576: true; the input reads as it did. -/
def featureAssociatesUptoRow : OpenClaim := { program := "ythagjdhfngdigaa", sum := "7586e02ec67cb81da4841e5caa3f5ae1685129da32da108a0576b9c635e6d65c", func := "corpora/corporalaw05.FeatureAssociates", spec := "featureAssociates", inPlace := ["internal/bytealg.IndexByteString", "internal/bytealg.IndexString", "internal/abi.NoEscape"], unfollowed := true, recurses := true, named := ["internal/bytealg.MaxLen"], apart := false, narrowed := true }
def FeatureAssociatesUptoSaid : Prop := featureAssociatesUptoRow.holds Try.pinned (OpenSpec.upto featureAssociatesSpec)

end Rows
end Go.Proofs.Ythagjdhfngdigaa
