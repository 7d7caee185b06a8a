/-
  No cell of these rows narrows 'for every input' (looked for: loops, veiled, ifaces, maps, wideKeys, modest, calm, conditions, laid).
  DERIVED. THE GIVEN ROWS OF THIS SEAT. 5 by the template 'for every input the law returns true; each argument reads behind the call as it read before'; 0 by the template 'total and deterministic' (their statements: YtifdencdbpdbfaaTotals.lean).
  GIVEN WITH THE SEED: the statements are not yours to turn. If you find one false, say at which input.
  Laid BY PROGRAM, IN A SANDBOX (cutbox-rows.mjs): the forced cells as the released guide's own fill.sh prints them over the translation 7b2957d1cb9a1ac3… (all of the seat's roots in one cut). By AI agents, Wed Nov 11 2026. No macro, syntax, notation, axiom, sorry.
-/
import Derived.Test.YtifdencdbpdbfaaChecked
import GoSem.Claim
import GoSem.ClaimJoined
import GoSem.ClaimMapViews
import Derived.JoinedTies
import Derived.KernelRfl
namespace Go.Proofs.Ytifdencdbpdbfaa
/- THE CELL 'sum', in the pinned program and in every row, IS THE sha256 OF THE DUMP (.gsa) THAT YtifdencdbpdbfaaProg.lean LOADS. Nothing in Lean hashes anything: it is a label: what it is worth is what the hold of that sum in a sandbox is worth. -/
noncomputable def Try.pinned : Pinned := { name := "ytifdencdbpdbfaa", sum := "7b2957d1cb9a1ac33ccd7abee9f5702f265ec99dc16937315e8f5fb92e20d625", checked := Try.checked }
namespace Rows
def none {H : Type} : Left H := { results := [], args := [] }

/-- 'corporalaw12.StabBuilds': WHATEVER THE INPUT: true; the input reads as it did. -/
def stabBuildsSpec : ChangeSpec := { name := "stabBuilds", fn := fun _ => fun
  | [d] => { results := [.lit (.bool true)], args := [d] }
  | _ => none }
def stabBuildsRow : OpenClaim := { program := "ytifdencdbpdbfaa", sum := "7b2957d1cb9a1ac33ccd7abee9f5702f265ec99dc16937315e8f5fb92e20d625", func := "corpora/corporalaw12.StabBuilds", spec := "stabBuilds", unfollowed := true, recurses := true, apart := false }
def StabBuildsSaid : Prop := stabBuildsRow.holds Try.pinned (OpenSpec.ofChange stabBuildsSpec)

/-- ITS FALSE NEIGHBOUR: 'it returns false'. Refute it at one input. -/
def stabBuildsWrong : ChangeSpec := { name := "stabBuilds", fn := fun _ => fun
  | [d] => { results := [.lit (.bool false)], args := [d] }
  | _ => none }
def StabBuildsWrongFalsely : Prop := stabBuildsRow.holds Try.pinned (OpenSpec.ofChange stabBuildsWrong)

/-- 'corporalaw12.StabStabs': WHATEVER THE INPUT: true; the input reads as it did. -/
def stabStabsSpec : ChangeSpec := { name := "stabStabs", fn := fun _ => fun
  | [d1, d2] => { results := [.lit (.bool true)], args := [d1, d2] }
  | _ => none }
def stabStabsRow : OpenClaim := { program := "ytifdencdbpdbfaa", sum := "7b2957d1cb9a1ac33ccd7abee9f5702f265ec99dc16937315e8f5fb92e20d625", func := "corpora/corporalaw12.StabStabs", spec := "stabStabs", unfollowed := true, recurses := true, apart := false }
def StabStabsSaid : Prop := stabStabsRow.holds Try.pinned (OpenSpec.ofChange stabStabsSpec)

/-- ITS FALSE NEIGHBOUR: 'it returns false'. Refute it at one input. -/
def stabStabsWrong : ChangeSpec := { name := "stabStabs", fn := fun _ => fun
  | [d1, d2] => { results := [.lit (.bool false)], args := [d1, d2] }
  | _ => none }
def StabStabsWrongFalsely : Prop := stabStabsRow.holds Try.pinned (OpenSpec.ofChange stabStabsWrong)

/-- 'corporalaw12.StabAsks': WHATEVER THE INPUT: true; the input reads as it did. -/
def stabAsksSpec : ChangeSpec := { name := "stabAsks", fn := fun _ => fun
  | [d1, d2] => { results := [.lit (.bool true)], args := [d1, d2] }
  | _ => none }
def stabAsksRow : OpenClaim := { program := "ytifdencdbpdbfaa", sum := "7b2957d1cb9a1ac33ccd7abee9f5702f265ec99dc16937315e8f5fb92e20d625", func := "corpora/corporalaw12.StabAsks", spec := "stabAsks", unfollowed := true, recurses := true, apart := false }
def StabAsksSaid : Prop := stabAsksRow.holds Try.pinned (OpenSpec.ofChange stabAsksSpec)

/-- ITS FALSE NEIGHBOUR: 'it returns false'. Refute it at one input. -/
def stabAsksWrong : ChangeSpec := { name := "stabAsks", fn := fun _ => fun
  | [d1, d2] => { results := [.lit (.bool false)], args := [d1, d2] }
  | _ => none }
def StabAsksWrongFalsely : Prop := stabAsksRow.holds Try.pinned (OpenSpec.ofChange stabAsksWrong)

/-- 'corporalaw12.StabSequences': WHATEVER THE INPUT: true; the input reads as it did. -/
def stabSequencesSpec : ChangeSpec := { name := "stabSequences", fn := fun _ => fun
  | [d1, d2] => { results := [.lit (.bool true)], args := [d1, d2] }
  | _ => none }
def stabSequencesRow : OpenClaim := { program := "ytifdencdbpdbfaa", sum := "7b2957d1cb9a1ac33ccd7abee9f5702f265ec99dc16937315e8f5fb92e20d625", func := "corpora/corporalaw12.StabSequences", spec := "stabSequences", unfollowed := true, recurses := true, apart := false }
def StabSequencesSaid : Prop := stabSequencesRow.holds Try.pinned (OpenSpec.ofChange stabSequencesSpec)

/-- ITS FALSE NEIGHBOUR: 'it returns false'. Refute it at one input. -/
def stabSequencesWrong : ChangeSpec := { name := "stabSequences", fn := fun _ => fun
  | [d1, d2] => { results := [.lit (.bool false)], args := [d1, d2] }
  | _ => none }
def StabSequencesWrongFalsely : Prop := stabSequencesRow.holds Try.pinned (OpenSpec.ofChange stabSequencesWrong)

/-- 'corporalaw12.StabRelates': WHATEVER THE INPUT: true; the input reads as it did. -/
def stabRelatesSpec : ChangeSpec := { name := "stabRelates", fn := fun _ => fun
  | [d1, d2] => { results := [.lit (.bool true)], args := [d1, d2] }
  | _ => none }
def stabRelatesRow : OpenClaim := { program := "ytifdencdbpdbfaa", sum := "7b2957d1cb9a1ac33ccd7abee9f5702f265ec99dc16937315e8f5fb92e20d625", func := "corpora/corporalaw12.StabRelates", spec := "stabRelates", unfollowed := true, recurses := true, apart := false }
def StabRelatesSaid : Prop := stabRelatesRow.holds Try.pinned (OpenSpec.ofChange stabRelatesSpec)

/-- ITS FALSE NEIGHBOUR: 'it returns false'. Refute it at one input. -/
def stabRelatesWrong : ChangeSpec := { name := "stabRelates", fn := fun _ => fun
  | [d1, d2] => { results := [.lit (.bool false)], args := [d1, d2] }
  | _ => none }
def StabRelatesWrongFalsely : Prop := stabRelatesRow.holds Try.pinned (OpenSpec.ofChange stabRelatesWrong)

/- THE SECOND FORM. 'bulk': how many values and letters a reading holds, each counted each time it is reached (what is shared counts as often as it is met; a slice's spare places count too). A statement '..UptoSaid' is the law's where the arguments, and the package variables that the reading takes, are together of bulk at most 1048576: NARROWER than '..Said'. Prove '..Said' where nothing that the law and all that it calls make is longer than what came in: it says more and counts as full. Else prove '..UptoSaid'. A law counts once. -/
mutual
def uptoBulk {H : Type} : DataW H → Nat
  | .lit (.string bytes) => bytes.length + 1
  | .lit _ => 1
  | .nil => 1
  | .ptr d => uptoBulk d + 1
  | .slice elems spare => uptoBulkAll elems + uptoBulkAll spare + 1
  | .agg parts => uptoBulkAll parts + 1
  | .iface _ d => uptoBulk d + 1
  | .map entries => uptoBulkEntries entries + 1
  | .held _ => 1
def uptoBulkAll {H : Type} : List (DataW H) → Nat
  | [] => 0
  | d :: r => uptoBulk d + uptoBulkAll r
def uptoBulkEntries {H : Type} : List (Lit × DataW H) → Nat
  | [] => 0
  | x :: r => uptoBulkEntry x + uptoBulkEntries r
def uptoBulkEntry {H : Type} : Lit × DataW H → Nat
  | (.string bytes, d) => bytes.length + uptoBulk d + 1
  | (_, d) => uptoBulk d + 1
 end
def uptoSmall : (H : Type) → List (DataW H) → Bool := fun _ ds => decide (uptoBulkAll ds ≤ 1048576)
def OpenSpec.upto (s : _root_.Go.ChangeSpec) : _root_.Go.OpenSpec := { _root_.Go.OpenSpec.ofChange s with cond := some uptoSmall }

/-- 'corporalaw12.StabBuilds', WHERE WHAT IT READS IS OF BULK AT MOST 1048576: true; the input reads as it did. -/
def stabBuildsUptoRow : OpenClaim := { program := "ytifdencdbpdbfaa", sum := "7b2957d1cb9a1ac33ccd7abee9f5702f265ec99dc16937315e8f5fb92e20d625", func := "corpora/corporalaw12.StabBuilds", spec := "stabBuilds", unfollowed := true, recurses := true, apart := false, narrowed := true }
def StabBuildsUptoSaid : Prop := stabBuildsUptoRow.holds Try.pinned (OpenSpec.upto stabBuildsSpec)

/-- 'corporalaw12.StabStabs', WHERE WHAT IT READS IS OF BULK AT MOST 1048576: true; the input reads as it did. -/
def stabStabsUptoRow : OpenClaim := { program := "ytifdencdbpdbfaa", sum := "7b2957d1cb9a1ac33ccd7abee9f5702f265ec99dc16937315e8f5fb92e20d625", func := "corpora/corporalaw12.StabStabs", spec := "stabStabs", unfollowed := true, recurses := true, apart := false, narrowed := true }
def StabStabsUptoSaid : Prop := stabStabsUptoRow.holds Try.pinned (OpenSpec.upto stabStabsSpec)

/-- 'corporalaw12.StabAsks', WHERE WHAT IT READS IS OF BULK AT MOST 1048576: true; the input reads as it did. -/
def stabAsksUptoRow : OpenClaim := { program := "ytifdencdbpdbfaa", sum := "7b2957d1cb9a1ac33ccd7abee9f5702f265ec99dc16937315e8f5fb92e20d625", func := "corpora/corporalaw12.StabAsks", spec := "stabAsks", unfollowed := true, recurses := true, apart := false, narrowed := true }
def StabAsksUptoSaid : Prop := stabAsksUptoRow.holds Try.pinned (OpenSpec.upto stabAsksSpec)

/-- 'corporalaw12.StabSequences', WHERE WHAT IT READS IS OF BULK AT MOST 1048576: true; the input reads as it did. -/
def stabSequencesUptoRow : OpenClaim := { program := "ytifdencdbpdbfaa", sum := "7b2957d1cb9a1ac33ccd7abee9f5702f265ec99dc16937315e8f5fb92e20d625", func := "corpora/corporalaw12.StabSequences", spec := "stabSequences", unfollowed := true, recurses := true, apart := false, narrowed := true }
def StabSequencesUptoSaid : Prop := stabSequencesUptoRow.holds Try.pinned (OpenSpec.upto stabSequencesSpec)

/-- 'corporalaw12.StabRelates', WHERE WHAT IT READS IS OF BULK AT MOST 1048576: true; the input reads as it did. -/
def stabRelatesUptoRow : OpenClaim := { program := "ytifdencdbpdbfaa", sum := "7b2957d1cb9a1ac33ccd7abee9f5702f265ec99dc16937315e8f5fb92e20d625", func := "corpora/corporalaw12.StabRelates", spec := "stabRelates", unfollowed := true, recurses := true, apart := false, narrowed := true }
def StabRelatesUptoSaid : Prop := stabRelatesUptoRow.holds Try.pinned (OpenSpec.upto stabRelatesSpec)

end Rows
end Go.Proofs.Ytifdencdbpdbfaa
