/-
  No cell of these rows narrows 'for every input' (looked for: loops, veiled, ifaces, maps, wideKeys, modest, calm, conditions, laid).
  DERIVED. THE GIVEN ROWS OF THIS SEAT. 8 by the template 'for every input the law returns true; each argument reads behind the call as it read before'; 0 by the template 'total and deterministic' (their statements: YtpkkebojiengpaaTotals.lean).
  GIVEN WITH THE SEED: the statements are not yours to turn. If you find one false, say at which input.
  Laid BY PROGRAM, IN A SANDBOX (cutbox-rows.mjs): the forced cells as the released guide's own fill.sh prints them over the translation a00902ebe4907a50… (all of the seat's roots in one cut). By AI agents, Wed Nov 11 2026. No macro, syntax, notation, axiom, sorry.
-/
import Derived.Test.YtpkkebojiengpaaChecked
import GoSem.Claim
import GoSem.ClaimJoined
import GoSem.ClaimMapViews
import Derived.JoinedTies
import Derived.KernelRfl
namespace Go.Proofs.Ytpkkebojiengpaa
/- THE CELL 'sum', in the pinned program and in every row, IS THE sha256 OF THE DUMP (.gsa) THAT YtpkkebojiengpaaProg.lean LOADS. Nothing in Lean hashes anything: it is a label: what it is worth is what the hold of that sum in a sandbox is worth. -/
noncomputable def Try.pinned : Pinned := { name := "ytpkkebojiengpaa", sum := "a00902ebe4907a50f3e3aff881f42dd08eaa422e5bc35aa162ced9d466ce2c44", checked := Try.checked }
namespace Rows
def none {H : Type} : Left H := { results := [], args := [] }

/-- 'corporalaw11.IntervalNormalizes': WHATEVER THE INPUT: true; the input reads as it did. -/
def intervalNormalizesSpec : ChangeSpec := { name := "intervalNormalizes", fn := fun _ => fun
  | [d] => { results := [.lit (.bool true)], args := [d] }
  | _ => none }
def intervalNormalizesRow : OpenClaim := { program := "ytpkkebojiengpaa", sum := "a00902ebe4907a50f3e3aff881f42dd08eaa422e5bc35aa162ced9d466ce2c44", func := "corpora/corporalaw11.IntervalNormalizes", spec := "intervalNormalizes", unfollowed := true, recurses := true, apart := false }
def IntervalNormalizesSaid : Prop := intervalNormalizesRow.holds Try.pinned (OpenSpec.ofChange intervalNormalizesSpec)

/-- ITS FALSE NEIGHBOUR: 'it returns false'. Refute it at one input. -/
def intervalNormalizesWrong : ChangeSpec := { name := "intervalNormalizes", fn := fun _ => fun
  | [d] => { results := [.lit (.bool false)], args := [d] }
  | _ => none }
def IntervalNormalizesWrongFalsely : Prop := intervalNormalizesRow.holds Try.pinned (OpenSpec.ofChange intervalNormalizesWrong)

/-- 'corporalaw11.IntervalLimits': WHATEVER THE INPUT: true; the input reads as it did. -/
def intervalLimitsSpec : ChangeSpec := { name := "intervalLimits", fn := fun _ => fun
  | [d1, d2] => { results := [.lit (.bool true)], args := [d1, d2] }
  | _ => none }
def intervalLimitsRow : OpenClaim := { program := "ytpkkebojiengpaa", sum := "a00902ebe4907a50f3e3aff881f42dd08eaa422e5bc35aa162ced9d466ce2c44", func := "corpora/corporalaw11.IntervalLimits", spec := "intervalLimits", unfollowed := true, recurses := true, apart := false }
def IntervalLimitsSaid : Prop := intervalLimitsRow.holds Try.pinned (OpenSpec.ofChange intervalLimitsSpec)

/-- ITS FALSE NEIGHBOUR: 'it returns false'. Refute it at one input. -/
def intervalLimitsWrong : ChangeSpec := { name := "intervalLimits", fn := fun _ => fun
  | [d1, d2] => { results := [.lit (.bool false)], args := [d1, d2] }
  | _ => none }
def IntervalLimitsWrongFalsely : Prop := intervalLimitsRow.holds Try.pinned (OpenSpec.ofChange intervalLimitsWrong)

/-- 'corporalaw11.IntervalRelates': WHATEVER THE INPUT: true; the input reads as it did. -/
def intervalRelatesSpec : ChangeSpec := { name := "intervalRelates", fn := fun _ => fun
  | [d1, d2] => { results := [.lit (.bool true)], args := [d1, d2] }
  | _ => none }
def intervalRelatesRow : OpenClaim := { program := "ytpkkebojiengpaa", sum := "a00902ebe4907a50f3e3aff881f42dd08eaa422e5bc35aa162ced9d466ce2c44", func := "corpora/corporalaw11.IntervalRelates", spec := "intervalRelates", unfollowed := true, recurses := true, apart := false }
def IntervalRelatesSaid : Prop := intervalRelatesRow.holds Try.pinned (OpenSpec.ofChange intervalRelatesSpec)

/-- ITS FALSE NEIGHBOUR: 'it returns false'. Refute it at one input. -/
def intervalRelatesWrong : ChangeSpec := { name := "intervalRelates", fn := fun _ => fun
  | [d1, d2] => { results := [.lit (.bool false)], args := [d1, d2] }
  | _ => none }
def IntervalRelatesWrongFalsely : Prop := intervalRelatesRow.holds Try.pinned (OpenSpec.ofChange intervalRelatesWrong)

/-- 'corporalaw11.IntervalComposes': WHATEVER THE INPUT: true; the input reads as it did. -/
def intervalComposesSpec : ChangeSpec := { name := "intervalComposes", fn := fun _ => fun
  | [d1, d2, d3] => { results := [.lit (.bool true)], args := [d1, d2, d3] }
  | _ => none }
def intervalComposesRow : OpenClaim := { program := "ytpkkebojiengpaa", sum := "a00902ebe4907a50f3e3aff881f42dd08eaa422e5bc35aa162ced9d466ce2c44", func := "corpora/corporalaw11.IntervalComposes", spec := "intervalComposes", unfollowed := true, recurses := true, apart := false }
def IntervalComposesSaid : Prop := intervalComposesRow.holds Try.pinned (OpenSpec.ofChange intervalComposesSpec)

/-- ITS FALSE NEIGHBOUR: 'it returns false'. Refute it at one input. -/
def intervalComposesWrong : ChangeSpec := { name := "intervalComposes", fn := fun _ => fun
  | [d1, d2, d3] => { results := [.lit (.bool false)], args := [d1, d2, d3] }
  | _ => none }
def IntervalComposesWrongFalsely : Prop := intervalComposesRow.holds Try.pinned (OpenSpec.ofChange intervalComposesWrong)

/-- 'corporalaw11.IntervalChooses': WHATEVER THE INPUT: true; the input reads as it did. -/
def intervalChoosesSpec : ChangeSpec := { name := "intervalChooses", fn := fun _ => fun
  | [d1, d2] => { results := [.lit (.bool true)], args := [d1, d2] }
  | _ => none }
def intervalChoosesRow : OpenClaim := { program := "ytpkkebojiengpaa", sum := "a00902ebe4907a50f3e3aff881f42dd08eaa422e5bc35aa162ced9d466ce2c44", func := "corpora/corporalaw11.IntervalChooses", spec := "intervalChooses", unfollowed := true, recurses := true, apart := false }
def IntervalChoosesSaid : Prop := intervalChoosesRow.holds Try.pinned (OpenSpec.ofChange intervalChoosesSpec)

/-- ITS FALSE NEIGHBOUR: 'it returns false'. Refute it at one input. -/
def intervalChoosesWrong : ChangeSpec := { name := "intervalChooses", fn := fun _ => fun
  | [d1, d2] => { results := [.lit (.bool false)], args := [d1, d2] }
  | _ => none }
def IntervalChoosesWrongFalsely : Prop := intervalChoosesRow.holds Try.pinned (OpenSpec.ofChange intervalChoosesWrong)

/-- 'corporalaw11.IntervalAllen': WHATEVER THE INPUT: true; the input reads as it did. -/
def intervalAllenSpec : ChangeSpec := { name := "intervalAllen", fn := fun _ => fun
  | [d1, d2] => { results := [.lit (.bool true)], args := [d1, d2] }
  | _ => none }
def intervalAllenRow : OpenClaim := { program := "ytpkkebojiengpaa", sum := "a00902ebe4907a50f3e3aff881f42dd08eaa422e5bc35aa162ced9d466ce2c44", func := "corpora/corporalaw11.IntervalAllen", spec := "intervalAllen", unfollowed := true, recurses := true, apart := false }
def IntervalAllenSaid : Prop := intervalAllenRow.holds Try.pinned (OpenSpec.ofChange intervalAllenSpec)

/-- ITS FALSE NEIGHBOUR: 'it returns false'. Refute it at one input. -/
def intervalAllenWrong : ChangeSpec := { name := "intervalAllen", fn := fun _ => fun
  | [d1, d2] => { results := [.lit (.bool false)], args := [d1, d2] }
  | _ => none }
def IntervalAllenWrongFalsely : Prop := intervalAllenRow.holds Try.pinned (OpenSpec.ofChange intervalAllenWrong)

/-- 'corporalaw11.IntervalCovers': WHATEVER THE INPUT: true; the input reads as it did. -/
def intervalCoversSpec : ChangeSpec := { name := "intervalCovers", fn := fun _ => fun
  | [d] => { results := [.lit (.bool true)], args := [d] }
  | _ => none }
def intervalCoversRow : OpenClaim := { program := "ytpkkebojiengpaa", sum := "a00902ebe4907a50f3e3aff881f42dd08eaa422e5bc35aa162ced9d466ce2c44", func := "corpora/corporalaw11.IntervalCovers", spec := "intervalCovers", unfollowed := true, recurses := true, apart := false }
def IntervalCoversSaid : Prop := intervalCoversRow.holds Try.pinned (OpenSpec.ofChange intervalCoversSpec)

/-- ITS FALSE NEIGHBOUR: 'it returns false'. Refute it at one input. -/
def intervalCoversWrong : ChangeSpec := { name := "intervalCovers", fn := fun _ => fun
  | [d] => { results := [.lit (.bool false)], args := [d] }
  | _ => none }
def IntervalCoversWrongFalsely : Prop := intervalCoversRow.holds Try.pinned (OpenSpec.ofChange intervalCoversWrong)

/-- 'corporalaw11.IntervalOrders': WHATEVER THE INPUT: true; the input reads as it did. -/
def intervalOrdersSpec : ChangeSpec := { name := "intervalOrders", fn := fun _ => fun
  | [d1, d2, d3] => { results := [.lit (.bool true)], args := [d1, d2, d3] }
  | _ => none }
def intervalOrdersRow : OpenClaim := { program := "ytpkkebojiengpaa", sum := "a00902ebe4907a50f3e3aff881f42dd08eaa422e5bc35aa162ced9d466ce2c44", func := "corpora/corporalaw11.IntervalOrders", spec := "intervalOrders", unfollowed := true, recurses := true, apart := false }
def IntervalOrdersSaid : Prop := intervalOrdersRow.holds Try.pinned (OpenSpec.ofChange intervalOrdersSpec)

/-- ITS FALSE NEIGHBOUR: 'it returns false'. Refute it at one input. -/
def intervalOrdersWrong : ChangeSpec := { name := "intervalOrders", fn := fun _ => fun
  | [d1, d2, d3] => { results := [.lit (.bool false)], args := [d1, d2, d3] }
  | _ => none }
def IntervalOrdersWrongFalsely : Prop := intervalOrdersRow.holds Try.pinned (OpenSpec.ofChange intervalOrdersWrong)

/- THE SECOND FORM. 'bulk': how many values and letters a reading holds, each counted each time it is reached (what is shared counts as often as it is met; a slice's spare places count too). A statement '..UptoSaid' is the law's where the arguments, and the package variables that the reading takes, are together of bulk at most 1048576: NARROWER than '..Said'. Prove '..Said' where nothing that the law and all that it calls make is longer than what came in: it says more and counts as full. Else prove '..UptoSaid'. A law counts once. -/
mutual
def uptoBulk {H : Type} : DataW H → Nat
  | .lit (.string bytes) => bytes.length + 1
  | .lit _ => 1
  | .nil => 1
  | .ptr d => uptoBulk d + 1
  | .slice elems spare => uptoBulkAll elems + uptoBulkAll spare + 1
  | .agg parts => uptoBulkAll parts + 1
  | .iface _ d => uptoBulk d + 1
  | .map entries => uptoBulkEntries entries + 1
  | .held _ => 1
def uptoBulkAll {H : Type} : List (DataW H) → Nat
  | [] => 0
  | d :: r => uptoBulk d + uptoBulkAll r
def uptoBulkEntries {H : Type} : List (Lit × DataW H) → Nat
  | [] => 0
  | x :: r => uptoBulkEntry x + uptoBulkEntries r
def uptoBulkEntry {H : Type} : Lit × DataW H → Nat
  | (.string bytes, d) => bytes.length + uptoBulk d + 1
  | (_, d) => uptoBulk d + 1
 end
def uptoSmall : (H : Type) → List (DataW H) → Bool := fun _ ds => decide (uptoBulkAll ds ≤ 1048576)
def OpenSpec.upto (s : _root_.Go.ChangeSpec) : _root_.Go.OpenSpec := { _root_.Go.OpenSpec.ofChange s with cond := some uptoSmall }

/-- 'corporalaw11.IntervalNormalizes', WHERE WHAT IT READS IS OF BULK AT MOST 1048576: true; the input reads as it did. -/
def intervalNormalizesUptoRow : OpenClaim := { program := "ytpkkebojiengpaa", sum := "a00902ebe4907a50f3e3aff881f42dd08eaa422e5bc35aa162ced9d466ce2c44", func := "corpora/corporalaw11.IntervalNormalizes", spec := "intervalNormalizes", unfollowed := true, recurses := true, apart := false, narrowed := true }
def IntervalNormalizesUptoSaid : Prop := intervalNormalizesUptoRow.holds Try.pinned (OpenSpec.upto intervalNormalizesSpec)

/-- 'corporalaw11.IntervalLimits', WHERE WHAT IT READS IS OF BULK AT MOST 1048576: true; the input reads as it did. -/
def intervalLimitsUptoRow : OpenClaim := { program := "ytpkkebojiengpaa", sum := "a00902ebe4907a50f3e3aff881f42dd08eaa422e5bc35aa162ced9d466ce2c44", func := "corpora/corporalaw11.IntervalLimits", spec := "intervalLimits", unfollowed := true, recurses := true, apart := false, narrowed := true }
def IntervalLimitsUptoSaid : Prop := intervalLimitsUptoRow.holds Try.pinned (OpenSpec.upto intervalLimitsSpec)

/-- 'corporalaw11.IntervalRelates', WHERE WHAT IT READS IS OF BULK AT MOST 1048576: true; the input reads as it did. -/
def intervalRelatesUptoRow : OpenClaim := { program := "ytpkkebojiengpaa", sum := "a00902ebe4907a50f3e3aff881f42dd08eaa422e5bc35aa162ced9d466ce2c44", func := "corpora/corporalaw11.IntervalRelates", spec := "intervalRelates", unfollowed := true, recurses := true, apart := false, narrowed := true }
def IntervalRelatesUptoSaid : Prop := intervalRelatesUptoRow.holds Try.pinned (OpenSpec.upto intervalRelatesSpec)

/-- 'corporalaw11.IntervalComposes', WHERE WHAT IT READS IS OF BULK AT MOST 1048576: true; the input reads as it did. -/
def intervalComposesUptoRow : OpenClaim := { program := "ytpkkebojiengpaa", sum := "a00902ebe4907a50f3e3aff881f42dd08eaa422e5bc35aa162ced9d466ce2c44", func := "corpora/corporalaw11.IntervalComposes", spec := "intervalComposes", unfollowed := true, recurses := true, apart := false, narrowed := true }
def IntervalComposesUptoSaid : Prop := intervalComposesUptoRow.holds Try.pinned (OpenSpec.upto intervalComposesSpec)

/-- 'corporalaw11.IntervalChooses', WHERE WHAT IT READS IS OF BULK AT MOST 1048576: true; the input reads as it did. -/
def intervalChoosesUptoRow : OpenClaim := { program := "ytpkkebojiengpaa", sum := "a00902ebe4907a50f3e3aff881f42dd08eaa422e5bc35aa162ced9d466ce2c44", func := "corpora/corporalaw11.IntervalChooses", spec := "intervalChooses", unfollowed := true, recurses := true, apart := false, narrowed := true }
def IntervalChoosesUptoSaid : Prop := intervalChoosesUptoRow.holds Try.pinned (OpenSpec.upto intervalChoosesSpec)

/-- 'corporalaw11.IntervalAllen', WHERE WHAT IT READS IS OF BULK AT MOST 1048576: true; the input reads as it did. -/
def intervalAllenUptoRow : OpenClaim := { program := "ytpkkebojiengpaa", sum := "a00902ebe4907a50f3e3aff881f42dd08eaa422e5bc35aa162ced9d466ce2c44", func := "corpora/corporalaw11.IntervalAllen", spec := "intervalAllen", unfollowed := true, recurses := true, apart := false, narrowed := true }
def IntervalAllenUptoSaid : Prop := intervalAllenUptoRow.holds Try.pinned (OpenSpec.upto intervalAllenSpec)

/-- 'corporalaw11.IntervalCovers', WHERE WHAT IT READS IS OF BULK AT MOST 1048576: true; the input reads as it did. -/
def intervalCoversUptoRow : OpenClaim := { program := "ytpkkebojiengpaa", sum := "a00902ebe4907a50f3e3aff881f42dd08eaa422e5bc35aa162ced9d466ce2c44", func := "corpora/corporalaw11.IntervalCovers", spec := "intervalCovers", unfollowed := true, recurses := true, apart := false, narrowed := true }
def IntervalCoversUptoSaid : Prop := intervalCoversUptoRow.holds Try.pinned (OpenSpec.upto intervalCoversSpec)

/-- 'corporalaw11.IntervalOrders', WHERE WHAT IT READS IS OF BULK AT MOST 1048576: true; the input reads as it did. -/
def intervalOrdersUptoRow : OpenClaim := { program := "ytpkkebojiengpaa", sum := "a00902ebe4907a50f3e3aff881f42dd08eaa422e5bc35aa162ced9d466ce2c44", func := "corpora/corporalaw11.IntervalOrders", spec := "intervalOrders", unfollowed := true, recurses := true, apart := false, narrowed := true }
def IntervalOrdersUptoSaid : Prop := intervalOrdersUptoRow.holds Try.pinned (OpenSpec.upto intervalOrdersSpec)

end Rows
end Go.Proofs.Ytpkkebojiengpaa
