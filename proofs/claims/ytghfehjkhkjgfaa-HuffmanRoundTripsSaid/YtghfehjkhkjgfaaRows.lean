/-
  No cell of these rows narrows 'for every input' (looked for: loops, veiled, ifaces, maps, wideKeys, modest, calm, conditions, laid).
  DERIVED. THE GIVEN ROWS OF THIS SEAT. 10 by the template 'for every input the law returns true; each argument reads behind the call as it read before'; 0 by the template 'total and deterministic' (their statements: YtghfehjkhkjgfaaTotals.lean).
  GIVEN WITH THE SEED: the statements are not yours to turn. If you find one false, say at which input.
  Laid BY PROGRAM, IN A SANDBOX (cutbox-rows.mjs): the forced cells as the released guide's own fill.sh prints them over the translation df9623952c377310… (all of the seat's roots in one cut). By AI agents, Wed Nov 11 2026. No macro, syntax, notation, axiom, sorry.
-/
import Derived.Test.YtghfehjkhkjgfaaChecked
import GoSem.Claim
import GoSem.ClaimJoined
import GoSem.ClaimMapViews
import Derived.JoinedTies
import Derived.KernelRfl
namespace Go.Proofs.Ytghfehjkhkjgfaa
/- THE CELL 'sum', in the pinned program and in every row, IS THE sha256 OF THE DUMP (.gsa) THAT YtghfehjkhkjgfaaProg.lean LOADS. Nothing in Lean hashes anything: it is a label: what it is worth is what the hold of that sum in a sandbox is worth. -/
noncomputable def Try.pinned : Pinned := { name := "ytghfehjkhkjgfaa", sum := "df9623952c37731054936eb3ef79939fe055ad4299ae3eec76f8b171fadaf70f", checked := Try.checked }
namespace Rows
def none {H : Type} : Left H := { results := [], args := [] }

/-- 'corporalaw14.HuffmanLengths': WHATEVER THE INPUT: true; the input reads as it did. -/
def huffmanLengthsSpec : ChangeSpec := { name := "huffmanLengths", fn := fun _ => fun
  | [d1, d2] => { results := [.lit (.bool true)], args := [d1, d2] }
  | _ => none }
def huffmanLengthsRow : OpenClaim := { program := "ytghfehjkhkjgfaa", sum := "df9623952c37731054936eb3ef79939fe055ad4299ae3eec76f8b171fadaf70f", func := "corpora/corporalaw14.HuffmanLengths", spec := "huffmanLengths", unfollowed := true, recurses := true, apart := false }
def HuffmanLengthsSaid : Prop := huffmanLengthsRow.holds Try.pinned (OpenSpec.ofChange huffmanLengthsSpec)

/-- ITS FALSE NEIGHBOUR: 'it returns false'. Refute it at one input. -/
def huffmanLengthsWrong : ChangeSpec := { name := "huffmanLengths", fn := fun _ => fun
  | [d1, d2] => { results := [.lit (.bool false)], args := [d1, d2] }
  | _ => none }
def HuffmanLengthsWrongFalsely : Prop := huffmanLengthsRow.holds Try.pinned (OpenSpec.ofChange huffmanLengthsWrong)

/-- 'corporalaw14.HuffmanOptimal': WHATEVER THE INPUT: true; the input reads as it did. -/
def huffmanOptimalSpec : ChangeSpec := { name := "huffmanOptimal", fn := fun _ => fun
  | [d1, d2, d3] => { results := [.lit (.bool true)], args := [d1, d2, d3] }
  | _ => none }
def huffmanOptimalRow : OpenClaim := { program := "ytghfehjkhkjgfaa", sum := "df9623952c37731054936eb3ef79939fe055ad4299ae3eec76f8b171fadaf70f", func := "corpora/corporalaw14.HuffmanOptimal", spec := "huffmanOptimal", unfollowed := true, recurses := true, apart := false }
def HuffmanOptimalSaid : Prop := huffmanOptimalRow.holds Try.pinned (OpenSpec.ofChange huffmanOptimalSpec)

/-- ITS FALSE NEIGHBOUR: 'it returns false'. Refute it at one input. -/
def huffmanOptimalWrong : ChangeSpec := { name := "huffmanOptimal", fn := fun _ => fun
  | [d1, d2, d3] => { results := [.lit (.bool false)], args := [d1, d2, d3] }
  | _ => none }
def HuffmanOptimalWrongFalsely : Prop := huffmanOptimalRow.holds Try.pinned (OpenSpec.ofChange huffmanOptimalWrong)

/-- 'corporalaw14.HuffmanComplete': WHATEVER THE INPUT: true; the input reads as it did. -/
def huffmanCompleteSpec : ChangeSpec := { name := "huffmanComplete", fn := fun _ => fun
  | [d1, d2] => { results := [.lit (.bool true)], args := [d1, d2] }
  | _ => none }
def huffmanCompleteRow : OpenClaim := { program := "ytghfehjkhkjgfaa", sum := "df9623952c37731054936eb3ef79939fe055ad4299ae3eec76f8b171fadaf70f", func := "corpora/corporalaw14.HuffmanComplete", spec := "huffmanComplete", unfollowed := true, recurses := true, apart := false }
def HuffmanCompleteSaid : Prop := huffmanCompleteRow.holds Try.pinned (OpenSpec.ofChange huffmanCompleteSpec)

/-- ITS FALSE NEIGHBOUR: 'it returns false'. Refute it at one input. -/
def huffmanCompleteWrong : ChangeSpec := { name := "huffmanComplete", fn := fun _ => fun
  | [d1, d2] => { results := [.lit (.bool false)], args := [d1, d2] }
  | _ => none }
def HuffmanCompleteWrongFalsely : Prop := huffmanCompleteRow.holds Try.pinned (OpenSpec.ofChange huffmanCompleteWrong)

/-- 'corporalaw14.HuffmanCodes': WHATEVER THE INPUT: true; the input reads as it did. -/
def huffmanCodesSpec : ChangeSpec := { name := "huffmanCodes", fn := fun _ => fun
  | [d] => { results := [.lit (.bool true)], args := [d] }
  | _ => none }
def huffmanCodesRow : OpenClaim := { program := "ytghfehjkhkjgfaa", sum := "df9623952c37731054936eb3ef79939fe055ad4299ae3eec76f8b171fadaf70f", func := "corpora/corporalaw14.HuffmanCodes", spec := "huffmanCodes", unfollowed := true, recurses := true, apart := false }
def HuffmanCodesSaid : Prop := huffmanCodesRow.holds Try.pinned (OpenSpec.ofChange huffmanCodesSpec)

/-- ITS FALSE NEIGHBOUR: 'it returns false'. Refute it at one input. -/
def huffmanCodesWrong : ChangeSpec := { name := "huffmanCodes", fn := fun _ => fun
  | [d] => { results := [.lit (.bool false)], args := [d] }
  | _ => none }
def HuffmanCodesWrongFalsely : Prop := huffmanCodesRow.holds Try.pinned (OpenSpec.ofChange huffmanCodesWrong)

/-- 'corporalaw14.HuffmanPrefixes': WHATEVER THE INPUT: true; the input reads as it did. -/
def huffmanPrefixesSpec : ChangeSpec := { name := "huffmanPrefixes", fn := fun _ => fun
  | [d] => { results := [.lit (.bool true)], args := [d] }
  | _ => none }
def huffmanPrefixesRow : OpenClaim := { program := "ytghfehjkhkjgfaa", sum := "df9623952c37731054936eb3ef79939fe055ad4299ae3eec76f8b171fadaf70f", func := "corpora/corporalaw14.HuffmanPrefixes", spec := "huffmanPrefixes", unfollowed := true, recurses := true, apart := false }
def HuffmanPrefixesSaid : Prop := huffmanPrefixesRow.holds Try.pinned (OpenSpec.ofChange huffmanPrefixesSpec)

/-- ITS FALSE NEIGHBOUR: 'it returns false'. Refute it at one input. -/
def huffmanPrefixesWrong : ChangeSpec := { name := "huffmanPrefixes", fn := fun _ => fun
  | [d] => { results := [.lit (.bool false)], args := [d] }
  | _ => none }
def HuffmanPrefixesWrongFalsely : Prop := huffmanPrefixesRow.holds Try.pinned (OpenSpec.ofChange huffmanPrefixesWrong)

/-- 'corporalaw14.HuffmanEncodes': WHATEVER THE INPUT: true; the input reads as it did. -/
def huffmanEncodesSpec : ChangeSpec := { name := "huffmanEncodes", fn := fun _ => fun
  | [d1, d2] => { results := [.lit (.bool true)], args := [d1, d2] }
  | _ => none }
def huffmanEncodesRow : OpenClaim := { program := "ytghfehjkhkjgfaa", sum := "df9623952c37731054936eb3ef79939fe055ad4299ae3eec76f8b171fadaf70f", func := "corpora/corporalaw14.HuffmanEncodes", spec := "huffmanEncodes", unfollowed := true, recurses := true, apart := false }
def HuffmanEncodesSaid : Prop := huffmanEncodesRow.holds Try.pinned (OpenSpec.ofChange huffmanEncodesSpec)

/-- ITS FALSE NEIGHBOUR: 'it returns false'. Refute it at one input. -/
def huffmanEncodesWrong : ChangeSpec := { name := "huffmanEncodes", fn := fun _ => fun
  | [d1, d2] => { results := [.lit (.bool false)], args := [d1, d2] }
  | _ => none }
def HuffmanEncodesWrongFalsely : Prop := huffmanEncodesRow.holds Try.pinned (OpenSpec.ofChange huffmanEncodesWrong)

/-- 'corporalaw14.HuffmanDecodes': WHATEVER THE INPUT: true; the input reads as it did. -/
def huffmanDecodesSpec : ChangeSpec := { name := "huffmanDecodes", fn := fun _ => fun
  | [d1, d2] => { results := [.lit (.bool true)], args := [d1, d2] }
  | _ => none }
def huffmanDecodesRow : OpenClaim := { program := "ytghfehjkhkjgfaa", sum := "df9623952c37731054936eb3ef79939fe055ad4299ae3eec76f8b171fadaf70f", func := "corpora/corporalaw14.HuffmanDecodes", spec := "huffmanDecodes", unfollowed := true, recurses := true, apart := false }
def HuffmanDecodesSaid : Prop := huffmanDecodesRow.holds Try.pinned (OpenSpec.ofChange huffmanDecodesSpec)

/-- ITS FALSE NEIGHBOUR: 'it returns false'. Refute it at one input. -/
def huffmanDecodesWrong : ChangeSpec := { name := "huffmanDecodes", fn := fun _ => fun
  | [d1, d2] => { results := [.lit (.bool false)], args := [d1, d2] }
  | _ => none }
def HuffmanDecodesWrongFalsely : Prop := huffmanDecodesRow.holds Try.pinned (OpenSpec.ofChange huffmanDecodesWrong)

/-- 'corporalaw14.HuffmanRoundTrips': WHATEVER THE INPUT: true; the input reads as it did. -/
def huffmanRoundTripsSpec : ChangeSpec := { name := "huffmanRoundTrips", fn := fun _ => fun
  | [d1, d2] => { results := [.lit (.bool true)], args := [d1, d2] }
  | _ => none }
def huffmanRoundTripsRow : OpenClaim := { program := "ytghfehjkhkjgfaa", sum := "df9623952c37731054936eb3ef79939fe055ad4299ae3eec76f8b171fadaf70f", func := "corpora/corporalaw14.HuffmanRoundTrips", spec := "huffmanRoundTrips", unfollowed := true, recurses := true, apart := false }
def HuffmanRoundTripsSaid : Prop := huffmanRoundTripsRow.holds Try.pinned (OpenSpec.ofChange huffmanRoundTripsSpec)

/-- ITS FALSE NEIGHBOUR: 'it returns false'. Refute it at one input. -/
def huffmanRoundTripsWrong : ChangeSpec := { name := "huffmanRoundTrips", fn := fun _ => fun
  | [d1, d2] => { results := [.lit (.bool false)], args := [d1, d2] }
  | _ => none }
def HuffmanRoundTripsWrongFalsely : Prop := huffmanRoundTripsRow.holds Try.pinned (OpenSpec.ofChange huffmanRoundTripsWrong)

/-- 'corporalaw14.HuffmanLimits': WHATEVER THE INPUT: true; the input reads as it did. -/
def huffmanLimitsSpec : ChangeSpec := { name := "huffmanLimits", fn := fun _ => fun
  | [d1, d2, d3] => { results := [.lit (.bool true)], args := [d1, d2, d3] }
  | _ => none }
def huffmanLimitsRow : OpenClaim := { program := "ytghfehjkhkjgfaa", sum := "df9623952c37731054936eb3ef79939fe055ad4299ae3eec76f8b171fadaf70f", func := "corpora/corporalaw14.HuffmanLimits", spec := "huffmanLimits", unfollowed := true, recurses := true, apart := false }
def HuffmanLimitsSaid : Prop := huffmanLimitsRow.holds Try.pinned (OpenSpec.ofChange huffmanLimitsSpec)

/-- ITS FALSE NEIGHBOUR: 'it returns false'. Refute it at one input. -/
def huffmanLimitsWrong : ChangeSpec := { name := "huffmanLimits", fn := fun _ => fun
  | [d1, d2, d3] => { results := [.lit (.bool false)], args := [d1, d2, d3] }
  | _ => none }
def HuffmanLimitsWrongFalsely : Prop := huffmanLimitsRow.holds Try.pinned (OpenSpec.ofChange huffmanLimitsWrong)

/-- 'corporalaw13.LexiconMerges': WHATEVER THE INPUT: true; the input reads as it did. -/
def lexiconMergesSpec : ChangeSpec := { name := "lexiconMerges", fn := fun _ => fun
  | [d1, d2] => { results := [.lit (.bool true)], args := [d1, d2] }
  | _ => none }
def lexiconMergesRow : OpenClaim := { program := "ytghfehjkhkjgfaa", sum := "df9623952c37731054936eb3ef79939fe055ad4299ae3eec76f8b171fadaf70f", func := "corpora/corporalaw13.LexiconMerges", spec := "lexiconMerges", inPlace := ["internal/bytealg.abigen_runtime_cmpstring"], unfollowed := true, recurses := true, apart := false }
def LexiconMergesSaid : Prop := lexiconMergesRow.holds Try.pinned (OpenSpec.ofChange lexiconMergesSpec)

/-- ITS FALSE NEIGHBOUR: 'it returns false'. Refute it at one input. -/
def lexiconMergesWrong : ChangeSpec := { name := "lexiconMerges", fn := fun _ => fun
  | [d1, d2] => { results := [.lit (.bool false)], args := [d1, d2] }
  | _ => none }
def LexiconMergesWrongFalsely : Prop := lexiconMergesRow.holds Try.pinned (OpenSpec.ofChange lexiconMergesWrong)

/- THE SECOND FORM. 'bulk': how many values and letters a reading holds, each counted each time it is reached (what is shared counts as often as it is met; a slice's spare places count too). A statement '..UptoSaid' is the law's where the arguments, and the package variables that the reading takes, are together of bulk at most 1048576: NARROWER than '..Said'. Prove '..Said' where nothing that the law and all that it calls make is longer than what came in: it says more and counts as full. Else prove '..UptoSaid'. A law counts once. -/
mutual
def uptoBulk {H : Type} : DataW H → Nat
  | .lit (.string bytes) => bytes.length + 1
  | .lit _ => 1
  | .nil => 1
  | .ptr d => uptoBulk d + 1
  | .slice elems spare => uptoBulkAll elems + uptoBulkAll spare + 1
  | .agg parts => uptoBulkAll parts + 1
  | .iface _ d => uptoBulk d + 1
  | .map entries => uptoBulkEntries entries + 1
  | .held _ => 1
def uptoBulkAll {H : Type} : List (DataW H) → Nat
  | [] => 0
  | d :: r => uptoBulk d + uptoBulkAll r
def uptoBulkEntries {H : Type} : List (Lit × DataW H) → Nat
  | [] => 0
  | x :: r => uptoBulkEntry x + uptoBulkEntries r
def uptoBulkEntry {H : Type} : Lit × DataW H → Nat
  | (.string bytes, d) => bytes.length + uptoBulk d + 1
  | (_, d) => uptoBulk d + 1
 end
def uptoSmall : (H : Type) → List (DataW H) → Bool := fun _ ds => decide (uptoBulkAll ds ≤ 1048576)
def OpenSpec.upto (s : _root_.Go.ChangeSpec) : _root_.Go.OpenSpec := { _root_.Go.OpenSpec.ofChange s with cond := some uptoSmall }

/-- 'corporalaw14.HuffmanLengths', WHERE WHAT IT READS IS OF BULK AT MOST 1048576: true; the input reads as it did. -/
def huffmanLengthsUptoRow : OpenClaim := { program := "ytghfehjkhkjgfaa", sum := "df9623952c37731054936eb3ef79939fe055ad4299ae3eec76f8b171fadaf70f", func := "corpora/corporalaw14.HuffmanLengths", spec := "huffmanLengths", unfollowed := true, recurses := true, apart := false, narrowed := true }
def HuffmanLengthsUptoSaid : Prop := huffmanLengthsUptoRow.holds Try.pinned (OpenSpec.upto huffmanLengthsSpec)

/-- 'corporalaw14.HuffmanOptimal', WHERE WHAT IT READS IS OF BULK AT MOST 1048576: true; the input reads as it did. -/
def huffmanOptimalUptoRow : OpenClaim := { program := "ytghfehjkhkjgfaa", sum := "df9623952c37731054936eb3ef79939fe055ad4299ae3eec76f8b171fadaf70f", func := "corpora/corporalaw14.HuffmanOptimal", spec := "huffmanOptimal", unfollowed := true, recurses := true, apart := false, narrowed := true }
def HuffmanOptimalUptoSaid : Prop := huffmanOptimalUptoRow.holds Try.pinned (OpenSpec.upto huffmanOptimalSpec)

/-- 'corporalaw14.HuffmanComplete', WHERE WHAT IT READS IS OF BULK AT MOST 1048576: true; the input reads as it did. -/
def huffmanCompleteUptoRow : OpenClaim := { program := "ytghfehjkhkjgfaa", sum := "df9623952c37731054936eb3ef79939fe055ad4299ae3eec76f8b171fadaf70f", func := "corpora/corporalaw14.HuffmanComplete", spec := "huffmanComplete", unfollowed := true, recurses := true, apart := false, narrowed := true }
def HuffmanCompleteUptoSaid : Prop := huffmanCompleteUptoRow.holds Try.pinned (OpenSpec.upto huffmanCompleteSpec)

/-- 'corporalaw14.HuffmanCodes', WHERE WHAT IT READS IS OF BULK AT MOST 1048576: true; the input reads as it did. -/
def huffmanCodesUptoRow : OpenClaim := { program := "ytghfehjkhkjgfaa", sum := "df9623952c37731054936eb3ef79939fe055ad4299ae3eec76f8b171fadaf70f", func := "corpora/corporalaw14.HuffmanCodes", spec := "huffmanCodes", unfollowed := true, recurses := true, apart := false, narrowed := true }
def HuffmanCodesUptoSaid : Prop := huffmanCodesUptoRow.holds Try.pinned (OpenSpec.upto huffmanCodesSpec)

/-- 'corporalaw14.HuffmanPrefixes', WHERE WHAT IT READS IS OF BULK AT MOST 1048576: true; the input reads as it did. -/
def huffmanPrefixesUptoRow : OpenClaim := { program := "ytghfehjkhkjgfaa", sum := "df9623952c37731054936eb3ef79939fe055ad4299ae3eec76f8b171fadaf70f", func := "corpora/corporalaw14.HuffmanPrefixes", spec := "huffmanPrefixes", unfollowed := true, recurses := true, apart := false, narrowed := true }
def HuffmanPrefixesUptoSaid : Prop := huffmanPrefixesUptoRow.holds Try.pinned (OpenSpec.upto huffmanPrefixesSpec)

/-- 'corporalaw14.HuffmanEncodes', WHERE WHAT IT READS IS OF BULK AT MOST 1048576: true; the input reads as it did. -/
def huffmanEncodesUptoRow : OpenClaim := { program := "ytghfehjkhkjgfaa", sum := "df9623952c37731054936eb3ef79939fe055ad4299ae3eec76f8b171fadaf70f", func := "corpora/corporalaw14.HuffmanEncodes", spec := "huffmanEncodes", unfollowed := true, recurses := true, apart := false, narrowed := true }
def HuffmanEncodesUptoSaid : Prop := huffmanEncodesUptoRow.holds Try.pinned (OpenSpec.upto huffmanEncodesSpec)

/-- 'corporalaw14.HuffmanDecodes', WHERE WHAT IT READS IS OF BULK AT MOST 1048576: true; the input reads as it did. -/
def huffmanDecodesUptoRow : OpenClaim := { program := "ytghfehjkhkjgfaa", sum := "df9623952c37731054936eb3ef79939fe055ad4299ae3eec76f8b171fadaf70f", func := "corpora/corporalaw14.HuffmanDecodes", spec := "huffmanDecodes", unfollowed := true, recurses := true, apart := false, narrowed := true }
def HuffmanDecodesUptoSaid : Prop := huffmanDecodesUptoRow.holds Try.pinned (OpenSpec.upto huffmanDecodesSpec)

/-- 'corporalaw14.HuffmanRoundTrips', WHERE WHAT IT READS IS OF BULK AT MOST 1048576: true; the input reads as it did. -/
def huffmanRoundTripsUptoRow : OpenClaim := { program := "ytghfehjkhkjgfaa", sum := "df9623952c37731054936eb3ef79939fe055ad4299ae3eec76f8b171fadaf70f", func := "corpora/corporalaw14.HuffmanRoundTrips", spec := "huffmanRoundTrips", unfollowed := true, recurses := true, apart := false, narrowed := true }
def HuffmanRoundTripsUptoSaid : Prop := huffmanRoundTripsUptoRow.holds Try.pinned (OpenSpec.upto huffmanRoundTripsSpec)

/-- 'corporalaw14.HuffmanLimits', WHERE WHAT IT READS IS OF BULK AT MOST 1048576: true; the input reads as it did. -/
def huffmanLimitsUptoRow : OpenClaim := { program := "ytghfehjkhkjgfaa", sum := "df9623952c37731054936eb3ef79939fe055ad4299ae3eec76f8b171fadaf70f", func := "corpora/corporalaw14.HuffmanLimits", spec := "huffmanLimits", unfollowed := true, recurses := true, apart := false, narrowed := true }
def HuffmanLimitsUptoSaid : Prop := huffmanLimitsUptoRow.holds Try.pinned (OpenSpec.upto huffmanLimitsSpec)

/-- 'corporalaw13.LexiconMerges', WHERE WHAT IT READS IS OF BULK AT MOST 1048576: true; the input reads as it did. -/
def lexiconMergesUptoRow : OpenClaim := { program := "ytghfehjkhkjgfaa", sum := "df9623952c37731054936eb3ef79939fe055ad4299ae3eec76f8b171fadaf70f", func := "corpora/corporalaw13.LexiconMerges", spec := "lexiconMerges", inPlace := ["internal/bytealg.abigen_runtime_cmpstring"], unfollowed := true, recurses := true, apart := false, narrowed := true }
def LexiconMergesUptoSaid : Prop := lexiconMergesUptoRow.holds Try.pinned (OpenSpec.upto lexiconMergesSpec)

end Rows
end Go.Proofs.Ytghfehjkhkjgfaa
