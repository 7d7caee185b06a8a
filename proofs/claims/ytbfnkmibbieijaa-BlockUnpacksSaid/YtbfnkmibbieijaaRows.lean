/-
  No cell of these rows narrows 'for every input' (looked for: loops, veiled, ifaces, maps, wideKeys, modest, calm, conditions, laid).
  DERIVED. THE GIVEN ROWS OF THIS SEAT. 10 by the template 'for every input the law returns true; each argument reads behind the call as it read before'; 0 by the template 'total and deterministic' (their statements: YtbfnkmibbieijaaTotals.lean).
  GIVEN WITH THE SEED: the statements are not yours to turn. If you find one false, say at which input.
  Laid BY PROGRAM, IN A SANDBOX (cutbox-rows.mjs): the forced cells as the released guide's own fill.sh prints them over the translation 911a8df36df87dd0… (all of the seat's roots in one cut). By AI agents, Wed Nov 11 2026. No macro, syntax, notation, axiom, sorry.
-/
import Derived.Test.YtbfnkmibbieijaaChecked
import GoSem.Claim
import GoSem.ClaimJoined
import GoSem.ClaimMapViews
import Derived.JoinedTies
import Derived.KernelRfl
namespace Go.Proofs.Ytbfnkmibbieijaa
/- THE CELL 'sum', in the pinned program and in every row, IS THE sha256 OF THE DUMP (.gsa) THAT YtbfnkmibbieijaaProg.lean LOADS. Nothing in Lean hashes anything: it is a label: what it is worth is what the hold of that sum in a sandbox is worth. -/
noncomputable def Try.pinned : Pinned := { name := "ytbfnkmibbieijaa", sum := "911a8df36df87dd08a7722ed15918b9868a20ca785ec55522670a2eaf5f26222", checked := Try.checked }
namespace Rows
def none {H : Type} : Left H := { results := [], args := [] }

/-- 'corporalaw15.BlockPacks': WHATEVER THE INPUT: true; the input reads as it did. -/
def blockPacksSpec : ChangeSpec := { name := "blockPacks", fn := fun _ => fun
  | [d] => { results := [.lit (.bool true)], args := [d] }
  | _ => none }
def blockPacksRow : OpenClaim := { program := "ytbfnkmibbieijaa", sum := "911a8df36df87dd08a7722ed15918b9868a20ca785ec55522670a2eaf5f26222", func := "corpora/corporalaw15.BlockPacks", spec := "blockPacks", apart := false }
def BlockPacksSaid : Prop := blockPacksRow.holds Try.pinned (OpenSpec.ofChange blockPacksSpec)

/-- ITS FALSE NEIGHBOUR: 'it returns false'. Refute it at one input. -/
def blockPacksWrong : ChangeSpec := { name := "blockPacks", fn := fun _ => fun
  | [d] => { results := [.lit (.bool false)], args := [d] }
  | _ => none }
def BlockPacksWrongFalsely : Prop := blockPacksRow.holds Try.pinned (OpenSpec.ofChange blockPacksWrong)

/-- 'corporalaw15.BlockCosts': WHATEVER THE INPUT: true; the input reads as it did. -/
def blockCostsSpec : ChangeSpec := { name := "blockCosts", fn := fun _ => fun
  | [d1, d2] => { results := [.lit (.bool true)], args := [d1, d2] }
  | _ => none }
def blockCostsRow : OpenClaim := { program := "ytbfnkmibbieijaa", sum := "911a8df36df87dd08a7722ed15918b9868a20ca785ec55522670a2eaf5f26222", func := "corpora/corporalaw15.BlockCosts", spec := "blockCosts", apart := false }
def BlockCostsSaid : Prop := blockCostsRow.holds Try.pinned (OpenSpec.ofChange blockCostsSpec)

/-- ITS FALSE NEIGHBOUR: 'it returns false'. Refute it at one input. -/
def blockCostsWrong : ChangeSpec := { name := "blockCosts", fn := fun _ => fun
  | [d1, d2] => { results := [.lit (.bool false)], args := [d1, d2] }
  | _ => none }
def BlockCostsWrongFalsely : Prop := blockCostsRow.holds Try.pinned (OpenSpec.ofChange blockCostsWrong)

/-- 'corporalaw15.BlockLeast': WHATEVER THE INPUT: true; the input reads as it did. -/
def blockLeastSpec : ChangeSpec := { name := "blockLeast", fn := fun _ => fun
  | [d] => { results := [.lit (.bool true)], args := [d] }
  | _ => none }
def blockLeastRow : OpenClaim := { program := "ytbfnkmibbieijaa", sum := "911a8df36df87dd08a7722ed15918b9868a20ca785ec55522670a2eaf5f26222", func := "corpora/corporalaw15.BlockLeast", spec := "blockLeast", apart := false }
def BlockLeastSaid : Prop := blockLeastRow.holds Try.pinned (OpenSpec.ofChange blockLeastSpec)

/-- ITS FALSE NEIGHBOUR: 'it returns false'. Refute it at one input. -/
def blockLeastWrong : ChangeSpec := { name := "blockLeast", fn := fun _ => fun
  | [d] => { results := [.lit (.bool false)], args := [d] }
  | _ => none }
def BlockLeastWrongFalsely : Prop := blockLeastRow.holds Try.pinned (OpenSpec.ofChange blockLeastWrong)

/-- 'corporalaw15.BlockBounds': WHATEVER THE INPUT: true; the input reads as it did. -/
def blockBoundsSpec : ChangeSpec := { name := "blockBounds", fn := fun _ => fun
  | [d1, d2, d3] => { results := [.lit (.bool true)], args := [d1, d2, d3] }
  | _ => none }
def blockBoundsRow : OpenClaim := { program := "ytbfnkmibbieijaa", sum := "911a8df36df87dd08a7722ed15918b9868a20ca785ec55522670a2eaf5f26222", func := "corpora/corporalaw15.BlockBounds", spec := "blockBounds", apart := false }
def BlockBoundsSaid : Prop := blockBoundsRow.holds Try.pinned (OpenSpec.ofChange blockBoundsSpec)

/-- ITS FALSE NEIGHBOUR: 'it returns false'. Refute it at one input. -/
def blockBoundsWrong : ChangeSpec := { name := "blockBounds", fn := fun _ => fun
  | [d1, d2, d3] => { results := [.lit (.bool false)], args := [d1, d2, d3] }
  | _ => none }
def BlockBoundsWrongFalsely : Prop := blockBoundsRow.holds Try.pinned (OpenSpec.ofChange blockBoundsWrong)

/-- 'corporalaw15.BlockUnpacks': WHATEVER THE INPUT: true; the input reads as it did. -/
def blockUnpacksSpec : ChangeSpec := { name := "blockUnpacks", fn := fun _ => fun
  | [d] => { results := [.lit (.bool true)], args := [d] }
  | _ => none }
def blockUnpacksRow : OpenClaim := { program := "ytbfnkmibbieijaa", sum := "911a8df36df87dd08a7722ed15918b9868a20ca785ec55522670a2eaf5f26222", func := "corpora/corporalaw15.BlockUnpacks", spec := "blockUnpacks", apart := false }
def BlockUnpacksSaid : Prop := blockUnpacksRow.holds Try.pinned (OpenSpec.ofChange blockUnpacksSpec)

/-- ITS FALSE NEIGHBOUR: 'it returns false'. Refute it at one input. -/
def blockUnpacksWrong : ChangeSpec := { name := "blockUnpacks", fn := fun _ => fun
  | [d] => { results := [.lit (.bool false)], args := [d] }
  | _ => none }
def BlockUnpacksWrongFalsely : Prop := blockUnpacksRow.holds Try.pinned (OpenSpec.ofChange blockUnpacksWrong)

/-- 'corporalaw15.BlockRoundTrips': WHATEVER THE INPUT: true; the input reads as it did. -/
def blockRoundTripsSpec : ChangeSpec := { name := "blockRoundTrips", fn := fun _ => fun
  | [d1, d2] => { results := [.lit (.bool true)], args := [d1, d2] }
  | _ => none }
def blockRoundTripsRow : OpenClaim := { program := "ytbfnkmibbieijaa", sum := "911a8df36df87dd08a7722ed15918b9868a20ca785ec55522670a2eaf5f26222", func := "corpora/corporalaw15.BlockRoundTrips", spec := "blockRoundTrips", apart := false }
def BlockRoundTripsSaid : Prop := blockRoundTripsRow.holds Try.pinned (OpenSpec.ofChange blockRoundTripsSpec)

/-- ITS FALSE NEIGHBOUR: 'it returns false'. Refute it at one input. -/
def blockRoundTripsWrong : ChangeSpec := { name := "blockRoundTrips", fn := fun _ => fun
  | [d1, d2] => { results := [.lit (.bool false)], args := [d1, d2] }
  | _ => none }
def BlockRoundTripsWrongFalsely : Prop := blockRoundTripsRow.holds Try.pinned (OpenSpec.ofChange blockRoundTripsWrong)

/-- 'corporalaw15.BlockGets': WHATEVER THE INPUT: true; the input reads as it did. -/
def blockGetsSpec : ChangeSpec := { name := "blockGets", fn := fun _ => fun
  | [d1, d2] => { results := [.lit (.bool true)], args := [d1, d2] }
  | _ => none }
def blockGetsRow : OpenClaim := { program := "ytbfnkmibbieijaa", sum := "911a8df36df87dd08a7722ed15918b9868a20ca785ec55522670a2eaf5f26222", func := "corpora/corporalaw15.BlockGets", spec := "blockGets", apart := false }
def BlockGetsSaid : Prop := blockGetsRow.holds Try.pinned (OpenSpec.ofChange blockGetsSpec)

/-- ITS FALSE NEIGHBOUR: 'it returns false'. Refute it at one input. -/
def blockGetsWrong : ChangeSpec := { name := "blockGets", fn := fun _ => fun
  | [d1, d2] => { results := [.lit (.bool false)], args := [d1, d2] }
  | _ => none }
def BlockGetsWrongFalsely : Prop := blockGetsRow.holds Try.pinned (OpenSpec.ofChange blockGetsWrong)

/-- 'corporalaw14.HuffmanLengths': WHATEVER THE INPUT: true; the input reads as it did. -/
def huffmanLengthsSpec : ChangeSpec := { name := "huffmanLengths", fn := fun _ => fun
  | [d1, d2] => { results := [.lit (.bool true)], args := [d1, d2] }
  | _ => none }
def huffmanLengthsRow : OpenClaim := { program := "ytbfnkmibbieijaa", sum := "911a8df36df87dd08a7722ed15918b9868a20ca785ec55522670a2eaf5f26222", func := "corpora/corporalaw14.HuffmanLengths", spec := "huffmanLengths", unfollowed := true, recurses := true, apart := false }
def HuffmanLengthsSaid : Prop := huffmanLengthsRow.holds Try.pinned (OpenSpec.ofChange huffmanLengthsSpec)

/-- ITS FALSE NEIGHBOUR: 'it returns false'. Refute it at one input. -/
def huffmanLengthsWrong : ChangeSpec := { name := "huffmanLengths", fn := fun _ => fun
  | [d1, d2] => { results := [.lit (.bool false)], args := [d1, d2] }
  | _ => none }
def HuffmanLengthsWrongFalsely : Prop := huffmanLengthsRow.holds Try.pinned (OpenSpec.ofChange huffmanLengthsWrong)

/-- 'corporalaw14.HuffmanDecodes': WHATEVER THE INPUT: true; the input reads as it did. -/
def huffmanDecodesSpec : ChangeSpec := { name := "huffmanDecodes", fn := fun _ => fun
  | [d1, d2] => { results := [.lit (.bool true)], args := [d1, d2] }
  | _ => none }
def huffmanDecodesRow : OpenClaim := { program := "ytbfnkmibbieijaa", sum := "911a8df36df87dd08a7722ed15918b9868a20ca785ec55522670a2eaf5f26222", func := "corpora/corporalaw14.HuffmanDecodes", spec := "huffmanDecodes", unfollowed := true, recurses := true, apart := false }
def HuffmanDecodesSaid : Prop := huffmanDecodesRow.holds Try.pinned (OpenSpec.ofChange huffmanDecodesSpec)

/-- ITS FALSE NEIGHBOUR: 'it returns false'. Refute it at one input. -/
def huffmanDecodesWrong : ChangeSpec := { name := "huffmanDecodes", fn := fun _ => fun
  | [d1, d2] => { results := [.lit (.bool false)], args := [d1, d2] }
  | _ => none }
def HuffmanDecodesWrongFalsely : Prop := huffmanDecodesRow.holds Try.pinned (OpenSpec.ofChange huffmanDecodesWrong)

/-- 'corporalaw13.LexiconMerges': WHATEVER THE INPUT: true; the input reads as it did. -/
def lexiconMergesSpec : ChangeSpec := { name := "lexiconMerges", fn := fun _ => fun
  | [d1, d2] => { results := [.lit (.bool true)], args := [d1, d2] }
  | _ => none }
def lexiconMergesRow : OpenClaim := { program := "ytbfnkmibbieijaa", sum := "911a8df36df87dd08a7722ed15918b9868a20ca785ec55522670a2eaf5f26222", func := "corpora/corporalaw13.LexiconMerges", spec := "lexiconMerges", inPlace := ["internal/bytealg.abigen_runtime_cmpstring"], unfollowed := true, recurses := true, apart := false }
def LexiconMergesSaid : Prop := lexiconMergesRow.holds Try.pinned (OpenSpec.ofChange lexiconMergesSpec)

/-- ITS FALSE NEIGHBOUR: 'it returns false'. Refute it at one input. -/
def lexiconMergesWrong : ChangeSpec := { name := "lexiconMerges", fn := fun _ => fun
  | [d1, d2] => { results := [.lit (.bool false)], args := [d1, d2] }
  | _ => none }
def LexiconMergesWrongFalsely : Prop := lexiconMergesRow.holds Try.pinned (OpenSpec.ofChange lexiconMergesWrong)

/- THE SECOND FORM. 'bulk': how many values and letters a reading holds, each counted each time it is reached (what is shared counts as often as it is met; a slice's spare places count too). A statement '..UptoSaid' is the law's where the arguments, and the package variables that the reading takes, are together of bulk at most 1048576: NARROWER than '..Said'. Prove '..Said' where nothing that the law and all that it calls make is longer than what came in: it says more and counts as full. Else prove '..UptoSaid'. A law counts once. -/
mutual
def uptoBulk {H : Type} : DataW H → Nat
  | .lit (.string bytes) => bytes.length + 1
  | .lit _ => 1
  | .nil => 1
  | .ptr d => uptoBulk d + 1
  | .slice elems spare => uptoBulkAll elems + uptoBulkAll spare + 1
  | .agg parts => uptoBulkAll parts + 1
  | .iface _ d => uptoBulk d + 1
  | .map entries => uptoBulkEntries entries + 1
  | .held _ => 1
def uptoBulkAll {H : Type} : List (DataW H) → Nat
  | [] => 0
  | d :: r => uptoBulk d + uptoBulkAll r
def uptoBulkEntries {H : Type} : List (Lit × DataW H) → Nat
  | [] => 0
  | x :: r => uptoBulkEntry x + uptoBulkEntries r
def uptoBulkEntry {H : Type} : Lit × DataW H → Nat
  | (.string bytes, d) => bytes.length + uptoBulk d + 1
  | (_, d) => uptoBulk d + 1
 end
def uptoSmall : (H : Type) → List (DataW H) → Bool := fun _ ds => decide (uptoBulkAll ds ≤ 1048576)
def OpenSpec.upto (s : _root_.Go.ChangeSpec) : _root_.Go.OpenSpec := { _root_.Go.OpenSpec.ofChange s with cond := some uptoSmall }

/-- 'corporalaw15.BlockPacks', WHERE WHAT IT READS IS OF BULK AT MOST 1048576: true; the input reads as it did. -/
def blockPacksUptoRow : OpenClaim := { program := "ytbfnkmibbieijaa", sum := "911a8df36df87dd08a7722ed15918b9868a20ca785ec55522670a2eaf5f26222", func := "corpora/corporalaw15.BlockPacks", spec := "blockPacks", apart := false, narrowed := true }
def BlockPacksUptoSaid : Prop := blockPacksUptoRow.holds Try.pinned (OpenSpec.upto blockPacksSpec)

/-- 'corporalaw15.BlockCosts', WHERE WHAT IT READS IS OF BULK AT MOST 1048576: true; the input reads as it did. -/
def blockCostsUptoRow : OpenClaim := { program := "ytbfnkmibbieijaa", sum := "911a8df36df87dd08a7722ed15918b9868a20ca785ec55522670a2eaf5f26222", func := "corpora/corporalaw15.BlockCosts", spec := "blockCosts", apart := false, narrowed := true }
def BlockCostsUptoSaid : Prop := blockCostsUptoRow.holds Try.pinned (OpenSpec.upto blockCostsSpec)

/-- 'corporalaw15.BlockLeast', WHERE WHAT IT READS IS OF BULK AT MOST 1048576: true; the input reads as it did. -/
def blockLeastUptoRow : OpenClaim := { program := "ytbfnkmibbieijaa", sum := "911a8df36df87dd08a7722ed15918b9868a20ca785ec55522670a2eaf5f26222", func := "corpora/corporalaw15.BlockLeast", spec := "blockLeast", apart := false, narrowed := true }
def BlockLeastUptoSaid : Prop := blockLeastUptoRow.holds Try.pinned (OpenSpec.upto blockLeastSpec)

/-- 'corporalaw15.BlockBounds', WHERE WHAT IT READS IS OF BULK AT MOST 1048576: true; the input reads as it did. -/
def blockBoundsUptoRow : OpenClaim := { program := "ytbfnkmibbieijaa", sum := "911a8df36df87dd08a7722ed15918b9868a20ca785ec55522670a2eaf5f26222", func := "corpora/corporalaw15.BlockBounds", spec := "blockBounds", apart := false, narrowed := true }
def BlockBoundsUptoSaid : Prop := blockBoundsUptoRow.holds Try.pinned (OpenSpec.upto blockBoundsSpec)

/-- 'corporalaw15.BlockUnpacks', WHERE WHAT IT READS IS OF BULK AT MOST 1048576: true; the input reads as it did. -/
def blockUnpacksUptoRow : OpenClaim := { program := "ytbfnkmibbieijaa", sum := "911a8df36df87dd08a7722ed15918b9868a20ca785ec55522670a2eaf5f26222", func := "corpora/corporalaw15.BlockUnpacks", spec := "blockUnpacks", apart := false, narrowed := true }
def BlockUnpacksUptoSaid : Prop := blockUnpacksUptoRow.holds Try.pinned (OpenSpec.upto blockUnpacksSpec)

/-- 'corporalaw15.BlockRoundTrips', WHERE WHAT IT READS IS OF BULK AT MOST 1048576: true; the input reads as it did. -/
def blockRoundTripsUptoRow : OpenClaim := { program := "ytbfnkmibbieijaa", sum := "911a8df36df87dd08a7722ed15918b9868a20ca785ec55522670a2eaf5f26222", func := "corpora/corporalaw15.BlockRoundTrips", spec := "blockRoundTrips", apart := false, narrowed := true }
def BlockRoundTripsUptoSaid : Prop := blockRoundTripsUptoRow.holds Try.pinned (OpenSpec.upto blockRoundTripsSpec)

/-- 'corporalaw15.BlockGets', WHERE WHAT IT READS IS OF BULK AT MOST 1048576: true; the input reads as it did. -/
def blockGetsUptoRow : OpenClaim := { program := "ytbfnkmibbieijaa", sum := "911a8df36df87dd08a7722ed15918b9868a20ca785ec55522670a2eaf5f26222", func := "corpora/corporalaw15.BlockGets", spec := "blockGets", apart := false, narrowed := true }
def BlockGetsUptoSaid : Prop := blockGetsUptoRow.holds Try.pinned (OpenSpec.upto blockGetsSpec)

/-- 'corporalaw14.HuffmanLengths', WHERE WHAT IT READS IS OF BULK AT MOST 1048576: true; the input reads as it did. -/
def huffmanLengthsUptoRow : OpenClaim := { program := "ytbfnkmibbieijaa", sum := "911a8df36df87dd08a7722ed15918b9868a20ca785ec55522670a2eaf5f26222", func := "corpora/corporalaw14.HuffmanLengths", spec := "huffmanLengths", unfollowed := true, recurses := true, apart := false, narrowed := true }
def HuffmanLengthsUptoSaid : Prop := huffmanLengthsUptoRow.holds Try.pinned (OpenSpec.upto huffmanLengthsSpec)

/-- 'corporalaw14.HuffmanDecodes', WHERE WHAT IT READS IS OF BULK AT MOST 1048576: true; the input reads as it did. -/
def huffmanDecodesUptoRow : OpenClaim := { program := "ytbfnkmibbieijaa", sum := "911a8df36df87dd08a7722ed15918b9868a20ca785ec55522670a2eaf5f26222", func := "corpora/corporalaw14.HuffmanDecodes", spec := "huffmanDecodes", unfollowed := true, recurses := true, apart := false, narrowed := true }
def HuffmanDecodesUptoSaid : Prop := huffmanDecodesUptoRow.holds Try.pinned (OpenSpec.upto huffmanDecodesSpec)

/-- 'corporalaw13.LexiconMerges', WHERE WHAT IT READS IS OF BULK AT MOST 1048576: true; the input reads as it did. -/
def lexiconMergesUptoRow : OpenClaim := { program := "ytbfnkmibbieijaa", sum := "911a8df36df87dd08a7722ed15918b9868a20ca785ec55522670a2eaf5f26222", func := "corpora/corporalaw13.LexiconMerges", spec := "lexiconMerges", inPlace := ["internal/bytealg.abigen_runtime_cmpstring"], unfollowed := true, recurses := true, apart := false, narrowed := true }
def LexiconMergesUptoSaid : Prop := lexiconMergesUptoRow.holds Try.pinned (OpenSpec.upto lexiconMergesSpec)

end Rows
end Go.Proofs.Ytbfnkmibbieijaa
