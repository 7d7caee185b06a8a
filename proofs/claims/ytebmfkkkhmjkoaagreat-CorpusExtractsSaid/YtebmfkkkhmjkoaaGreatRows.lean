/-
  No cell of these rows narrows 'for every input' (looked for: loops, veiled, ifaces, maps, wideKeys, modest, calm, conditions, laid).
  DERIVED. THE GIVEN ROWS OF THIS SEAT. 5 by the template 'for every input the law returns true; each argument reads behind the call as it read before'; 0 by the template 'total and deterministic' (their statements: YtebmfkkkhmjkoaaGreatTotals.lean).
  GIVEN WITH THE SEED: the statements are not yours to turn. If you find one false, say at which input.
  Laid BY PROGRAM, IN A SANDBOX (cutbox-rows.mjs): the forced cells as the released guide's own fill.sh prints them over the translation ed29a14e0b26f41e… (all of the seat's roots in one cut). By AI agents, Wed Nov 11 2026. No macro, syntax, notation, axiom, sorry.
-/
import Derived.Test.YtebmfkkkhmjkoaaGreatChecked
import GoSem.Claim
import GoSem.ClaimJoined
import GoSem.ClaimMapViews
import Derived.JoinedTies
import Derived.KernelRfl
namespace Go.Proofs.YtebmfkkkhmjkoaaGreat
/- THE CELL 'sum', in the pinned program and in every row, IS THE sha256 OF THE DUMP (.gsa) THAT YtebmfkkkhmjkoaaGreatProg.lean LOADS. Nothing in Lean hashes anything: it is a label: what it is worth is what the hold of that sum in a sandbox is worth. -/
noncomputable def Tryz.pinned : Pinned := { name := "ytebmfkkkhmjkoaagreat", sum := "ed29a14e0b26f41ed9f5c48ea3b2004fed3980d1f58bf6b7e950bea85158ddfa", checked := Tryz.checked }
namespace Rows
def none {H : Type} : Left H := { results := [], args := [] }

/-- 'corporalaw06.CorpusJoins': WHATEVER THE INPUT: true; the input reads as it did. -/
def corpusJoinsSpec : ChangeSpec := { name := "corpusJoins", fn := fun _ => fun
  | [d1, d2] => { results := [.lit (.bool true)], args := [d1, d2] }
  | _ => none }
def corpusJoinsRow : OpenClaim := { program := "ytebmfkkkhmjkoaagreat", sum := "ed29a14e0b26f41ed9f5c48ea3b2004fed3980d1f58bf6b7e950bea85158ddfa", func := "corpora/corporalaw06.CorpusJoins", spec := "corpusJoins", inPlace := ["internal/bytealg.IndexByteString", "internal/bytealg.IndexString", "internal/bytealg.abigen_runtime_cmpstring"], unfollowed := true, recurses := true, named := ["internal/bytealg.MaxLen"], apart := false }
def CorpusJoinsSaid : Prop := corpusJoinsRow.holds Tryz.pinned (OpenSpec.ofChange corpusJoinsSpec)

/-- ITS FALSE NEIGHBOUR: 'it returns false'. Refute it at one input. -/
def corpusJoinsWrong : ChangeSpec := { name := "corpusJoins", fn := fun _ => fun
  | [d1, d2] => { results := [.lit (.bool false)], args := [d1, d2] }
  | _ => none }
def CorpusJoinsWrongFalsely : Prop := corpusJoinsRow.holds Tryz.pinned (OpenSpec.ofChange corpusJoinsWrong)

/-- 'corporalaw06.CorpusKeeps': WHATEVER THE INPUT: true; the input reads as it did. -/
def corpusKeepsSpec : ChangeSpec := { name := "corpusKeeps", fn := fun _ => fun
  | [d1, d2] => { results := [.lit (.bool true)], args := [d1, d2] }
  | _ => none }
def corpusKeepsRow : OpenClaim := { program := "ytebmfkkkhmjkoaagreat", sum := "ed29a14e0b26f41ed9f5c48ea3b2004fed3980d1f58bf6b7e950bea85158ddfa", func := "corpora/corporalaw06.CorpusKeeps", spec := "corpusKeeps", inPlace := ["internal/bytealg.IndexByteString", "internal/bytealg.IndexString", "internal/bytealg.abigen_runtime_cmpstring"], unfollowed := true, recurses := true, named := ["internal/bytealg.MaxLen"], apart := false }
def CorpusKeepsSaid : Prop := corpusKeepsRow.holds Tryz.pinned (OpenSpec.ofChange corpusKeepsSpec)

/-- ITS FALSE NEIGHBOUR: 'it returns false'. Refute it at one input. -/
def corpusKeepsWrong : ChangeSpec := { name := "corpusKeeps", fn := fun _ => fun
  | [d1, d2] => { results := [.lit (.bool false)], args := [d1, d2] }
  | _ => none }
def CorpusKeepsWrongFalsely : Prop := corpusKeepsRow.holds Tryz.pinned (OpenSpec.ofChange corpusKeepsWrong)

/-- 'corporalaw06.CorpusExtracts': WHATEVER THE INPUT: true; the input reads as it did. -/
def corpusExtractsSpec : ChangeSpec := { name := "corpusExtracts", fn := fun _ => fun
  | [d1, d2] => { results := [.lit (.bool true)], args := [d1, d2] }
  | _ => none }
def corpusExtractsRow : OpenClaim := { program := "ytebmfkkkhmjkoaagreat", sum := "ed29a14e0b26f41ed9f5c48ea3b2004fed3980d1f58bf6b7e950bea85158ddfa", func := "corpora/corporalaw06.CorpusExtracts", spec := "corpusExtracts", inPlace := ["internal/bytealg.IndexByteString", "internal/bytealg.IndexString", "internal/bytealg.abigen_runtime_cmpstring"], unfollowed := true, recurses := true, named := ["internal/bytealg.MaxLen"], apart := false }
def CorpusExtractsSaid : Prop := corpusExtractsRow.holds Tryz.pinned (OpenSpec.ofChange corpusExtractsSpec)

/-- ITS FALSE NEIGHBOUR: 'it returns false'. Refute it at one input. -/
def corpusExtractsWrong : ChangeSpec := { name := "corpusExtracts", fn := fun _ => fun
  | [d1, d2] => { results := [.lit (.bool false)], args := [d1, d2] }
  | _ => none }
def CorpusExtractsWrongFalsely : Prop := corpusExtractsRow.holds Tryz.pinned (OpenSpec.ofChange corpusExtractsWrong)

/-- 'corporalaw06.CorpusDivides': WHATEVER THE INPUT: true; the input reads as it did. -/
def corpusDividesSpec : ChangeSpec := { name := "corpusDivides", fn := fun _ => fun
  | [d] => { results := [.lit (.bool true)], args := [d] }
  | _ => none }
def corpusDividesRow : OpenClaim := { program := "ytebmfkkkhmjkoaagreat", sum := "ed29a14e0b26f41ed9f5c48ea3b2004fed3980d1f58bf6b7e950bea85158ddfa", func := "corpora/corporalaw06.CorpusDivides", spec := "corpusDivides", inPlace := ["internal/bytealg.IndexByteString", "internal/bytealg.IndexString", "internal/bytealg.abigen_runtime_cmpstring"], unfollowed := true, recurses := true, named := ["internal/bytealg.MaxLen"], apart := false }
def CorpusDividesSaid : Prop := corpusDividesRow.holds Tryz.pinned (OpenSpec.ofChange corpusDividesSpec)

/-- ITS FALSE NEIGHBOUR: 'it returns false'. Refute it at one input. -/
def corpusDividesWrong : ChangeSpec := { name := "corpusDivides", fn := fun _ => fun
  | [d] => { results := [.lit (.bool false)], args := [d] }
  | _ => none }
def CorpusDividesWrongFalsely : Prop := corpusDividesRow.holds Tryz.pinned (OpenSpec.ofChange corpusDividesWrong)

/-- 'corporalaw06.CorpusAssociates': WHATEVER THE INPUT: true; the input reads as it did. -/
def corpusAssociatesSpec : ChangeSpec := { name := "corpusAssociates", fn := fun _ => fun
  | [d1, d2, d3] => { results := [.lit (.bool true)], args := [d1, d2, d3] }
  | _ => none }
def corpusAssociatesRow : OpenClaim := { program := "ytebmfkkkhmjkoaagreat", sum := "ed29a14e0b26f41ed9f5c48ea3b2004fed3980d1f58bf6b7e950bea85158ddfa", func := "corpora/corporalaw06.CorpusAssociates", spec := "corpusAssociates", inPlace := ["internal/bytealg.IndexByteString", "internal/bytealg.IndexString", "internal/bytealg.abigen_runtime_cmpstring"], unfollowed := true, recurses := true, named := ["internal/bytealg.MaxLen"], apart := false }
def CorpusAssociatesSaid : Prop := corpusAssociatesRow.holds Tryz.pinned (OpenSpec.ofChange corpusAssociatesSpec)

/-- ITS FALSE NEIGHBOUR: 'it returns false'. Refute it at one input. -/
def corpusAssociatesWrong : ChangeSpec := { name := "corpusAssociates", fn := fun _ => fun
  | [d1, d2, d3] => { results := [.lit (.bool false)], args := [d1, d2, d3] }
  | _ => none }
def CorpusAssociatesWrongFalsely : Prop := corpusAssociatesRow.holds Tryz.pinned (OpenSpec.ofChange corpusAssociatesWrong)

/- THE SECOND FORM. 'bulk': how many values and letters a reading holds, each counted each time it is reached (what is shared counts as often as it is met; a slice's spare places count too). A statement '..UptoSaid' is the law's where the arguments, and the package variables that the reading takes, are together of bulk at most 1048576: NARROWER than '..Said'. Prove '..Said' where nothing that the law and all that it calls make is longer than what came in: it says more and counts as full. Else prove '..UptoSaid'. A law counts once. -/
mutual
def uptoBulk {H : Type} : DataW H → Nat
  | .lit (.string bytes) => bytes.length + 1
  | .lit _ => 1
  | .nil => 1
  | .ptr d => uptoBulk d + 1
  | .slice elems spare => uptoBulkAll elems + uptoBulkAll spare + 1
  | .agg parts => uptoBulkAll parts + 1
  | .iface _ d => uptoBulk d + 1
  | .map entries => uptoBulkEntries entries + 1
  | .held _ => 1
def uptoBulkAll {H : Type} : List (DataW H) → Nat
  | [] => 0
  | d :: r => uptoBulk d + uptoBulkAll r
def uptoBulkEntries {H : Type} : List (Lit × DataW H) → Nat
  | [] => 0
  | x :: r => uptoBulkEntry x + uptoBulkEntries r
def uptoBulkEntry {H : Type} : Lit × DataW H → Nat
  | (.string bytes, d) => bytes.length + uptoBulk d + 1
  | (_, d) => uptoBulk d + 1
 end
def uptoSmall : (H : Type) → List (DataW H) → Bool := fun _ ds => decide (uptoBulkAll ds ≤ 1048576)
def OpenSpec.upto (s : _root_.Go.ChangeSpec) : _root_.Go.OpenSpec := { _root_.Go.OpenSpec.ofChange s with cond := some uptoSmall }

/-- 'corporalaw06.CorpusJoins', WHERE WHAT IT READS IS OF BULK AT MOST 1048576: true; the input reads as it did. -/
def corpusJoinsUptoRow : OpenClaim := { program := "ytebmfkkkhmjkoaagreat", sum := "ed29a14e0b26f41ed9f5c48ea3b2004fed3980d1f58bf6b7e950bea85158ddfa", func := "corpora/corporalaw06.CorpusJoins", spec := "corpusJoins", inPlace := ["internal/bytealg.IndexByteString", "internal/bytealg.IndexString", "internal/bytealg.abigen_runtime_cmpstring"], unfollowed := true, recurses := true, named := ["internal/bytealg.MaxLen"], apart := false, narrowed := true }
def CorpusJoinsUptoSaid : Prop := corpusJoinsUptoRow.holds Tryz.pinned (OpenSpec.upto corpusJoinsSpec)

/-- 'corporalaw06.CorpusKeeps', WHERE WHAT IT READS IS OF BULK AT MOST 1048576: true; the input reads as it did. -/
def corpusKeepsUptoRow : OpenClaim := { program := "ytebmfkkkhmjkoaagreat", sum := "ed29a14e0b26f41ed9f5c48ea3b2004fed3980d1f58bf6b7e950bea85158ddfa", func := "corpora/corporalaw06.CorpusKeeps", spec := "corpusKeeps", inPlace := ["internal/bytealg.IndexByteString", "internal/bytealg.IndexString", "internal/bytealg.abigen_runtime_cmpstring"], unfollowed := true, recurses := true, named := ["internal/bytealg.MaxLen"], apart := false, narrowed := true }
def CorpusKeepsUptoSaid : Prop := corpusKeepsUptoRow.holds Tryz.pinned (OpenSpec.upto corpusKeepsSpec)

/-- 'corporalaw06.CorpusExtracts', WHERE WHAT IT READS IS OF BULK AT MOST 1048576: true; the input reads as it did. -/
def corpusExtractsUptoRow : OpenClaim := { program := "ytebmfkkkhmjkoaagreat", sum := "ed29a14e0b26f41ed9f5c48ea3b2004fed3980d1f58bf6b7e950bea85158ddfa", func := "corpora/corporalaw06.CorpusExtracts", spec := "corpusExtracts", inPlace := ["internal/bytealg.IndexByteString", "internal/bytealg.IndexString", "internal/bytealg.abigen_runtime_cmpstring"], unfollowed := true, recurses := true, named := ["internal/bytealg.MaxLen"], apart := false, narrowed := true }
def CorpusExtractsUptoSaid : Prop := corpusExtractsUptoRow.holds Tryz.pinned (OpenSpec.upto corpusExtractsSpec)

/-- 'corporalaw06.CorpusDivides', WHERE WHAT IT READS IS OF BULK AT MOST 1048576: true; the input reads as it did. -/
def corpusDividesUptoRow : OpenClaim := { program := "ytebmfkkkhmjkoaagreat", sum := "ed29a14e0b26f41ed9f5c48ea3b2004fed3980d1f58bf6b7e950bea85158ddfa", func := "corpora/corporalaw06.CorpusDivides", spec := "corpusDivides", inPlace := ["internal/bytealg.IndexByteString", "internal/bytealg.IndexString", "internal/bytealg.abigen_runtime_cmpstring"], unfollowed := true, recurses := true, named := ["internal/bytealg.MaxLen"], apart := false, narrowed := true }
def CorpusDividesUptoSaid : Prop := corpusDividesUptoRow.holds Tryz.pinned (OpenSpec.upto corpusDividesSpec)

/-- 'corporalaw06.CorpusAssociates', WHERE WHAT IT READS IS OF BULK AT MOST 1048576: true; the input reads as it did. -/
def corpusAssociatesUptoRow : OpenClaim := { program := "ytebmfkkkhmjkoaagreat", sum := "ed29a14e0b26f41ed9f5c48ea3b2004fed3980d1f58bf6b7e950bea85158ddfa", func := "corpora/corporalaw06.CorpusAssociates", spec := "corpusAssociates", inPlace := ["internal/bytealg.IndexByteString", "internal/bytealg.IndexString", "internal/bytealg.abigen_runtime_cmpstring"], unfollowed := true, recurses := true, named := ["internal/bytealg.MaxLen"], apart := false, narrowed := true }
def CorpusAssociatesUptoSaid : Prop := corpusAssociatesUptoRow.holds Tryz.pinned (OpenSpec.upto corpusAssociatesSpec)

end Rows
end Go.Proofs.YtebmfkkkhmjkoaaGreat
