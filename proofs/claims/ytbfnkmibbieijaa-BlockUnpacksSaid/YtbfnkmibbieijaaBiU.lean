/-
  ARGUMENTS of the laws about bitio, opened: a call, a slice of calls.
-/
import Derived.Test.YtbfnkmibbieijaaBiO
import Derived.Test.YtbfnkmibbieijaaBiJ
import Derived.Deep.Slices
namespace Go.Proofs.Ytbfnkmibbieijaa
open Go.RowKit Go.Shelf Go.Lib Go.ChangeShapes Go.WideShapes Go.Deep

/-- A slice of calls, as it lies in memory below block B. -/
def SeesK (w : World) (B : Nat) (v : Value) (cs : List CallL) : Prop :=
  ∃ A cap, v = .slice A cs.length cap ∧ (0 < cs.length → ∃ b off, A = some ⟨b, off, none⟩ ∧ b < B ∧ ∀ (k : Nat) (hk : k < cs.length), okCall cs[k] ∧
    w.cell? ⟨b, off + k * 3, none⟩ = some (.int .i64 cs[k].kind) ∧ w.cell? ⟨b, off + k * 3 + 1, none⟩ = some (.int .u64 cs[k].v) ∧ w.cell? ⟨b, off + k * 3 + 2, none⟩ = some (.int .i64 cs[k].n))

section
variable {H : Type} {enc : TypeId × Value → H}
end
end Go.Proofs.Ytbfnkmibbieijaa
