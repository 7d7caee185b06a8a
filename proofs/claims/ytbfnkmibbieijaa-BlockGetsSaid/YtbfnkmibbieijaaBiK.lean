/-
  WALKS: a call of a Writer as the laws make it; the reference's Low.
-/
import Derived.Test.YtbfnkmibbieijaaBiJ
import Derived.Test.YtbfnkmibbieijaaBiH
namespace Go.Proofs.Ytbfnkmibbieijaa
open Go.RowKit Go.Shelf Go.Lib

theorem Stepped.alloc {g : Nat} {v : Value} (w : World) (o : Obj) : Stepped g v w v (w.alloc o) :=
  ⟨rfl, rfl, rfl, by simp, fun k hk _ _ => Below.heap_alloc w o k hk, fun _ h => .inl h⟩
theorem WAt.alloc {w : World} {B g : Nat} {v : Value} {l : List Bool} (h : WAt w B g v l) (o : Obj) : WAt (w.alloc o) B g v l :=
  h.kept ((Below.refl _ w).alloc (Nat.le_refl _) o)

end Go.Proofs.Ytbfnkmibbieijaa
