/-
  WALKS over package depend, first part: slices.IndexFunc at numbers; Check, firstOnCycle, valid.
-/
import Derived.Test.YtbfnkmibbieijaaDaR
import Derived.Deep.LoopGhost
import Derived.Deep.RegionHeld3
import Derived.Deep.DrawnRows
namespace Go.Proofs.Ytbfnkmibbieijaa
open Go.RowKit Go.Shelf Go.Lib
set_option linter.unusedVariables false

/-- The block of firstOnCycle. -/
structure DSt (w W : World) (N : Nat) (ds : List Int) : Prop where
  below : Below w.heap.size w W
  d : W.heap[N]? = some (.cells (intRow ds) 3 (0, 0))
theorem DSt.set {w W : World} {N : Nat} {ds : List Int} (h : DSt w W N ds) (hN : w.heap.size = N) (i : Nat) (x : Int) : DSt w (W.setCell ⟨N, i, none⟩ (.int .i64 x)) N (ds.set i x) :=
  ⟨h.below.trans ⟨rfl, rfl, rfl, by simp [World.setCell], fun k hk => Below.heap_setCell _ _ _ k (by show k ≠ N; omega)⟩, by rw [← intRow_set]; exact set_of h.d _⟩

end Go.Proofs.Ytbfnkmibbieijaa
