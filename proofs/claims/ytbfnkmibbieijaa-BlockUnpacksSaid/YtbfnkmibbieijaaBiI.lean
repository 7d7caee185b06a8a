/-
  WALKS over package corporaref02: Top; two Writers beside each other.
-/
import Derived.Test.YtbfnkmibbieijaaBiE
namespace Go.Proofs.Ytbfnkmibbieijaa
open Go.RowKit Go.Shelf Go.Lib

/-- A Writer stands while another one writes. -/
theorem WAt.aside {w w' : World} {B g g' : Nat} {v v1 v1' : Value} {l : List Bool} (h : WAt w B g v l) (hs : Stepped g' v1 w v1' w') (hg : g ≠ g') (hb : v1.ownBlock ≠ some g) (hv : ∀ k, v.ownBlock = some k → k ≠ g' ∧ v1.ownBlock ≠ some k) : WAt w' B g v l :=
  ⟨h.1, (hs.block g h.lt hg hb).trans h.2.1, own_below h.2.2 fun k e => hs.block k (own_low h.2.2 k e).2 (hv k e).1 (hv k e).2⟩
end Go.Proofs.Ytbfnkmibbieijaa
