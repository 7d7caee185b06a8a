/-
  TWO Writers beside each other.
-/
import Derived.Test.YtpkikfdbndaekaaBjD
namespace Go.Proofs.Ytpkikfdbndaekaa
open Go.RowKit Go.Shelf Go.Lib

/-- Two Writers in memory, apart. -/
def TwoAt (w : World) (B g : Nat) (v : Value) (l : List Bool) (g2 : Nat) (v2 : Value) (l2 : List Bool) : Prop :=
  WAt w B g v l ∧ WAt w B g2 v2 l2 ∧ g ≠ g2 ∧ ∀ q, v.ownBlock = some q → v2.ownBlock ≠ some q
theorem writer_own_ne {w : World} {B B' g g2 : Nat} {v v2 : Value} {l l2 : List Bool} (h : WAt w B g v l) (h2 : WAt w B' g2 v2 l2) : v.ownBlock ≠ some g2 := by
  intro e
  obtain ⟨c, h1⟩ := own_elem h.2.2 e
  rw [h2.2.1] at h1
  injection h1 with h1
  injection h1 with _ h1
  exact absurd h1 (by decide)
theorem TwoAt.left {w w' : World} {B g g2 : Nat} {v v' v2 : Value} {l l' l2 : List Bool} (h : TwoAt w B g v l g2 v2 l2) (hs : Stepped g v w v' w') (hw : WAt w' B g v' l') : TwoAt w' B g v' l' g2 v2 l2 := by
  obtain ⟨h1, h2, hne, hsep⟩ := h
  refine ⟨hw, h2.aside hs (Ne.symm hne) (writer_own_ne h1 h2) (fun k e => ⟨fun e2 => ?_, fun e2 => hsep k e2 e⟩), hne, fun q e e2 => ?_⟩
  · subst e2
    exact writer_own_ne h2 h1 e
  · rcases hs.own q e with e3 | e3
    · exact hsep q e3 e2
    · have := (own_low h2.2.2 q e2).2
      omega
theorem TwoAt.right {w w' : World} {B g g2 : Nat} {v v2 v2' : Value} {l l2 l2' : List Bool} (h : TwoAt w B g v l g2 v2 l2) (hs : Stepped g2 v2 w v2' w') (hw : WAt w' B g2 v2' l2') : TwoAt w' B g v l g2 v2' l2' := by
  obtain ⟨h1, h2, hne, hsep⟩ := h
  refine ⟨h1.aside hs hne (writer_own_ne h2 h1) (fun k e => ⟨fun e2 => ?_, hsep k e⟩), hw, hne, fun q e e2 => ?_⟩
  · subst e2
    exact writer_own_ne h1 h2 e
  · rcases hs.own q e2 with e3 | e3
    · exact hsep q e e3
    · have := (own_low h1.2.2 q e).2
      omega
theorem TwoAt.heap {w w' : World} {B g g2 : Nat} {v v2 : Value} {l l2 : List Bool} (h : TwoAt w B g v l g2 v2 l2) (hh : ∀ k, k < w.heap.size → w'.heap[k]? = w.heap[k]?) : TwoAt w' B g v l g2 v2 l2 :=
  ⟨⟨h.1.1, (hh g h.1.lt).trans h.1.2.1, own_below h.1.2.2 fun k e => hh k (own_low h.1.2.2 k e).2⟩, ⟨h.2.1.1, (hh g2 h.2.1.lt).trans h.2.1.2.1, own_below h.2.1.2.2 fun k e => hh k (own_low h.2.1.2.2 k e).2⟩, h.2.2⟩
theorem TwoAt.alloc {w : World} {B g g2 : Nat} {v v2 : Value} {l l2 : List Bool} (h : TwoAt w B g v l g2 v2 l2) (o : Obj) : TwoAt (w.alloc o) B g v l g2 v2 l2 := h.heap fun k hk => Below.heap_alloc w o k hk
theorem TwoAt.drew {w : World} {B g g2 : Nat} {v v2 : Value} {l l2 : List Bool} (h : TwoAt w B g v l g2 v2 l2) : TwoAt w.drew B g v l g2 v2 l2 := h.heap fun _ _ => rfl
theorem TwoAt.below {w w' : World} {B g g2 : Nat} {v v2 : Value} {l l2 : List Bool} (h : TwoAt w B g v l g2 v2 l2) (hb : Below w.heap.size w w') : TwoAt w' B g v l g2 v2 l2 := h.heap fun k hk => hb.block k hk
/-- What a Writer's method leaves of a block that is no part of it. -/
theorem stepped_cell {g k : Nat} {v v' : Value} {w w' : World} {o : Obj} (hs : Stepped g v w v' w') (hk : w.heap[k]? = some o) (hg : k ≠ g) (hv : v.ownBlock ≠ some k) : w'.heap[k]? = some o :=
  (hs.block k (Array.getElem?_eq_some_iff.1 hk).1 hg hv).trans hk
/-- A call's own copy is no part of a Writer. -/
theorem copy_apart {w : World} {B g : Nat} {v : Value} {l : List Bool} (h : WAt w B g v l) : w.heap.size ≠ g ∧ v.ownBlock ≠ some w.heap.size :=
  ⟨fun e => by have := h.lt; omega, fun e => by have := (own_low h.2.2 _ e).2; omega⟩
end Go.Proofs.Ytpkikfdbndaekaa
