/-
  MEMORY for package corpus: blocks of parts stay as they are while the validator works.
-/
import Derived.Test.YtmjmidgfdjcbfaaGreatDoorQcZ
namespace Go.Proofs.YtmjmidgfdjcbfaaGreatDoor
open Go.RowKit Go.Shelf Go.Lib
set_option linter.unusedVariables false

/-- Blocks of parts stay. -/
def KeepP (W w' : World) : Prop := ∀ (k : Nat) (cs : Array Value) (f : Nat × Nat), W.heap[k]? = some (.cells cs 51 f) → w'.heap[k]? = some (.cells cs 51 f)
theorem KeepP.refl (W : World) : KeepP W W := fun _ _ _ h => h
theorem KeepP.trans {a b c : World} (h : KeepP a b) (k : KeepP b c) : KeepP a c := fun i cs f e => k i cs f (h i cs f e)
theorem keep_below {W w' : World} (h : Below W.heap.size W w') : KeepP W w' := fun k cs f e => (h.block k (Array.getElem?_eq_some_iff.1 e).1).trans e
theorem keep_grown {w w' : World} {row : Option Nat} (h : w.grownBy w' row) (hr : ∀ k, row = some k → ∃ cs T f, w.heap[k]? = some (.cells cs T f) ∧ T ≠ 51) : KeepP w w' := fun k cs f e => by
  refine (h.block k (Array.getElem?_eq_some_iff.1 e).1 (fun er => ?_)).trans e
  obtain ⟨cs', T, f', e', hT⟩ := hr k er.symm
  rw [e] at e'
  injection e' with e'
  injection e' with _ e' _
  exact hT e'.symm
theorem own_typed {w : World} {base size n : Nat} {T : TypeId} {v : Value} {xs : List Value} (h : w.ownsRow base T size v n xs) (hT : T ≠ 51) : ∀ k, v.ownBlock = some k → ∃ cs T f, w.heap[k]? = some (.cells cs T f) ∧ T ≠ 51 := by
  intro k hk
  rcases h.2 with ⟨rfl, _⟩ | ⟨g, cap, cur, rfl, _, hg, _⟩
  · cases hk
  · simp only [Value.ownBlock, Option.some.injEq] at hk
    subst hk
    exact ⟨_, _, _, hg, hT⟩
theorem keep_set {w : World} {B i : Nat} {s : Sv} {o p y v : Value} (h : VAt w B s o p y) : KeepP w (w.setCell ⟨B, i, none⟩ v) := fun k cs f e => by
  refine (Below.heap_setCell w ⟨B, i, none⟩ v k (fun ek => ?_)).trans e
  have ek : k = B := ek
  subst ek
  rw [h] at e
  injection e with e
  injection e with _ e _
  exact absurd e (by decide)
end Go.Proofs.YtmjmidgfdjcbfaaGreatDoor
