/-
  WALK over the reference of lexicon: Prefix. (Tried at a scratch seat with a stand-in for package lexicon.)
-/
import Derived.Test.YteennnhinfnahaaLxF
namespace Go.Proofs.Yteennnhinfnahaa
open Go Go.RowKit Go.Shelf Go.Lib
set_option linter.unusedVariables false
set_option linter.unusedSimpArgs false
theorem pre_iff (p w : Wd) : p <+: w ↔ p.length ≤ w.length ∧ w.take p.length = p := by
  constructor
  · rintro ⟨t, rfl⟩
    exact ⟨by rw [List.length_append]; omega, List.take_left' rfl⟩
  · rintro ⟨_, h⟩
    refine ⟨w.drop p.length, ?_⟩
    have := List.take_append_drop p.length w
    rw [h] at this
    exact this
def PreV (w : World) (ws : List Wd) (s : Wd) (e : Ending) (w' : World) : Prop :=
  e = .returned (.tuple #[.int .i64 ((preP ws s).1 : Nat), .int .i64 ((preP ws s).2 : Nat)]) ∧ Below w.heap.size w w'
end Go.Proofs.Yteennnhinfnahaa
