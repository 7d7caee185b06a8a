/-
  WALKS over package bitio, thirteenth part: a Reader's Unary; a call of a Reader as the laws make it; a new Reader; Pos, Seek.
-/
import Derived.Test.YtbfnkmibbieijaaBjA
namespace Go.Proofs.Ytbfnkmibbieijaa
open Go.RowKit Go.Shelf Go.Lib

theorem runa_err (l : List Bool) (p : Nat) (h : (runa l p).2.2 ≠ 0) : (runa l p).1 = 0 ∧ (runa l p).2.1 = p := by
  unfold runa at h ⊢
  split
  · exact ⟨rfl, rfl⟩
  · rename_i hz
    rw [if_neg hz] at h
    exact absurd rfl h
theorem runa_fits (l : List Bool) (p : Nat) : (runa l p).1 ≤ 4096 := by
  unfold runa
  split
  · show (0 : Nat) ≤ _; omega
  · exact zr_val _ _ _ (by omega)

/-- What Unary answers: an int. -/
def UPost (B g : Nat) (vb : Value) (bs : List UInt8) (size : Nat) (w : World) (t : Nat × Nat × Nat) (e : Ending) (w' : World) : Prop :=
  e = .returned (.tuple #[.int .i64 (t.1 : Nat), .int .i64 (t.2.2 : Nat)]) ∧ RAt w' B g vb bs size t.2.1 ∧ w.grownBy w' (some g)
theorem RAt.alloc {w : World} {B g : Nat} {vb : Value} {bs : List UInt8} {size p : Nat} (h : RAt w B g vb bs size p) (o : Obj) : RAt (w.alloc o) B g vb bs size p :=
  h.heap fun k hk => Below.heap_alloc w o k hk

set_option maxHeartbeats 400000 in
theorem rpos_any {w : World} {B g : Nat} {vb : Value} {bs : List UInt8} {size p : Nat} (h : RAt w B g vb bs size p) :
    Calls Try.prog 60 #[.pointer (some ⟨g, 0, none⟩)] w fun e w' => e = .returned (.int .i64 p) ∧ w = w' := by
  have c2 := (rat_cells h).2.2.1
  clear h
  go_enter Try.func60, Try.ntmps60
  go_wp2
  go_ret
  exact ⟨rfl, rfl⟩
end Go.Proofs.Ytbfnkmibbieijaa
