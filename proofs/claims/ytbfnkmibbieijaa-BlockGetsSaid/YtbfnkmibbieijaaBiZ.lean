/-
  WALKS over package bitio, eleventh part: a Reader's gamma, delta and whole; the methods Unary, Gamma, Delta; a new Reader.
-/
import Derived.Test.YtbfnkmibbieijaaBiY
namespace Go.Proofs.Ytbfnkmibbieijaa
open Go.RowKit Go.Shelf Go.Lib

theorem pow_le63 (n : Nat) (hn : n ≤ 63) : 2 ^ n ≤ 9223372036854775808 := by
  have h := Nat.pow_le_pow_right (show 0 < 2 by decide) hn
  have h63 : (2 : Nat) ^ 63 = 9223372036854775808 := by decide
  omega
theorem top_or (n low : Nat) (hn : n ≤ 63) (hl : low < 2 ^ n) : bits .or .u64 (IntKind.u64.wrap (2 ^ n)) (low : Int) = ((2 ^ n + low : Nat) : Int) := by
  have h1 := pow_le63 n hn
  have e : IntKind.u64.wrap ((2 : Int) ^ n) = ((2 ^ n : Nat) : Int) := by
    have : (2 : Int) ^ n = ((2 ^ n : Nat) : Int) := by simp
    rw [this, IntKind.wrap_u64]
    omega
  rw [e, bits_or_u64_nat _ _ (by omega) (by omega), or_add (2 ^ n) low n _ rfl (Nat.mod_self _) hl]

/-- What afterTop leaves. -/
def APost (B g : Nat) (vb : Value) (bs : List UInt8) (size : Nat) (w : World) (n : Nat) (t : Nat × Nat × Nat) (e : Ending) (w' : World) : Prop :=
  e = .returned (.tuple #[.int .u64 ((2 ^ n + t.1 : Nat) : Int), .int .i64 (t.2.2 : Nat)]) ∧ RAt w' B g vb bs size t.2.1 ∧ w.grownBy w' (some g)

/-- What gamma and delta leave: the error; where there is none, the number and the position. -/
def GPost (B g : Nat) (vb : Value) (bs : List UInt8) (size : Nat) (w : World) (t : Nat × Nat × Nat) (e : Ending) (w' : World) : Prop :=
  ∃ x p' : Nat, e = .returned (.tuple #[.int .u64 (x : Int), .int .i64 (t.2.2 : Nat)]) ∧ (t.2.2 = 0 → x = t.1 ∧ p' = t.2.1) ∧ RAt w' B g vb bs size p' ∧ w.grownBy w' (some g)

end Go.Proofs.Ytbfnkmibbieijaa
