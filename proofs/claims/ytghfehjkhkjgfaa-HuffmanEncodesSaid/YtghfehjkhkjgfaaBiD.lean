/-
  WALKS over package bitio, fourth part: PutUvarint, and the reference's Uvarint.
-/
import Derived.Test.YtghfehjkhkjgfaaBiC
import Derived.Laws.CopyOwn
import Derived.Laws.MakeOwn
namespace Go.Proofs.Ytghfehjkhkjgfaa
open Go.RowKit Go.Shelf Go.Lib

theorem put_byte (x : Nat) : bits .or .u8 ((x : Int) % 256) 128 = ((x % 128 + 128 : Nat) : Int) := by
  have e : (x : Int) % 256 = ((x % 256 : Nat) : Int) := by omega
  have h := u8_or_nat (x % 256) 128 (by omega) (by omega)
  have e2 : ((128 : Nat) : Int) = 128 := rfl
  rw [e2] at h
  rw [e, h]
  have h3 : x % 256 ||| 128 = x % 128 + 128 := by
    obtain ⟨y, hy⟩ : ∃ y, x % 256 = y := ⟨_, rfl⟩
    have hx : x % 128 = y % 128 := by omega
    have hy2 : y < 256 := by omega
    rw [hy, hx]
    clear hy hx h e
    have all : ∀ z : Fin 256, z.val ||| 128 = z.val % 128 + 128 := by decide +kernel
    exact all ⟨y, hy2⟩
  rw [h3]

/-- Between two rounds: x' is left of the number, the bytes 'done' have been appended to L. -/
def URel (B : Nat) (L : List UInt8) (x : Nat) (w : World) (v5 v1 : Value) (wr : World) : Prop :=
  ∃ (done : List UInt8) (x' : Nat), v1 = .int .u64 x' ∧ x' < 18446744073709551616 ∧ done ++ enc x' = enc x ∧ wr.ownsRow B 5 1 v5 (L.length + done.length) (byteCells (L ++ done)) ∧ Below B w wr

end Go.Proofs.Ytghfehjkhkjgfaa
