/-
  WALKS over package bitio, twelfth part: a Reader's delta and whole; the methods Unary, Gamma, Delta.
-/
import Derived.Test.YtbfnkmibbieijaaBiZ
namespace Go.Proofs.Ytbfnkmibbieijaa
open Go.RowKit Go.Shelf Go.Lib

theorem rgam_pos (l : List Bool) (p : Nat) (h : (rgam l p).2.2 = 0) : 1 ≤ (rgam l p).1 := by
  unfold rgam at h ⊢
  split
  · rename_i hz
    rw [if_pos hz] at h
    exact absurd h hz
  · rename_i hz
    rw [if_neg hz] at h
    split
    · rename_i hl
      rw [if_pos hl] at h
      cases h
    · have := Nat.pow_pos (n := (zr (l.drop p) 0 63).1) (show 0 < 2 by decide)
      show 1 ≤ 2 ^ _ + _
      omega
theorem rgam_err (l : List Bool) (p : Nat) (h : (rgam l p).2.2 ≠ 0) : (rgam l p).1 = 0 ∧ (rgam l p).2.1 = p := by
  unfold rgam at h ⊢
  split
  · exact ⟨rfl, rfl⟩
  · rename_i hz
    rw [if_neg hz] at h
    split
    · exact ⟨rfl, rfl⟩
    · rename_i hl
      rw [if_neg hl] at h
      exact absurd rfl h
theorem rdel_err (l : List Bool) (p : Nat) (h : (rdel l p).2.2 ≠ 0) : (rdel l p).1 = 0 ∧ (rdel l p).2.1 = p := by
  unfold rdel at h ⊢
  split
  · exact ⟨rfl, rfl⟩
  · rename_i hz
    rw [if_neg hz] at h
    split
    · exact ⟨rfl, rfl⟩
    · rename_i hl
      rw [if_neg hl] at h
      split
      · exact ⟨rfl, rfl⟩
      · rename_i hk
        rw [if_neg hk] at h
        exact absurd rfl h
theorem rgam_code (l : List Bool) (p : Nat) : (rgam l p).2.2 ≤ 10 := by
  unfold rgam
  have := zr_err (l.drop p) 0 63
  split
  · show (zr (l.drop p) 0 63).2 ≤ 10
    omega
  · split
    · exact Nat.le_refl _
    · exact Nat.zero_le _
theorem rgam_fits (l : List Bool) (p : Nat) : (rgam l p).1 < 18446744073709551616 := by
  unfold rgam
  split
  · show (0 : Nat) < _; omega
  · split
    · show (0 : Nat) < _; omega
    · have h1 := zr_val (l.drop p) 0 63 (by omega)
      have h2 := take_num_lt l (p + (zr (l.drop p) 0 63).1 + 1) (zr (l.drop p) 0 63).1
      have h3 := pow_le63 _ h1
      show 2 ^ _ + _ < _
      omega

end Go.Proofs.Ytbfnkmibbieijaa
