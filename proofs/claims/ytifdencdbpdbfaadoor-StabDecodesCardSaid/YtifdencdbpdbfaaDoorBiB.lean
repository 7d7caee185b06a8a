/-
  WALKS over package bitio, second part: push.
-/
import Derived.Test.YtifdencdbpdbfaaDoorBiA
namespace Go.Proofs.YtifdencdbpdbfaaDoor
open Go.RowKit Go.Shelf Go.Lib




theorem push_byte (x j by_ sh : Nat) (hx : x < 18446744073709551616) (hs : sh ≤ 7) (hb : by_ < 256) :
    bits BinOp.or IntKind.u8 (by_ : Int) (bits BinOp.and IntKind.u64 ((x : Int) / 2 ^ j) 1 % 256 * 2 ^ min sh 8 % 256) = ((by_ ||| (x / 2 ^ j % 2) * 2 ^ sh : Nat) : Int) := by
  have e : (x : Int) / 2 ^ j = ((x / 2 ^ j : Nat) : Int) := by simp
  have hle : x / 2 ^ j ≤ x := Nat.div_le_self _ _
  have e1 := bits_and_u64_nat (x / 2 ^ j) 1 (by omega) (by omega)
  rw [Nat.and_one_is_mod] at e1
  have e2 : ((1 : Nat) : Int) = 1 := rfl
  rw [e2] at e1
  rw [e, e1, Nat.min_eq_left (show sh ≤ 8 by omega)]
  obtain ⟨b, hb2⟩ : ∃ b, x / 2 ^ j % 2 = b := ⟨_, rfl⟩
  rw [hb2]
  have hb3 : b ≤ 1 := by omega
  have hp : 2 ^ sh ≤ 2 ^ 7 := Nat.pow_le_pow_right (by decide) hs
  have hm : b * 2 ^ sh ≤ 1 * 2 ^ sh := Nat.mul_le_mul_right _ hb3
  have h128 : (2 : Nat) ^ 7 = 128 := by decide
  have e3 : ((b : Int) % 256 * 2 ^ sh % 256) = ((b * 2 ^ sh : Nat) : Int) := by
    have : (b : Int) % 256 = (b : Int) := by omega
    rw [this]
    have : (b : Int) * 2 ^ sh = ((b * 2 ^ sh : Nat) : Int) := by simp
    rw [this]
    omega
  rw [e3, u8_or_nat _ _ hb (by omega)]

theorem push_step {W : World} {g a q cap : Nat} {v : Value} {w : World} (h : Stepped g v w (.slice (some ⟨a, 0, none⟩) (q + 1) cap) W) (u u' : Value) (i j : Nat) :
    Stepped g v w (.slice (some ⟨a, 0, none⟩) (q + 1) cap) ((W.setCell ⟨a, i, none⟩ u).setCell ⟨g, j, none⟩ u') :=
  ⟨h.os, h.tape, h.output, by have := h.size; simp [World.setCell]; exact this, fun k hk hkg hkv => by
    have hka : k ≠ a := by
      intro e
      subst e
      rcases h.own k rfl with e | e
      · exact hkv e
      · omega
    exact (Below.heap_setCell _ ⟨g, j, none⟩ u' k hkg).trans ((Below.heap_setCell _ ⟨a, i, none⟩ u k hka).trans (h.block k hk hkg hkv)), h.own⟩
end Go.Proofs.YtifdencdbpdbfaaDoor
