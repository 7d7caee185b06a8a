/-
  WALKS over package bitio, eleventh part: a Reader's gamma, delta and whole; the methods Unary, Gamma, Delta; a new Reader.
-/
import Derived.Test.YtpkikfdbndaekaaBiY
namespace Go.Proofs.Ytpkikfdbndaekaa
open Go.RowKit Go.Shelf Go.Lib

theorem pow_le63 (n : Nat) (hn : n ≤ 63) : 2 ^ n ≤ 9223372036854775808 := by
  have h := Nat.pow_le_pow_right (show 0 < 2 by decide) hn
  have h63 : (2 : Nat) ^ 63 = 9223372036854775808 := by decide
  omega
theorem top_or (n low : Nat) (hn : n ≤ 63) (hl : low < 2 ^ n) : bits .or .u64 (IntKind.u64.wrap (2 ^ n)) (low : Int) = ((2 ^ n + low : Nat) : Int) := by
  have h1 := pow_le63 n hn
  have e : IntKind.u64.wrap ((2 : Int) ^ n) = ((2 ^ n : Nat) : Int) := by
    have : (2 : Int) ^ n = ((2 ^ n : Nat) : Int) := by simp
    rw [this, IntKind.wrap_u64]
    omega
  rw [e, bits_or_u64_nat _ _ (by omega) (by omega), or_add (2 ^ n) low n _ rfl (Nat.mod_self _) hl]

/-- What afterTop leaves. -/
def APost (B g : Nat) (vb : Value) (bs : List UInt8) (size : Nat) (w : World) (n : Nat) (t : Nat × Nat × Nat) (e : Ending) (w' : World) : Prop :=
  e = .returned (.tuple #[.int .u64 ((2 ^ n + t.1 : Nat) : Int), .int .i64 (t.2.2 : Nat)]) ∧ RAt w' B g vb bs size t.2.1 ∧ w.grownBy w' (some g)

set_option maxRecDepth 100000 in
set_option maxHeartbeats 1000000 in
theorem rafter_any {w : World} {B g : Nat} {vb : Value} {bs : List UInt8} {size p : Nat} (h : RAt w B g vb bs size p) (n : Nat) (hn : n ≤ 63) :
    Calls Try.prog 54 #[.pointer (some ⟨g, 0, none⟩), .int .u64 n] w (APost B g vb bs size w n (rbits (unpack bs size) p n)) := by
  have hb := rbits_any h n (by omega)
  have hle := (rbits_le (unpack bs size) p n (by rw [unpack_len]; exact h.2.2.2.1)).2
  obtain ⟨t, ht⟩ : ∃ t, rbits (unpack bs size) p n = t := ⟨_, rfl⟩
  rw [ht] at hb hle ⊢
  obtain ⟨lo, p', er⟩ := t
  have hor := top_or n lo hn hle
  have HB := Lib.hid hb
  have HO := Lib.hid hor
  have hn0 : (0 : Int) ≤ (n : Int) := by omega
  clear hb ht h hle hor
  go_enter Try.func54, Try.ntmps54
  go_wp2_with fail
  refine HB.out.mono ?_
  rintro e w2 ⟨rfl, hat2, hgr2⟩
  have HF : Hid (APost B g vb bs size w n (lo, p', er) (.returned (.tuple #[.int .u64 (bits .or .u64 (IntKind.u64.wrap (2 ^ n)) (lo : Int)), .int .i64 (er : Nat)])) w2) := by
    refine ⟨?_, hat2, hgr2⟩
    rw [HO.out]
  clear hat2 hgr2
  go_wp2_with fail
  go_ret2
  exact HF.out

/-- What gamma and delta leave: the error; where there is none, the number and the position. -/
def GPost (B g : Nat) (vb : Value) (bs : List UInt8) (size : Nat) (w : World) (t : Nat × Nat × Nat) (e : Ending) (w' : World) : Prop :=
  ∃ x p' : Nat, e = .returned (.tuple #[.int .u64 (x : Int), .int .i64 (t.2.2 : Nat)]) ∧ (t.2.2 = 0 → x = t.1 ∧ p' = t.2.1) ∧ RAt w' B g vb bs size p' ∧ w.grownBy w' (some g)

set_option maxRecDepth 100000 in
set_option maxHeartbeats 1000000 in
theorem rgamma_in {w : World} {B g : Nat} {vb : Value} {bs : List UInt8} {size p : Nat} (h : RAt w B g vb bs size p) :
    Calls Try.prog 51 #[.pointer (some ⟨g, 0, none⟩)] w (GPost B g vb bs size w (rgam (unpack bs size) p)) := by
  have hz := rzeros_any h 63 (by omega)
  have hv := zr_val ((unpack bs size).drop p) 0 63 (by omega)
  have hae := zr_err ((unpack bs size).drop p) 0 63
  have hrg : rgam (unpack bs size) p = if (zr ((unpack bs size).drop p) 0 63).2 ≠ 0 then (0, p, (zr ((unpack bs size).drop p) 0 63).2)
      else (if (unpack bs size).length - (p + (zr ((unpack bs size).drop p) 0 63).1 + 1) < (zr ((unpack bs size).drop p) 0 63).1 then (0, p, 10)
        else (2 ^ (zr ((unpack bs size).drop p) 0 63).1 + numL (((unpack bs size).drop (p + (zr ((unpack bs size).drop p) 0 63).1 + 1)).take (zr ((unpack bs size).drop p) 0 63).1), p + (zr ((unpack bs size).drop p) 0 63).1 + 1 + (zr ((unpack bs size).drop p) 0 63).1, 0)) := rfl
  obtain ⟨z, hzz⟩ : ∃ z, zr ((unpack bs size).drop p) 0 63 = z := ⟨_, rfl⟩
  rw [hzz] at hz hv hrg hae
  obtain ⟨n, er⟩ := z
  simp only at hv hrg hae
  have HZ := Lib.hid hz
  have HRG := Lib.hid hrg
  clear hz hrg h hzz
  by_cases he : er = 0
  · subst he
    go_enter Try.func51, Try.ntmps51
    go_wp2_with fail
    refine HZ.out.mono ?_
    rintro e w2 ⟨p2, rfl, hp2, hat2, hgr2⟩
    have hp2' := hp2 rfl
    have ha := rafter_any hat2 n hv
    have HA := Lib.hid ha
    have HG := Lib.hid hgr2
    have HP := Lib.hid hp2'
    clear hat2 hgr2 ha hp2 hp2'
    go_wp2_with fail
    refine HA.out.mono ?_
    rintro e w3 ⟨rfl, hat3, hgr3⟩
    have HF : Hid (GPost B g vb bs size w (rgam (unpack bs size) p) (.returned (.tuple #[.int .u64 ((2 ^ n + (rbits (unpack bs size) p2 n).1 : Nat) : Int), .int .i64 ((rbits (unpack bs size) p2 n).2.2 : Nat)])) w3) := by
      rw [HRG.out, if_neg (by simp)]
      rw [HP.out] at hat3 ⊢
      show GPost B g vb bs size w (if (unpack bs size).length - (p + n + 1) < n then (0, p, 10) else (2 ^ n + numL (((unpack bs size).drop (p + n + 1)).take n), p + n + 1 + n, 0)) _ w3
      unfold rbits at hat3 ⊢
      by_cases hlt : (unpack bs size).length - (p + n + 1) < n
      · rw [if_pos hlt] at hat3 ⊢
        rw [if_pos hlt]
        exact ⟨_, _, rfl, (fun h => by cases h), hat3, grown_trans HG.out hgr3⟩
      · rw [if_neg hlt] at hat3 ⊢
        rw [if_neg hlt]
        exact ⟨_, _, rfl, fun _ => ⟨rfl, rfl⟩, hat3, grown_trans HG.out hgr3⟩
    clear hat3 hgr3
    go_wp2_with fail
    go_ret2
    exact HF.out
  · have he' : ((er : Int) != 0) = true := by simp; omega
    go_enter Try.func51, Try.ntmps51
    go_wp2_with fail
    refine HZ.out.mono ?_
    rintro e w2 ⟨p2, rfl, hp2, hat2, hgr2⟩
    have HF : Hid (GPost B g vb bs size w (rgam (unpack bs size) p) (.returned (.tuple #[.int .u64 0, .int .i64 (er : Nat)])) w2) := by
      rw [HRG.out, if_pos he]
      exact ⟨0, _, rfl, fun h => absurd h he, hat2, hgr2⟩
    clear hat2 hgr2 hp2
    go_wp2_with fail
    go_ret2
    exact HF.out
end Go.Proofs.Ytpkikfdbndaekaa
