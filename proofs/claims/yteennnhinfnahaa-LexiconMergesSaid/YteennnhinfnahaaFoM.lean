/-
  FOLDING: what replaces a code point, and the folded form of a string; the walks of lower and FoldRune.
-/
import Derived.Test.YteennnhinfnahaaCpF
namespace Go.Proofs.Yteennnhinfnahaa
open Go.RowKit Go.Shelf Go.Lib

/-- The code point that replaces another one. -/
def foldC (c : Nat) : Nat :=
  if (65 ≤ c ∧ c ≤ 90) ∨ (192 ≤ c ∧ c ≤ 222 ∧ c ≠ 215) ∨ (913 ≤ c ∧ c ≤ 937 ∧ c ≠ 930) ∨ (1040 ≤ c ∧ c ≤ 1071) then c + 32
  else if 1024 ≤ c ∧ c ≤ 1039 then c + 80
  else c
theorem foldC_le (c : Nat) : foldC c ≤ c + 80 := by unfold foldC; split; omega; split <;> omega

theorem encode_bytes (c : Nat) (h : c < 55296 ∨ (57344 ≤ c ∧ c ≤ 1114111)) : (Utf8.encode (c : Int)).data.toList = encodeRune (c : Int) := by
  have hv : Utf8.valid (c : Int) = true := by
    unfold Utf8.valid
    simp
    omega
  unfold Utf8.encode encodeRune
  simp only [hv, if_true, Int.toNat_natCast]
  by_cases h1 : c < 128
  · rw [if_pos h1, encodeRuneZ_one (by omega) (by omega)]
    simp
  · rw [if_neg h1]
    by_cases h2 : c < 2048
    · rw [if_pos h2, encodeRuneZ_two (by omega) (by omega)]
      have e1 : (192 + (c : Int) / 64).toNat = 192 + c / 64 := by omega
      have e2 : (128 + (c : Int) % 64).toNat = 128 + c % 64 := by omega
      simp only [List.map_cons, List.map_nil, e1, e2]
    · rw [if_neg h2]
      by_cases h3 : c < 65536
      · rw [if_pos h3, encodeRuneZ_three (by omega)]
        have e1 : (224 + (c : Int) / 4096).toNat = 224 + c / 4096 := by omega
        have e2 : (128 + (c : Int) / 64 % 64).toNat = 128 + c / 64 % 64 := by omega
        have e3 : (128 + (c : Int) % 64).toNat = 128 + c % 64 := by omega
        simp only [List.map_cons, List.map_nil, e1, e2, e3]
      · rw [if_neg h3, encodeRuneZ_four (by omega) (by omega)]
        have e1 : (240 + (c : Int) / 262144).toNat = 240 + c / 262144 := by omega
        have e2 : (128 + (c : Int) / 4096 % 64).toNat = 128 + c / 4096 % 64 := by omega
        have e3 : (128 + (c : Int) / 64 % 64).toNat = 128 + c / 64 % 64 := by omega
        have e4 : (128 + (c : Int) % 64).toNat = 128 + c % 64 := by omega
        simp only [List.map_cons, List.map_nil, e1, e2, e3, e4]
/-- No unit's code point is half a surrogate pair. -/
theorem decodeL_scalar (l : List UInt8) : (decodeL l).1 < 55296 ∨ (57344 ≤ (decodeL l).1 ∧ (decodeL l).1 ≤ 1114111) := by
  rw [decodeL_N]
  have k0 := (l.getD 0 0).toNat_lt
  have k1 := (l.getD 1 0).toNat_lt
  have k2 := (l.getD 2 0).toNat_lt
  rcases decodeN_shape l.length (l.getD 0 0).toNat (l.getD 1 0).toNat (l.getD 2 0).toNat (l.getD 3 0).toNat with ⟨c, e⟩ | ⟨c1, c2, c3, cv, e⟩ | ⟨c1, c2, c3, c4, cv, cs, e⟩ | ⟨c1, c2, c3, c4, c5, cv, cw, e⟩ | e
  all_goals (rw [e]; dsimp only; omega)
/-- A valid unit's bytes are its code point's encoding. -/
theorem enc_txt (s : ByteArray) (u : U) (hu : u ∈ units s) (hv : badU u = false) : (Utf8.encode (u.c : Int)).data.toList = txt s u := by
  obtain ⟨_, h2, h3, _, _, h5, h6⟩ := units_fit _ _ _ hu
  rw [Nat.sub_zero] at h5 h6
  rw [Nat.zero_add] at h2
  have hne : s.data.toList.drop u.p ≠ [] := by
    intro h
    have := congrArg List.length h
    rw [List.length_drop] at this
    simp only [List.length_nil] at this
    omega
  have hsc := decodeL_scalar (s.data.toList.drop u.p)
  have hbad : ¬ ((decodeL (s.data.toList.drop u.p)).1 = 65533 ∧ (decodeL (s.data.toList.drop u.p)).2 = 1) := by
    rw [← h5, ← h6]
    unfold badU invB at hv
    rw [decide_eq_false_iff_not] at hv
    intro ⟨a, b⟩
    exact hv ⟨by omega, b⟩
  have := encode_decode _ hne hbad
  rw [← h5, ← h6] at this
  rw [encode_bytes _ (by rw [h5]; exact hsc), this]
  rfl

/-- What stands in a unit's place. -/
def pieceF (s : ByteArray) (u : U) : List UInt8 := if badU u then txt s u else (Utf8.encode (foldC u.c : Nat)).data.toList
/-- The folded form of a string. -/
def foldL (s : ByteArray) : List UInt8 := (units s).flatMap (pieceF s)

theorem enc_len (n : Int) : 1 ≤ (Utf8.encode n).data.toList.length ∧ (Utf8.encode n).data.toList.length ≤ 4 := by
  unfold Utf8.encode
  dsimp only
  split
  · split
    · simp
    · split
      · simp
      · split <;> simp
  · split
    · simp
    · split
      · simp
      · split <;> simp

theorem foldC_int (c : Nat) (h1 : c ≠ 215) (h2 : c ≠ 930) : ((foldC c : Nat) : Int) = if (decide ((65 : Int) ≤ c ∧ (c : Int) ≤ 90) || decide ((192 : Int) ≤ c ∧ (c : Int) ≤ 222) || decide ((913 : Int) ≤ c ∧ (c : Int) ≤ 937) || decide ((1040 : Int) ≤ c ∧ (c : Int) ≤ 1071)) = true then (c : Int) + 32 else if decide ((1024 : Int) ≤ c ∧ (c : Int) ≤ 1039) = true then (c : Int) + 80 else (c : Int) := by
  unfold foldC
  simp only [Bool.or_eq_true, decide_eq_true_eq]
  repeat' split
  all_goals omega
end Go.Proofs.Yteennnhinfnahaa
