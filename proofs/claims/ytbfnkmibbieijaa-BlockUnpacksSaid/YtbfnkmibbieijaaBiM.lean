/-
  PLAIN MATHEMATICS for package bitio, first part: numbers in groups of seven bits: their encoding, and what is read back from bytes.
-/
import Derived.Test.YtbfnkmibbieijaaProg
namespace Go.Proofs.Ytbfnkmibbieijaa

/-- The encoding of a number. -/
def enc (v : Nat) : List UInt8 := if v < 128 then [UInt8.ofNat v] else UInt8.ofNat (v % 128 + 128) :: enc (v / 128)
termination_by v
decreasing_by omega
theorem enc_lt {v : Nat} (h : v < 128) : enc v = [UInt8.ofNat v] := by rw [enc, if_pos h]
theorem enc_ge {v : Nat} (h : 128 ≤ v) : enc v = UInt8.ofNat (v % 128 + 128) :: enc (v / 128) := by rw [enc, if_neg (by omega)]
theorem toNat_of (n : Nat) (h : n < 256) : (UInt8.ofNat n).toNat = n := by simp; omega

theorem enc_pos (v : Nat) : 1 ≤ (enc v).length := by
  by_cases h : v < 128
  · simp [enc_lt h]
  · simp [enc_ge (Nat.le_of_not_lt h)]
theorem enc_len : ∀ (k v : Nat), v < 2 ^ (7 * (k + 1)) → (enc v).length ≤ k + 1
  | 0, v, h => by
    rw [enc_lt (by omega)]
    simp
  | k + 1, v, h => by
    by_cases hv : v < 128
    · simp [enc_lt hv]
    · rw [enc_ge (by omega), List.length_cons]
      have e : 2 ^ (7 * (k + 1 + 1)) = 128 * 2 ^ (7 * (k + 1)) := by
        rw [show 7 * (k + 1 + 1) = 7 + 7 * (k + 1) by omega, Nat.pow_add]
      have := enc_len k (v / 128) (by omega)
      omega
theorem enc_ten (v : Nat) (h : v < 18446744073709551616) : (enc v).length ≤ 10 := by
  refine enc_len 9 v ?_
  have : (2 : Nat) ^ (7 * (9 + 1)) = 1180591620717411303424 := by decide
  omega
theorem enc_mono (v : Nat) : ∀ w, v ≤ w → (enc v).length ≤ (enc w).length := by
  induction v using Nat.strongRecOn with
  | ind v ih =>
    intro w hw
    by_cases h : v < 128
    · have := enc_pos w
      simp [enc_lt h]
      omega
    · rw [enc_ge (show 128 ≤ v by omega), enc_ge (show 128 ≤ w by omega), List.length_cons, List.length_cons]
      have := ih (v / 128) (by omega) (w / 128) (by omega)
      omega
theorem enc_inj (v : Nat) : ∀ w, enc v = enc w → v = w := by
  induction v using Nat.strongRecOn with
  | ind v ih =>
    intro w he
    by_cases h : v < 128 <;> by_cases h' : w < 128
    · rw [enc_lt h, enc_lt h'] at he
      have := congrArg UInt8.toNat (List.cons.inj he).1
      rw [toNat_of _ (by omega), toNat_of _ (by omega)] at this
      exact this
    · rw [enc_lt h, enc_ge (by omega)] at he
      have := congrArg UInt8.toNat (List.cons.inj he).1
      rw [toNat_of _ (by omega), toNat_of _ (by omega)] at this
      omega
    · rw [enc_lt h', enc_ge (by omega)] at he
      have := congrArg UInt8.toNat (List.cons.inj he).1
      rw [toNat_of _ (by omega), toNat_of _ (by omega)] at this
      omega
    · rw [enc_ge (show 128 ≤ v by omega), enc_ge (show 128 ≤ w by omega)] at he
      have h1 := congrArg UInt8.toNat (List.cons.inj he).1
      rw [toNat_of _ (by omega), toNat_of _ (by omega)] at h1
      have h2 := ih (v / 128) (by omega) (w / 128) (List.cons.inj he).2
      omega

/-- What is read from bytes: the number, the length of its encoding, the error; i bytes have been read, they hold a. -/
def tk : List UInt8 → Nat → Nat → Nat × Nat × Nat
  | [], _, _ => (0, 0, 10)
  | c :: r, i, a =>
    if i = 9 ∧ 1 < c.toNat then (0, 0, 9)
    else if c.toNat < 128 then (if c.toNat = 0 ∧ 0 < i then (0, 0, 9) else (a + c.toNat % 128 * 2 ^ (7 * i), i + 1, 0))
    else tk r (i + 1) (a + c.toNat % 128 * 2 ^ (7 * i))

theorem tk_nil (i a : Nat) : tk [] i a = (0, 0, 10) := rfl
theorem tk_big (c : UInt8) (r : List UInt8) (i a : Nat) (h : i = 9) (h' : 1 < c.toNat) : tk (c :: r) i a = (0, 0, 9) := by
  rw [tk, if_pos ⟨h, h'⟩]
theorem tk_zero (c : UInt8) (r : List UInt8) (i a : Nat) (h : c.toNat = 0) (h' : 0 < i) : tk (c :: r) i a = (0, 0, 9) := by
  rw [tk, if_neg (by omega), if_pos (by omega), if_pos ⟨h, h'⟩]
theorem tk_last (c : UInt8) (r : List UInt8) (i a : Nat) (h0 : ¬ (i = 9 ∧ 1 < c.toNat)) (h : c.toNat < 128) (h' : ¬ (c.toNat = 0 ∧ 0 < i)) : tk (c :: r) i a = (a + c.toNat % 128 * 2 ^ (7 * i), i + 1, 0) := by
  rw [tk, if_neg h0, if_pos h, if_neg h']
theorem tk_more (c : UInt8) (r : List UInt8) (i a : Nat) (h0 : i ≠ 9) (h : 128 ≤ c.toNat) : tk (c :: r) i a = tk r (i + 1) (a + c.toNat % 128 * 2 ^ (7 * i)) := by
  rw [tk, if_neg (by omega), if_neg (by omega)]

theorem tk_back (v : Nat) : ∀ (i a : Nat) (rest : List UInt8), i ≤ 9 → v < 2 ^ (64 - 7 * i) → (0 < i → 0 < v) → tk (enc v ++ rest) i a = (a + v * 2 ^ (7 * i), i + (enc v).length, 0) := by
  induction v using Nat.strongRecOn with
  | ind v ih =>
    intro i a rest hi hv h0
    by_cases h : v < 128
    · rw [enc_lt h]
      have e := toNat_of v (by omega)
      rw [List.cons_append, tk_last _ _ _ _ ?_ (by rw [e]; exact h) (by rw [e]; omega), e, Nat.mod_eq_of_lt h]
      · rfl
      · rintro ⟨rfl, h1⟩
        rw [e] at h1
        have : (2 : Nat) ^ (64 - 7 * 9) = 2 := by decide
        omega
    · have hi9 : i ≠ 9 := by
        rintro rfl
        have : (2 : Nat) ^ (64 - 7 * 9) = 2 := by decide
        omega
      have e := toNat_of (v % 128 + 128) (by omega)
      rw [enc_ge (by omega), List.cons_append, tk_more _ _ _ _ hi9 (by rw [e]; omega), e]
      have e2 : 2 ^ (64 - 7 * i) = 128 * 2 ^ (64 - 7 * (i + 1)) := by
        rw [show 64 - 7 * i = 7 + (64 - 7 * (i + 1)) by omega, Nat.pow_add]
      rw [ih (v / 128) (by omega) (i + 1) _ rest (by omega) (by omega) (by omega), List.length_cons]
      have e3 : 2 ^ (7 * (i + 1)) = 128 * 2 ^ (7 * i) := by
        rw [show 7 * (i + 1) = 7 + 7 * i by omega, Nat.pow_add]
      have e4 : (v % 128 + 128) % 128 = v % 128 := by omega
      have e5 : v % 128 * 2 ^ (7 * i) + v / 128 * (128 * 2 ^ (7 * i)) = v * 2 ^ (7 * i) := by
        rw [← Nat.mul_assoc, ← Nat.add_mul]
        congr 1
        omega
      rw [e3, e4, Nat.add_assoc, e5]
      simp
      omega
theorem tk_short (v : Nat) : ∀ (i a k : Nat), i ≤ 9 → v < 2 ^ (64 - 7 * i) → k < (enc v).length → tk ((enc v).take k) i a = (0, 0, 10) := by
  induction v using Nat.strongRecOn with
  | ind v ih =>
    intro i a k hi hv hk
    match k with
    | 0 => rfl
    | k + 1 =>
      by_cases h : v < 128
      · rw [enc_lt h] at hk
        simp at hk
      · have hi9 : i ≠ 9 := by
          rintro rfl
          have : (2 : Nat) ^ (64 - 7 * 9) = 2 := by decide
          omega
        have e := toNat_of (v % 128 + 128) (by omega)
        rw [enc_ge (by omega)] at hk ⊢
        rw [List.take_succ_cons, tk_more _ _ _ _ hi9 (by rw [e]; omega)]
        have e2 : 2 ^ (64 - 7 * i) = 128 * 2 ^ (64 - 7 * (i + 1)) := by
          rw [show 64 - 7 * i = 7 + (64 - 7 * (i + 1)) by omega, Nat.pow_add]
        exact ih (v / 128) (by omega) (i + 1) _ k (by omega) (by omega) (by simpa using hk)
/-- The values fit. -/
theorem tk_fits : ∀ (l : List UInt8) (i a : Nat), i ≤ 9 → a < 2 ^ (7 * i) → (tk l i a).1 < 18446744073709551616 ∧ (tk l i a).2.1 ≤ i + l.length
  | [], i, a, _, _ => by simp [tk_nil]
  | c :: r, i, a, hi, ha => by
    have e3 : 2 ^ (7 * (i + 1)) = 128 * 2 ^ (7 * i) := by
      rw [show 7 * (i + 1) = 7 + 7 * i by omega, Nat.pow_add]
    have hc : c.toNat % 128 * 2 ^ (7 * i) ≤ 127 * 2 ^ (7 * i) := Nat.mul_le_mul_right _ (by omega)
    by_cases h0 : i = 9 ∧ 1 < c.toNat
    · simp [tk_big c r i a h0.1 h0.2]
    · by_cases h : c.toNat < 128
      · by_cases h1 : c.toNat = 0 ∧ 0 < i
        · simp [tk_zero c r i a h1.1 h1.2]
        · rw [tk_last c r i a h0 h h1]
          refine ⟨?_, by simp⟩
          show a + c.toNat % 128 * 2 ^ (7 * i) < _
          by_cases h9 : i = 9
          · subst h9
            have hp : (2 : Nat) ^ (7 * 9) = 9223372036854775808 := by decide
            rw [hp] at *
            omega
          · have := Nat.pow_le_pow_right (show 0 < 2 by decide) (show 7 * (i + 1) ≤ 63 by omega)
            have hp : (2 : Nat) ^ 63 = 9223372036854775808 := by decide
            omega
      · rw [tk_more c r i a (by omega) (by omega)]
        by_cases h9 : i = 9
        · omega
        · have := tk_fits r (i + 1) (a + c.toNat % 128 * 2 ^ (7 * i)) (by omega) (by omega)
          refine ⟨this.1, ?_⟩
          have := this.2
          simp
          omega
end Go.Proofs.Ytbfnkmibbieijaa
