/-
  PLAIN MATHEMATICS for package bitio, first part: numbers in groups of seven bits: their encoding, and what is read back from bytes.
  PLAIN MATHEMATICS for package bitio, second part: bits as lists, the codes, bits as bytes and back.
  WALKS over package bitio, first part: bits.Len64, shift, a new Writer, its length; what a Writer is in memory.
-/
import Derived.Test.YteennnhinfnahaaProg
import Derived.Test.YteennnhinfnahaaTzA
import Derived.Shelf.Abstract
import Derived.Shelf.RegionOpen
import Derived.WalkKit
import Derived.WalkSpells
import Derived.WalkLawsBesides
import Derived.Lib.Hide
import Derived.Laws.MathBits
import Derived.Laws.BitsAllLaws
import Derived.Deep.AppendLies
import Derived.Deep.OwnRows
import Derived.Below
import Derived.BigQuiet
import Derived.Deep.QuietTactic
import Derived.StillTailTactics
import Derived.Lib.BufferWrite
namespace Go.Proofs.Yteennnhinfnahaa

/-- The encoding of a number. -/
def enc (v : Nat) : List UInt8 := if v < 128 then [UInt8.ofNat v] else UInt8.ofNat (v % 128 + 128) :: enc (v / 128)
termination_by v
decreasing_by omega
theorem enc_lt {v : Nat} (h : v < 128) : enc v = [UInt8.ofNat v] := by rw [enc, if_pos h]
theorem enc_ge {v : Nat} (h : 128 ≤ v) : enc v = UInt8.ofNat (v % 128 + 128) :: enc (v / 128) := by rw [enc, if_neg (by omega)]
theorem toNat_of (n : Nat) (h : n < 256) : (UInt8.ofNat n).toNat = n := by simp; omega

theorem enc_pos (v : Nat) : 1 ≤ (enc v).length := by
  by_cases h : v < 128
  · simp [enc_lt h]
  · simp [enc_ge (Nat.le_of_not_lt h)]
theorem enc_len : ∀ (k v : Nat), v < 2 ^ (7 * (k + 1)) → (enc v).length ≤ k + 1
  | 0, v, h => by
    rw [enc_lt (by omega)]
    simp
  | k + 1, v, h => by
    by_cases hv : v < 128
    · simp [enc_lt hv]
    · rw [enc_ge (by omega), List.length_cons]
      have e : 2 ^ (7 * (k + 1 + 1)) = 128 * 2 ^ (7 * (k + 1)) := by
        rw [show 7 * (k + 1 + 1) = 7 + 7 * (k + 1) by omega, Nat.pow_add]
      have := enc_len k (v / 128) (by omega)
      omega
theorem enc_ten (v : Nat) (h : v < 18446744073709551616) : (enc v).length ≤ 10 := by
  refine enc_len 9 v ?_
  have : (2 : Nat) ^ (7 * (9 + 1)) = 1180591620717411303424 := by decide
  omega
theorem enc_mono (v : Nat) : ∀ w, v ≤ w → (enc v).length ≤ (enc w).length := by
  induction v using Nat.strongRecOn with
  | ind v ih =>
    intro w hw
    by_cases h : v < 128
    · have := enc_pos w
      simp [enc_lt h]
      omega
    · rw [enc_ge (show 128 ≤ v by omega), enc_ge (show 128 ≤ w by omega), List.length_cons, List.length_cons]
      have := ih (v / 128) (by omega) (w / 128) (by omega)
      omega
theorem enc_inj (v : Nat) : ∀ w, enc v = enc w → v = w := by
  induction v using Nat.strongRecOn with
  | ind v ih =>
    intro w he
    by_cases h : v < 128 <;> by_cases h' : w < 128
    · rw [enc_lt h, enc_lt h'] at he
      have := congrArg UInt8.toNat (List.cons.inj he).1
      rw [toNat_of _ (by omega), toNat_of _ (by omega)] at this
      exact this
    · rw [enc_lt h, enc_ge (by omega)] at he
      have := congrArg UInt8.toNat (List.cons.inj he).1
      rw [toNat_of _ (by omega), toNat_of _ (by omega)] at this
      omega
    · rw [enc_lt h', enc_ge (by omega)] at he
      have := congrArg UInt8.toNat (List.cons.inj he).1
      rw [toNat_of _ (by omega), toNat_of _ (by omega)] at this
      omega
    · rw [enc_ge (show 128 ≤ v by omega), enc_ge (show 128 ≤ w by omega)] at he
      have h1 := congrArg UInt8.toNat (List.cons.inj he).1
      rw [toNat_of _ (by omega), toNat_of _ (by omega)] at h1
      have h2 := ih (v / 128) (by omega) (w / 128) (List.cons.inj he).2
      omega

/-- What is read from bytes: the number, the length of its encoding, the error; i bytes have been read, they hold a. -/
def tk : List UInt8 → Nat → Nat → Nat × Nat × Nat
  | [], _, _ => (0, 0, 10)
  | c :: r, i, a =>
    if i = 9 ∧ 1 < c.toNat then (0, 0, 9)
    else if c.toNat < 128 then (if c.toNat = 0 ∧ 0 < i then (0, 0, 9) else (a + c.toNat % 128 * 2 ^ (7 * i), i + 1, 0))
    else tk r (i + 1) (a + c.toNat % 128 * 2 ^ (7 * i))

theorem tk_nil (i a : Nat) : tk [] i a = (0, 0, 10) := rfl
theorem tk_big (c : UInt8) (r : List UInt8) (i a : Nat) (h : i = 9) (h' : 1 < c.toNat) : tk (c :: r) i a = (0, 0, 9) := by
  rw [tk, if_pos ⟨h, h'⟩]
theorem tk_zero (c : UInt8) (r : List UInt8) (i a : Nat) (h : c.toNat = 0) (h' : 0 < i) : tk (c :: r) i a = (0, 0, 9) := by
  rw [tk, if_neg (by omega), if_pos (by omega), if_pos ⟨h, h'⟩]
theorem tk_last (c : UInt8) (r : List UInt8) (i a : Nat) (h0 : ¬ (i = 9 ∧ 1 < c.toNat)) (h : c.toNat < 128) (h' : ¬ (c.toNat = 0 ∧ 0 < i)) : tk (c :: r) i a = (a + c.toNat % 128 * 2 ^ (7 * i), i + 1, 0) := by
  rw [tk, if_neg h0, if_pos h, if_neg h']
theorem tk_more (c : UInt8) (r : List UInt8) (i a : Nat) (h0 : i ≠ 9) (h : 128 ≤ c.toNat) : tk (c :: r) i a = tk r (i + 1) (a + c.toNat % 128 * 2 ^ (7 * i)) := by
  rw [tk, if_neg (by omega), if_neg (by omega)]

theorem tk_back (v : Nat) : ∀ (i a : Nat) (rest : List UInt8), i ≤ 9 → v < 2 ^ (64 - 7 * i) → (0 < i → 0 < v) → tk (enc v ++ rest) i a = (a + v * 2 ^ (7 * i), i + (enc v).length, 0) := by
  induction v using Nat.strongRecOn with
  | ind v ih =>
    intro i a rest hi hv h0
    by_cases h : v < 128
    · rw [enc_lt h]
      have e := toNat_of v (by omega)
      rw [List.cons_append, tk_last _ _ _ _ ?_ (by rw [e]; exact h) (by rw [e]; omega), e, Nat.mod_eq_of_lt h]
      · rfl
      · rintro ⟨rfl, h1⟩
        rw [e] at h1
        have : (2 : Nat) ^ (64 - 7 * 9) = 2 := by decide
        omega
    · have hi9 : i ≠ 9 := by
        rintro rfl
        have : (2 : Nat) ^ (64 - 7 * 9) = 2 := by decide
        omega
      have e := toNat_of (v % 128 + 128) (by omega)
      rw [enc_ge (by omega), List.cons_append, tk_more _ _ _ _ hi9 (by rw [e]; omega), e]
      have e2 : 2 ^ (64 - 7 * i) = 128 * 2 ^ (64 - 7 * (i + 1)) := by
        rw [show 64 - 7 * i = 7 + (64 - 7 * (i + 1)) by omega, Nat.pow_add]
      rw [ih (v / 128) (by omega) (i + 1) _ rest (by omega) (by omega) (by omega), List.length_cons]
      have e3 : 2 ^ (7 * (i + 1)) = 128 * 2 ^ (7 * i) := by
        rw [show 7 * (i + 1) = 7 + 7 * i by omega, Nat.pow_add]
      have e4 : (v % 128 + 128) % 128 = v % 128 := by omega
      have e5 : v % 128 * 2 ^ (7 * i) + v / 128 * (128 * 2 ^ (7 * i)) = v * 2 ^ (7 * i) := by
        rw [← Nat.mul_assoc, ← Nat.add_mul]
        congr 1
        omega
      rw [e3, e4, Nat.add_assoc, e5]
      simp
      omega
theorem tk_short (v : Nat) : ∀ (i a k : Nat), i ≤ 9 → v < 2 ^ (64 - 7 * i) → k < (enc v).length → tk ((enc v).take k) i a = (0, 0, 10) := by
  induction v using Nat.strongRecOn with
  | ind v ih =>
    intro i a k hi hv hk
    match k with
    | 0 => rfl
    | k + 1 =>
      by_cases h : v < 128
      · rw [enc_lt h] at hk
        simp at hk
      · have hi9 : i ≠ 9 := by
          rintro rfl
          have : (2 : Nat) ^ (64 - 7 * 9) = 2 := by decide
          omega
        have e := toNat_of (v % 128 + 128) (by omega)
        rw [enc_ge (by omega)] at hk ⊢
        rw [List.take_succ_cons, tk_more _ _ _ _ hi9 (by rw [e]; omega)]
        have e2 : 2 ^ (64 - 7 * i) = 128 * 2 ^ (64 - 7 * (i + 1)) := by
          rw [show 64 - 7 * i = 7 + (64 - 7 * (i + 1)) by omega, Nat.pow_add]
        exact ih (v / 128) (by omega) (i + 1) _ k (by omega) (by omega) (by simpa using hk)
/-- The values fit. -/
theorem tk_fits : ∀ (l : List UInt8) (i a : Nat), i ≤ 9 → a < 2 ^ (7 * i) → (tk l i a).1 < 18446744073709551616 ∧ (tk l i a).2.1 ≤ i + l.length
  | [], i, a, _, _ => by simp [tk_nil]
  | c :: r, i, a, hi, ha => by
    have e3 : 2 ^ (7 * (i + 1)) = 128 * 2 ^ (7 * i) := by
      rw [show 7 * (i + 1) = 7 + 7 * i by omega, Nat.pow_add]
    have hc : c.toNat % 128 * 2 ^ (7 * i) ≤ 127 * 2 ^ (7 * i) := Nat.mul_le_mul_right _ (by omega)
    by_cases h0 : i = 9 ∧ 1 < c.toNat
    · simp [tk_big c r i a h0.1 h0.2]
    · by_cases h : c.toNat < 128
      · by_cases h1 : c.toNat = 0 ∧ 0 < i
        · simp [tk_zero c r i a h1.1 h1.2]
        · rw [tk_last c r i a h0 h h1]
          refine ⟨?_, by simp⟩
          show a + c.toNat % 128 * 2 ^ (7 * i) < _
          by_cases h9 : i = 9
          · subst h9
            have hp : (2 : Nat) ^ (7 * 9) = 9223372036854775808 := by decide
            rw [hp] at *
            omega
          · have := Nat.pow_le_pow_right (show 0 < 2 by decide) (show 7 * (i + 1) ≤ 63 by omega)
            have hp : (2 : Nat) ^ 63 = 9223372036854775808 := by decide
            omega
      · rw [tk_more c r i a (by omega) (by omega)]
        by_cases h9 : i = 9
        · omega
        · have := tk_fits r (i + 1) (a + c.toNat % 128 * 2 ^ (7 * i)) (by omega) (by omega)
          refine ⟨this.1, ?_⟩
          have := this.2
          simp
          omega
end Go.Proofs.Yteennnhinfnahaa
namespace Go.Proofs.Yteennnhinfnahaa

/-- The n lowest bits of a number, the most significant one first. -/
def low (v : Nat) : Nat → List Bool
  | 0 => []
  | n + 1 => decide (v / 2 ^ n % 2 = 1) :: low v n
theorem low_len (v : Nat) : ∀ n, (low v n).length = n
  | 0 => rfl
  | n + 1 => by simp [low, low_len v n]
theorem low_zero : ∀ n, low 0 n = List.replicate n false
  | 0 => rfl
  | n + 1 => by simp [low, low_zero n, List.replicate_succ]
theorem low_one : low 1 1 = [true] := by decide

/-- The number that bits stand for. -/
def numA (a : Nat) (l : List Bool) : Nat := l.foldl (fun a b => 2 * a + b.toNat) a
def numL (l : List Bool) : Nat := numA 0 l
theorem numA_cons (a : Nat) (b : Bool) (l : List Bool) : numA a (b :: l) = numA (2 * a + b.toNat) l := rfl
theorem numA_snoc (a : Nat) (b : Bool) (l : List Bool) : numA a (l ++ [b]) = 2 * numA a l + b.toNat := by simp [numA]
theorem numL_snoc (b : Bool) (l : List Bool) : numL (l ++ [b]) = 2 * numL l + b.toNat := numA_snoc 0 b l
theorem numA_eq : ∀ (l : List Bool) (a : Nat), numA a l = a * 2 ^ l.length + numL l
  | [], a => by simp [numA, numL]
  | b :: l, a => by
    have e := numA_eq l (2 * 0 + b.toNat)
    have e2 : numL (b :: l) = numA (2 * 0 + b.toNat) l := rfl
    rw [numA_cons, numA_eq l, e2, e, List.length_cons, Nat.pow_succ, Nat.add_mul, Nat.add_mul]
    have : 2 * a * 2 ^ l.length = a * (2 ^ l.length * 2) := by rw [Nat.mul_comm 2 a, Nat.mul_assoc, Nat.mul_comm 2]
    omega
theorem numL_lt : ∀ l : List Bool, numL l < 2 ^ l.length
  | [] => by decide
  | b :: l => by
    have h := numL_lt l
    have h2 : b.toNat ≤ 1 := Bool.toNat_le b
    rw [numL, numA_cons, numA_eq, List.length_cons, Nat.pow_succ]
    have : (2 * 0 + b.toNat) * 2 ^ l.length ≤ 1 * 2 ^ l.length := Nat.mul_le_mul_right _ (by omega)
    omega
theorem bit_toNat (x : Nat) : (decide (x % 2 = 1)).toNat = x % 2 := by
  by_cases h : x % 2 = 1
  · simp [h]
  · simp [h]; omega
theorem numL_low (v : Nat) : ∀ n, numL (low v n) = v % 2 ^ n
  | 0 => by simp [low, numL, numA, Nat.mod_one]
  | n + 1 => by
    have h := numL_low v n
    rw [low, numL, numA_cons, numA_eq, low_len, h, bit_toNat, Nat.pow_succ, Nat.mod_mul]
    rw [Nat.mul_comm (2 ^ n), Nat.mul_zero, Nat.zero_add]
    omega

/-- The greatest N with 2^N at most v. -/
theorem log_lt (v : Nat) (h : v < 18446744073709551616) : Nat.log2 v ≤ 63 := by
  by_cases h0 : v = 0
  · subst h0; decide
  · have := (Nat.log2_lt h0 (k := 64)).2 (by omega)
    omega
theorem log_le (v : Nat) (h : v ≠ 0) : 2 ^ Nat.log2 v ≤ v := Nat.log2_self_le h
theorem lt_log (v : Nat) : v < 2 ^ (Nat.log2 v + 1) := Nat.lt_log2_self
theorem log_half (v : Nat) (h : 2 ≤ v) : Nat.log2 v = Nat.log2 (v / 2) + 1 := by rw [Nat.log2_def, if_pos h]
theorem log_small (v : Nat) (h : v < 2) : Nat.log2 v = 0 := by rw [Nat.log2_def, if_neg (by omega)]

def gam (v : Nat) : List Bool := List.replicate (Nat.log2 v) false ++ low v (Nat.log2 v + 1)
def del (v : Nat) : List Bool := gam (Nat.log2 v + 1) ++ low v (Nat.log2 v)
def una (n : Nat) : List Bool := List.replicate n false ++ [true]
theorem gam_len (v : Nat) : (gam v).length = 2 * Nat.log2 v + 1 := by simp [gam, low_len]; omega
theorem del_len (v : Nat) : (del v).length = Nat.log2 v + 2 * Nat.log2 (Nat.log2 v + 1) + 1 := by simp [del, low_len, gam_len]; omega
theorem una_len (n : Nat) : (una n).length = n + 1 := by simp [una]

/-! Bits as bytes -/
def byteAt (l : List Bool) (k : Nat) : Nat :=
  (l.getD (8 * k) false).toNat * 128 + (l.getD (8 * k + 1) false).toNat * 64 + (l.getD (8 * k + 2) false).toNat * 32 + (l.getD (8 * k + 3) false).toNat * 16 +
  (l.getD (8 * k + 4) false).toNat * 8 + (l.getD (8 * k + 5) false).toNat * 4 + (l.getD (8 * k + 6) false).toNat * 2 + (l.getD (8 * k + 7) false).toNat
theorem byteAt_lt (l : List Bool) (k : Nat) : byteAt l k < 256 := by
  have h := fun i => Bool.toNat_le (l.getD i false)
  have h0 := h (8 * k); have h1 := h (8 * k + 1); have h2 := h (8 * k + 2); have h3 := h (8 * k + 3)
  have h4 := h (8 * k + 4); have h5 := h (8 * k + 5); have h6 := h (8 * k + 6); have h7 := h (8 * k + 7)
  unfold byteAt
  omega
theorem byteAt_bit (l : List Bool) (k j : Nat) (hj : j < 8) : byteAt l k / 2 ^ (7 - j) % 2 = (l.getD (8 * k + j) false).toNat := by
  have h := fun i => Bool.toNat_le (l.getD i false)
  have h0 := h (8 * k); have h1 := h (8 * k + 1); have h2 := h (8 * k + 2); have h3 := h (8 * k + 3)
  have h4 := h (8 * k + 4); have h5 := h (8 * k + 5); have h6 := h (8 * k + 6); have h7 := h (8 * k + 7)
  unfold byteAt
  clear h
  match j, hj with
  | 0, _ => simp only [Nat.sub_zero, Nat.add_zero]; omega
  | 1, _ => simp only [Nat.reduceSub, Nat.reducePow]; omega
  | 2, _ => simp only [Nat.reduceSub, Nat.reducePow]; omega
  | 3, _ => simp only [Nat.reduceSub, Nat.reducePow]; omega
  | 4, _ => simp only [Nat.reduceSub, Nat.reducePow]; omega
  | 5, _ => simp only [Nat.reduceSub, Nat.reducePow]; omega
  | 6, _ => simp only [Nat.reduceSub, Nat.reducePow]; omega
  | 7, _ => simp only [Nat.reduceSub, Nat.reducePow]; omega
theorem getD_old (l : List Bool) (x : Bool) (i : Nat) (h : i < l.length) : (l ++ [x]).getD i false = l.getD i false := by
  simp [List.getD, List.getElem?_append_left h]
theorem getD_at (l : List Bool) (x : Bool) : (l ++ [x]).getD l.length false = x := by simp [List.getD]
theorem getD_far (l : List Bool) (i : Nat) (h : l.length ≤ i) : l.getD i false = false := by
  simp [List.getD, List.getElem?_eq_none h]
theorem byteAt_old (l : List Bool) (x : Bool) (k : Nat) (h : k < l.length / 8) : byteAt (l ++ [x]) k = byteAt l k := by
  unfold byteAt
  rw [getD_old _ _ _ (by omega), getD_old _ _ _ (by omega), getD_old _ _ _ (by omega), getD_old _ _ _ (by omega), getD_old _ _ _ (by omega), getD_old _ _ _ (by omega), getD_old _ _ _ (by omega), getD_old _ _ _ (by omega)]
theorem byteAt_new (l : List Bool) (x : Bool) : byteAt (l ++ [x]) (l.length / 8) = byteAt l (l.length / 8) + x.toNat * 2 ^ (7 - l.length % 8) ∧ byteAt l (l.length / 8) % 2 ^ (8 - l.length % 8) = 0 := by
  have ho := getD_old l x
  have ha := getD_at l x
  have hf := getD_far l
  have hg : ∀ i, l.length < i → (l ++ [x]).getD i false = false := fun i hi => getD_far _ _ (by simp; omega)
  have h := fun i => Bool.toNat_le (l.getD i false)
  obtain ⟨k, hk⟩ : ∃ k, l.length / 8 = k := ⟨_, rfl⟩
  obtain ⟨r, hr⟩ : ∃ r, l.length % 8 = r := ⟨_, rfl⟩
  have hl : l.length = 8 * k + r := by omega
  rw [hk, hr]
  rw [hl] at ha ho hf hg
  have hr8 : r < 8 := by omega
  clear hk hr hl
  unfold byteAt
  match r, hr8 with
  | 0, _ =>
    have f : l.getD (8 * k) false = false := hf _ (by omega)
    have a' : (l ++ [x]).getD (8 * k) false = x := ha
    rw [a', hg (8 * k + 1) (by omega), hg (8 * k + 2) (by omega), hg (8 * k + 3) (by omega), hg (8 * k + 4) (by omega), hg (8 * k + 5) (by omega), hg (8 * k + 6) (by omega), hg (8 * k + 7) (by omega), f, hf (8 * k + 1) (by omega), hf (8 * k + 2) (by omega), hf (8 * k + 3) (by omega), hf (8 * k + 4) (by omega), hf (8 * k + 5) (by omega), hf (8 * k + 6) (by omega), hf (8 * k + 7) (by omega)]
    simp
  | 1, _ =>
    rw [ha, ho (8 * k) (by omega), hg (8 * k + 2) (by omega), hg (8 * k + 3) (by omega), hg (8 * k + 4) (by omega), hg (8 * k + 5) (by omega), hg (8 * k + 6) (by omega), hg (8 * k + 7) (by omega), hf (8 * k + 1) (by omega), hf (8 * k + 2) (by omega), hf (8 * k + 3) (by omega), hf (8 * k + 4) (by omega), hf (8 * k + 5) (by omega), hf (8 * k + 6) (by omega), hf (8 * k + 7) (by omega)]
    (simp <;> omega)
  | 2, _ =>
    rw [ha, ho (8 * k) (by omega), ho (8 * k + 1) (by omega), hg (8 * k + 3) (by omega), hg (8 * k + 4) (by omega), hg (8 * k + 5) (by omega), hg (8 * k + 6) (by omega), hg (8 * k + 7) (by omega), hf (8 * k + 2) (by omega), hf (8 * k + 3) (by omega), hf (8 * k + 4) (by omega), hf (8 * k + 5) (by omega), hf (8 * k + 6) (by omega), hf (8 * k + 7) (by omega)]
    (simp <;> omega)
  | 3, _ =>
    rw [ha, ho (8 * k) (by omega), ho (8 * k + 1) (by omega), ho (8 * k + 2) (by omega), hg (8 * k + 4) (by omega), hg (8 * k + 5) (by omega), hg (8 * k + 6) (by omega), hg (8 * k + 7) (by omega), hf (8 * k + 3) (by omega), hf (8 * k + 4) (by omega), hf (8 * k + 5) (by omega), hf (8 * k + 6) (by omega), hf (8 * k + 7) (by omega)]
    (simp <;> omega)
  | 4, _ =>
    rw [ha, ho (8 * k) (by omega), ho (8 * k + 1) (by omega), ho (8 * k + 2) (by omega), ho (8 * k + 3) (by omega), hg (8 * k + 5) (by omega), hg (8 * k + 6) (by omega), hg (8 * k + 7) (by omega), hf (8 * k + 4) (by omega), hf (8 * k + 5) (by omega), hf (8 * k + 6) (by omega), hf (8 * k + 7) (by omega)]
    (simp <;> omega)
  | 5, _ =>
    rw [ha, ho (8 * k) (by omega), ho (8 * k + 1) (by omega), ho (8 * k + 2) (by omega), ho (8 * k + 3) (by omega), ho (8 * k + 4) (by omega), hg (8 * k + 6) (by omega), hg (8 * k + 7) (by omega), hf (8 * k + 5) (by omega), hf (8 * k + 6) (by omega), hf (8 * k + 7) (by omega)]
    (simp <;> omega)
  | 6, _ =>
    rw [ha, ho (8 * k) (by omega), ho (8 * k + 1) (by omega), ho (8 * k + 2) (by omega), ho (8 * k + 3) (by omega), ho (8 * k + 4) (by omega), ho (8 * k + 5) (by omega), hg (8 * k + 7) (by omega), hf (8 * k + 6) (by omega), hf (8 * k + 7) (by omega)]
    (simp <;> omega)
  | 7, _ =>
    rw [ha, ho (8 * k) (by omega), ho (8 * k + 1) (by omega), ho (8 * k + 2) (by omega), ho (8 * k + 3) (by omega), ho (8 * k + 4) (by omega), ho (8 * k + 5) (by omega), ho (8 * k + 6) (by omega), hf (8 * k + 7) (by omega)]
    (simp <;> omega)

def pack (l : List Bool) : List UInt8 := (List.range ((l.length + 7) / 8)).map fun k => UInt8.ofNat (byteAt l k)
/-- .. with room for one bit more. -/
def pad (l : List Bool) : List UInt8 := (List.range (l.length / 8 + 1)).map fun k => UInt8.ofNat (byteAt l k)
theorem pack_len (l : List Bool) : (pack l).length = (l.length + 7) / 8 := by simp [pack]
theorem pad_len (l : List Bool) : (pad l).length = l.length / 8 + 1 := by simp [pad]
theorem pad_new (l : List Bool) (h : l.length % 8 = 0) : pad l = pack l ++ [0] := by
  have e : (l.length + 7) / 8 = l.length / 8 := by omega
  have hb := (byteAt_new l false).2
  have hl := byteAt_lt l (l.length / 8)
  rw [h] at hb
  simp only [Nat.sub_zero, Nat.reducePow] at hb
  have h0 : byteAt l (l.length / 8) = 0 := by omega
  rw [pad, pack, e, List.range_succ, List.map_append, List.map_cons, List.map_nil, h0]
  rfl
theorem pad_old (l : List Bool) (h : l.length % 8 ≠ 0) : pad l = pack l := by
  have e : (l.length + 7) / 8 = l.length / 8 + 1 := by omega
  rw [pad, pack, e]
theorem pad_at (l : List Bool) : (pad l)[l.length / 8]? = some (UInt8.ofNat (byteAt l (l.length / 8))) := by simp [pad]
theorem pack_snoc (l : List Bool) (x : Bool) : pack (l ++ [x]) = (pad l).set (l.length / 8) (UInt8.ofNat (byteAt l (l.length / 8) + x.toNat * 2 ^ (7 - l.length % 8))) := by
  apply List.ext_getElem?
  intro i
  have e : ((l ++ [x]).length + 7) / 8 = l.length / 8 + 1 := by simp; omega
  rw [pack, e, pad]
  by_cases h : i < l.length / 8
  · have h1 : i < l.length / 8 + 1 := by omega
    rw [List.getElem?_set_ne (by omega)]
    simp [h1, byteAt_old l x i h]
  · by_cases h' : i = l.length / 8
    · subst h'
      rw [List.getElem?_set_self (by simp)]
      simp [(byteAt_new l x).1]
    · rw [List.getElem?_set_ne (by omega)]
      simp [show ¬ i < l.length / 8 + 1 by omega]
/-- Setting a bit. -/
theorem or_add (a b k m : Nat) (hk : 2 ^ k = m) (ha : a % m = 0) (hb : b < m) : a ||| b = a + b := by
  subst hk
  have h := Nat.div_add_mod a (2 ^ k)
  rw [ha, Nat.add_zero] at h
  have := Nat.two_pow_add_eq_or_of_lt hb (a / 2 ^ k)
  rw [h] at this
  exact this.symm
theorem byteAt_or (l : List Bool) (x : Bool) : byteAt l (l.length / 8) ||| x.toNat * 2 ^ (7 - l.length % 8) = byteAt l (l.length / 8) + x.toNat * 2 ^ (7 - l.length % 8) := by
  refine or_add _ _ (8 - l.length % 8) _ rfl (byteAt_new l x).2 ?_
  have e : 2 ^ (8 - l.length % 8) = 2 ^ (7 - l.length % 8) * 2 := by
    rw [← Nat.pow_succ]
    congr 1
    omega
  have h : x.toNat * 2 ^ (7 - l.length % 8) ≤ 1 * 2 ^ (7 - l.length % 8) := Nat.mul_le_mul_right _ (Bool.toNat_le x)
  have : 0 < 2 ^ (7 - l.length % 8) := Nat.pow_pos (by decide)
  omega

/-- Bytes as bits. -/
def unpack (bs : List UInt8) (n : Nat) : List Bool := (List.range n).map fun i => decide ((bs.getD (i / 8) 0).toNat / 2 ^ (7 - i % 8) % 2 = 1)
theorem unpack_len (bs : List UInt8) (n : Nat) : (unpack bs n).length = n := by simp [unpack]
theorem unpack_at (bs : List UInt8) (n i : Nat) (h : i < n) : (unpack bs n)[i]? = some (decide ((bs.getD (i / 8) 0).toNat / 2 ^ (7 - i % 8) % 2 = 1)) := by simp [unpack, h]
theorem pack_at (l : List Bool) (k : Nat) (h : k < (l.length + 7) / 8) : ((pack l).getD k 0).toNat = byteAt l k := by
  have : (pack l)[k]? = some (UInt8.ofNat (byteAt l k)) := by simp [pack, h]
  rw [List.getD, this, Option.getD_some, toNat_of _ (byteAt_lt l k)]
theorem unpack_pack (l : List Bool) : unpack (pack l) l.length = l := by
  apply List.ext_getElem?
  intro i
  by_cases h : i < l.length
  · rw [unpack_at _ _ _ h, pack_at l _ (by omega), byteAt_bit l _ _ (by omega)]
    have e : 8 * (i / 8) + i % 8 = i := by omega
    rw [e]
    have : l.getD i false = l[i] := by simp [List.getD, h]
    rw [this, List.getElem?_eq_getElem h]
    cases l[i] <;> rfl
  · rw [List.getElem?_eq_none (by rw [unpack_len]; omega), List.getElem?_eq_none (by omega)]
end Go.Proofs.Yteennnhinfnahaa
namespace Go.Proofs.Yteennnhinfnahaa
open Go.RowKit Go.Shelf Go.Lib


theorem wrap64_id (n : Int) (h0 : -9223372036854775808 ≤ n) (h1 : n ≤ 9223372036854775807) : wrap64 n = n := by unfold wrap64; omega
theorem len_case (v : Int) (k : Nat) (b : Nat) (c : Int) (hc : c = b) (hb : b ≤ 64) (hv : v.toNat / 2 ^ b = k) (hk : k ≠ 0) (h8 : k < 256) (t : Nat) (ht : t = bitLen k) : wrap64 (c + wrap64 (t : Int)) = (bitLen v.toNat : Int) := by
  subst hc ht
  have h := bitLen_shift v.toNat b (by rw [hv]; exact hk)
  have h2 := bitLen_le8 k h8
  rw [h, hv, wrap64_id (bitLen k : Int) (by omega) (by omega), wrap64_id _ (by omega) (by omega)]
  omega
theorem len_case0 (v : Int) (h0 : 0 ≤ v) (h8 : v < 256) (t : Nat) (ht : t = bitLen v.toNat) : wrap64 (wrap64 (t : Int)) = (bitLen v.toNat : Int) := by
  subst ht
  have h2 := bitLen_le8 v.toNat (by omega)
  rw [wrap64_id (bitLen v.toNat : Int) (by omega) (by omega), wrap64_id _ (by omega) (by omega)]

set_option maxRecDepth 100000 in
set_option maxHeartbeats 4000000 in
theorem len64_any (v : Int) (h0 : 0 ≤ v) (hv : v ≤ 18446744073709551615) (w : World) :
    Calls Try.prog 110 #[.int .u64 v] w fun e w' => e = .returned (.int .i64 (bitLen v.toNat)) ∧ w = w' := by
  go_enter Try.func110, Try.ntmps110
  go_wp2
  all_goals go_ret
  all_goals refine ⟨congrArg Ending.returned (congrArg (Value.int IntKind.i64) ?_), rfl⟩
  · have e : v.toNat / 2 ^ 56 = (v / 4294967296 / 65536 / 256).toNat := by show v.toNat / 72057594037927936 = _; omega
    exact len_case v (v / 4294967296 / 65536 / 256).toNat 56 _ rfl (by omega) e (by omega) (by omega) _ (len8tab_get _ (Nat.lt_of_lt_of_eq (m := 256) (by omega) (by rfl)))
  · have e : v.toNat / 2 ^ 48 = (v / 4294967296 / 65536).toNat := by show v.toNat / 281474976710656 = _; omega
    exact len_case v (v / 4294967296 / 65536).toNat 48 _ rfl (by omega) e (by omega) (by omega) _ (len8tab_get _ (Nat.lt_of_lt_of_eq (m := 256) (by omega) (by rfl)))
  · have e : v.toNat / 2 ^ 40 = (v / 4294967296 / 256).toNat := by show v.toNat / 1099511627776 = _; omega
    exact len_case v (v / 4294967296 / 256).toNat 40 _ rfl (by omega) e (by omega) (by omega) _ (len8tab_get _ (Nat.lt_of_lt_of_eq (m := 256) (by omega) (by rfl)))
  · have e : v.toNat / 2 ^ 32 = (v / 4294967296).toNat := by show v.toNat / 4294967296 = _; omega
    exact len_case v (v / 4294967296).toNat 32 _ rfl (by omega) e (by omega) (by omega) _ (len8tab_get _ (Nat.lt_of_lt_of_eq (m := 256) (by omega) (by rfl)))
  · have e : v.toNat / 2 ^ 24 = (v / 65536 / 256).toNat := by show v.toNat / 16777216 = _; omega
    exact len_case v (v / 65536 / 256).toNat 24 _ rfl (by omega) e (by omega) (by omega) _ (len8tab_get _ (Nat.lt_of_lt_of_eq (m := 256) (by omega) (by rfl)))
  · have e : v.toNat / 2 ^ 16 = (v / 65536).toNat := by show v.toNat / 65536 = _; omega
    exact len_case v (v / 65536).toNat 16 _ rfl (by omega) e (by omega) (by omega) _ (len8tab_get _ (Nat.lt_of_lt_of_eq (m := 256) (by omega) (by rfl)))
  · have e : v.toNat / 2 ^ 8 = (v / 256).toNat := by show v.toNat / 256 = _; omega
    exact len_case v (v / 256).toNat 8 _ rfl (by omega) e (by omega) (by omega) _ (len8tab_get _ (Nat.lt_of_lt_of_eq (m := 256) (by omega) (by rfl)))
  · exact len_case0 v h0 (by omega) _ (len8tab_get _ (Nat.lt_of_lt_of_eq (m := 256) (by omega) (by rfl)))
/-- Len64 of a number that is not 0. -/
theorem len64_log (v : Nat) (hv : v < 18446744073709551616) (h0 : v ≠ 0) (w : World) :
    Calls Try.prog 110 #[.int .u64 v] w fun e w' => e = .returned (.int .i64 ((Nat.log2 v : Nat) + 1)) ∧ w = w' := by
  refine (len64_any v (by omega) (by omega) w).mono ?_
  rintro e w' ⟨rfl, rfl⟩
  refine ⟨?_, rfl⟩
  have : bitLen (v : Int).toNat = Nat.log2 v + 1 := by
    rw [Int.toNat_natCast, bitLen, if_neg h0]
  rw [this]
  rfl

set_option maxHeartbeats 400000 in
theorem shift_any (at_ : Nat) (h : at_ ≤ 1000000000) (w : World) :
    Calls Try.prog 77 #[.int .i64 at_] w fun e w' => e = .returned (.int .i64 (7 - (at_ : Int) % 8)) ∧ w = w' := by
  go_enter Try.func77, Try.ntmps77
  go_wp2
  go_ret
  exact ⟨rfl, rfl⟩

/-- A Writer in memory: its block, and the bytes that it owns. -/
def WAt (w : World) (B g : Nat) (v : Value) (l : List Bool) : Prop :=
  B ≤ g ∧ w.heap[g]? = some (.cells #[v, .int .i64 l.length] 114 (0, 0)) ∧ w.ownsRow B 5 1 v (pack l).length (byteCells (pack l))
/-- What a Writer's method may touch. -/
structure Stepped (g : Nat) (v : Value) (w : World) (v' : Value) (w' : World) : Prop where
  os : w'.os = w.os
  tape : w'.tape = w.tape
  output : w'.output = w.output
  size : w.heap.size ≤ w'.heap.size
  block : ∀ k, k < w.heap.size → k ≠ g → v.ownBlock ≠ some k → w'.heap[k]? = w.heap[k]?
  own : ∀ k, v'.ownBlock = some k → v.ownBlock = some k ∨ w.heap.size ≤ k
theorem Stepped.refl (g : Nat) (v : Value) (w : World) : Stepped g v w v w := ⟨rfl, rfl, rfl, Nat.le_refl _, fun _ _ _ _ => rfl, fun _ h => .inl h⟩
theorem Stepped.trans {g : Nat} {v v1 v2 : Value} {w w1 w2 : World} (h : Stepped g v w v1 w1) (k : Stepped g v1 w1 v2 w2) : Stepped g v w v2 w2 :=
  ⟨k.os.trans h.os, k.tape.trans h.tape, k.output.trans h.output, Nat.le_trans h.size k.size, fun b hb hg hv =>
    (k.block b (Nat.lt_of_lt_of_le hb h.size) hg (fun e => by rcases h.own b e with e | e; exact hv e; omega)).trans (h.block b hb hg hv),
   fun b e => by
    rcases k.own b e with e | e
    · exact h.own b e
    · exact .inr (Nat.le_trans h.size e)⟩
theorem Stepped.below {B g : Nat} {v v' : Value} {w w' : World} (h : Stepped g v w v' w') (hB : B ≤ w.heap.size) (hg : B ≤ g) (hv : ∀ k, v.ownBlock = some k → B ≤ k) : Below B w w' :=
  ⟨h.os, h.tape, h.output, h.size, fun k hk => h.block k (by omega) (by omega) (fun e => by have := hv k e; omega)⟩
theorem WAt.below {w w' : World} {B g : Nat} {v v' : Value} {l : List Bool} (hw : WAt w B g v l) (h : Stepped g v w v' w') (hB : B ≤ w.heap.size) : Below B w w' :=
  h.below hB hw.1 (fun k e => (own_low hw.2.2 k e).1)
theorem WAt.lt {w : World} {B g : Nat} {v : Value} {l : List Bool} (hw : WAt w B g v l) : g < w.heap.size := (Array.getElem?_eq_some_iff.1 hw.2.1).1
theorem WAt.ne {w : World} {B g : Nat} {v : Value} {l : List Bool} (hw : WAt w B g v l) : v.ownBlock ≠ some g := by
  intro e
  obtain ⟨_, h1, h2⟩ := hw
  rcases h2.2 with ⟨rfl, _⟩ | ⟨g', cap, cur, rfl, hb, hh, _⟩
  · simp [Value.ownBlock] at e
  · simp only [Value.ownBlock, Option.some.injEq] at e
    subst e
    rw [h1] at hh
    injection hh with hh
    injection hh with _ ht
    exact absurd ht (by decide)

set_option maxHeartbeats 400000 in
theorem newWriter_any (w : World) :
    Calls Try.prog 41 #[] w fun e w' => e = .returned (.pointer (some ⟨w.heap.size, 0, none⟩)) ∧ w' = w.alloc (.cells #[.slice none 0 0, .int .i64 0] 114) := by
  go_enter Try.func41, Try.ntmps41
  go_wp2
  go_ret
  exact ⟨rfl, rfl⟩
theorem writer_new (w : World) : WAt (w.alloc (.cells #[.slice none 0 0, .int .i64 0] 114)) w.heap.size w.heap.size (.slice none 0 0) [] :=
  ⟨Nat.le_refl _, block_new w _, World.ownsRow_nil _ _ _ _⟩
set_option maxHeartbeats 400000 in
theorem len_any {w : World} {B g : Nat} {v : Value} {l : List Bool} (hw : WAt w B g v l) :
    Calls Try.prog 45 #[.pointer (some ⟨g, 0, none⟩)] w fun e w' => e = .returned (.int .i64 l.length) ∧ w = w' := by
  have c1 := cell_of (i := 1) hw.2.1 rfl
  clear hw
  go_enter Try.func45, Try.ntmps45
  go_wp2
  go_ret
  exact ⟨rfl, rfl⟩
end Go.Proofs.Yteennnhinfnahaa
