/-
  PLAIN MATHEMATICS for package checksum: CRC-32C of bytes as a linear map on numbers; joined strings, exclusive or, sealed strings, bursts; columns, tables, single bits.
-/
import Derived.Test.YtifdencdbpdbfaaDoorProg
namespace Go.Proofs.YtifdencdbpdbfaaDoor

/-- One bit of the check: shift, and the generator where a 1 falls out. It is said for every number, however long. -/
def st (v : Nat) : Nat := if v % 2 = 1 then v / 2 ^^^ 2197175160 else v / 2
def sts : Nat → Nat → Nat
  | 0, v => v
  | n + 1, v => sts n (st v)

theorem xor_swap (a b c : Nat) : a ^^^ (b ^^^ c) = b ^^^ (a ^^^ c) := by rw [← Nat.xor_assoc, ← Nat.xor_assoc, Nat.xor_comm a b]
theorem xor_twice (a b : Nat) : a ^^^ (a ^^^ b) = b := by rw [← Nat.xor_assoc, Nat.xor_self, Nat.zero_xor]
theorem xor_four (a b c d : Nat) : (a ^^^ b) ^^^ (c ^^^ d) = (a ^^^ c) ^^^ (b ^^^ d) := by
  rw [Nat.xor_assoc, Nat.xor_assoc, xor_swap b c d]
theorem eq_of_xor {a b : Nat} (h : a ^^^ b = 0) : a = b := by
  have := xor_twice a b
  rw [h, Nat.xor_zero] at this
  exact this

theorem st_zero : st 0 = 0 := rfl
theorem st_xor (a b : Nat) : st (a ^^^ b) = st a ^^^ st b := by
  unfold st
  have h := @Nat.xor_mod_two_eq_one a b
  rw [Nat.xor_div_two]
  by_cases ha : a % 2 = 1
  · by_cases hb : b % 2 = 1
    · rw [if_neg (by rw [h]; simp [ha, hb]), if_pos ha, if_pos hb, xor_four, Nat.xor_self, Nat.xor_zero]
    · rw [if_pos (by rw [h]; simp [ha, hb]), if_pos ha, if_neg hb, Nat.xor_assoc, Nat.xor_assoc, Nat.xor_comm (b / 2)]
  · by_cases hb : b % 2 = 1
    · rw [if_pos (by rw [h]; simp [ha, hb]), if_neg ha, if_pos hb, Nat.xor_assoc]
    · rw [if_neg (by rw [h]; simp [ha, hb]), if_neg ha, if_neg hb]
theorem st_lt {v : Nat} (h : v < 4294967296) : st v < 4294967296 := by
  unfold st
  split
  · exact Nat.xor_lt_two_pow (n := 32) (by omega) (by decide)
  · omega
theorem st_ne {v : Nat} (h : v < 4294967296) (h0 : v ≠ 0) : st v ≠ 0 := by
  unfold st
  split
  · intro e
    have e := eq_of_xor e
    omega
  · omega
theorem st_even (v : Nat) : st (2 * v) = v := by
  unfold st
  rw [if_neg (by omega)]
  omega

theorem sts_zero : ∀ n, sts n 0 = 0
  | 0 => rfl
  | n + 1 => by rw [sts, st_zero, sts_zero n]
theorem sts_xor : ∀ (n a b : Nat), sts n (a ^^^ b) = sts n a ^^^ sts n b
  | 0, _, _ => rfl
  | n + 1, a, b => by rw [sts, st_xor, sts_xor n]; rfl
theorem sts_lt : ∀ (n : Nat) {v : Nat}, v < 4294967296 → sts n v < 4294967296
  | 0, _, h => h
  | n + 1, _, h => sts_lt n (st_lt h)
theorem sts_ne : ∀ (n : Nat) {v : Nat}, v < 4294967296 → v ≠ 0 → sts n v ≠ 0
  | 0, _, _, h => h
  | n + 1, _, h, h0 => sts_ne n (st_lt h) (st_ne h h0)
theorem sts_add : ∀ (m n v : Nat), sts (m + n) v = sts n (sts m v)
  | 0, n, v => by rw [Nat.zero_add]; rfl
  | m + 1, n, v => by rw [Nat.succ_add_eq_add_succ m n, Nat.add_succ, sts, sts_add m n]; rfl
theorem sts_shift : ∀ (n v : Nat), sts n (2 ^ n * v) = v
  | 0, v => by simp [sts]
  | n + 1, v => by rw [sts, show 2 ^ (n + 1) * v = 2 * (2 ^ n * v) by rw [Nat.pow_succ, Nat.mul_comm (2 ^ n) 2, Nat.mul_assoc], st_even, sts_shift n]
theorem sts_eight (v : Nat) : sts 8 (256 * v) = v := sts_shift 8 v

/-- The value behind bytes, from a value in front of them. -/
def crc : Nat → List UInt8 → Nat
  | v, [] => v
  | v, c :: l => crc (sts 8 (v ^^^ c.toNat)) l
/-- The sum of bytes. -/
def sumL (l : List UInt8) : Nat := 4294967295 ^^^ crc 4294967295 l
/-- Bytes as a number, the least significant first. -/
def leN : List UInt8 → Nat
  | [] => 0
  | c :: l => c.toNat + 256 * leN l

theorem crc_app : ∀ (a b : List UInt8) (v : Nat), crc v (a ++ b) = crc (crc v a) b
  | [], _, _ => rfl
  | _ :: a, b, _ => crc_app a b _
theorem crc_snoc (a : List UInt8) (c : UInt8) (v : Nat) : crc v (a ++ [c]) = sts 8 (crc v a ^^^ c.toNat) := by rw [crc_app]; rfl
theorem byte_lt (c : UInt8) : c.toNat < 256 := UInt8.toNat_lt c
theorem crc_lt : ∀ (l : List UInt8) {v : Nat}, v < 4294967296 → crc v l < 4294967296
  | [], _, h => h
  | c :: l, _, h => crc_lt l (sts_lt 8 (Nat.xor_lt_two_pow (n := 32) h (by have := byte_lt c; omega)))
theorem sumL_lt (l : List UInt8) : sumL l < 4294967296 := Nat.xor_lt_two_pow (n := 32) (by decide) (crc_lt l (by decide))
theorem sumL_nil : sumL [] = 0 := Nat.xor_self _
theorem crc_sum (l : List UInt8) : crc 4294967295 l = 4294967295 ^^^ sumL l := (xor_twice _ _).symm

theorem add_xor (c : Nat) (h : c < 256) (n : Nat) : c + 256 * n = c ^^^ 256 * n := by
  apply Nat.eq_of_testBit_eq
  intro j
  rw [Nat.testBit_xor, Nat.add_comm, Nat.testBit_two_pow_mul_add (i := 8) n h]
  have e : (256 * n).testBit j = (decide (8 ≤ j) && n.testBit (j - 8)) := by
    rw [Nat.mul_comm]; exact Nat.testBit_mul_two_pow n j 8
  rw [e]
  by_cases hj : j < 8
  · rw [if_pos hj]; simp [show ¬ 8 ≤ j by omega]
  · rw [if_neg hj, Nat.testBit_lt_two_pow (Nat.lt_of_lt_of_le h (Nat.pow_le_pow_right (n := 2) (by decide) (show 8 ≤ j by omega)))]
    simp [show 8 ≤ j by omega]
/-- Bytes are taken in as the bits of one number. -/
theorem crc_num (l : List UInt8) : ∀ v : Nat, crc v l = sts (8 * l.length) (v ^^^ leN l) := by
  induction l with
  | nil => intro v; rw [leN, Nat.xor_zero]; rfl
  | cons c l ih =>
    intro v
    have h1 : crc v (c :: l) = crc (sts 8 (v ^^^ c.toNat)) l := rfl
    have h2 : leN (c :: l) = c.toNat ^^^ 256 * leN l := add_xor _ (byte_lt c) _
    have h3 : 8 * (c :: l).length = 8 + 8 * l.length := by rw [List.length_cons]; omega
    have h4 : sts 8 ((v ^^^ c.toNat) ^^^ 256 * leN l) = sts 8 (v ^^^ c.toNat) ^^^ leN l := (sts_xor 8 (v ^^^ c.toNat) (256 * leN l)).trans (congrArg (sts 8 (v ^^^ c.toNat) ^^^ ·) (sts_eight (leN l)))
    rw [h1, h2, h3, ih, ← Nat.xor_assoc, sts_add, h4]
/-- What stands in front goes through as it would through bytes 0. -/
theorem crc_xor (u v : Nat) (l : List UInt8) : crc (u ^^^ v) l = sts (8 * l.length) u ^^^ crc v l := by
  rw [crc_num l (u ^^^ v), crc_num l v, Nat.xor_assoc, sts_xor]
theorem sum_app (a b : List UInt8) : sumL (a ++ b) = sts (8 * b.length) (sumL a) ^^^ sumL b := by
  have h : crc 4294967295 (a ++ b) = sts (8 * b.length) (sumL a) ^^^ crc 4294967295 b := by
    rw [crc_app, crc_sum a, Nat.xor_comm, crc_xor]
  show 4294967295 ^^^ crc 4294967295 (a ++ b) = _
  rw [h, xor_swap]
  rfl

/-- What Combine answers (P3.2). -/
def comb (x y n : Nat) : Nat := sts (8 * n) x ^^^ y
theorem comb_sum (a b : List UInt8) : comb (sumL a) (sumL b) b.length = sumL (a ++ b) := (sum_app a b).symm
theorem comb_chain (x y z i j : Nat) : comb (comb x y i) z j = comb x (comb y z j) (i + j) := by
  unfold comb
  rw [show 8 * (i + j) = 8 * i + 8 * j by omega, sts_add, sts_xor, Nat.xor_assoc]
theorem comb_lt {x y : Nat} (hx : x < 4294967296) (hy : y < 4294967296) (n : Nat) : comb x y n < 4294967296 := Nat.xor_lt_two_pow (n := 32) (sts_lt _ hx) hy

/-- The exclusive or of two strings of one length. -/
def xorL : List UInt8 → List UInt8 → List UInt8
  | a :: x, b :: y => (a ^^^ b) :: xorL x y
  | _, _ => []
theorem xorL_len : ∀ (x y : List UInt8), x.length = y.length → (xorL x y).length = x.length
  | [], [], _ => rfl
  | a :: x, b :: y, h => by
    rw [xorL, List.length_cons, List.length_cons, xorL_len x y (by simpa using h)]
theorem crc_xorL : ∀ (x y : List UInt8) (u v : Nat), x.length = y.length → crc (u ^^^ v) (xorL x y) = crc u x ^^^ crc v y
  | [], [], _, _, _ => rfl
  | a :: x, b :: y, u, v, h => by
    have e : (u ^^^ v) ^^^ (a ^^^ b).toNat = (u ^^^ a.toNat) ^^^ (v ^^^ b.toNat) := by rw [UInt8.toNat_xor, xor_four]
    have h1 : crc (u ^^^ v) (xorL (a :: x) (b :: y)) = crc (sts 8 ((u ^^^ v) ^^^ (a ^^^ b).toNat)) (xorL x y) := rfl
    rw [h1, e, sts_xor, crc_xorL x y _ _ (by simpa using h)]
    rfl
theorem sum_xor (a b c : List UInt8) (hab : a.length = b.length) (hbc : b.length = c.length) : sumL (xorL (xorL a b) c) = (sumL a ^^^ sumL b) ^^^ sumL c := by
  have h1 := crc_xorL (xorL a b) c (4294967295 ^^^ 4294967295) 4294967295 (by rw [xorL_len a b hab]; omega)
  rw [crc_xorL a b _ _ hab, Nat.xor_self, Nat.zero_xor] at h1
  rw [sumL, h1, crc_sum a, crc_sum b, crc_sum c, xor_four 4294967295 (sumL a) 4294967295 (sumL b), Nat.xor_self, Nat.zero_xor, xor_swap (sumL a ^^^ sumL b), xor_twice]

/-- The four bytes of a number, the least significant first. -/
def le4 (s : Nat) : List UInt8 := [UInt8.ofNat s, UInt8.ofNat (s / 256), UInt8.ofNat (s / 65536), UInt8.ofNat (s / 16777216)]
def sealL (l : List UInt8) : List UInt8 := l ++ le4 (sumL l)
theorem le4_num {s : Nat} (h : s < 4294967296) : leN (le4 s) = s := by
  simp only [le4, leN, UInt8.toNat_ofNat']
  omega
theorem leN_app : ∀ (a b : List UInt8), leN (a ++ b) = leN a + 2 ^ (8 * a.length) * leN b
  | [], b => by simp [leN]
  | c :: a, b => by
    rw [List.cons_append, leN, leN_app a b, leN, List.length_cons, show 8 * (a.length + 1) = 8 * a.length + 8 by omega, Nat.pow_add, Nat.mul_add, Nat.add_assoc]
    rw [show (2 : Nat) ^ 8 = 256 by rfl, Nat.mul_comm (2 ^ (8 * a.length)) 256, Nat.mul_assoc]
theorem leN_lt : ∀ l : List UInt8, leN l < 2 ^ (8 * l.length)
  | [] => by simp [leN]
  | c :: l => by
    have := leN_lt l
    have := byte_lt c
    rw [leN, List.length_cons, show 8 * (l.length + 1) = 8 * l.length + 8 by omega, Nat.pow_add]
    omega
/-- A sealed string leaves one and the same value behind, whatever the payload. -/
theorem crc_seal (l : List UInt8) : crc 4294967295 (sealL l) = sts 32 4294967295 := by
  rw [sealL, crc_app, crc_num (le4 _), le4_num (sumL_lt l), crc_sum l, Nat.xor_assoc, Nat.xor_self, Nat.xor_zero]
  rfl
theorem seal_len (l : List UInt8) : (sealL l).length = l.length + 4 := by simp [sealL, le4]
/-- Two sealed strings of one length don't differ by a burst. -/
theorem no_burst (a b : List UInt8) (hl : (sealL a).length = (sealL b).length) (p at' : Nat) (hp : p < 4294967296) (h0 : p ≠ 0) (ha : at' ≤ 8 * (sealL a).length) (h : leN (sealL b) = leN (sealL a) ^^^ 2 ^ at' * p) : False := by
  have h1 := crc_seal a
  have h2 := crc_seal b
  rw [crc_num] at h1 h2
  rw [← hl, h, ← Nat.xor_assoc, sts_xor, h1] at h2
  have h3 : sts (8 * (sealL a).length) (2 ^ at' * p) = 0 := by
    have := congrArg (sts 32 4294967295 ^^^ ·) h2
    simp only [xor_twice, Nat.xor_self] at this
    exact this
  have h4 : 8 * (sealL a).length = at' + (8 * (sealL a).length - at') := by omega
  rw [h4, sts_add, sts_shift] at h3
  exact sts_ne _ hp h0 h3

/-! Matrices as columns, tables, single bits. -/
theorem two_xor (k a b : Nat) : 2 ^ k * (a ^^^ b) = 2 ^ k * a ^^^ 2 ^ k * b := by
  rw [Nat.mul_comm, Nat.mul_comm _ a, Nat.mul_comm _ b, ← Nat.shiftLeft_eq, ← Nat.shiftLeft_eq, ← Nat.shiftLeft_eq, Nat.shiftLeft_xor_distrib]
theorem low_xor (k v : Nat) : v = v % 2 ^ k ^^^ 2 ^ k * (v / 2 ^ k) := by
  apply Nat.eq_of_testBit_eq
  intro j
  rw [Nat.testBit_xor, Nat.testBit_mod_two_pow, Nat.mul_comm, Nat.testBit_mul_two_pow, Nat.testBit_div_two_pow]
  by_cases h : j < k
  · simp [h, show ¬ k ≤ j by omega]
  · simp [h, show k ≤ j by omega]
theorem mod_step (v i : Nat) : v % 2 ^ (i + 1) = v % 2 ^ i ^^^ (if v / 2 ^ i % 2 = 1 then 2 ^ i else 0) := by
  have h1 := low_xor i (v % 2 ^ (i + 1))
  have e1 : v % 2 ^ (i + 1) % 2 ^ i = v % 2 ^ i := Nat.mod_mod_of_dvd v (Nat.pow_dvd_pow 2 (Nat.le_succ i))
  have e2 : v % 2 ^ (i + 1) / 2 ^ i = v / 2 ^ i % 2 := by
    rw [Nat.pow_succ, Nat.mod_mul_right_div_self]
  rw [e1, e2] at h1
  rw [h1]
  by_cases h : v / 2 ^ i % 2 = 1
  · rw [if_pos h, h, Nat.mul_one]
  · rw [if_neg h, show v / 2 ^ i % 2 = 0 by omega, Nat.mul_zero]
/-- One column more, for a map that keeps the exclusive or. -/
theorem lin_step (f : Nat → Nat) (h0 : f 0 = 0) (hf : ∀ a b, f (a ^^^ b) = f a ^^^ f b) (v i : Nat) :
    f (v % 2 ^ (i + 1)) = f (v % 2 ^ i) ^^^ (if v / 2 ^ i % 2 = 1 then f (2 ^ i) else 0) := by
  rw [mod_step, hf]
  split
  · rfl
  · rw [h0]
/-- Eight bits by a table. -/
theorem table_step (v c : Nat) (hc : c < 256) : sts 8 (v ^^^ c) = sts 8 ((v ^^^ c) % 256) ^^^ v / 256 := by
  have h := low_xor 8 (v ^^^ c)
  have e : (v ^^^ c) / 256 = v / 256 := by
    have := @Nat.xor_div_two_pow v c 8
    rw [show (2 : Nat) ^ 8 = 256 by rfl, Nat.div_eq_of_lt hc, Nat.xor_zero] at this
    exact this
  rw [show (2 : Nat) ^ 8 = 256 by rfl, e] at h
  have h2 := congrArg (sts 8) h
  rw [h2, sts_xor 8 ((v ^^^ c) % 256) (256 * (v / 256)), sts_eight]
/-- One bit of a byte string exchanged. -/
theorem leN_flip : ∀ (l : List UInt8) (q : Nat) (h : q < 8 * l.length), leN (l.set (q / 8) (l[q / 8]'(by omega) ^^^ UInt8.ofNat (2 ^ (q % 8)))) = leN l ^^^ 2 ^ q
  | [], q, h => by simp at h
  | c :: l, q, h => by
    have h8 : ∀ n : Nat, c.toNat + 256 * n = c.toNat ^^^ 256 * n := add_xor _ (byte_lt c)
    by_cases hq : q < 8
    · have e0 : q / 8 = 0 := by omega
      have em : q % 8 = q := by omega
      have hp : 2 ^ q < 256 := Nat.pow_lt_pow_right (a := 2) (by decide) (show q < 8 by omega)
      have hx : (c ^^^ UInt8.ofNat (2 ^ q)).toNat = c.toNat ^^^ 2 ^ q := by
        rw [UInt8.toNat_xor, UInt8.toNat_ofNat', Nat.mod_eq_of_lt hp]
      simp only [e0, em, List.set_cons_zero, List.getElem_cons_zero, leN]
      rw [hx, add_xor _ (Nat.xor_lt_two_pow (n := 8) (byte_lt c) hp), h8, Nat.xor_assoc, Nat.xor_comm (2 ^ q), Nat.xor_assoc]
    · obtain ⟨r, rfl⟩ : ∃ r, q = r + 8 := ⟨q - 8, by omega⟩
      have e0 : (r + 8) / 8 = r / 8 + 1 := by omega
      have em : (r + 8) % 8 = r % 8 := by omega
      have ih := leN_flip l r (by simp only [List.length_cons] at h; omega)
      simp only [e0, em, List.set_cons_succ, List.getElem_cons_succ, leN]
      have e : 256 * (leN l ^^^ 2 ^ r) = 256 * leN l ^^^ 2 ^ (r + 8) := by
        have := two_xor 8 (leN l) (2 ^ r)
        rw [Nat.pow_add, Nat.mul_comm (2 ^ r)]
        exact this
      rw [ih, h8, e, h8, Nat.xor_assoc]
theorem flip_len (l : List UInt8) (k : Nat) (x : UInt8) : (l.set k x).length = l.length := List.length_set
/-- One step of a burst: bit i of the pattern, from bit at' on. -/
theorem burst_step (n at' v i : Nat) : n ^^^ 2 ^ at' * (v % 2 ^ (i + 1)) = if v / 2 ^ i % 2 = 1 then (n ^^^ 2 ^ at' * (v % 2 ^ i)) ^^^ 2 ^ (at' + i) else n ^^^ 2 ^ at' * (v % 2 ^ i) := by
  rw [mod_step]
  split
  · rw [two_xor, ← Nat.pow_add, Nat.xor_assoc]
  · rw [Nat.xor_zero]
/-- A string whose last four bytes are those of the sum of the others is a sealed one. -/
theorem seal_of (l p t : List UInt8) (h : l = p ++ t) (ht : t = le4 (sumL p)) : l = sealL p := by rw [h, ht]; rfl

end Go.Proofs.YtifdencdbpdbfaaDoor
