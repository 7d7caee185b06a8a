/-
  PLAIN MATHEMATICS for package checksum: CRC-32C of bytes as a linear map on numbers; joined strings, exclusive or, sealed strings, bursts; columns, tables, single bits.
  WALKS over package checksum, first part: eight steps by the table, eight steps of the reference.
  WALKS over package checksum, second part: both Sums.
  WALKS over package checksum, third part: both Seals; the laws' 'awake'.
-/
import Derived.Test.YteennnhinfnahaaDoorProg
import Derived.Test.YteennnhinfnahaaDoorTzA
import Derived.Laws.BitsAllLaws
import Derived.Laws.DeepNot64
import Derived.Lib.SlBytesConst
namespace Go.Proofs.YteennnhinfnahaaDoor

/-- One bit of the check: shift, and the generator where a 1 falls out. It is said for every number, however long. -/
def st (v : Nat) : Nat := if v % 2 = 1 then v / 2 ^^^ 2197175160 else v / 2
def sts : Nat → Nat → Nat
  | 0, v => v
  | n + 1, v => sts n (st v)

theorem xor_swap (a b c : Nat) : a ^^^ (b ^^^ c) = b ^^^ (a ^^^ c) := by rw [← Nat.xor_assoc, ← Nat.xor_assoc, Nat.xor_comm a b]
theorem xor_twice (a b : Nat) : a ^^^ (a ^^^ b) = b := by rw [← Nat.xor_assoc, Nat.xor_self, Nat.zero_xor]
theorem xor_four (a b c d : Nat) : (a ^^^ b) ^^^ (c ^^^ d) = (a ^^^ c) ^^^ (b ^^^ d) := by
  rw [Nat.xor_assoc, Nat.xor_assoc, xor_swap b c d]
theorem eq_of_xor {a b : Nat} (h : a ^^^ b = 0) : a = b := by
  have := xor_twice a b
  rw [h, Nat.xor_zero] at this
  exact this

theorem st_zero : st 0 = 0 := rfl
theorem st_xor (a b : Nat) : st (a ^^^ b) = st a ^^^ st b := by
  unfold st
  have h := @Nat.xor_mod_two_eq_one a b
  rw [Nat.xor_div_two]
  by_cases ha : a % 2 = 1
  · by_cases hb : b % 2 = 1
    · rw [if_neg (by rw [h]; simp [ha, hb]), if_pos ha, if_pos hb, xor_four, Nat.xor_self, Nat.xor_zero]
    · rw [if_pos (by rw [h]; simp [ha, hb]), if_pos ha, if_neg hb, Nat.xor_assoc, Nat.xor_assoc, Nat.xor_comm (b / 2)]
  · by_cases hb : b % 2 = 1
    · rw [if_pos (by rw [h]; simp [ha, hb]), if_neg ha, if_pos hb, Nat.xor_assoc]
    · rw [if_neg (by rw [h]; simp [ha, hb]), if_neg ha, if_neg hb]
theorem st_lt {v : Nat} (h : v < 4294967296) : st v < 4294967296 := by
  unfold st
  split
  · exact Nat.xor_lt_two_pow (n := 32) (by omega) (by decide)
  · omega
theorem st_ne {v : Nat} (h : v < 4294967296) (h0 : v ≠ 0) : st v ≠ 0 := by
  unfold st
  split
  · intro e
    have e := eq_of_xor e
    omega
  · omega
theorem st_even (v : Nat) : st (2 * v) = v := by
  unfold st
  rw [if_neg (by omega)]
  omega

theorem sts_zero : ∀ n, sts n 0 = 0
  | 0 => rfl
  | n + 1 => by rw [sts, st_zero, sts_zero n]
theorem sts_xor : ∀ (n a b : Nat), sts n (a ^^^ b) = sts n a ^^^ sts n b
  | 0, _, _ => rfl
  | n + 1, a, b => by rw [sts, st_xor, sts_xor n]; rfl
theorem sts_lt : ∀ (n : Nat) {v : Nat}, v < 4294967296 → sts n v < 4294967296
  | 0, _, h => h
  | n + 1, _, h => sts_lt n (st_lt h)
theorem sts_ne : ∀ (n : Nat) {v : Nat}, v < 4294967296 → v ≠ 0 → sts n v ≠ 0
  | 0, _, _, h => h
  | n + 1, _, h, h0 => sts_ne n (st_lt h) (st_ne h h0)
theorem sts_add : ∀ (m n v : Nat), sts (m + n) v = sts n (sts m v)
  | 0, n, v => by rw [Nat.zero_add]; rfl
  | m + 1, n, v => by rw [Nat.succ_add_eq_add_succ m n, Nat.add_succ, sts, sts_add m n]; rfl
theorem sts_shift : ∀ (n v : Nat), sts n (2 ^ n * v) = v
  | 0, v => by simp [sts]
  | n + 1, v => by rw [sts, show 2 ^ (n + 1) * v = 2 * (2 ^ n * v) by rw [Nat.pow_succ, Nat.mul_comm (2 ^ n) 2, Nat.mul_assoc], st_even, sts_shift n]
theorem sts_eight (v : Nat) : sts 8 (256 * v) = v := sts_shift 8 v

/-- The value behind bytes, from a value in front of them. -/
def crc : Nat → List UInt8 → Nat
  | v, [] => v
  | v, c :: l => crc (sts 8 (v ^^^ c.toNat)) l
/-- The sum of bytes. -/
def sumL (l : List UInt8) : Nat := 4294967295 ^^^ crc 4294967295 l
/-- Bytes as a number, the least significant first. -/
def leN : List UInt8 → Nat
  | [] => 0
  | c :: l => c.toNat + 256 * leN l

theorem crc_app : ∀ (a b : List UInt8) (v : Nat), crc v (a ++ b) = crc (crc v a) b
  | [], _, _ => rfl
  | _ :: a, b, _ => crc_app a b _
theorem crc_snoc (a : List UInt8) (c : UInt8) (v : Nat) : crc v (a ++ [c]) = sts 8 (crc v a ^^^ c.toNat) := by rw [crc_app]; rfl
theorem byte_lt (c : UInt8) : c.toNat < 256 := UInt8.toNat_lt c
theorem crc_lt : ∀ (l : List UInt8) {v : Nat}, v < 4294967296 → crc v l < 4294967296
  | [], _, h => h
  | c :: l, _, h => crc_lt l (sts_lt 8 (Nat.xor_lt_two_pow (n := 32) h (by have := byte_lt c; omega)))
theorem sumL_lt (l : List UInt8) : sumL l < 4294967296 := Nat.xor_lt_two_pow (n := 32) (by decide) (crc_lt l (by decide))
theorem sumL_nil : sumL [] = 0 := Nat.xor_self _
theorem crc_sum (l : List UInt8) : crc 4294967295 l = 4294967295 ^^^ sumL l := (xor_twice _ _).symm

theorem add_xor (c : Nat) (h : c < 256) (n : Nat) : c + 256 * n = c ^^^ 256 * n := by
  apply Nat.eq_of_testBit_eq
  intro j
  rw [Nat.testBit_xor, Nat.add_comm, Nat.testBit_two_pow_mul_add (i := 8) n h]
  have e : (256 * n).testBit j = (decide (8 ≤ j) && n.testBit (j - 8)) := by
    rw [Nat.mul_comm]; exact Nat.testBit_mul_two_pow n j 8
  rw [e]
  by_cases hj : j < 8
  · rw [if_pos hj]; simp [show ¬ 8 ≤ j by omega]
  · rw [if_neg hj, Nat.testBit_lt_two_pow (Nat.lt_of_lt_of_le h (Nat.pow_le_pow_right (n := 2) (by decide) (show 8 ≤ j by omega)))]
    simp [show 8 ≤ j by omega]
/-- Bytes are taken in as the bits of one number. -/
theorem crc_num (l : List UInt8) : ∀ v : Nat, crc v l = sts (8 * l.length) (v ^^^ leN l) := by
  induction l with
  | nil => intro v; rw [leN, Nat.xor_zero]; rfl
  | cons c l ih =>
    intro v
    have h1 : crc v (c :: l) = crc (sts 8 (v ^^^ c.toNat)) l := rfl
    have h2 : leN (c :: l) = c.toNat ^^^ 256 * leN l := add_xor _ (byte_lt c) _
    have h3 : 8 * (c :: l).length = 8 + 8 * l.length := by rw [List.length_cons]; omega
    have h4 : sts 8 ((v ^^^ c.toNat) ^^^ 256 * leN l) = sts 8 (v ^^^ c.toNat) ^^^ leN l := (sts_xor 8 (v ^^^ c.toNat) (256 * leN l)).trans (congrArg (sts 8 (v ^^^ c.toNat) ^^^ ·) (sts_eight (leN l)))
    rw [h1, h2, h3, ih, ← Nat.xor_assoc, sts_add, h4]
/-- What stands in front goes through as it would through bytes 0. -/
theorem crc_xor (u v : Nat) (l : List UInt8) : crc (u ^^^ v) l = sts (8 * l.length) u ^^^ crc v l := by
  rw [crc_num l (u ^^^ v), crc_num l v, Nat.xor_assoc, sts_xor]
theorem sum_app (a b : List UInt8) : sumL (a ++ b) = sts (8 * b.length) (sumL a) ^^^ sumL b := by
  have h : crc 4294967295 (a ++ b) = sts (8 * b.length) (sumL a) ^^^ crc 4294967295 b := by
    rw [crc_app, crc_sum a, Nat.xor_comm, crc_xor]
  show 4294967295 ^^^ crc 4294967295 (a ++ b) = _
  rw [h, xor_swap]
  rfl

/-- What Combine answers (P3.2). -/
def comb (x y n : Nat) : Nat := sts (8 * n) x ^^^ y
theorem comb_sum (a b : List UInt8) : comb (sumL a) (sumL b) b.length = sumL (a ++ b) := (sum_app a b).symm
theorem comb_chain (x y z i j : Nat) : comb (comb x y i) z j = comb x (comb y z j) (i + j) := by
  unfold comb
  rw [show 8 * (i + j) = 8 * i + 8 * j by omega, sts_add, sts_xor, Nat.xor_assoc]
theorem comb_lt {x y : Nat} (hx : x < 4294967296) (hy : y < 4294967296) (n : Nat) : comb x y n < 4294967296 := Nat.xor_lt_two_pow (n := 32) (sts_lt _ hx) hy

/-- The exclusive or of two strings of one length. -/
def xorL : List UInt8 → List UInt8 → List UInt8
  | a :: x, b :: y => (a ^^^ b) :: xorL x y
  | _, _ => []
theorem xorL_len : ∀ (x y : List UInt8), x.length = y.length → (xorL x y).length = x.length
  | [], [], _ => rfl
  | a :: x, b :: y, h => by
    rw [xorL, List.length_cons, List.length_cons, xorL_len x y (by simpa using h)]
theorem crc_xorL : ∀ (x y : List UInt8) (u v : Nat), x.length = y.length → crc (u ^^^ v) (xorL x y) = crc u x ^^^ crc v y
  | [], [], _, _, _ => rfl
  | a :: x, b :: y, u, v, h => by
    have e : (u ^^^ v) ^^^ (a ^^^ b).toNat = (u ^^^ a.toNat) ^^^ (v ^^^ b.toNat) := by rw [UInt8.toNat_xor, xor_four]
    have h1 : crc (u ^^^ v) (xorL (a :: x) (b :: y)) = crc (sts 8 ((u ^^^ v) ^^^ (a ^^^ b).toNat)) (xorL x y) := rfl
    rw [h1, e, sts_xor, crc_xorL x y _ _ (by simpa using h)]
    rfl
theorem sum_xor (a b c : List UInt8) (hab : a.length = b.length) (hbc : b.length = c.length) : sumL (xorL (xorL a b) c) = (sumL a ^^^ sumL b) ^^^ sumL c := by
  have h1 := crc_xorL (xorL a b) c (4294967295 ^^^ 4294967295) 4294967295 (by rw [xorL_len a b hab]; omega)
  rw [crc_xorL a b _ _ hab, Nat.xor_self, Nat.zero_xor] at h1
  rw [sumL, h1, crc_sum a, crc_sum b, crc_sum c, xor_four 4294967295 (sumL a) 4294967295 (sumL b), Nat.xor_self, Nat.zero_xor, xor_swap (sumL a ^^^ sumL b), xor_twice]

/-- The four bytes of a number, the least significant first. -/
def le4 (s : Nat) : List UInt8 := [UInt8.ofNat s, UInt8.ofNat (s / 256), UInt8.ofNat (s / 65536), UInt8.ofNat (s / 16777216)]
def sealL (l : List UInt8) : List UInt8 := l ++ le4 (sumL l)
theorem le4_num {s : Nat} (h : s < 4294967296) : leN (le4 s) = s := by
  simp only [le4, leN, UInt8.toNat_ofNat']
  omega
theorem leN_app : ∀ (a b : List UInt8), leN (a ++ b) = leN a + 2 ^ (8 * a.length) * leN b
  | [], b => by simp [leN]
  | c :: a, b => by
    rw [List.cons_append, leN, leN_app a b, leN, List.length_cons, show 8 * (a.length + 1) = 8 * a.length + 8 by omega, Nat.pow_add, Nat.mul_add, Nat.add_assoc]
    rw [show (2 : Nat) ^ 8 = 256 by rfl, Nat.mul_comm (2 ^ (8 * a.length)) 256, Nat.mul_assoc]
theorem leN_lt : ∀ l : List UInt8, leN l < 2 ^ (8 * l.length)
  | [] => by simp [leN]
  | c :: l => by
    have := leN_lt l
    have := byte_lt c
    rw [leN, List.length_cons, show 8 * (l.length + 1) = 8 * l.length + 8 by omega, Nat.pow_add]
    omega
/-- A sealed string leaves one and the same value behind, whatever the payload. -/
theorem crc_seal (l : List UInt8) : crc 4294967295 (sealL l) = sts 32 4294967295 := by
  rw [sealL, crc_app, crc_num (le4 _), le4_num (sumL_lt l), crc_sum l, Nat.xor_assoc, Nat.xor_self, Nat.xor_zero]
  rfl
theorem seal_len (l : List UInt8) : (sealL l).length = l.length + 4 := by simp [sealL, le4]
/-- Two sealed strings of one length don't differ by a burst. -/
theorem no_burst (a b : List UInt8) (hl : (sealL a).length = (sealL b).length) (p at' : Nat) (hp : p < 4294967296) (h0 : p ≠ 0) (ha : at' ≤ 8 * (sealL a).length) (h : leN (sealL b) = leN (sealL a) ^^^ 2 ^ at' * p) : False := by
  have h1 := crc_seal a
  have h2 := crc_seal b
  rw [crc_num] at h1 h2
  rw [← hl, h, ← Nat.xor_assoc, sts_xor, h1] at h2
  have h3 : sts (8 * (sealL a).length) (2 ^ at' * p) = 0 := by
    have := congrArg (sts 32 4294967295 ^^^ ·) h2
    simp only [xor_twice, Nat.xor_self] at this
    exact this
  have h4 : 8 * (sealL a).length = at' + (8 * (sealL a).length - at') := by omega
  rw [h4, sts_add, sts_shift] at h3
  exact sts_ne _ hp h0 h3

/-! Matrices as columns, tables, single bits. -/
theorem two_xor (k a b : Nat) : 2 ^ k * (a ^^^ b) = 2 ^ k * a ^^^ 2 ^ k * b := by
  rw [Nat.mul_comm, Nat.mul_comm _ a, Nat.mul_comm _ b, ← Nat.shiftLeft_eq, ← Nat.shiftLeft_eq, ← Nat.shiftLeft_eq, Nat.shiftLeft_xor_distrib]
theorem low_xor (k v : Nat) : v = v % 2 ^ k ^^^ 2 ^ k * (v / 2 ^ k) := by
  apply Nat.eq_of_testBit_eq
  intro j
  rw [Nat.testBit_xor, Nat.testBit_mod_two_pow, Nat.mul_comm, Nat.testBit_mul_two_pow, Nat.testBit_div_two_pow]
  by_cases h : j < k
  · simp [h, show ¬ k ≤ j by omega]
  · simp [h, show k ≤ j by omega]
theorem mod_step (v i : Nat) : v % 2 ^ (i + 1) = v % 2 ^ i ^^^ (if v / 2 ^ i % 2 = 1 then 2 ^ i else 0) := by
  have h1 := low_xor i (v % 2 ^ (i + 1))
  have e1 : v % 2 ^ (i + 1) % 2 ^ i = v % 2 ^ i := Nat.mod_mod_of_dvd v (Nat.pow_dvd_pow 2 (Nat.le_succ i))
  have e2 : v % 2 ^ (i + 1) / 2 ^ i = v / 2 ^ i % 2 := by
    rw [Nat.pow_succ, Nat.mod_mul_right_div_self]
  rw [e1, e2] at h1
  rw [h1]
  by_cases h : v / 2 ^ i % 2 = 1
  · rw [if_pos h, h, Nat.mul_one]
  · rw [if_neg h, show v / 2 ^ i % 2 = 0 by omega, Nat.mul_zero]
/-- One column more, for a map that keeps the exclusive or. -/
theorem lin_step (f : Nat → Nat) (h0 : f 0 = 0) (hf : ∀ a b, f (a ^^^ b) = f a ^^^ f b) (v i : Nat) :
    f (v % 2 ^ (i + 1)) = f (v % 2 ^ i) ^^^ (if v / 2 ^ i % 2 = 1 then f (2 ^ i) else 0) := by
  rw [mod_step, hf]
  split
  · rfl
  · rw [h0]
/-- Eight bits by a table. -/
theorem table_step (v c : Nat) (hc : c < 256) : sts 8 (v ^^^ c) = sts 8 ((v ^^^ c) % 256) ^^^ v / 256 := by
  have h := low_xor 8 (v ^^^ c)
  have e : (v ^^^ c) / 256 = v / 256 := by
    have := @Nat.xor_div_two_pow v c 8
    rw [show (2 : Nat) ^ 8 = 256 by rfl, Nat.div_eq_of_lt hc, Nat.xor_zero] at this
    exact this
  rw [show (2 : Nat) ^ 8 = 256 by rfl, e] at h
  have h2 := congrArg (sts 8) h
  rw [h2, sts_xor 8 ((v ^^^ c) % 256) (256 * (v / 256)), sts_eight]
/-- One bit of a byte string exchanged. -/
theorem leN_flip : ∀ (l : List UInt8) (q : Nat) (h : q < 8 * l.length), leN (l.set (q / 8) (l[q / 8]'(by omega) ^^^ UInt8.ofNat (2 ^ (q % 8)))) = leN l ^^^ 2 ^ q
  | [], q, h => by simp at h
  | c :: l, q, h => by
    have h8 : ∀ n : Nat, c.toNat + 256 * n = c.toNat ^^^ 256 * n := add_xor _ (byte_lt c)
    by_cases hq : q < 8
    · have e0 : q / 8 = 0 := by omega
      have em : q % 8 = q := by omega
      have hp : 2 ^ q < 256 := Nat.pow_lt_pow_right (a := 2) (by decide) (show q < 8 by omega)
      have hx : (c ^^^ UInt8.ofNat (2 ^ q)).toNat = c.toNat ^^^ 2 ^ q := by
        rw [UInt8.toNat_xor, UInt8.toNat_ofNat', Nat.mod_eq_of_lt hp]
      simp only [e0, em, List.set_cons_zero, List.getElem_cons_zero, leN]
      rw [hx, add_xor _ (Nat.xor_lt_two_pow (n := 8) (byte_lt c) hp), h8, Nat.xor_assoc, Nat.xor_comm (2 ^ q), Nat.xor_assoc]
    · obtain ⟨r, rfl⟩ : ∃ r, q = r + 8 := ⟨q - 8, by omega⟩
      have e0 : (r + 8) / 8 = r / 8 + 1 := by omega
      have em : (r + 8) % 8 = r % 8 := by omega
      have ih := leN_flip l r (by simp only [List.length_cons] at h; omega)
      simp only [e0, em, List.set_cons_succ, List.getElem_cons_succ, leN]
      have e : 256 * (leN l ^^^ 2 ^ r) = 256 * leN l ^^^ 2 ^ (r + 8) := by
        have := two_xor 8 (leN l) (2 ^ r)
        rw [Nat.pow_add, Nat.mul_comm (2 ^ r)]
        exact this
      rw [ih, h8, e, h8, Nat.xor_assoc]
theorem flip_len (l : List UInt8) (k : Nat) (x : UInt8) : (l.set k x).length = l.length := List.length_set
/-- One step of a burst: bit i of the pattern, from bit at' on. -/
theorem burst_step (n at' v i : Nat) : n ^^^ 2 ^ at' * (v % 2 ^ (i + 1)) = if v / 2 ^ i % 2 = 1 then (n ^^^ 2 ^ at' * (v % 2 ^ i)) ^^^ 2 ^ (at' + i) else n ^^^ 2 ^ at' * (v % 2 ^ i) := by
  rw [mod_step]
  split
  · rw [two_xor, ← Nat.pow_add, Nat.xor_assoc]
  · rw [Nat.xor_zero]
/-- A string whose last four bytes are those of the sum of the others is a sealed one. -/
theorem seal_of (l p t : List UInt8) (h : l = p ++ t) (ht : t = le4 (sumL p)) : l = sealL p := by rw [h, ht]; rfl

end Go.Proofs.YteennnhinfnahaaDoor
namespace Go.Proofs.YteennnhinfnahaaDoor
open Go.RowKit Go.Shelf Go.Lib

/-- The table: what four steps make of a number of four bits. -/
def Tab (w : World) : Prop := ∀ i : Nat, i < 16 → w.cell? ⟨0, i, none⟩ = some (.int .u32 ((sts 4 i : Nat) : Int))
theorem sts_four (v : Nat) : sts 4 v = v / 16 ^^^ sts 4 (v % 16) := by
  have h := low_xor 4 v
  have h2 := congrArg (sts 4) h
  rw [sts_xor, sts_shift] at h2
  rw [h2, Nat.xor_comm]
theorem u32_wrap (n : Nat) (h : n < 4294967296) : IntKind.u32.wrap (n : Int) = (n : Int) := by
  rw [IntKind.wrap_u32']; omega
theorem and_nib (v : Nat) (h : v < 4294967296) : bits .and .u32 (v : Int) 15 = ((v % 16 : Nat) : Int) := by
  have e := u32_and_nat v 15 h (by omega)
  rw [show ((15 : Nat) : Int) = 15 by rfl] at e
  rw [e, show (15 : Nat) = 2 ^ 4 - 1 by rfl, Nat.and_two_pow_sub_one_eq_mod]
theorem and_one (v : Nat) (h : v < 4294967296) : bits .and .u32 (v : Int) 1 = ((v % 2 : Nat) : Int) := by
  have e := u32_and_nat v 1 h (by omega)
  rw [show ((1 : Nat) : Int) = 1 by rfl] at e
  rw [e, show (1 : Nat) = 2 ^ 1 - 1 by rfl, Nat.and_two_pow_sub_one_eq_mod]

theorem xor32 {a b : Nat} {A B : Int} (hA : A = a) (hB : B = b) (ha : a < 4294967296) (hb : b < 4294967296) : bits .xor .u32 A B = ((a ^^^ b : Nat) : Int) := by
  subst hA hB
  exact u32_xor_nat a b ha hb

set_option maxHeartbeats 400000 in
theorem afterByte_any (v : Nat) (hv : v < 4294967296) {w : World} (ht : Tab w) :
    Calls Tryd.prog 55 #[.int .u32 v] w fun e w' => e = .returned (.int .u32 ((sts 8 v : Nat) : Int)) ∧ w = w' := by
  have a1 := and_nib v hv
  have c1 := ht (v % 16) (by omega)
  have u1 : sts 4 (v % 16) < 4294967296 := sts_lt 4 (by omega)
  have x1 : bits .xor .u32 ((v : Int) / 16) ((sts 4 (v % 16) : Nat) : Int) = ((sts 4 v : Nat) : Int) := by
    rw [sts_four v]; exact xor32 (by omega) rfl (by omega) u1
  have hu := sts_lt 4 hv
  have h8 : sts 8 v = sts 4 (sts 4 v) := sts_add 4 4 v
  obtain ⟨t, ht1⟩ : ∃ t, sts 4 (v % 16) = t := ⟨_, rfl⟩
  obtain ⟨u, hu1⟩ : ∃ u, sts 4 v = u := ⟨_, rfl⟩
  rw [ht1] at c1 x1 u1
  rw [hu1] at x1 hu h8
  clear ht1 hu1
  have a2 := and_nib u hu
  have c2 := ht (u % 16) (by omega)
  have u2 : sts 4 (u % 16) < 4294967296 := sts_lt 4 (by omega)
  have x2 : bits .xor .u32 ((u : Int) / 16) ((sts 4 (u % 16) : Nat) : Int) = ((sts 4 u : Nat) : Int) := by
    rw [sts_four u]; exact xor32 (by omega) rfl (by omega) u2
  rw [h8]
  obtain ⟨t2, ht2⟩ : ∃ t, sts 4 (u % 16) = t := ⟨_, rfl⟩
  obtain ⟨z, hz⟩ : ∃ t, sts 4 u = t := ⟨_, rfl⟩
  rw [ht2] at c2 x2
  rw [hz] at x2 ⊢
  clear ht ht2 hz h8 u2
  go_enter Tryd.func55, Tryd.ntmps55
  go_wp2
  go_ret
  exact ⟨rfl, rfl⟩

end Go.Proofs.YteennnhinfnahaaDoor
namespace Go.Proofs.YteennnhinfnahaaDoor
open Go.RowKit Go.Shelf Go.Lib

theorem Tab.below {B : Nat} {w w' : World} (h : Tab w) (hb : Below B w w') (hB : 0 < B) : Tab w' := fun i hi => (hb.cell (p := ⟨0, i, none⟩) hB).trans (h i hi)
theorem Tab.drewN {w : World} (h : Tab w) (n : Nat) : Tab (w.drewN n) := h
theorem crc_take (L : List UInt8) (k : Nat) (hk : k < L.length) : crc 4294967295 (L.take (k + 1)) = sts 8 (crc 4294967295 (L.take k) ^^^ L[k].toNat) := by
  rw [List.take_succ_eq_append_getElem hk, crc_snoc]

set_option maxHeartbeats 400000 in
theorem sum_any {w : World} {B : Nat} {v : Value} {L : List UInt8} (hs : Sees w B v L) (hm : L.length ≤ 9223372036854775807) (ht : Tab w) :
    Calls Tryd.prog 31 #[v] w fun e w' => e = .returned (.int .u32 ((sumL L : Nat) : Int)) ∧ w = w' := by
  obtain ⟨sp, cap, hv, hcap, hcell⟩ := hs.form2
  have HT := Lib.hid ht
  obtain ⟨n, hn⟩ : ∃ n, L.length = n := ⟨_, rfl⟩
  rw [hn] at hv hm
  have HN := Lib.hid hn
  have HC := Lib.hid hcell
  subst hv
  clear hs ht hcell hcap hn
  go_enter Tryd.func31, Tryd.ntmps31
  go_wp2
  go_loop [3, 8] (fun v3 v8 => ∃ k : Nat, k ≤ n ∧ v3 = .int .u32 ((crc 4294967295 (L.take k) : Nat) : Int) ∧ v8 = .int .i64 k) (fun _ v8 => n - (intOf v8).toNat)
  case atStart => exact ⟨0, Nat.zero_le _, rfl, rfl⟩
  case round =>
    obtain ⟨k, hk, rfl, rfl⟩ := hrel
    have hc := crc_lt (L.take k) (v := 4294967295) (by decide)
    by_cases hlt : k < n
    · obtain ⟨b, off, rfl, _, hcs⟩ := HC.out (by rw [HN.out]; omega)
      have hkl : k < L.length := by rw [HN.out]; exact hlt
      have hck := hcs k hkl
      have HS := Lib.hid (crc_take L k hkl)
      have hb := byte_lt L[k]
      obtain ⟨a, ha⟩ : ∃ a, crc 4294967295 (L.take k) = a := ⟨_, rfl⟩
      obtain ⟨c, hce⟩ : ∃ c, L[k].toNat = c := ⟨_, rfl⟩
      rw [ha, hce] at HS
      rw [ha] at hc ⊢
      rw [hce] at hck hb
      clear ha hce hcs
      have x1 : bits .xor .u32 (a : Int) (c : Int) = ((a ^^^ c : Nat) : Int) := xor32 rfl rfl hc (by omega)
      have hx : a ^^^ c < 4294967296 := Nat.xor_lt_two_pow (n := 32) hc (by omega)
      go_wp2_with fail
      refine (afterByte_any _ hx HT.out).mono ?_
      rintro e w' ⟨rfl, rfl⟩
      go_wp2_with fail
      go_round
      case rel => exact ⟨k + 1, by omega, by rw [HS.out], by go_num⟩
      case measure => simp [intOf]; omega
    · have hkn : k = n := by omega
      subst hkn
      have hf : L.take k = L := by rw [← HN.out, List.take_length]
      rw [hf] at hc ⊢
      clear hf
      have HS : Hid (bits .xor .u32 IntKind.u32.max ((crc 4294967295 L : Nat) : Int) = ((sumL L : Nat) : Int)) := Lib.hid (xor32 (a := 4294967295) rfl rfl (by decide) hc)
      go_wp2
      go_ret
      exact ⟨congrArg (fun z => Ending.returned (Value.int IntKind.u32 z)) HS.out, rfl⟩

end Go.Proofs.YteennnhinfnahaaDoor
namespace Go.Proofs.YteennnhinfnahaaDoor
open Go.RowKit Go.Shelf Go.Lib

theorem le4_cells (s : Nat) (h : s < 4294967296) : byteCells (le4 s) = [.int .u8 ((s : Int) % 256), .int .u8 ((s : Int) / 256 % 256), .int .u8 ((s : Int) / 65536 % 256), .int .u8 ((s : Int) / 16777216)] := by
  simp [byteCells, le4]
  omega

set_option maxHeartbeats 1000000 in
theorem seal_any {w : World} {v : Value} {L : List UInt8} (hs : Sees w w.heap.size v L) (hm : L.length ≤ 10000000) (ht : Tab w) :
    Calls Tryd.prog 22 #[v] w fun e w' => ∃ v', e = .returned v' ∧ w'.ownsRow w.heap.size 5 1 v' (sealL L).length (byteCells (sealL L)) ∧ Below w.heap.size w w' := by
  obtain ⟨i0, hi, hz0, hz1, hz2⟩ := info_parts' Tryd.infoByte
  obtain ⟨A, cap, hv, hcap⟩ := hs.le
  have hsum := sum_any hs (by omega) ht
  have hlt := sumL_lt L
  have hcut := (hv ▸ hs.cells).cut.1
  have hlen : (sealL L).length = L.length + 4 := seal_len L
  have hall : byteCells (sealL L) = byteCells L ++ byteCells (le4 (sumL L)) := byteCells_app _ _
  rw [le4_cells _ hlt] at hall
  obtain ⟨s, hse⟩ : ∃ s, sumL L = s := ⟨_, rfl⟩
  obtain ⟨n, hn⟩ : ∃ n, L.length = n := ⟨_, rfl⟩
  rw [hse] at hsum hlt hall
  rw [hn] at hv hm hcap hcut hlen
  have HSUM := Lib.hid hsum
  have HCUT := Lib.hid hcut
  have HALL := Lib.hid hall
  have HLEN := Lib.hid hlen
  subst hv
  have hsl := slice_full A n cap hcap w
  clear hs ht hsum hcut hall hlen hn hse
  go_enter Tryd.func22, Tryd.ntmps22
  go_wp2_with fail
  refine HSUM.out.mono ?_
  rintro e w' ⟨rfl, rfl⟩
  have hb1 : Below w.heap.size w (w.alloc (.cells #[.int .u8 ((s : Int) % 256), .int .u8 ((s : Int) / 256 % 256), .int .u8 ((s : Int) / 65536 % 256), .int .u8 ((s : Int) / 16777216)] 5)) := (Below.refl _ w).alloc (Nat.le_refl _) _
  have HC1 := Lib.hid (HCUT.out.below hb1)
  have HB1 := Lib.hid hb1
  have HN1 := Lib.hid (news_at w [.int .u8 ((s : Int) % 256), .int .u8 ((s : Int) / 256 % 256), .int .u8 ((s : Int) / 65536 % 256), .int .u8 ((s : Int) / 16777216)] 5)
  clear hb1
  go_wp2_with (at_builtin; refine wpList_append_full rfl (.tmp 13) (.tmp 25) 44 rfl w.heap.size 5 i0 _ 1 Tryd.underlying44 hi hz0 hz1 hz2 rfl A n (byteCells L) rfl HC1.out _ 4 4 _ rfl HN1.out rfl (by simp [Value.oneCell']) (by decide) (by unfold maxLen; omega) (by omega) ?_)
  intro v2 w2 hown hb2
  have HO := Lib.hid hown
  have HB2 := Lib.hid (HB1.out.trans (hb2.mono (Nat.le_succ _)))
  clear hown hb2
  go_wp2
  go_ret
  refine ⟨_, rfl, ?_, HB2.out⟩
  rw [HLEN.out, HALL.out]
  exact ownsRow_base HO.out (Nat.le_of_lt (by simp))

/-- The world behind the example's literal: its row, with the run-time's mark behind it. -/
def nine (w : World) : World := w.alloc (.cells (byteCells [49, 50, 51, 52, 53, 54, 55, 56, 57]).toArray 5 (9, 10))
theorem nine_convert (w : World) : (convert 44 44 (.slice (some ⟨w.heap.size, 0, none⟩) 9 9)).run Tryd.prog (w.alloc (.cells #[.int .u8 49, .int .u8 50, .int .u8 51, .int .u8 52, .int .u8 53, .int .u8 54, .int .u8 55, .int .u8 56, .int .u8 57] 5)) = .ok (.slice (some ⟨w.heap.size, 0, none⟩) 9 9) (nine w) :=
  Lib.run_convert_bytes_const w 44 5 _ 9 9 Tryd.underlying44 Tryd.underlying5
theorem nine_below (w : World) : Below w.heap.size w (nine w) := (Below.refl _ w).alloc (Nat.le_refl _) _
theorem nine_sees (w : World) : Sees (nine w) (w.heap.size + 1) (.slice (some ⟨w.heap.size, 0, none⟩) 9 9) [49, 50, 51, 52, 53, 54, 55, 56, 57] :=
  .inr ⟨_, 9, rfl, by decide, fun _ => Nat.lt_succ_self _, fun j hj => by
    rw [add_plain, Nat.zero_add]
    exact cell_of (block_new w _) (by unfold byteCells; rw [List.getElem?_toArray, List.getElem?_map, List.getElem?_eq_getElem hj]; rfl)⟩
theorem sum_nine : sumL [49, 50, 51, 52, 53, 54, 55, 56, 57] = 3808858755 := by decide +kernel
theorem seal_nil : sealL [] = [0, 0, 0, 0] := by decide +kernel

end Go.Proofs.YteennnhinfnahaaDoor
