/-
  PLAIN MATHEMATICS for package bitio, second part: bits as lists, the codes, bits as bytes and back.
-/
import Derived.Test.YtbfnkmibbieijaaBiM
namespace Go.Proofs.Ytbfnkmibbieijaa

/-- The n lowest bits of a number, the most significant one first. -/
def low (v : Nat) : Nat → List Bool
  | 0 => []
  | n + 1 => decide (v / 2 ^ n % 2 = 1) :: low v n
theorem low_len (v : Nat) : ∀ n, (low v n).length = n
  | 0 => rfl
  | n + 1 => by simp [low, low_len v n]
theorem low_zero : ∀ n, low 0 n = List.replicate n false
  | 0 => rfl
  | n + 1 => by simp [low, low_zero n, List.replicate_succ]
theorem low_one : low 1 1 = [true] := by decide

/-- The number that bits stand for. -/
def numA (a : Nat) (l : List Bool) : Nat := l.foldl (fun a b => 2 * a + b.toNat) a
def numL (l : List Bool) : Nat := numA 0 l
theorem numA_cons (a : Nat) (b : Bool) (l : List Bool) : numA a (b :: l) = numA (2 * a + b.toNat) l := rfl
theorem numA_snoc (a : Nat) (b : Bool) (l : List Bool) : numA a (l ++ [b]) = 2 * numA a l + b.toNat := by simp [numA]
theorem numL_snoc (b : Bool) (l : List Bool) : numL (l ++ [b]) = 2 * numL l + b.toNat := numA_snoc 0 b l
theorem numA_eq : ∀ (l : List Bool) (a : Nat), numA a l = a * 2 ^ l.length + numL l
  | [], a => by simp [numA, numL]
  | b :: l, a => by
    have e := numA_eq l (2 * 0 + b.toNat)
    have e2 : numL (b :: l) = numA (2 * 0 + b.toNat) l := rfl
    rw [numA_cons, numA_eq l, e2, e, List.length_cons, Nat.pow_succ, Nat.add_mul, Nat.add_mul]
    have : 2 * a * 2 ^ l.length = a * (2 ^ l.length * 2) := by rw [Nat.mul_comm 2 a, Nat.mul_assoc, Nat.mul_comm 2]
    omega
theorem numL_lt : ∀ l : List Bool, numL l < 2 ^ l.length
  | [] => by decide
  | b :: l => by
    have h := numL_lt l
    have h2 : b.toNat ≤ 1 := Bool.toNat_le b
    rw [numL, numA_cons, numA_eq, List.length_cons, Nat.pow_succ]
    have : (2 * 0 + b.toNat) * 2 ^ l.length ≤ 1 * 2 ^ l.length := Nat.mul_le_mul_right _ (by omega)
    omega
theorem bit_toNat (x : Nat) : (decide (x % 2 = 1)).toNat = x % 2 := by
  by_cases h : x % 2 = 1
  · simp [h]
  · simp [h]; omega
theorem numL_low (v : Nat) : ∀ n, numL (low v n) = v % 2 ^ n
  | 0 => by simp [low, numL, numA, Nat.mod_one]
  | n + 1 => by
    have h := numL_low v n
    rw [low, numL, numA_cons, numA_eq, low_len, h, bit_toNat, Nat.pow_succ, Nat.mod_mul]
    rw [Nat.mul_comm (2 ^ n), Nat.mul_zero, Nat.zero_add]
    omega

/-- The greatest N with 2^N at most v. -/
theorem log_lt (v : Nat) (h : v < 18446744073709551616) : Nat.log2 v ≤ 63 := by
  by_cases h0 : v = 0
  · subst h0; decide
  · have := (Nat.log2_lt h0 (k := 64)).2 (by omega)
    omega
theorem log_le (v : Nat) (h : v ≠ 0) : 2 ^ Nat.log2 v ≤ v := Nat.log2_self_le h
theorem lt_log (v : Nat) : v < 2 ^ (Nat.log2 v + 1) := Nat.lt_log2_self
theorem log_half (v : Nat) (h : 2 ≤ v) : Nat.log2 v = Nat.log2 (v / 2) + 1 := by rw [Nat.log2_def, if_pos h]
theorem log_small (v : Nat) (h : v < 2) : Nat.log2 v = 0 := by rw [Nat.log2_def, if_neg (by omega)]

def gam (v : Nat) : List Bool := List.replicate (Nat.log2 v) false ++ low v (Nat.log2 v + 1)
def del (v : Nat) : List Bool := gam (Nat.log2 v + 1) ++ low v (Nat.log2 v)
def una (n : Nat) : List Bool := List.replicate n false ++ [true]
theorem gam_len (v : Nat) : (gam v).length = 2 * Nat.log2 v + 1 := by simp [gam, low_len]; omega
theorem del_len (v : Nat) : (del v).length = Nat.log2 v + 2 * Nat.log2 (Nat.log2 v + 1) + 1 := by simp [del, low_len, gam_len]; omega
theorem una_len (n : Nat) : (una n).length = n + 1 := by simp [una]

/-! Bits as bytes -/
def byteAt (l : List Bool) (k : Nat) : Nat :=
  (l.getD (8 * k) false).toNat * 128 + (l.getD (8 * k + 1) false).toNat * 64 + (l.getD (8 * k + 2) false).toNat * 32 + (l.getD (8 * k + 3) false).toNat * 16 +
  (l.getD (8 * k + 4) false).toNat * 8 + (l.getD (8 * k + 5) false).toNat * 4 + (l.getD (8 * k + 6) false).toNat * 2 + (l.getD (8 * k + 7) false).toNat
theorem byteAt_lt (l : List Bool) (k : Nat) : byteAt l k < 256 := by
  have h := fun i => Bool.toNat_le (l.getD i false)
  have h0 := h (8 * k); have h1 := h (8 * k + 1); have h2 := h (8 * k + 2); have h3 := h (8 * k + 3)
  have h4 := h (8 * k + 4); have h5 := h (8 * k + 5); have h6 := h (8 * k + 6); have h7 := h (8 * k + 7)
  unfold byteAt
  omega
theorem byteAt_bit (l : List Bool) (k j : Nat) (hj : j < 8) : byteAt l k / 2 ^ (7 - j) % 2 = (l.getD (8 * k + j) false).toNat := by
  have h := fun i => Bool.toNat_le (l.getD i false)
  have h0 := h (8 * k); have h1 := h (8 * k + 1); have h2 := h (8 * k + 2); have h3 := h (8 * k + 3)
  have h4 := h (8 * k + 4); have h5 := h (8 * k + 5); have h6 := h (8 * k + 6); have h7 := h (8 * k + 7)
  unfold byteAt
  clear h
  match j, hj with
  | 0, _ => simp only [Nat.sub_zero, Nat.add_zero]; omega
  | 1, _ => simp only [Nat.reduceSub, Nat.reducePow]; omega
  | 2, _ => simp only [Nat.reduceSub, Nat.reducePow]; omega
  | 3, _ => simp only [Nat.reduceSub, Nat.reducePow]; omega
  | 4, _ => simp only [Nat.reduceSub, Nat.reducePow]; omega
  | 5, _ => simp only [Nat.reduceSub, Nat.reducePow]; omega
  | 6, _ => simp only [Nat.reduceSub, Nat.reducePow]; omega
  | 7, _ => simp only [Nat.reduceSub, Nat.reducePow]; omega
theorem getD_old (l : List Bool) (x : Bool) (i : Nat) (h : i < l.length) : (l ++ [x]).getD i false = l.getD i false := by
  simp [List.getD, List.getElem?_append_left h]
theorem getD_at (l : List Bool) (x : Bool) : (l ++ [x]).getD l.length false = x := by simp [List.getD]
theorem getD_far (l : List Bool) (i : Nat) (h : l.length ≤ i) : l.getD i false = false := by
  simp [List.getD, List.getElem?_eq_none h]
theorem byteAt_old (l : List Bool) (x : Bool) (k : Nat) (h : k < l.length / 8) : byteAt (l ++ [x]) k = byteAt l k := by
  unfold byteAt
  rw [getD_old _ _ _ (by omega), getD_old _ _ _ (by omega), getD_old _ _ _ (by omega), getD_old _ _ _ (by omega), getD_old _ _ _ (by omega), getD_old _ _ _ (by omega), getD_old _ _ _ (by omega), getD_old _ _ _ (by omega)]
theorem byteAt_new (l : List Bool) (x : Bool) : byteAt (l ++ [x]) (l.length / 8) = byteAt l (l.length / 8) + x.toNat * 2 ^ (7 - l.length % 8) ∧ byteAt l (l.length / 8) % 2 ^ (8 - l.length % 8) = 0 := by
  have ho := getD_old l x
  have ha := getD_at l x
  have hf := getD_far l
  have hg : ∀ i, l.length < i → (l ++ [x]).getD i false = false := fun i hi => getD_far _ _ (by simp; omega)
  have h := fun i => Bool.toNat_le (l.getD i false)
  obtain ⟨k, hk⟩ : ∃ k, l.length / 8 = k := ⟨_, rfl⟩
  obtain ⟨r, hr⟩ : ∃ r, l.length % 8 = r := ⟨_, rfl⟩
  have hl : l.length = 8 * k + r := by omega
  rw [hk, hr]
  rw [hl] at ha ho hf hg
  have hr8 : r < 8 := by omega
  clear hk hr hl
  unfold byteAt
  match r, hr8 with
  | 0, _ =>
    have f : l.getD (8 * k) false = false := hf _ (by omega)
    have a' : (l ++ [x]).getD (8 * k) false = x := ha
    rw [a', hg (8 * k + 1) (by omega), hg (8 * k + 2) (by omega), hg (8 * k + 3) (by omega), hg (8 * k + 4) (by omega), hg (8 * k + 5) (by omega), hg (8 * k + 6) (by omega), hg (8 * k + 7) (by omega), f, hf (8 * k + 1) (by omega), hf (8 * k + 2) (by omega), hf (8 * k + 3) (by omega), hf (8 * k + 4) (by omega), hf (8 * k + 5) (by omega), hf (8 * k + 6) (by omega), hf (8 * k + 7) (by omega)]
    simp
  | 1, _ =>
    rw [ha, ho (8 * k) (by omega), hg (8 * k + 2) (by omega), hg (8 * k + 3) (by omega), hg (8 * k + 4) (by omega), hg (8 * k + 5) (by omega), hg (8 * k + 6) (by omega), hg (8 * k + 7) (by omega), hf (8 * k + 1) (by omega), hf (8 * k + 2) (by omega), hf (8 * k + 3) (by omega), hf (8 * k + 4) (by omega), hf (8 * k + 5) (by omega), hf (8 * k + 6) (by omega), hf (8 * k + 7) (by omega)]
    (simp <;> omega)
  | 2, _ =>
    rw [ha, ho (8 * k) (by omega), ho (8 * k + 1) (by omega), hg (8 * k + 3) (by omega), hg (8 * k + 4) (by omega), hg (8 * k + 5) (by omega), hg (8 * k + 6) (by omega), hg (8 * k + 7) (by omega), hf (8 * k + 2) (by omega), hf (8 * k + 3) (by omega), hf (8 * k + 4) (by omega), hf (8 * k + 5) (by omega), hf (8 * k + 6) (by omega), hf (8 * k + 7) (by omega)]
    (simp <;> omega)
  | 3, _ =>
    rw [ha, ho (8 * k) (by omega), ho (8 * k + 1) (by omega), ho (8 * k + 2) (by omega), hg (8 * k + 4) (by omega), hg (8 * k + 5) (by omega), hg (8 * k + 6) (by omega), hg (8 * k + 7) (by omega), hf (8 * k + 3) (by omega), hf (8 * k + 4) (by omega), hf (8 * k + 5) (by omega), hf (8 * k + 6) (by omega), hf (8 * k + 7) (by omega)]
    (simp <;> omega)
  | 4, _ =>
    rw [ha, ho (8 * k) (by omega), ho (8 * k + 1) (by omega), ho (8 * k + 2) (by omega), ho (8 * k + 3) (by omega), hg (8 * k + 5) (by omega), hg (8 * k + 6) (by omega), hg (8 * k + 7) (by omega), hf (8 * k + 4) (by omega), hf (8 * k + 5) (by omega), hf (8 * k + 6) (by omega), hf (8 * k + 7) (by omega)]
    (simp <;> omega)
  | 5, _ =>
    rw [ha, ho (8 * k) (by omega), ho (8 * k + 1) (by omega), ho (8 * k + 2) (by omega), ho (8 * k + 3) (by omega), ho (8 * k + 4) (by omega), hg (8 * k + 6) (by omega), hg (8 * k + 7) (by omega), hf (8 * k + 5) (by omega), hf (8 * k + 6) (by omega), hf (8 * k + 7) (by omega)]
    (simp <;> omega)
  | 6, _ =>
    rw [ha, ho (8 * k) (by omega), ho (8 * k + 1) (by omega), ho (8 * k + 2) (by omega), ho (8 * k + 3) (by omega), ho (8 * k + 4) (by omega), ho (8 * k + 5) (by omega), hg (8 * k + 7) (by omega), hf (8 * k + 6) (by omega), hf (8 * k + 7) (by omega)]
    (simp <;> omega)
  | 7, _ =>
    rw [ha, ho (8 * k) (by omega), ho (8 * k + 1) (by omega), ho (8 * k + 2) (by omega), ho (8 * k + 3) (by omega), ho (8 * k + 4) (by omega), ho (8 * k + 5) (by omega), ho (8 * k + 6) (by omega), hf (8 * k + 7) (by omega)]
    (simp <;> omega)

def pack (l : List Bool) : List UInt8 := (List.range ((l.length + 7) / 8)).map fun k => UInt8.ofNat (byteAt l k)
/-- .. with room for one bit more. -/
def pad (l : List Bool) : List UInt8 := (List.range (l.length / 8 + 1)).map fun k => UInt8.ofNat (byteAt l k)
theorem pack_len (l : List Bool) : (pack l).length = (l.length + 7) / 8 := by simp [pack]
theorem pad_len (l : List Bool) : (pad l).length = l.length / 8 + 1 := by simp [pad]
theorem pad_new (l : List Bool) (h : l.length % 8 = 0) : pad l = pack l ++ [0] := by
  have e : (l.length + 7) / 8 = l.length / 8 := by omega
  have hb := (byteAt_new l false).2
  have hl := byteAt_lt l (l.length / 8)
  rw [h] at hb
  simp only [Nat.sub_zero, Nat.reducePow] at hb
  have h0 : byteAt l (l.length / 8) = 0 := by omega
  rw [pad, pack, e, List.range_succ, List.map_append, List.map_cons, List.map_nil, h0]
  rfl
theorem pad_old (l : List Bool) (h : l.length % 8 ≠ 0) : pad l = pack l := by
  have e : (l.length + 7) / 8 = l.length / 8 + 1 := by omega
  rw [pad, pack, e]
theorem pad_at (l : List Bool) : (pad l)[l.length / 8]? = some (UInt8.ofNat (byteAt l (l.length / 8))) := by simp [pad]
theorem pack_snoc (l : List Bool) (x : Bool) : pack (l ++ [x]) = (pad l).set (l.length / 8) (UInt8.ofNat (byteAt l (l.length / 8) + x.toNat * 2 ^ (7 - l.length % 8))) := by
  apply List.ext_getElem?
  intro i
  have e : ((l ++ [x]).length + 7) / 8 = l.length / 8 + 1 := by simp; omega
  rw [pack, e, pad]
  by_cases h : i < l.length / 8
  · have h1 : i < l.length / 8 + 1 := by omega
    rw [List.getElem?_set_ne (by omega)]
    simp [h1, byteAt_old l x i h]
  · by_cases h' : i = l.length / 8
    · subst h'
      rw [List.getElem?_set_self (by simp)]
      simp [(byteAt_new l x).1]
    · rw [List.getElem?_set_ne (by omega)]
      simp [show ¬ i < l.length / 8 + 1 by omega]
/-- Setting a bit. -/
theorem or_add (a b k m : Nat) (hk : 2 ^ k = m) (ha : a % m = 0) (hb : b < m) : a ||| b = a + b := by
  subst hk
  have h := Nat.div_add_mod a (2 ^ k)
  rw [ha, Nat.add_zero] at h
  have := Nat.two_pow_add_eq_or_of_lt hb (a / 2 ^ k)
  rw [h] at this
  exact this.symm
theorem byteAt_or (l : List Bool) (x : Bool) : byteAt l (l.length / 8) ||| x.toNat * 2 ^ (7 - l.length % 8) = byteAt l (l.length / 8) + x.toNat * 2 ^ (7 - l.length % 8) := by
  refine or_add _ _ (8 - l.length % 8) _ rfl (byteAt_new l x).2 ?_
  have e : 2 ^ (8 - l.length % 8) = 2 ^ (7 - l.length % 8) * 2 := by
    rw [← Nat.pow_succ]
    congr 1
    omega
  have h : x.toNat * 2 ^ (7 - l.length % 8) ≤ 1 * 2 ^ (7 - l.length % 8) := Nat.mul_le_mul_right _ (Bool.toNat_le x)
  have : 0 < 2 ^ (7 - l.length % 8) := Nat.pow_pos (by decide)
  omega

/-- Bytes as bits. -/
def unpack (bs : List UInt8) (n : Nat) : List Bool := (List.range n).map fun i => decide ((bs.getD (i / 8) 0).toNat / 2 ^ (7 - i % 8) % 2 = 1)
theorem unpack_len (bs : List UInt8) (n : Nat) : (unpack bs n).length = n := by simp [unpack]
theorem unpack_at (bs : List UInt8) (n i : Nat) (h : i < n) : (unpack bs n)[i]? = some (decide ((bs.getD (i / 8) 0).toNat / 2 ^ (7 - i % 8) % 2 = 1)) := by simp [unpack, h]
theorem pack_at (l : List Bool) (k : Nat) (h : k < (l.length + 7) / 8) : ((pack l).getD k 0).toNat = byteAt l k := by
  have : (pack l)[k]? = some (UInt8.ofNat (byteAt l k)) := by simp [pack, h]
  rw [List.getD, this, Option.getD_some, toNat_of _ (byteAt_lt l k)]
theorem unpack_pack (l : List Bool) : unpack (pack l) l.length = l := by
  apply List.ext_getElem?
  intro i
  by_cases h : i < l.length
  · rw [unpack_at _ _ _ h, pack_at l _ (by omega), byteAt_bit l _ _ (by omega)]
    have e : 8 * (i / 8) + i % 8 = i := by omega
    rw [e]
    have : l.getD i false = l[i] := by simp [List.getD, h]
    rw [this, List.getElem?_eq_getElem h]
    cases l[i] <;> rfl
  · rw [List.getElem?_eq_none (by rw [unpack_len]; omega), List.getElem?_eq_none (by omega)]
end Go.Proofs.Ytbfnkmibbieijaa
