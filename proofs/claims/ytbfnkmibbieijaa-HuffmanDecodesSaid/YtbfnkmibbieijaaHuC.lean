/-
  THE PLAIN MATHEMATICS of package huffman, of no program: canonical codes, their order; reading a code bit by bit.
-/
import Derived.Test.YtbfnkmibbieijaaProg
namespace Go.Proofs.Ytbfnkmibbieijaa
set_option linter.unusedVariables false
/-! ### canonical codes -/
/-- The number of words of n bits that begin with a code. -/
def endN (L : List Nat) : Nat → Nat
  | 0 => 0
  | n + 1 => 2 * endN L n + L.count (n + 1)
/-- The first code of n bits. -/
def firstN (L : List Nat) (n : Nat) : Nat := 2 * endN L (n - 1)
theorem endN_eq (L : List Nat) {n : Nat} (h : 1 ≤ n) : endN L n = firstN L n + L.count n := by
  obtain ⟨m, rfl⟩ : ∃ m, n = m + 1 := ⟨n - 1, by omega⟩
  rfl
/-- The symbols of a length. -/
def symF : List Nat → Nat → Nat → List Nat
  | [], _, _ => []
  | x :: l, n, i => if x = n then i :: symF l n (i + 1) else symF l n (i + 1)
def symsOf (L : List Nat) (n : Nat) : List Nat := symF L n 0
theorem symF_append : ∀ (l m : List Nat) (n i : Nat), symF (l ++ m) n i = symF l n i ++ symF m n (i + l.length)
  | [], m, n, i => by simp [symF]
  | x :: l, m, n, i => by
    have e : ∀ q : List Nat, symF (x :: q) n i = if x = n then i :: symF q n (i + 1) else symF q n (i + 1) := fun _ => rfl
    rw [List.cons_append, e, e, symF_append l m n (i + 1), List.length_cons, show i + 1 + l.length = i + (l.length + 1) by omega]
    by_cases h : x = n
    · rw [if_pos h, if_pos h]; rfl
    · rw [if_neg h, if_neg h]
theorem symsOf_snoc (L : List Nat) (x n : Nat) : symsOf (L ++ [x]) n = if x = n then symsOf L n ++ [L.length] else symsOf L n := by
  unfold symsOf
  rw [symF_append]
  unfold symF
  by_cases h : x = n
  · rw [if_pos h, if_pos h]; simp [symF]
  · rw [if_neg h, if_neg h]; simp [symF]
theorem symF_len : ∀ (l : List Nat) (n i : Nat), (symF l n i).length = l.count n
  | [], n, i => rfl
  | x :: l, n, i => by
    unfold symF
    rw [List.count_cons]
    by_cases h : x = n
    · rw [if_pos h, if_pos (by simpa using h), List.length_cons, symF_len]
    · rw [if_neg h, if_neg (by simpa using h), symF_len]; omega
theorem symsOf_len (L : List Nat) (n : Nat) : (symsOf L n).length = L.count n := symF_len L n 0
/-- Symbol s of length n stands behind as many as there are in front of it. -/
theorem symF_get : ∀ (l : List Nat) (n i s : Nat), l[s]? = some n → (symF l n i)[(l.take s).count n]? = some (i + s)
  | [], n, i, s, h => by simp at h
  | x :: l, n, i, 0, h => by
    have e : x = n := by simpa using h
    unfold symF
    rw [if_pos e]; simp
  | x :: l, n, i, s + 1, h => by
    have ih := symF_get l n (i + 1) s (by simpa using h)
    rw [List.take_succ_cons, List.count_cons]
    unfold symF
    by_cases e : x = n
    · rw [if_pos e, if_pos (by simpa using e), List.getElem?_cons_succ, ih]; congr 1; omega
    · rw [if_neg e, if_neg (by simpa using e)]
      show (symF l n (i + 1))[(l.take s).count n]? = _
      rw [ih]; congr 1; omega
theorem symF_back : ∀ (l : List Nat) (n i j s : Nat), (symF l n i)[j]? = some s → i ≤ s ∧ l[s - i]? = some n ∧ (l.take (s - i)).count n = j
  | [], n, i, j, s, h => by simp [symF] at h
  | x :: l, n, i, j, s, h => by
    unfold symF at h
    by_cases e : x = n
    · rw [if_pos e] at h
      cases j with
      | zero =>
        have : i = s := by simpa using h
        subst this
        simp [e]
      | succ j =>
        rw [List.getElem?_cons_succ] at h
        obtain ⟨h1, h2, h3⟩ := symF_back l n (i + 1) j s h
        refine ⟨by omega, ?_, ?_⟩
        · rw [show s - i = (s - (i + 1)) + 1 by omega, List.getElem?_cons_succ]; exact h2
        · rw [show s - i = (s - (i + 1)) + 1 by omega, List.take_succ_cons, List.count_cons, h3, if_pos (by simpa using e)]
    · rw [if_neg e] at h
      obtain ⟨h1, h2, h3⟩ := symF_back l n (i + 1) j s h
      refine ⟨by omega, ?_, ?_⟩
      · rw [show s - i = (s - (i + 1)) + 1 by omega, List.getElem?_cons_succ]; exact h2
      · rw [show s - i = (s - (i + 1)) + 1 by omega, List.take_succ_cons, List.count_cons, h3, if_neg (by simpa using e)]; omega
theorem symsOf_get {L : List Nat} {n s : Nat} (h : L[s]? = some n) : (symsOf L n)[(L.take s).count n]? = some s := by
  have := symF_get L n 0 s h
  rwa [Nat.zero_add] at this
theorem symsOf_back {L : List Nat} {n j s : Nat} (h : (symsOf L n)[j]? = some s) : L[s]? = some n ∧ (L.take s).count n = j := by
  obtain ⟨_, h2, h3⟩ := symF_back L n 0 j s h
  exact ⟨h2, h3⟩
theorem count_lt {L : List Nat} {n s : Nat} (h : L[s]? = some n) : (L.take s).count n < L.count n := by
  have := (List.getElem?_eq_some_iff.1 (symsOf_get h)).1
  rwa [symsOf_len] at this
/-- The code of symbol s. -/
def codeN (L : List Nat) (s : Nat) : Nat := if L.getD s 0 = 0 then 0 else firstN L (L.getD s 0) + (L.take s).count (L.getD s 0)
theorem codeN_at {L : List Nat} {s n : Nat} (h : L[s]? = some n) (hn : 1 ≤ n) : codeN L s = firstN L n + (L.take s).count n := by
  unfold codeN
  have e : L.getD s 0 = n := by rw [List.getD_eq_getElem?_getD, h]; rfl
  rw [e, if_neg (by omega)]
theorem codeN_lt {L : List Nat} {s n : Nat} (h : L[s]? = some n) (hn : 1 ≤ n) : codeN L s < endN L n := by
  rw [codeN_at h hn, endN_eq L hn]
  have := count_lt h
  omega
theorem codeN_ge {L : List Nat} {s n : Nat} (h : L[s]? = some n) (hn : 1 ≤ n) : firstN L n ≤ codeN L s := by rw [codeN_at h hn]; omega
theorem endN_step (L : List Nat) (n : Nat) : endN L (n + 1) = 2 * endN L n + L.count (n + 1) := rfl
theorem endN_shift (L : List Nat) (n : Nat) : ∀ d, endN L n * 2 ^ d ≤ endN L (n + d)
  | 0 => by simp
  | d + 1 => by
    have := endN_shift L n d
    rw [← Nat.add_assoc, endN_step, Nat.pow_succ, ← Nat.mul_assoc]
    omega
theorem endN_first (L : List Nat) (n m : Nat) (h : n < m) : endN L n * 2 ^ (m - n) ≤ firstN L m := by
  unfold firstN
  have := endN_shift L n (m - 1 - n)
  rw [show n + (m - 1 - n) = m - 1 by omega] at this
  rw [show m - n = (m - 1 - n) + 1 by omega, Nat.pow_succ, ← Nat.mul_assoc]
  omega
/-- The sum of 2^-length, in words of 15 bits. -/
def kraft (L : List Nat) : Nat := (L.map fun n => if n = 0 then 0 else 2 ^ (15 - n)).sum
theorem endN_snoc (L : List Nat) (x : Nat) : ∀ m, endN (L ++ [x]) m = endN L m + (if 1 ≤ x ∧ x ≤ m then 2 ^ (m - x) else 0)
  | 0 => by
    rw [if_neg (by omega)]; rfl
  | m + 1 => by
    have hc : (L ++ [x]).count (m + 1) = L.count (m + 1) + if x = m + 1 then 1 else 0 := by
      rw [List.count_append, List.count_singleton]
      by_cases e : x = m + 1
      · subst e; simp
      · rw [if_neg e, if_neg (by simpa using e)]
    rw [endN_step, endN_step, endN_snoc L x m, hc]
    by_cases h : 1 ≤ x ∧ x ≤ m
    · rw [if_pos h, if_pos (by omega : 1 ≤ x ∧ x ≤ m + 1), if_neg (by omega : ¬ x = m + 1), show m + 1 - x = (m - x) + 1 by omega, Nat.pow_succ]; omega
    · rw [if_neg h]
      by_cases e : x = m + 1
      · subst e
        rw [if_pos rfl, if_pos (by omega), Nat.sub_self]; omega
      · rw [if_neg e, if_neg (by omega)]; omega
theorem kraft_snoc (L : List Nat) (x : Nat) : kraft (L ++ [x]) = kraft L + (if x = 0 then 0 else 2 ^ (15 - x)) := by simp [kraft]
theorem list_snoc {P : List Nat → Prop} (h0 : P []) (h1 : ∀ l x, P l → P (l ++ [x])) (l : List Nat) : P l := by
  have : ∀ m : List Nat, P m.reverse := fun m => by
    induction m with
    | nil => exact h0
    | cons x m ih => rw [List.reverse_cons]; exact h1 _ _ ih
  have := this l.reverse
  rwa [List.reverse_reverse] at this
theorem kraft_end (L : List Nat) : (∀ n ∈ L, n ≤ 15) → kraft L = endN L 15 := by
  refine list_snoc (P := fun L => (∀ n ∈ L, n ≤ 15) → kraft L = endN L 15) (fun _ => ?_) (fun l x ih h => ?_) L
  · decide
  · rw [kraft_snoc, endN_snoc, ih fun n hn => h n (by simp [hn])]
    have := h x (by simp)
    by_cases e : x = 0
    · rw [if_pos e, if_neg (by omega)]
    · rw [if_neg e, if_pos (by omega)]
theorem endN_le (L : List Nat) : ∀ n, endN L n ≤ L.length * (2 ^ n - 1)
  | 0 => by simp [endN]
  | n + 1 => by
    have h1 := endN_le L n
    have h2 : L.count (n + 1) ≤ L.length := List.count_le_length
    rw [endN_step, Nat.pow_succ]
    have h3 : 1 ≤ 2 ^ n := Nat.one_le_two_pow
    have h4 : L.length * (2 ^ n * 2 - 1) = 2 * (L.length * (2 ^ n - 1)) + L.length := by
      obtain ⟨q, hq⟩ : ∃ q, 2 ^ n = q + 1 := ⟨2 ^ n - 1, by omega⟩
      rw [hq, show (q + 1) * 2 - 1 = 2 * q + 1 by omega, show q + 1 - 1 = q by omega, Nat.mul_add, ← Nat.mul_assoc, Nat.mul_comm L.length 2, Nat.mul_assoc]; omega
    omega
/-- Lengths that a code has. -/
def okLens (L : List Nat) : Prop := L.length ≤ 1024 ∧ (∀ n ∈ L, n ≤ 15) ∧ endN L 15 ≤ 32768
theorem endN_le15 (L : List Nat) {n : Nat} (hn : n ≤ 15) : endN L n ≤ endN L 15 := by
  have := endN_shift L n (15 - n)
  rw [show n + (15 - n) = 15 by omega] at this
  have h1 : 1 ≤ 2 ^ (15 - n) := Nat.one_le_two_pow
  have h2 : endN L n * 1 ≤ endN L n * 2 ^ (15 - n) := Nat.mul_le_mul_left _ h1
  omega

/-! ### no code is the beginning of another one -/
theorem code_inj {L : List Nat} {i k n : Nat} (hi : L[i]? = some n) (hk : L[k]? = some n) (hn : 1 ≤ n) (h : codeN L i = codeN L k) : i = k := by
  rw [codeN_at hi hn, codeN_at hk hn] at h
  have h1 := symsOf_get hi
  have h2 := symsOf_get hk
  rw [show (L.take i).count n = (L.take k).count n by omega, h2] at h1
  exact (Option.some.inj h1).symm
theorem code_above {L : List Nat} {i k n m : Nat} (hi : L[i]? = some n) (hk : L[k]? = some m) (hn : 1 ≤ n) (hm : n < m) : codeN L i * 2 ^ (m - n) ≤ codeN L k ∧ codeN L i < codeN L k / 2 ^ (m - n) := by
  have h1 := codeN_lt hi hn
  have h2 := codeN_ge hk (by omega)
  have h3 := endN_first L n m hm
  have hp := Nat.two_pow_pos (m - n)
  have h4 : (codeN L i + 1) * 2 ^ (m - n) ≤ codeN L k := Nat.le_trans (Nat.mul_le_mul_right _ h1) (by omega)
  refine ⟨?_, (Nat.le_div_iff_mul_le hp).2 h4⟩
  rw [Nat.add_mul] at h4; omega
/-! ### reading a code bit by bit -/
/-- What a word of n bits, none of whose beginnings is a code, begins: a code exactly if it is less than the end. -/
theorem alive_iff {L : List Nat} (hL : okLens L) {n v : Nat} (hn : n ≤ 15) (hv : endN L n ≤ v) : (∃ s k, L[s]? = some k ∧ n < k ∧ codeN L s / 2 ^ (k - n) = v) ↔ v * 2 ^ (15 - n) < endN L 15 := by
  constructor
  · rintro ⟨s, k, hs, hk, he⟩
    have hk15 := hL.2.1 k (List.mem_of_getElem? hs)
    have h1 := codeN_lt hs (by omega)
    have h2 : v * 2 ^ (k - n) ≤ codeN L s := by rw [← he]; exact Nat.div_mul_le_self ..
    have h3 := endN_shift L k (15 - k)
    rw [show k + (15 - k) = 15 by omega] at h3
    rw [show 15 - n = (k - n) + (15 - k) by omega, Nat.pow_add, ← Nat.mul_assoc]
    have h4 : (v * 2 ^ (k - n)) * 2 ^ (15 - k) < endN L k * 2 ^ (15 - k) := Nat.mul_lt_mul_of_pos_right (by omega) (Nat.two_pow_pos _)
    omega
  · intro h
    have key : ∀ d, n + d ≤ 15 → endN L n ≤ v → v * 2 ^ d < endN L (n + d) → ∃ s k, L[s]? = some k ∧ n < k ∧ codeN L s / 2 ^ (k - n) = v := by
      intro d
      induction d with
      | zero => intro _ h1 h2; rw [Nat.pow_zero, Nat.mul_one] at h2; rw [Nat.add_zero] at h2; omega
      | succ d ih =>
        intro hd h1 h2
        by_cases c : v * 2 ^ d < endN L (n + d)
        · exact ih (by omega) h1 c
        · have h3 : endN L (n + (d + 1)) = 2 * endN L (n + d) + L.count (n + (d + 1)) := rfl
          have h4 : v * 2 ^ (d + 1) = 2 * (v * 2 ^ d) := by rw [Nat.pow_succ, ← Nat.mul_assoc]; omega
          have h5 : v * 2 ^ (d + 1) - firstN L (n + (d + 1)) < (symsOf L (n + (d + 1))).length := by
            rw [symsOf_len]
            unfold firstN
            rw [show n + (d + 1) - 1 = n + d by omega]
            omega
          obtain ⟨s, hs⟩ : ∃ s, (symsOf L (n + (d + 1)))[v * 2 ^ (d + 1) - firstN L (n + (d + 1))]? = some s := ⟨_, List.getElem?_eq_getElem h5⟩
          obtain ⟨h6, h7⟩ := symsOf_back hs
          refine ⟨s, n + (d + 1), h6, by omega, ?_⟩
          have h8 : firstN L (n + (d + 1)) ≤ v * 2 ^ (d + 1) := by
            unfold firstN
            rw [show n + (d + 1) - 1 = n + d by omega]
            omega
          rw [codeN_at h6 (by omega), h7, show n + (d + 1) - n = d + 1 by omega, show firstN L (n + (d + 1)) + (v * 2 ^ (d + 1) - firstN L (n + (d + 1))) = v * 2 ^ (d + 1) by omega]
          exact Nat.mul_div_cancel _ (Nat.two_pow_pos _)
    refine key (15 - n) (by omega) hv ?_
    rw [show n + (15 - n) = 15 by omega]
    exact h
end Go.Proofs.Ytbfnkmibbieijaa
