/-
  THE PLAIN MATHEMATICS of package huffman, of no program: canonical codes, their order; reading a code bit by bit.
  WALKS over package huffman: the book in memory; open.
  WALKS over package huffman: codes, Codes.
-/
import Derived.Test.YteennnhinfnahaaProg
import Derived.Test.YteennnhinfnahaaTzD
import Derived.Deep.AppendLies
import Derived.StillTailTactics
import Derived.Test.YteennnhinfnahaaHuEq
import Derived.Laws.MakeOwn
namespace Go.Proofs.Yteennnhinfnahaa
set_option linter.unusedVariables false
/-! ### canonical codes -/
/-- The number of words of n bits that begin with a code. -/
def endN (L : List Nat) : Nat → Nat
  | 0 => 0
  | n + 1 => 2 * endN L n + L.count (n + 1)
/-- The first code of n bits. -/
def firstN (L : List Nat) (n : Nat) : Nat := 2 * endN L (n - 1)
theorem endN_eq (L : List Nat) {n : Nat} (h : 1 ≤ n) : endN L n = firstN L n + L.count n := by
  obtain ⟨m, rfl⟩ : ∃ m, n = m + 1 := ⟨n - 1, by omega⟩
  rfl
/-- The symbols of a length. -/
def symF : List Nat → Nat → Nat → List Nat
  | [], _, _ => []
  | x :: l, n, i => if x = n then i :: symF l n (i + 1) else symF l n (i + 1)
def symsOf (L : List Nat) (n : Nat) : List Nat := symF L n 0
theorem symF_append : ∀ (l m : List Nat) (n i : Nat), symF (l ++ m) n i = symF l n i ++ symF m n (i + l.length)
  | [], m, n, i => by simp [symF]
  | x :: l, m, n, i => by
    have e : ∀ q : List Nat, symF (x :: q) n i = if x = n then i :: symF q n (i + 1) else symF q n (i + 1) := fun _ => rfl
    rw [List.cons_append, e, e, symF_append l m n (i + 1), List.length_cons, show i + 1 + l.length = i + (l.length + 1) by omega]
    by_cases h : x = n
    · rw [if_pos h, if_pos h]; rfl
    · rw [if_neg h, if_neg h]
theorem symsOf_snoc (L : List Nat) (x n : Nat) : symsOf (L ++ [x]) n = if x = n then symsOf L n ++ [L.length] else symsOf L n := by
  unfold symsOf
  rw [symF_append]
  unfold symF
  by_cases h : x = n
  · rw [if_pos h, if_pos h]; simp [symF]
  · rw [if_neg h, if_neg h]; simp [symF]
theorem symF_len : ∀ (l : List Nat) (n i : Nat), (symF l n i).length = l.count n
  | [], n, i => rfl
  | x :: l, n, i => by
    unfold symF
    rw [List.count_cons]
    by_cases h : x = n
    · rw [if_pos h, if_pos (by simpa using h), List.length_cons, symF_len]
    · rw [if_neg h, if_neg (by simpa using h), symF_len]; omega
theorem symsOf_len (L : List Nat) (n : Nat) : (symsOf L n).length = L.count n := symF_len L n 0
/-- Symbol s of length n stands behind as many as there are in front of it. -/
theorem symF_get : ∀ (l : List Nat) (n i s : Nat), l[s]? = some n → (symF l n i)[(l.take s).count n]? = some (i + s)
  | [], n, i, s, h => by simp at h
  | x :: l, n, i, 0, h => by
    have e : x = n := by simpa using h
    unfold symF
    rw [if_pos e]; simp
  | x :: l, n, i, s + 1, h => by
    have ih := symF_get l n (i + 1) s (by simpa using h)
    rw [List.take_succ_cons, List.count_cons]
    unfold symF
    by_cases e : x = n
    · rw [if_pos e, if_pos (by simpa using e), List.getElem?_cons_succ, ih]; congr 1; omega
    · rw [if_neg e, if_neg (by simpa using e)]
      show (symF l n (i + 1))[(l.take s).count n]? = _
      rw [ih]; congr 1; omega
theorem symF_back : ∀ (l : List Nat) (n i j s : Nat), (symF l n i)[j]? = some s → i ≤ s ∧ l[s - i]? = some n ∧ (l.take (s - i)).count n = j
  | [], n, i, j, s, h => by simp [symF] at h
  | x :: l, n, i, j, s, h => by
    unfold symF at h
    by_cases e : x = n
    · rw [if_pos e] at h
      cases j with
      | zero =>
        have : i = s := by simpa using h
        subst this
        simp [e]
      | succ j =>
        rw [List.getElem?_cons_succ] at h
        obtain ⟨h1, h2, h3⟩ := symF_back l n (i + 1) j s h
        refine ⟨by omega, ?_, ?_⟩
        · rw [show s - i = (s - (i + 1)) + 1 by omega, List.getElem?_cons_succ]; exact h2
        · rw [show s - i = (s - (i + 1)) + 1 by omega, List.take_succ_cons, List.count_cons, h3, if_pos (by simpa using e)]
    · rw [if_neg e] at h
      obtain ⟨h1, h2, h3⟩ := symF_back l n (i + 1) j s h
      refine ⟨by omega, ?_, ?_⟩
      · rw [show s - i = (s - (i + 1)) + 1 by omega, List.getElem?_cons_succ]; exact h2
      · rw [show s - i = (s - (i + 1)) + 1 by omega, List.take_succ_cons, List.count_cons, h3, if_neg (by simpa using e)]; omega
theorem symsOf_get {L : List Nat} {n s : Nat} (h : L[s]? = some n) : (symsOf L n)[(L.take s).count n]? = some s := by
  have := symF_get L n 0 s h
  rwa [Nat.zero_add] at this
theorem symsOf_back {L : List Nat} {n j s : Nat} (h : (symsOf L n)[j]? = some s) : L[s]? = some n ∧ (L.take s).count n = j := by
  obtain ⟨_, h2, h3⟩ := symF_back L n 0 j s h
  exact ⟨h2, h3⟩
theorem count_lt {L : List Nat} {n s : Nat} (h : L[s]? = some n) : (L.take s).count n < L.count n := by
  have := (List.getElem?_eq_some_iff.1 (symsOf_get h)).1
  rwa [symsOf_len] at this
/-- The code of symbol s. -/
def codeN (L : List Nat) (s : Nat) : Nat := if L.getD s 0 = 0 then 0 else firstN L (L.getD s 0) + (L.take s).count (L.getD s 0)
theorem codeN_at {L : List Nat} {s n : Nat} (h : L[s]? = some n) (hn : 1 ≤ n) : codeN L s = firstN L n + (L.take s).count n := by
  unfold codeN
  have e : L.getD s 0 = n := by rw [List.getD_eq_getElem?_getD, h]; rfl
  rw [e, if_neg (by omega)]
theorem codeN_lt {L : List Nat} {s n : Nat} (h : L[s]? = some n) (hn : 1 ≤ n) : codeN L s < endN L n := by
  rw [codeN_at h hn, endN_eq L hn]
  have := count_lt h
  omega
theorem codeN_ge {L : List Nat} {s n : Nat} (h : L[s]? = some n) (hn : 1 ≤ n) : firstN L n ≤ codeN L s := by rw [codeN_at h hn]; omega
theorem endN_step (L : List Nat) (n : Nat) : endN L (n + 1) = 2 * endN L n + L.count (n + 1) := rfl
theorem endN_shift (L : List Nat) (n : Nat) : ∀ d, endN L n * 2 ^ d ≤ endN L (n + d)
  | 0 => by simp
  | d + 1 => by
    have := endN_shift L n d
    rw [← Nat.add_assoc, endN_step, Nat.pow_succ, ← Nat.mul_assoc]
    omega
theorem endN_first (L : List Nat) (n m : Nat) (h : n < m) : endN L n * 2 ^ (m - n) ≤ firstN L m := by
  unfold firstN
  have := endN_shift L n (m - 1 - n)
  rw [show n + (m - 1 - n) = m - 1 by omega] at this
  rw [show m - n = (m - 1 - n) + 1 by omega, Nat.pow_succ, ← Nat.mul_assoc]
  omega
/-- The sum of 2^-length, in words of 15 bits. -/
def kraft (L : List Nat) : Nat := (L.map fun n => if n = 0 then 0 else 2 ^ (15 - n)).sum
theorem endN_snoc (L : List Nat) (x : Nat) : ∀ m, endN (L ++ [x]) m = endN L m + (if 1 ≤ x ∧ x ≤ m then 2 ^ (m - x) else 0)
  | 0 => by
    rw [if_neg (by omega)]; rfl
  | m + 1 => by
    have hc : (L ++ [x]).count (m + 1) = L.count (m + 1) + if x = m + 1 then 1 else 0 := by
      rw [List.count_append, List.count_singleton]
      by_cases e : x = m + 1
      · subst e; simp
      · rw [if_neg e, if_neg (by simpa using e)]
    rw [endN_step, endN_step, endN_snoc L x m, hc]
    by_cases h : 1 ≤ x ∧ x ≤ m
    · rw [if_pos h, if_pos (by omega : 1 ≤ x ∧ x ≤ m + 1), if_neg (by omega : ¬ x = m + 1), show m + 1 - x = (m - x) + 1 by omega, Nat.pow_succ]; omega
    · rw [if_neg h]
      by_cases e : x = m + 1
      · subst e
        rw [if_pos rfl, if_pos (by omega), Nat.sub_self]; omega
      · rw [if_neg e, if_neg (by omega)]; omega
theorem kraft_snoc (L : List Nat) (x : Nat) : kraft (L ++ [x]) = kraft L + (if x = 0 then 0 else 2 ^ (15 - x)) := by simp [kraft]
theorem list_snoc {P : List Nat → Prop} (h0 : P []) (h1 : ∀ l x, P l → P (l ++ [x])) (l : List Nat) : P l := by
  have : ∀ m : List Nat, P m.reverse := fun m => by
    induction m with
    | nil => exact h0
    | cons x m ih => rw [List.reverse_cons]; exact h1 _ _ ih
  have := this l.reverse
  rwa [List.reverse_reverse] at this
theorem kraft_end (L : List Nat) : (∀ n ∈ L, n ≤ 15) → kraft L = endN L 15 := by
  refine list_snoc (P := fun L => (∀ n ∈ L, n ≤ 15) → kraft L = endN L 15) (fun _ => ?_) (fun l x ih h => ?_) L
  · decide
  · rw [kraft_snoc, endN_snoc, ih fun n hn => h n (by simp [hn])]
    have := h x (by simp)
    by_cases e : x = 0
    · rw [if_pos e, if_neg (by omega)]
    · rw [if_neg e, if_pos (by omega)]
theorem endN_le (L : List Nat) : ∀ n, endN L n ≤ L.length * (2 ^ n - 1)
  | 0 => by simp [endN]
  | n + 1 => by
    have h1 := endN_le L n
    have h2 : L.count (n + 1) ≤ L.length := List.count_le_length
    rw [endN_step, Nat.pow_succ]
    have h3 : 1 ≤ 2 ^ n := Nat.one_le_two_pow
    have h4 : L.length * (2 ^ n * 2 - 1) = 2 * (L.length * (2 ^ n - 1)) + L.length := by
      obtain ⟨q, hq⟩ : ∃ q, 2 ^ n = q + 1 := ⟨2 ^ n - 1, by omega⟩
      rw [hq, show (q + 1) * 2 - 1 = 2 * q + 1 by omega, show q + 1 - 1 = q by omega, Nat.mul_add, ← Nat.mul_assoc, Nat.mul_comm L.length 2, Nat.mul_assoc]; omega
    omega
/-- Lengths that a code has. -/
def okLens (L : List Nat) : Prop := L.length ≤ 1024 ∧ (∀ n ∈ L, n ≤ 15) ∧ endN L 15 ≤ 32768
theorem endN_le15 (L : List Nat) {n : Nat} (hn : n ≤ 15) : endN L n ≤ endN L 15 := by
  have := endN_shift L n (15 - n)
  rw [show n + (15 - n) = 15 by omega] at this
  have h1 : 1 ≤ 2 ^ (15 - n) := Nat.one_le_two_pow
  have h2 : endN L n * 1 ≤ endN L n * 2 ^ (15 - n) := Nat.mul_le_mul_left _ h1
  omega

/-! ### no code is the beginning of another one -/
theorem code_inj {L : List Nat} {i k n : Nat} (hi : L[i]? = some n) (hk : L[k]? = some n) (hn : 1 ≤ n) (h : codeN L i = codeN L k) : i = k := by
  rw [codeN_at hi hn, codeN_at hk hn] at h
  have h1 := symsOf_get hi
  have h2 := symsOf_get hk
  rw [show (L.take i).count n = (L.take k).count n by omega, h2] at h1
  exact (Option.some.inj h1).symm
theorem code_above {L : List Nat} {i k n m : Nat} (hi : L[i]? = some n) (hk : L[k]? = some m) (hn : 1 ≤ n) (hm : n < m) : codeN L i * 2 ^ (m - n) ≤ codeN L k ∧ codeN L i < codeN L k / 2 ^ (m - n) := by
  have h1 := codeN_lt hi hn
  have h2 := codeN_ge hk (by omega)
  have h3 := endN_first L n m hm
  have hp := Nat.two_pow_pos (m - n)
  have h4 : (codeN L i + 1) * 2 ^ (m - n) ≤ codeN L k := Nat.le_trans (Nat.mul_le_mul_right _ h1) (by omega)
  refine ⟨?_, (Nat.le_div_iff_mul_le hp).2 h4⟩
  rw [Nat.add_mul] at h4; omega
/-! ### reading a code bit by bit -/
/-- What a word of n bits, none of whose beginnings is a code, begins: a code exactly if it is less than the end. -/
theorem alive_iff {L : List Nat} (hL : okLens L) {n v : Nat} (hn : n ≤ 15) (hv : endN L n ≤ v) : (∃ s k, L[s]? = some k ∧ n < k ∧ codeN L s / 2 ^ (k - n) = v) ↔ v * 2 ^ (15 - n) < endN L 15 := by
  constructor
  · rintro ⟨s, k, hs, hk, he⟩
    have hk15 := hL.2.1 k (List.mem_of_getElem? hs)
    have h1 := codeN_lt hs (by omega)
    have h2 : v * 2 ^ (k - n) ≤ codeN L s := by rw [← he]; exact Nat.div_mul_le_self ..
    have h3 := endN_shift L k (15 - k)
    rw [show k + (15 - k) = 15 by omega] at h3
    rw [show 15 - n = (k - n) + (15 - k) by omega, Nat.pow_add, ← Nat.mul_assoc]
    have h4 : (v * 2 ^ (k - n)) * 2 ^ (15 - k) < endN L k * 2 ^ (15 - k) := Nat.mul_lt_mul_of_pos_right (by omega) (Nat.two_pow_pos _)
    omega
  · intro h
    have key : ∀ d, n + d ≤ 15 → endN L n ≤ v → v * 2 ^ d < endN L (n + d) → ∃ s k, L[s]? = some k ∧ n < k ∧ codeN L s / 2 ^ (k - n) = v := by
      intro d
      induction d with
      | zero => intro _ h1 h2; rw [Nat.pow_zero, Nat.mul_one] at h2; rw [Nat.add_zero] at h2; omega
      | succ d ih =>
        intro hd h1 h2
        by_cases c : v * 2 ^ d < endN L (n + d)
        · exact ih (by omega) h1 c
        · have h3 : endN L (n + (d + 1)) = 2 * endN L (n + d) + L.count (n + (d + 1)) := rfl
          have h4 : v * 2 ^ (d + 1) = 2 * (v * 2 ^ d) := by rw [Nat.pow_succ, ← Nat.mul_assoc]; omega
          have h5 : v * 2 ^ (d + 1) - firstN L (n + (d + 1)) < (symsOf L (n + (d + 1))).length := by
            rw [symsOf_len]
            unfold firstN
            rw [show n + (d + 1) - 1 = n + d by omega]
            omega
          obtain ⟨s, hs⟩ : ∃ s, (symsOf L (n + (d + 1)))[v * 2 ^ (d + 1) - firstN L (n + (d + 1))]? = some s := ⟨_, List.getElem?_eq_getElem h5⟩
          obtain ⟨h6, h7⟩ := symsOf_back hs
          refine ⟨s, n + (d + 1), h6, by omega, ?_⟩
          have h8 : firstN L (n + (d + 1)) ≤ v * 2 ^ (d + 1) := by
            unfold firstN
            rw [show n + (d + 1) - 1 = n + d by omega]
            omega
          rw [codeN_at h6 (by omega), h7, show n + (d + 1) - n = d + 1 by omega, show firstN L (n + (d + 1)) + (v * 2 ^ (d + 1) - firstN L (n + (d + 1))) = v * 2 ^ (d + 1) by omega]
          exact Nat.mul_div_cancel _ (Nat.two_pow_pos _)
    refine key (15 - n) (by omega) hv ?_
    rw [show n + (15 - n) = 15 by omega]
    exact h
end Go.Proofs.Yteennnhinfnahaa
namespace Go.Proofs.Yteennnhinfnahaa
open Go.RowKit Go.Shelf Go.Lib Go.Deep
set_option linter.unusedVariables false
set_option linter.unusedSimpArgs false

/-- Indices, as a row. -/
def symV (ns : List Nat) : List Value := ns.map fun (j : Nat) => Value.int .i64 (j : Int)
def u64V (fs : List Nat) : List Value := fs.map fun (f : Nat) => Value.int .u64 (f : Int)
def bookC (fs : List Nat) (vs : List Value) (en : Nat) : Array Value := (u64V fs ++ vs ++ [Value.int .u64 (en : Int)]).toArray
theorem book_f {fs : List Nat} {vs : List Value} {en i f : Nat} (h : fs[i]? = some f) : (bookC fs vs en)[i]? = some (.int .u64 (f : Int)) := by
  have hi := (List.getElem?_eq_some_iff.1 h).1
  unfold bookC u64V
  rw [List.getElem?_toArray, List.append_assoc, List.getElem?_append_left (by simpa using hi), List.getElem?_map, h]
  rfl
theorem book_v {fs : List Nat} {vs : List Value} {en i : Nat} {v : Value} (hf : fs.length = 16) (h : vs[i]? = some v) : (bookC fs vs en)[16 + i]? = some v := by
  have hi := (List.getElem?_eq_some_iff.1 h).1
  have e : (u64V fs).length = 16 := by simp [u64V, hf]
  unfold bookC
  rw [List.getElem?_toArray, List.append_assoc, List.getElem?_append_right (by omega), e, Nat.add_sub_cancel_left, List.getElem?_append_left hi, h]
theorem book_e {fs : List Nat} {vs : List Value} {en : Nat} (hf : fs.length = 16) (hv : vs.length = 16) : (bookC fs vs en)[32]? = some (.int .u64 (en : Int)) := by
  have e : (u64V fs ++ vs).length = 32 := by simp [u64V, hf, hv]
  unfold bookC
  rw [List.getElem?_toArray, List.getElem?_append_right (by omega), e]
  rfl
theorem book_set_f {fs : List Nat} {vs : List Value} {en i f : Nat} (h : i < fs.length) : (bookC fs vs en).setIfInBounds i (.int .u64 (f : Int)) = bookC (fs.set i f) vs en := by
  unfold bookC u64V
  rw [List.setIfInBounds_toArray, List.append_assoc, List.set_append_left _ _ (by simpa using h), List.map_set, List.append_assoc]
theorem book_set_v {fs : List Nat} {vs : List Value} {en i : Nat} {v : Value} (hf : fs.length = 16) (h : i < vs.length) : (bookC fs vs en).setIfInBounds (16 + i) v = bookC fs (vs.set i v) en := by
  have e : (u64V fs).length = 16 := by simp [u64V, hf]
  unfold bookC
  rw [List.setIfInBounds_toArray, List.append_assoc, List.set_append_right _ _ (by omega), e, Nat.add_sub_cancel_left, List.set_append_left _ _ h, List.append_assoc]
theorem book_set_e {fs : List Nat} {vs : List Value} {en f : Nat} (hf : fs.length = 16) (hv : vs.length = 16) : (bookC fs vs en).setIfInBounds 32 (.int .u64 (f : Int)) = bookC fs vs f := by
  have e : (u64V fs ++ vs).length = 32 := by simp [u64V, hf, hv]
  unfold bookC
  rw [List.setIfInBounds_toArray, List.set_append_right _ _ (by omega), e]
  rfl
/-- A book in memory. -/
structure BkAt (w : World) (N : Nat) (fs : List Nat) (vs : List Value) (en : Nat) (L : List Nat) : Prop where
  box : w.heap[N]? = some (.cells (bookC fs vs en) 131 (0, 0))
  fl : fs.length = 16
  vl : vs.length = 16
  rows : ∀ (n : Nat) (v : Value), vs[n]? = some v → w.ownsRow N 3 1 v (symsOf L n).length (symV (symsOf L n))
  apart : ∀ (n m : Nat) (v u : Value), n ≠ m → vs[n]? = some v → vs[m]? = some u → ∀ b, v.ownBlock = some b → u.ownBlock ≠ some b
theorem BkAt.lt {w : World} {N en : Nat} {fs : List Nat} {vs : List Value} {L : List Nat} (h : BkAt w N fs vs en L) : N < w.heap.size := heap_lt h.box
theorem BkAt.below {w W : World} {N en : Nat} {fs : List Nat} {vs : List Value} {L : List Nat} (h : BkAt w N fs vs en L) (hb : Below w.heap.size w W) : BkAt W N fs vs en L :=
  ⟨by rw [hb.block N h.lt]; exact h.box, h.fl, h.vl, fun n v hn => own_below (h.rows n v hn) fun k hk => hb.block k (own_low (h.rows n v hn) k hk).2, h.apart⟩
theorem BkAt.drew {w : World} {N en : Nat} {fs : List Nat} {vs : List Value} {L : List Nat} (h : BkAt w N fs vs en L) : BkAt w.drew N fs vs en L := ⟨h.box, h.fl, h.vl, h.rows, h.apart⟩
theorem BkAt.drewN {w : World} {N en : Nat} {fs : List Nat} {vs : List Value} {L : List Nat} (h : BkAt w N fs vs en L) (q : Nat) : BkAt (w.drewN q) N fs vs en L := ⟨h.box, h.fl, h.vl, h.rows, h.apart⟩
/-- A store into the box. -/
theorem BkAt.set {w : World} {N en : Nat} {fs : List Nat} {vs : List Value} {L : List Nat} (h : BkAt w N fs vs en L) {i : Nat} {u : Value} {fs' : List Nat} {en' : Nat} (he : (bookC fs vs en).setIfInBounds i u = bookC fs' vs en') (hl : fs'.length = 16) : BkAt (w.setCell ⟨N, i, none⟩ u) N fs' vs en' L :=
  ⟨by rw [← he]; exact set_of h.box u, hl, h.vl, fun n v hn => own_below (h.rows n v hn) fun k hk => Below.heap_setCell _ _ _ _ (fun e => by
    have e' : k = N := e
    subst e'
    exact own_other (h.rows n v hn) h.box (by decide) hk), h.apart⟩
/-- Behind an append to one row. -/
theorem BkAt.push {w X wa : World} {N en k x g cap : Nat} {fs : List Nat} {vs : List Value} {L : List Nat} {v : Value} {o : Obj} (h : BkAt w N fs vs en L) (hX : w.alloc o = X) (hL : L.length = k) (hv : vs[x]? = some v)
    (ho : wa.ownsRow N 3 1 (.slice (some ⟨g, 0, none⟩) ((symsOf L x).length + 1) cap) ((symsOf L x).length + 1) (symV (symsOf L x) ++ [.int .i64 (k : Int)])) (hg : X.grownBy wa v.ownBlock) (hn : v.ownBlock = some g ∨ g = X.heap.size) :
    wa.heap[N]? = some (.cells (bookC fs vs en) 131 (0, 0)) ∧ BkAt (wa.setCell ⟨N, 16 + x, none⟩ (.slice (some ⟨g, 0, none⟩) ((symsOf L x).length + 1) cap)) N fs (vs.set x (.slice (some ⟨g, 0, none⟩) ((symsOf L x).length + 1) cap)) en (L ++ [x]) := by
  have hxl := (List.getElem?_eq_some_iff.1 hv).1
  have hXs : X.heap.size = w.heap.size + 1 := by rw [← hX]; simp
  have hboxX : X.heap[N]? = some (.cells (bookC fs vs en) 131 (0, 0)) := by rw [← hX, Below.heap_alloc _ _ _ h.lt]; exact h.box
  have hrX : ∀ (n : Nat) (u : Value), vs[n]? = some u → X.ownsRow N 3 1 u (symsOf L n).length (symV (symsOf L n)) := fun n u hu => by rw [← hX]; exact (h.rows n u hu).alloc _
  have hbox : wa.heap[N]? = some (.cells (bookC fs vs en) 131 (0, 0)) := by
    rw [hg.block N (by have := h.lt; omega) (fun e => own_other (hrX x v hv) hboxX (by decide) e.symm)]; exact hboxX
  have hgN : g ≠ N := fun e => by
    subst e
    exact own_other ho hbox (by decide) rfl
  have hset : ∀ j, j ≠ N → (wa.setCell ⟨N, 16 + x, none⟩ (.slice (some ⟨g, 0, none⟩) ((symsOf L x).length + 1) cap)).heap[j]? = wa.heap[j]? := fun j hj => Below.heap_setCell _ _ _ _ hj
  refine ⟨hbox, ⟨by rw [← book_set_v h.fl hxl]; exact set_of hbox _, h.fl, by rw [List.length_set]; exact h.vl, fun n u hu => ?_, fun n m u1 u2 hnm h1 h2 b hb1 hb2 => ?_⟩⟩
  · rw [symsOf_snoc]
    rw [List.getElem?_set] at hu
    by_cases e : x = n
    · subst e
      rw [if_pos rfl, if_pos hxl] at hu
      cases hu
      rw [if_pos rfl, List.length_append, List.length_singleton, hL]
      have e2 : symV (symsOf L x ++ [k]) = symV (symsOf L x) ++ [.int .i64 (k : Int)] := by simp [symV]
      rw [e2]
      exact own_below ho fun j hj => hset j (fun e => by subst e; exact own_other ho hbox (by decide) hj)
    · rw [if_neg e] at hu
      rw [if_neg e]
      have hr := hrX n u hu
      have hr2 : wa.ownsRow N 3 1 u (symsOf L n).length (symV (symsOf L n)) := own_below hr fun j hj => hg.block j (own_low hr j hj).2 (fun e2 => h.apart n x u v (fun q => e q.symm) hu hv j hj e2.symm)
      exact own_below hr2 fun j hj => hset j (fun e => by subst e; exact own_other hr2 hbox (by decide) hj)
  · rw [List.getElem?_set] at h1 h2
    have hnew : ∀ (m : Nat) (u : Value), m ≠ x → vs[m]? = some u → u.ownBlock ≠ some g := fun m u hm hu e => by
      rcases hn with hn | hn
      · exact h.apart m x u v hm hu hv g e hn
      · have := (own_low (hrX m u hu) g e).2
        omega
    by_cases e1 : x = n
    · subst e1
      rw [if_pos rfl, if_pos hxl] at h1
      cases h1
      rw [if_neg hnm] at h2
      simp only [Value.ownBlock, Option.some.injEq] at hb1
      subst hb1
      exact hnew m u2 (fun q => hnm q.symm) h2 hb2
    · rw [if_neg e1] at h1
      by_cases e2 : x = m
      · subst e2
        rw [if_pos rfl, if_pos hxl] at h2
        cases h2
        simp only [Value.ownBlock, Option.some.injEq] at hb2
        subst hb2
        exact hnew n u1 hnm h1 hb1
      · rw [if_neg e2] at h2
        exact h.apart n m u1 u2 hnm h1 h2 b hb1 hb2

/-- The first codes of lengths up to n. -/
def fsN (L : List Nat) (n : Nat) : List Nat := (List.range 16).map fun i => if 1 ≤ i ∧ i ≤ n then firstN L i else 0
theorem fsN_len (L : List Nat) (n : Nat) : (fsN L n).length = 16 := by simp [fsN]
theorem fsN_zero (L : List Nat) : fsN L 0 = List.replicate 16 0 := by
  unfold fsN
  apply List.ext_getElem?
  intro i
  rw [List.getElem?_map]
  by_cases h : i < 16
  · rw [List.getElem?_range h, List.getElem?_replicate, if_pos h, Option.map_some, if_neg (by omega)]
  · rw [List.getElem?_eq_none (by simpa using h), List.getElem?_eq_none (by simpa using h)]; rfl
theorem fsN_at (L : List Nat) {n i : Nat} (h1 : 1 ≤ i) (h2 : i ≤ n) (h3 : n ≤ 15) : (fsN L n)[i]? = some (firstN L i) := by
  unfold fsN
  rw [List.getElem?_map, List.getElem?_range (by omega), Option.map_some, if_pos ⟨h1, h2⟩]
theorem fsN_set (L : List Nat) {n : Nat} (h : n + 1 ≤ 15) : (fsN L n).set (n + 1) (firstN L (n + 1)) = fsN L (n + 1) := by
  apply List.ext_getElem?
  intro i
  rw [List.getElem?_set, fsN_len]
  by_cases e : n + 1 = i
  · subst e
    rw [if_pos rfl, if_pos (by omega), fsN_at L (by omega) (Nat.le_refl _) h]
  · rw [if_neg e]
    unfold fsN
    rw [List.getElem?_map, List.getElem?_map]
    by_cases hi : i < 16
    · rw [List.getElem?_range hi, Option.map_some, Option.map_some]
      by_cases c : 1 ≤ i ∧ i ≤ n
      · rw [if_pos c, if_pos (by omega)]
      · rw [if_neg c, if_neg (by omega)]
    · rw [List.getElem?_eq_none (by simpa using hi)]; rfl
def natLs (cs : List Int) : List Nat := cs.map Int.toNat
/-- Valid lengths. -/
def okLH (cs : List Int) : Prop := cs.length ≤ 1024 ∧ (∀ c ∈ cs, 0 ≤ c ∧ c ≤ 15) ∧ endN (natLs cs) 15 ≤ 32768
def OpenV (w : World) (cs : List Int) (e : Ending) (w' : World) : Prop :=
  Below w.heap.size w w' ∧ ((¬ okLH cs ∧ e = .returned (.tuple #[.pointer none, .int .i64 1])) ∨ (okLH cs ∧ ∃ vs, e = .returned (.tuple #[.pointer (some ⟨w.heap.size, 0, none⟩), .int .i64 0]) ∧ BkAt w' w.heap.size (fsN (natLs cs) 15) vs (endN (natLs cs) 15) (natLs cs)))
theorem natLs_step {cs : List Int} {k : Nat} {c : Int} (h : cs[k]? = some c) : natLs (cs.take (k + 1)) = natLs (cs.take k) ++ [c.toNat] := by
  unfold natLs
  rw [List.take_add_one, h]; simp
theorem cnt_le (L : List Nat) (n : Nat) : (symsOf L n).length ≤ L.length := by rw [symsOf_len]; exact List.count_le_length
/-- Between two rounds of the first loop. -/
def O1At (w : World) (N : Nat) (cs : List Int) (k : Nat) (wr : World) : Prop := (∀ x ∈ cs.take k, 0 ≤ x ∧ x ≤ 15) ∧ Below N w wr ∧ ∃ vs, BkAt wr N (List.replicate 16 0) vs 0 (natLs (cs.take k))
def O2At (w : World) (N : Nat) (L : List Nat) (n : Nat) (wr : World) : Prop := Below N w wr ∧ ∃ vs, BkAt wr N (fsN L n) vs (endN L n) L

set_option maxRecDepth 100000 in
set_option maxHeartbeats 8000000 in
theorem open_any {w : World} {v : Value} {cs : List Int} (hv : Rows 1 EInt w v cs) (hlen : cs.length ≤ maxLen) :
    Calls Try.prog 61 #[v] w (OpenV w cs) := by
  obtain ⟨N, hN⟩ : ∃ N, w.heap.size = N := ⟨_, rfl⟩
  have HV := Lib.hid (fun W (hb : Below N w W) => hv.below stays_int (hN ▸ hb))
  obtain ⟨A, cap, rfl, hc⟩ := hv.form
  obtain ⟨n, hn⟩ : ∃ n, cs.length = n := ⟨_, rfl⟩
  unfold maxLen at hlen
  rw [hn] at HV hc hlen ⊢
  have HCN := Lib.hid hn
  have HN := Lib.hid hN
  by_cases hbig : 1024 < n
  · have hI : (1024 : Int) < (n : Int) := by omega
    have HE : Hid (OpenV w cs (.returned (.tuple #[.pointer none, .int .i64 1])) w) := Lib.hid ⟨Below.refl _ _, .inl ⟨fun h => by have := h.1; omega, rfl⟩⟩
    clear hv hn hN hlen hc hbig
    go_enter Try.func61, Try.ntmps61
    go_wp2_with fail
    go_ret2
    exact HE.out
  · have hI : ¬ (1024 : Int) < (n : Int) := by omega
    obtain ⟨X, hX⟩ : ∃ X, w.alloc (.cells (bookC (List.replicate 16 0) (List.replicate 16 (.slice none 0 0)) 0) 131) = X := ⟨_, rfl⟩
    have hst0 : O1At w N cs 0 X := by
      refine ⟨fun x hx => by simp at hx, by rw [← hX, ← hN]; exact below_box _ _, List.replicate 16 (.slice none 0 0), ?_, by simp, by simp, fun n v hv => ?_, fun n m v u _ hv _ b hb => ?_⟩
      · rw [← hX, ← hN]; exact block_new _ _
      · have e : v = .slice none 0 0 := by
          rw [List.getElem?_replicate] at hv
          split at hv
          · exact (Option.some.inj hv).symm
          · cases hv
        subst e
        exact World.ownsRow_nil _ _ _ 1
      · have e : v = .slice none 0 0 := by
          rw [List.getElem?_replicate] at hv
          split at hv
          · exact (Option.some.inj hv).symm
          · cases hv
        subst e
        simp [Value.ownBlock] at hb
    have HST0 := Lib.hid hst0
    have HX := Lib.hid hX
    have hn1 : n ≤ 1024 := by omega
    obtain ⟨i0, hi, hz0, hz1, hz2⟩ := info_parts' Try.infoInt2
    clear hst0 hX hN hv hn hc hlen hbig
    go_enter Try.func61, Try.ntmps61
    go_wp2_with fail
    generalize hW0 : w.alloc (.cells _ 131) = W0
    obtain rfl : W0 = X := by rw [← hW0]; exact HX.out
    clear hW0
    rw [HN.out]
    go_loopw [15] (fun sv wr => ∃ k : Nat, k ≤ n ∧ sv = .int .i64 k ∧ Hid (O1At w N cs k wr)) (fun sv _ => n - (Go.RowKit.intOf sv).toNat)
    case atStart => exact ⟨0, Nat.zero_le _, rfl, HST0⟩
    case round =>
      clear HST0 HX
      obtain ⟨k, hk, rfl, HS⟩ := hrel
      by_cases hlt : k < n
      · have hlti : (k : Int) < (n : Int) := by omega
        obtain ⟨c, hcx⟩ : ∃ c, cs[k]? = some c := ⟨_, List.getElem?_eq_getElem (by rw [HCN.out]; exact hlt)⟩
        obtain ⟨b, o, rfl, -, hj⟩ := at_int (HV.out wr HS.out.2.1) (by rw [HCN.out]; omega)
        have u0 := hj k c hcx
        by_cases d1 : c < 0
        · have b1 : decide (c < 0) = true := decide_eq_true d1
          have HE : Hid (OpenV w cs (.returned (.tuple #[.pointer none, .int .i64 1])) wr) := Lib.hid ⟨by rw [HN.out]; exact HS.out.2.1, .inl ⟨fun h => by have := (h.2.1 c (List.mem_of_getElem? hcx)).1; omega, rfl⟩⟩
          clear hj hcx HS d1
          go_wp2_with fail
          go_ret2
          exact HE.out
        · have b1 : decide (c < 0) = false := decide_eq_false d1
          by_cases d2 : 15 < c
          · have b2 : decide (c > 15) = true := decide_eq_true d2
            have HE : Hid (OpenV w cs (.returned (.tuple #[.pointer none, .int .i64 1])) wr) := Lib.hid ⟨by rw [HN.out]; exact HS.out.2.1, .inl ⟨fun h => by have := (h.2.1 c (List.mem_of_getElem? hcx)).2; omega, rfl⟩⟩
            clear hj hcx HS d1 d2
            go_wp2_with fail
            go_ret2
            exact HE.out
          · have b2 : decide (c > 15) = false := decide_eq_false d2
            obtain ⟨x, rfl⟩ : ∃ x : Nat, c = x := ⟨c.toNat, by omega⟩
            have hx16 : x < 16 := by omega
            have hx16i : (x : Int) < 16 := by omega
            obtain ⟨hbd, hbl, vs, hbk⟩ := HS.out
            have hbd2 : ∀ y ∈ cs.take (k + 1), 0 ≤ y ∧ y ≤ 15 := fun y hy => by
              rw [List.take_add_one, hcx] at hy
              rcases List.mem_append.1 hy with hy | hy
              · exact hbd y hy
              · have : y = (x : Int) := by simpa using hy
                omega
            have hstep := natLs_step hcx
            rw [Int.toNat_natCast] at hstep
            obtain ⟨L, hL⟩ : ∃ L, natLs (cs.take k) = L := ⟨_, rfl⟩
            have hLk : L.length = k := by rw [← hL]; unfold natLs; rw [List.length_map, List.length_take, HCN.out]; omega
            rw [hL] at hbk hstep
            obtain ⟨vx, hvx⟩ : ∃ v, vs[x]? = some v := ⟨_, List.getElem?_eq_getElem (by rw [hbk.vl]; exact hx16)⟩
            have hcnt : (symsOf L x).length ≤ 1024 := by have := cnt_le L x; omega
            have hox := hbk.rows x vx hvx
            have HB0 := Lib.hid (show wr.drew.cell? ⟨N, 16 + x, none⟩ = some vx from cell_of hbk.drew.box (book_v hbk.fl hvx))
            obtain ⟨X3, hX3⟩ : ∃ X3, wr.drew.alloc (.cells #[.int .i64 (k : Int)] 3) = X3 := ⟨_, rfl⟩
            have hb3 : X3.heap[N]? = some (.cells (bookC (List.replicate 16 0) vs 0) 131 (0, 0)) := by rw [← hX3, Below.heap_alloc _ _ _ hbk.drew.lt]; exact hbk.box
            have HB3 := Lib.hid (show X3.cell? ⟨N, 16 + x, none⟩ = some vx from cell_of hb3 (book_v hbk.fl hvx))
            have HO3 : Hid (X3.ownsRow N 3 1 vx (symsOf L x).length (symV (symsOf L x))) := Lib.hid (by rw [← hX3]; exact hox.alloc _)
            have hNX : N ≤ X3.heap.size := Nat.le_of_lt (heap_lt hb3)
            have HNW : Hid (∀ (j : Nat) (u : Value), [Value.int .i64 (k : Int)][j]? = some u → X3.cell? ((⟨wr.heap.size, 0, none⟩ : Addr).add j) = some u) := Lib.hid (by rw [← hX3]; exact news_at wr.drew [.int .i64 (k : Int)] 3)
            have HBL3 : Hid (Below N w X3) := Lib.hid (by rw [← hX3]; exact hbl.drew.alloc (by have := hbk.lt; exact Nat.le_of_lt this) _)
            have HBK := Lib.hid hbk.drew
            have HX3 : Hid ((wr.alloc (.cells #[.int .i64 (k : Int)] 3)).drew = X3) := Lib.hid (by rw [← hX3]; rfl)
            have HX3a := Lib.hid hX3
            have HLK := Lib.hid hLk
            have HVX := Lib.hid hvx
            have HBD := Lib.hid hbd2
            have HSTEP := Lib.hid hstep
            obtain ⟨m, hm⟩ : ∃ m, (symsOf L x).length = m := ⟨_, rfl⟩
            have HM := Lib.hid hm
            rw [hm] at HO3 hcnt
            clear hj hcx HS d1 d2 hbd hbl hbk hbd2 hstep hL hLk hvx hox hX3 hb3 hm
            go_wp2_with fail
            refine wp_region_Z (z := 14) (S := (fun w' => w'.cell? ⟨N, 16 + x, none⟩ = some vx)) (by kernel_rfl) ?_ (fun hHeld => ?_)
            · (try dsimp only); exact HB0.out
            refine wpAnyZ_take (i := 0) (oi := ?oi1) (v := ?v1) ?hi1 (by kernel_rfl) (by kernel_rfl) (by kernel_rfl) (by kernel_rfl) ?hq1 ?hy1 (by assumption) ?hr1
            case hi1 => (simp only [List.getElem?_toArray, List.getElem?_cons_zero]; rfl)
            case hq1 => exact fun _ _ _ h => h
            case hy1 => exact Or.inl ⟨by rfl, by intro whSw hSw'; (try dsimp only at hSw'); (first | (go_simp; done) | (go_simp; with_reducible rfl))⟩
            try simp only [Act.put, List.setIfInBounds_toArray, List.set_cons_zero, List.set_cons_succ]
            refine wpAnyZ_take (i := 1) (oi := ?oi2) (v := ?v2) ?hi2 (by kernel_rfl) (by kernel_rfl) (by kernel_rfl) (by kernel_rfl) ?hq2 ?hy2 (by assumption) ?hr2
            case hi2 => (simp only [List.getElem?_toArray, List.getElem?_cons_succ, List.getElem?_cons_zero]; rfl)
            case hq2 => exact fun _ _ _ h => h
            case hy2 => exact Or.inl ⟨by rfl, by intro whSw hSw'; (try dsimp only at hSw'); (first | (go_simp; done) | (go_simp; with_reducible rfl))⟩
            try simp only [Act.put, List.setIfInBounds_toArray, List.set_cons_zero, List.set_cons_succ]
            refine wpAnyZ_take (i := 2) (oi := ?oi3) (v := ?v3) ?hi3 (by kernel_rfl) (by kernel_rfl) (by kernel_rfl) (by kernel_rfl) ?hq3 ?hy3 (by assumption) ?hr3
            case hi3 => (simp only [List.getElem?_toArray, List.getElem?_cons_succ, List.getElem?_cons_zero]; rfl)
            case hq3 => exact fun _ _ _ h => h
            case hy3 => exact Or.inl ⟨by rfl, by intro whSw hSw'; (try dsimp only at hSw'); (first | (go_simp; done) | (go_simp; with_reducible rfl))⟩
            try simp only [Act.put, List.setIfInBounds_toArray, List.set_cons_zero, List.set_cons_succ]
            refine wpAnyZ_take (i := 3) (oi := ?oi4) (v := ?v4) ?hi4 (by kernel_rfl) (by kernel_rfl) (by kernel_rfl) (by kernel_rfl) ?hq4 ?hy4 (by assumption) ?hr4
            case hi4 => (simp only [List.getElem?_toArray, List.getElem?_cons_succ, List.getElem?_cons_zero]; rfl)
            case hq4 => exact fun _ _ _ h => h
            case hy4 => exact Or.inl ⟨by rfl, by intro whSw hSw'; (try dsimp only at hSw'); (first | (go_simp; done) | (go_simp; with_reducible rfl))⟩
            try simp only [Act.put, List.setIfInBounds_toArray, List.set_cons_zero, List.set_cons_succ]
            refine wpAnyZ_take (i := 4) (oi := ?oi5) (v := ?v5) ?hi5 (by kernel_rfl) (by kernel_rfl) (by kernel_rfl) (by kernel_rfl) ?hq5 ?hy5 (by assumption) ?hr5
            case hi5 => (simp only [List.getElem?_toArray, List.getElem?_cons_succ, List.getElem?_cons_zero]; rfl)
            case hq5 => exact fun _ _ _ h => h
            case hy5 => exact Or.inl ⟨by rfl, by intro whSw hSw'; (try dsimp only at hSw'); (first | (go_simp; done) | (go_simp; with_reducible rfl))⟩
            try simp only [Act.put, List.setIfInBounds_toArray, List.set_cons_zero, List.set_cons_succ]
            refine wpAnyZ_take (i := 5) (oi := ?oi6) (v := ?v6) ?hi6 (by kernel_rfl) (by kernel_rfl) (by kernel_rfl) (by kernel_rfl) ?hq6 ?hy6 (by assumption) ?hr6
            case hi6 => (simp only [List.getElem?_toArray, List.getElem?_cons_succ, List.getElem?_cons_zero]; rfl)
            case hq6 => exact fun _ _ _ h => h
            case hy6 => exact Or.inl ⟨by rfl, by intro whSw hSw'; (try dsimp only at hSw'); (first | (go_simp; done) | (go_simp; with_reducible rfl))⟩
            try simp only [Act.put, List.setIfInBounds_toArray, List.set_cons_zero, List.set_cons_succ]
            refine wpAnyZ_take (i := 6) (oi := ?oi7) (v := ?v7) ?hi7 (by kernel_rfl) (by kernel_rfl) (by kernel_rfl) (by kernel_rfl) ?hq7 ?hy7 (by assumption) ?hr7
            case hi7 => (simp only [List.getElem?_toArray, List.getElem?_cons_succ, List.getElem?_cons_zero]; rfl)
            case hq7 => exact fun _ _ _ h => h
            case hy7 => exact Or.inl ⟨by rfl, by intro whSw hSw'; (try dsimp only at hSw'); (first | (go_simp; done) | (go_simp; with_reducible rfl))⟩
            try simp only [Act.put, List.setIfInBounds_toArray, List.set_cons_zero, List.set_cons_succ]
            refine wpAnyZ_take (i := 7) (oi := ?oi8) (v := ?v8) ?hi8 (by kernel_rfl) (by kernel_rfl) (by kernel_rfl) (by kernel_rfl) ?hq8 ?hy8 (by assumption) ?hr8
            case hi8 => (simp only [List.getElem?_toArray, List.getElem?_cons_succ, List.getElem?_cons_zero]; rfl)
            case hq8 => exact fun _ _ _ h => h
            case hy8 => exact Or.inl ⟨by rfl, by intro whSw hSw'; (try dsimp only at hSw'); (first | (go_simp; done) | (go_simp; with_reducible rfl))⟩
            try simp only [Act.put, List.setIfInBounds_toArray, List.set_cons_zero, List.set_cons_succ]
            refine wpAnyZ_take (i := 8) (oi := ?oi9) (v := ?v9) ?hi9 (by kernel_rfl) (by kernel_rfl) (by kernel_rfl) (by kernel_rfl) ?hq9 ?hy9 (by assumption) ?hr9
            case hi9 => (simp only [List.getElem?_toArray, List.getElem?_cons_succ, List.getElem?_cons_zero]; rfl)
            case hq9 => exact fun _ _ _ h => h
            case hy9 => exact Or.inl ⟨by rfl, by intro whSw hSw'; (try dsimp only at hSw'); (first | (go_simp; done) | (go_simp; with_reducible rfl))⟩
            try simp only [Act.put, List.setIfInBounds_toArray, List.set_cons_zero, List.set_cons_succ]
            refine wpAnyZ_ready (rs := [9, 11]) (by kernel_rfl) (by simp) ?_
            refine AllReadyZ.cons (o := ?oo10) ?hi10 (fun K hK => ?hs10) ?hm10
            case hi10 => (simp only [List.getElem?_toArray, List.getElem?_cons_succ, List.getElem?_cons_zero]; rfl)
            · go_simp
              refine hK.out _ _ ?_ (fun hHeld => ?_)
              · (try dsimp only); first | exact HB4.out | (rw [HX3.out]; exact HB3.out) | exact HB0.out
              clear hK K
              try simp only [Act.put, List.setIfInBounds_toArray, List.set_cons_zero, List.set_cons_succ]
              refine wpAnyZ_ready (rs := [10, 11]) (by kernel_rfl) (by simp) ?_
              refine AllReadyZ.cons (o := ?oo11) ?hi11 (fun K hK => ?hs11) ?hm11
              case hi11 => (simp only [List.getElem?_toArray, List.getElem?_cons_succ, List.getElem?_cons_zero]; rfl)
              · rw [HX3.out]
                refine step_append_lies X3 rfl (.tmp 33) (.tmp 35) 22 rfl N 3 i0 _ 1 8 Try.underlying22 hi hz0 hz1 hz2 rfl (by decide) vx m (symV (symsOf L x)) rfl HO3.out ⟨wr.heap.size, 0, none⟩ 1 1 [.int .i64 (k : Int)] rfl rfl HNW.out (by simp [Value.oneCell']) (by decide) (by unfold maxLen; omega) (by omega) hNX X3.heap.size rfl ?_
                intro g cg wa ho hg hgn hgl
                have hp := BkAt.push HBK.out HX3a.out HLK.out HVX.out (by rw [HM.out]; exact ho) hg hgn
                rw [HM.out] at hp
                have HB4 := Lib.hid (cell_of hp.1 (book_v HBK.out.fl HVX.out))
                have HP4 := Lib.hid hp.2
                have HBL4 := Lib.hid (HBL3.out.grown hg hNX (fun k e => (own_low HO3.out k e).1))
                have s3 := HB4.out
                have f3 : wa.frozen? ⟨N, 16 + x, none⟩ = false := frozen_of hp.1
                clear ho hg hp hgn hgl
                refine hK.out _ _ ?_ (fun hHeld => ?_)
                · (try dsimp only); first | exact HB4.out | (rw [HX3.out]; exact HB3.out) | exact HB0.out
                clear hK K
                try simp only [Act.put, List.setIfInBounds_toArray, List.set_cons_zero, List.set_cons_succ]
                refine wpAnyZ_ready (rs := [11]) (by kernel_rfl) (by simp) ?_
                refine AllReadyZ.cons (o := ?oo12) ?hi12 (fun K hK => ?hs12) ?hm12
                case hi12 => (simp only [List.getElem?_toArray, List.getElem?_cons_succ, List.getElem?_cons_zero]; rfl)
                · go_simp
                  refine hK.out _ _ ?_ (fun hHeld => ?_)
                  · (try dsimp only); first | exact HB4.out | (rw [HX3.out]; exact HB3.out) | exact HB0.out
                  clear hK K
                  try simp only [Act.put, List.setIfInBounds_toArray, List.set_cons_zero, List.set_cons_succ]
                  refine wpAnyZ_ready (rs := [12]) (by kernel_rfl) (by simp) ?_
                  refine AllReadyZ.cons (o := ?oo13) ?hi13 (fun K hK => ?hs13) ?hm13
                  case hi13 => (simp only [List.getElem?_toArray, List.getElem?_cons_succ, List.getElem?_cons_zero]; rfl)
                  · go_simp
                    refine hK.out _ _ ?_ (fun hHeld => ?_)
                    · (try dsimp only); first | exact HB4.out | (rw [HX3.out]; exact HB3.out) | exact HB0.out
                    clear hK K
                    try simp only [Act.put, List.setIfInBounds_toArray, List.set_cons_zero, List.set_cons_succ]
                    refine wpAnyZ_ready (rs := [13]) (by kernel_rfl) (by simp) ?_
                    refine AllReadyZ.cons (o := ?oo14) ?hi14 (fun K hK => ?hs14) ?hm14
                    case hi14 => (simp only [List.getElem?_toArray, List.getElem?_cons_succ, List.getElem?_cons_zero]; rfl)
                    · go_simp
                      refine hK.out _ _ ?_ (fun hHeld => ?_)
                      · (try dsimp only); first | exact HB4.out | (rw [HX3.out]; exact HB3.out) | exact HB0.out
                      clear hK K
                      try simp only [Act.put, List.setIfInBounds_toArray, List.set_cons_zero, List.set_cons_succ]
                      refine wpAnyZ_ready (rs := [14]) (by kernel_rfl) (by simp) ?_
                      refine AllReadyZ.last (o := ?oo15) ?hi15 (fun K hK => ?hs15)
                      case hi15 => (simp only [List.getElem?_toArray, List.getElem?_cons_succ, List.getElem?_cons_zero]; rfl)
                      · go_simp
                        refine hK.out _ _ ?_
                        clear hK K
                        try simp only [Act.put, List.setIfInBounds_toArray, List.set_cons_zero, List.set_cons_succ]
                        refine wpAnyZ_done (by kernel_rfl) ?_ _
                        obtain ⟨W5, hW5⟩ : ∃ W5, wa.setCell ⟨N, 16 + x, none⟩ (.slice (some ⟨g, 0, none⟩) (m + 1) cg) = W5 := ⟨_, rfl⟩
                        have HW5 : Hid (O1At w N cs (k + 1) W5) := Lib.hid ⟨HBD.out, by rw [← hW5]; exact HBL4.out.setCell (p := ⟨N, 16 + x, none⟩) (Nat.le_refl _) _, _, by rw [HSTEP.out, ← hW5]; exact HP4.out⟩
                        rw [hW5]
                        clear hW5 HP4 HB4 s3 f3 hHeld HB0 HB3 HO3 HNW HBL3 HBL4 HBK HX3 HX3a HLK HVX HBD HSTEP HM
                        go_wp2_with fail
                        exact ⟨⟨k + 1, by omega, by go_num, HW5⟩, by simp only [Go.RowKit.intOf]; omega⟩
                    exact AllReadyZ.nil
                  exact AllReadyZ.nil
                exact AllReadyZ.nil
              refine AllReadyZ.cons (o := ?oo16) ?hi16 (fun K hK => ?hs16) ?hm16
              case hi16 => (simp only [List.getElem?_toArray, List.getElem?_cons_succ, List.getElem?_cons_zero]; rfl)
              · go_simp
                refine hK.out _ _ ?_ (fun hHeld => ?_)
                · (try dsimp only); first | exact HB4.out | (rw [HX3.out]; exact HB3.out) | exact HB0.out
                clear hK K
                try simp only [Act.put, List.setIfInBounds_toArray, List.set_cons_zero, List.set_cons_succ]
                refine wpAnyZ_ready (rs := [10, 12]) (by kernel_rfl) (by simp) ?_
                refine AllReadyZ.cons (o := ?oo17) ?hi17 (fun K hK => ?hs17) ?hm17
                case hi17 => (simp only [List.getElem?_toArray, List.getElem?_cons_succ, List.getElem?_cons_zero]; rfl)
                · rw [HX3.out]
                  refine step_append_lies X3 rfl (.tmp 33) (.tmp 35) 22 rfl N 3 i0 _ 1 8 Try.underlying22 hi hz0 hz1 hz2 rfl (by decide) vx m (symV (symsOf L x)) rfl HO3.out ⟨wr.heap.size, 0, none⟩ 1 1 [.int .i64 (k : Int)] rfl rfl HNW.out (by simp [Value.oneCell']) (by decide) (by unfold maxLen; omega) (by omega) hNX X3.heap.size rfl ?_
                  intro g cg wa ho hg hgn hgl
                  have hp := BkAt.push HBK.out HX3a.out HLK.out HVX.out (by rw [HM.out]; exact ho) hg hgn
                  rw [HM.out] at hp
                  have HB4 := Lib.hid (cell_of hp.1 (book_v HBK.out.fl HVX.out))
                  have HP4 := Lib.hid hp.2
                  have HBL4 := Lib.hid (HBL3.out.grown hg hNX (fun k e => (own_low HO3.out k e).1))
                  have s3 := HB4.out
                  have f3 : wa.frozen? ⟨N, 16 + x, none⟩ = false := frozen_of hp.1
                  clear ho hg hp hgn hgl
                  refine hK.out _ _ ?_ (fun hHeld => ?_)
                  · (try dsimp only); first | exact HB4.out | (rw [HX3.out]; exact HB3.out) | exact HB0.out
                  clear hK K
                  try simp only [Act.put, List.setIfInBounds_toArray, List.set_cons_zero, List.set_cons_succ]
                  refine wpAnyZ_ready (rs := [12]) (by kernel_rfl) (by simp) ?_
                  refine AllReadyZ.cons (o := ?oo18) ?hi18 (fun K hK => ?hs18) ?hm18
                  case hi18 => (simp only [List.getElem?_toArray, List.getElem?_cons_succ, List.getElem?_cons_zero]; rfl)
                  · go_simp
                    refine hK.out _ _ ?_ (fun hHeld => ?_)
                    · (try dsimp only); first | exact HB4.out | (rw [HX3.out]; exact HB3.out) | exact HB0.out
                    clear hK K
                    try simp only [Act.put, List.setIfInBounds_toArray, List.set_cons_zero, List.set_cons_succ]
                    refine wpAnyZ_ready (rs := [13]) (by kernel_rfl) (by simp) ?_
                    refine AllReadyZ.cons (o := ?oo19) ?hi19 (fun K hK => ?hs19) ?hm19
                    case hi19 => (simp only [List.getElem?_toArray, List.getElem?_cons_succ, List.getElem?_cons_zero]; rfl)
                    · go_simp
                      refine hK.out _ _ ?_ (fun hHeld => ?_)
                      · (try dsimp only); first | exact HB4.out | (rw [HX3.out]; exact HB3.out) | exact HB0.out
                      clear hK K
                      try simp only [Act.put, List.setIfInBounds_toArray, List.set_cons_zero, List.set_cons_succ]
                      refine wpAnyZ_ready (rs := [14]) (by kernel_rfl) (by simp) ?_
                      refine AllReadyZ.last (o := ?oo20) ?hi20 (fun K hK => ?hs20)
                      case hi20 => (simp only [List.getElem?_toArray, List.getElem?_cons_succ, List.getElem?_cons_zero]; rfl)
                      · go_simp
                        refine hK.out _ _ ?_
                        clear hK K
                        try simp only [Act.put, List.setIfInBounds_toArray, List.set_cons_zero, List.set_cons_succ]
                        refine wpAnyZ_done (by kernel_rfl) ?_ _
                        obtain ⟨W5, hW5⟩ : ∃ W5, wa.setCell ⟨N, 16 + x, none⟩ (.slice (some ⟨g, 0, none⟩) (m + 1) cg) = W5 := ⟨_, rfl⟩
                        have HW5 : Hid (O1At w N cs (k + 1) W5) := Lib.hid ⟨HBD.out, by rw [← hW5]; exact HBL4.out.setCell (p := ⟨N, 16 + x, none⟩) (Nat.le_refl _) _, _, by rw [HSTEP.out, ← hW5]; exact HP4.out⟩
                        rw [hW5]
                        clear hW5 HP4 HB4 s3 f3 hHeld HB0 HB3 HO3 HNW HBL3 HBL4 HBK HX3 HX3a HLK HVX HBD HSTEP HM
                        go_wp2_with fail
                        exact ⟨⟨k + 1, by omega, by go_num, HW5⟩, by simp only [Go.RowKit.intOf]; omega⟩
                    exact AllReadyZ.nil
                  exact AllReadyZ.nil
                refine AllReadyZ.cons (o := ?oo21) ?hi21 (fun K hK => ?hs21) ?hm21
                case hi21 => (simp only [List.getElem?_toArray, List.getElem?_cons_succ, List.getElem?_cons_zero]; rfl)
                · go_simp
                  refine hK.out _ _ ?_ (fun hHeld => ?_)
                  · (try dsimp only); first | exact HB4.out | (rw [HX3.out]; exact HB3.out) | exact HB0.out
                  clear hK K
                  try simp only [Act.put, List.setIfInBounds_toArray, List.set_cons_zero, List.set_cons_succ]
                  refine wpAnyZ_ready (rs := [10]) (by kernel_rfl) (by simp) ?_
                  refine AllReadyZ.cons (o := ?oo22) ?hi22 (fun K hK => ?hs22) ?hm22
                  case hi22 => (simp only [List.getElem?_toArray, List.getElem?_cons_succ, List.getElem?_cons_zero]; rfl)
                  · rw [HX3.out]
                    refine step_append_lies X3 rfl (.tmp 33) (.tmp 35) 22 rfl N 3 i0 _ 1 8 Try.underlying22 hi hz0 hz1 hz2 rfl (by decide) vx m (symV (symsOf L x)) rfl HO3.out ⟨wr.heap.size, 0, none⟩ 1 1 [.int .i64 (k : Int)] rfl rfl HNW.out (by simp [Value.oneCell']) (by decide) (by unfold maxLen; omega) (by omega) hNX X3.heap.size rfl ?_
                    intro g cg wa ho hg hgn hgl
                    have hp := BkAt.push HBK.out HX3a.out HLK.out HVX.out (by rw [HM.out]; exact ho) hg hgn
                    rw [HM.out] at hp
                    have HB4 := Lib.hid (cell_of hp.1 (book_v HBK.out.fl HVX.out))
                    have HP4 := Lib.hid hp.2
                    have HBL4 := Lib.hid (HBL3.out.grown hg hNX (fun k e => (own_low HO3.out k e).1))
                    have s3 := HB4.out
                    have f3 : wa.frozen? ⟨N, 16 + x, none⟩ = false := frozen_of hp.1
                    clear ho hg hp hgn hgl
                    refine hK.out _ _ ?_ (fun hHeld => ?_)
                    · (try dsimp only); first | exact HB4.out | (rw [HX3.out]; exact HB3.out) | exact HB0.out
                    clear hK K
                    try simp only [Act.put, List.setIfInBounds_toArray, List.set_cons_zero, List.set_cons_succ]
                    refine wpAnyZ_ready (rs := [13]) (by kernel_rfl) (by simp) ?_
                    refine AllReadyZ.cons (o := ?oo23) ?hi23 (fun K hK => ?hs23) ?hm23
                    case hi23 => (simp only [List.getElem?_toArray, List.getElem?_cons_succ, List.getElem?_cons_zero]; rfl)
                    · go_simp
                      refine hK.out _ _ ?_ (fun hHeld => ?_)
                      · (try dsimp only); first | exact HB4.out | (rw [HX3.out]; exact HB3.out) | exact HB0.out
                      clear hK K
                      try simp only [Act.put, List.setIfInBounds_toArray, List.set_cons_zero, List.set_cons_succ]
                      refine wpAnyZ_ready (rs := [14]) (by kernel_rfl) (by simp) ?_
                      refine AllReadyZ.last (o := ?oo24) ?hi24 (fun K hK => ?hs24)
                      case hi24 => (simp only [List.getElem?_toArray, List.getElem?_cons_succ, List.getElem?_cons_zero]; rfl)
                      · go_simp
                        refine hK.out _ _ ?_
                        clear hK K
                        try simp only [Act.put, List.setIfInBounds_toArray, List.set_cons_zero, List.set_cons_succ]
                        refine wpAnyZ_done (by kernel_rfl) ?_ _
                        obtain ⟨W5, hW5⟩ : ∃ W5, wa.setCell ⟨N, 16 + x, none⟩ (.slice (some ⟨g, 0, none⟩) (m + 1) cg) = W5 := ⟨_, rfl⟩
                        have HW5 : Hid (O1At w N cs (k + 1) W5) := Lib.hid ⟨HBD.out, by rw [← hW5]; exact HBL4.out.setCell (p := ⟨N, 16 + x, none⟩) (Nat.le_refl _) _, _, by rw [HSTEP.out, ← hW5]; exact HP4.out⟩
                        rw [hW5]
                        clear hW5 HP4 HB4 s3 f3 hHeld HB0 HB3 HO3 HNW HBL3 HBL4 HBK HX3 HX3a HLK HVX HBD HSTEP HM
                        go_wp2_with fail
                        exact ⟨⟨k + 1, by omega, by go_num, HW5⟩, by simp only [Go.RowKit.intOf]; omega⟩
                    exact AllReadyZ.nil
                  exact AllReadyZ.nil
                exact AllReadyZ.nil
              exact AllReadyZ.nil
            refine AllReadyZ.cons (o := ?oo25) ?hi25 (fun K hK => ?hs25) ?hm25
            case hi25 => (simp only [List.getElem?_toArray, List.getElem?_cons_succ, List.getElem?_cons_zero]; rfl)
            · go_simp
              refine hK.out _ _ ?_ (fun hHeld => ?_)
              · (try dsimp only); first | exact HB4.out | (rw [HX3.out]; exact HB3.out) | exact HB0.out
              clear hK K
              try simp only [Act.put, List.setIfInBounds_toArray, List.set_cons_zero, List.set_cons_succ]
              refine wpAnyZ_ready (rs := [9, 12]) (by kernel_rfl) (by simp) ?_
              refine AllReadyZ.cons (o := ?oo26) ?hi26 (fun K hK => ?hs26) ?hm26
              case hi26 => (simp only [List.getElem?_toArray, List.getElem?_cons_succ, List.getElem?_cons_zero]; rfl)
              · go_simp
                refine hK.out _ _ ?_ (fun hHeld => ?_)
                · (try dsimp only); first | exact HB4.out | (rw [HX3.out]; exact HB3.out) | exact HB0.out
                clear hK K
                try simp only [Act.put, List.setIfInBounds_toArray, List.set_cons_zero, List.set_cons_succ]
                refine wpAnyZ_ready (rs := [10, 12]) (by kernel_rfl) (by simp) ?_
                refine AllReadyZ.cons (o := ?oo27) ?hi27 (fun K hK => ?hs27) ?hm27
                case hi27 => (simp only [List.getElem?_toArray, List.getElem?_cons_succ, List.getElem?_cons_zero]; rfl)
                · rw [HX3.out]
                  refine step_append_lies X3 rfl (.tmp 33) (.tmp 35) 22 rfl N 3 i0 _ 1 8 Try.underlying22 hi hz0 hz1 hz2 rfl (by decide) vx m (symV (symsOf L x)) rfl HO3.out ⟨wr.heap.size, 0, none⟩ 1 1 [.int .i64 (k : Int)] rfl rfl HNW.out (by simp [Value.oneCell']) (by decide) (by unfold maxLen; omega) (by omega) hNX X3.heap.size rfl ?_
                  intro g cg wa ho hg hgn hgl
                  have hp := BkAt.push HBK.out HX3a.out HLK.out HVX.out (by rw [HM.out]; exact ho) hg hgn
                  rw [HM.out] at hp
                  have HB4 := Lib.hid (cell_of hp.1 (book_v HBK.out.fl HVX.out))
                  have HP4 := Lib.hid hp.2
                  have HBL4 := Lib.hid (HBL3.out.grown hg hNX (fun k e => (own_low HO3.out k e).1))
                  have s3 := HB4.out
                  have f3 : wa.frozen? ⟨N, 16 + x, none⟩ = false := frozen_of hp.1
                  clear ho hg hp hgn hgl
                  refine hK.out _ _ ?_ (fun hHeld => ?_)
                  · (try dsimp only); first | exact HB4.out | (rw [HX3.out]; exact HB3.out) | exact HB0.out
                  clear hK K
                  try simp only [Act.put, List.setIfInBounds_toArray, List.set_cons_zero, List.set_cons_succ]
                  refine wpAnyZ_ready (rs := [12]) (by kernel_rfl) (by simp) ?_
                  refine AllReadyZ.cons (o := ?oo28) ?hi28 (fun K hK => ?hs28) ?hm28
                  case hi28 => (simp only [List.getElem?_toArray, List.getElem?_cons_succ, List.getElem?_cons_zero]; rfl)
                  · go_simp
                    refine hK.out _ _ ?_ (fun hHeld => ?_)
                    · (try dsimp only); first | exact HB4.out | (rw [HX3.out]; exact HB3.out) | exact HB0.out
                    clear hK K
                    try simp only [Act.put, List.setIfInBounds_toArray, List.set_cons_zero, List.set_cons_succ]
                    refine wpAnyZ_ready (rs := [13]) (by kernel_rfl) (by simp) ?_
                    refine AllReadyZ.cons (o := ?oo29) ?hi29 (fun K hK => ?hs29) ?hm29
                    case hi29 => (simp only [List.getElem?_toArray, List.getElem?_cons_succ, List.getElem?_cons_zero]; rfl)
                    · go_simp
                      refine hK.out _ _ ?_ (fun hHeld => ?_)
                      · (try dsimp only); first | exact HB4.out | (rw [HX3.out]; exact HB3.out) | exact HB0.out
                      clear hK K
                      try simp only [Act.put, List.setIfInBounds_toArray, List.set_cons_zero, List.set_cons_succ]
                      refine wpAnyZ_ready (rs := [14]) (by kernel_rfl) (by simp) ?_
                      refine AllReadyZ.last (o := ?oo30) ?hi30 (fun K hK => ?hs30)
                      case hi30 => (simp only [List.getElem?_toArray, List.getElem?_cons_succ, List.getElem?_cons_zero]; rfl)
                      · go_simp
                        refine hK.out _ _ ?_
                        clear hK K
                        try simp only [Act.put, List.setIfInBounds_toArray, List.set_cons_zero, List.set_cons_succ]
                        refine wpAnyZ_done (by kernel_rfl) ?_ _
                        obtain ⟨W5, hW5⟩ : ∃ W5, wa.setCell ⟨N, 16 + x, none⟩ (.slice (some ⟨g, 0, none⟩) (m + 1) cg) = W5 := ⟨_, rfl⟩
                        have HW5 : Hid (O1At w N cs (k + 1) W5) := Lib.hid ⟨HBD.out, by rw [← hW5]; exact HBL4.out.setCell (p := ⟨N, 16 + x, none⟩) (Nat.le_refl _) _, _, by rw [HSTEP.out, ← hW5]; exact HP4.out⟩
                        rw [hW5]
                        clear hW5 HP4 HB4 s3 f3 hHeld HB0 HB3 HO3 HNW HBL3 HBL4 HBK HX3 HX3a HLK HVX HBD HSTEP HM
                        go_wp2_with fail
                        exact ⟨⟨k + 1, by omega, by go_num, HW5⟩, by simp only [Go.RowKit.intOf]; omega⟩
                    exact AllReadyZ.nil
                  exact AllReadyZ.nil
                refine AllReadyZ.cons (o := ?oo31) ?hi31 (fun K hK => ?hs31) ?hm31
                case hi31 => (simp only [List.getElem?_toArray, List.getElem?_cons_succ, List.getElem?_cons_zero]; rfl)
                · go_simp
                  refine hK.out _ _ ?_ (fun hHeld => ?_)
                  · (try dsimp only); first | exact HB4.out | (rw [HX3.out]; exact HB3.out) | exact HB0.out
                  clear hK K
                  try simp only [Act.put, List.setIfInBounds_toArray, List.set_cons_zero, List.set_cons_succ]
                  refine wpAnyZ_ready (rs := [10]) (by kernel_rfl) (by simp) ?_
                  refine AllReadyZ.cons (o := ?oo32) ?hi32 (fun K hK => ?hs32) ?hm32
                  case hi32 => (simp only [List.getElem?_toArray, List.getElem?_cons_succ, List.getElem?_cons_zero]; rfl)
                  · rw [HX3.out]
                    refine step_append_lies X3 rfl (.tmp 33) (.tmp 35) 22 rfl N 3 i0 _ 1 8 Try.underlying22 hi hz0 hz1 hz2 rfl (by decide) vx m (symV (symsOf L x)) rfl HO3.out ⟨wr.heap.size, 0, none⟩ 1 1 [.int .i64 (k : Int)] rfl rfl HNW.out (by simp [Value.oneCell']) (by decide) (by unfold maxLen; omega) (by omega) hNX X3.heap.size rfl ?_
                    intro g cg wa ho hg hgn hgl
                    have hp := BkAt.push HBK.out HX3a.out HLK.out HVX.out (by rw [HM.out]; exact ho) hg hgn
                    rw [HM.out] at hp
                    have HB4 := Lib.hid (cell_of hp.1 (book_v HBK.out.fl HVX.out))
                    have HP4 := Lib.hid hp.2
                    have HBL4 := Lib.hid (HBL3.out.grown hg hNX (fun k e => (own_low HO3.out k e).1))
                    have s3 := HB4.out
                    have f3 : wa.frozen? ⟨N, 16 + x, none⟩ = false := frozen_of hp.1
                    clear ho hg hp hgn hgl
                    refine hK.out _ _ ?_ (fun hHeld => ?_)
                    · (try dsimp only); first | exact HB4.out | (rw [HX3.out]; exact HB3.out) | exact HB0.out
                    clear hK K
                    try simp only [Act.put, List.setIfInBounds_toArray, List.set_cons_zero, List.set_cons_succ]
                    refine wpAnyZ_ready (rs := [13]) (by kernel_rfl) (by simp) ?_
                    refine AllReadyZ.cons (o := ?oo33) ?hi33 (fun K hK => ?hs33) ?hm33
                    case hi33 => (simp only [List.getElem?_toArray, List.getElem?_cons_succ, List.getElem?_cons_zero]; rfl)
                    · go_simp
                      refine hK.out _ _ ?_ (fun hHeld => ?_)
                      · (try dsimp only); first | exact HB4.out | (rw [HX3.out]; exact HB3.out) | exact HB0.out
                      clear hK K
                      try simp only [Act.put, List.setIfInBounds_toArray, List.set_cons_zero, List.set_cons_succ]
                      refine wpAnyZ_ready (rs := [14]) (by kernel_rfl) (by simp) ?_
                      refine AllReadyZ.last (o := ?oo34) ?hi34 (fun K hK => ?hs34)
                      case hi34 => (simp only [List.getElem?_toArray, List.getElem?_cons_succ, List.getElem?_cons_zero]; rfl)
                      · go_simp
                        refine hK.out _ _ ?_
                        clear hK K
                        try simp only [Act.put, List.setIfInBounds_toArray, List.set_cons_zero, List.set_cons_succ]
                        refine wpAnyZ_done (by kernel_rfl) ?_ _
                        obtain ⟨W5, hW5⟩ : ∃ W5, wa.setCell ⟨N, 16 + x, none⟩ (.slice (some ⟨g, 0, none⟩) (m + 1) cg) = W5 := ⟨_, rfl⟩
                        have HW5 : Hid (O1At w N cs (k + 1) W5) := Lib.hid ⟨HBD.out, by rw [← hW5]; exact HBL4.out.setCell (p := ⟨N, 16 + x, none⟩) (Nat.le_refl _) _, _, by rw [HSTEP.out, ← hW5]; exact HP4.out⟩
                        rw [hW5]
                        clear hW5 HP4 HB4 s3 f3 hHeld HB0 HB3 HO3 HNW HBL3 HBL4 HBK HX3 HX3a HLK HVX HBD HSTEP HM
                        go_wp2_with fail
                        exact ⟨⟨k + 1, by omega, by go_num, HW5⟩, by simp only [Go.RowKit.intOf]; omega⟩
                    exact AllReadyZ.nil
                  exact AllReadyZ.nil
                exact AllReadyZ.nil
              refine AllReadyZ.cons (o := ?oo35) ?hi35 (fun K hK => ?hs35) ?hm35
              case hi35 => (simp only [List.getElem?_toArray, List.getElem?_cons_succ, List.getElem?_cons_zero]; rfl)
              · go_simp
                refine hK.out _ _ ?_ (fun hHeld => ?_)
                · (try dsimp only); first | exact HB4.out | (rw [HX3.out]; exact HB3.out) | exact HB0.out
                clear hK K
                try simp only [Act.put, List.setIfInBounds_toArray, List.set_cons_zero, List.set_cons_succ]
                refine wpAnyZ_ready (rs := [9]) (by kernel_rfl) (by simp) ?_
                refine AllReadyZ.cons (o := ?oo36) ?hi36 (fun K hK => ?hs36) ?hm36
                case hi36 => (simp only [List.getElem?_toArray, List.getElem?_cons_succ, List.getElem?_cons_zero]; rfl)
                · go_simp
                  refine hK.out _ _ ?_ (fun hHeld => ?_)
                  · (try dsimp only); first | exact HB4.out | (rw [HX3.out]; exact HB3.out) | exact HB0.out
                  clear hK K
                  try simp only [Act.put, List.setIfInBounds_toArray, List.set_cons_zero, List.set_cons_succ]
                  refine wpAnyZ_ready (rs := [10]) (by kernel_rfl) (by simp) ?_
                  refine AllReadyZ.cons (o := ?oo37) ?hi37 (fun K hK => ?hs37) ?hm37
                  case hi37 => (simp only [List.getElem?_toArray, List.getElem?_cons_succ, List.getElem?_cons_zero]; rfl)
                  · rw [HX3.out]
                    refine step_append_lies X3 rfl (.tmp 33) (.tmp 35) 22 rfl N 3 i0 _ 1 8 Try.underlying22 hi hz0 hz1 hz2 rfl (by decide) vx m (symV (symsOf L x)) rfl HO3.out ⟨wr.heap.size, 0, none⟩ 1 1 [.int .i64 (k : Int)] rfl rfl HNW.out (by simp [Value.oneCell']) (by decide) (by unfold maxLen; omega) (by omega) hNX X3.heap.size rfl ?_
                    intro g cg wa ho hg hgn hgl
                    have hp := BkAt.push HBK.out HX3a.out HLK.out HVX.out (by rw [HM.out]; exact ho) hg hgn
                    rw [HM.out] at hp
                    have HB4 := Lib.hid (cell_of hp.1 (book_v HBK.out.fl HVX.out))
                    have HP4 := Lib.hid hp.2
                    have HBL4 := Lib.hid (HBL3.out.grown hg hNX (fun k e => (own_low HO3.out k e).1))
                    have s3 := HB4.out
                    have f3 : wa.frozen? ⟨N, 16 + x, none⟩ = false := frozen_of hp.1
                    clear ho hg hp hgn hgl
                    refine hK.out _ _ ?_ (fun hHeld => ?_)
                    · (try dsimp only); first | exact HB4.out | (rw [HX3.out]; exact HB3.out) | exact HB0.out
                    clear hK K
                    try simp only [Act.put, List.setIfInBounds_toArray, List.set_cons_zero, List.set_cons_succ]
                    refine wpAnyZ_ready (rs := [13]) (by kernel_rfl) (by simp) ?_
                    refine AllReadyZ.cons (o := ?oo38) ?hi38 (fun K hK => ?hs38) ?hm38
                    case hi38 => (simp only [List.getElem?_toArray, List.getElem?_cons_succ, List.getElem?_cons_zero]; rfl)
                    · go_simp
                      refine hK.out _ _ ?_ (fun hHeld => ?_)
                      · (try dsimp only); first | exact HB4.out | (rw [HX3.out]; exact HB3.out) | exact HB0.out
                      clear hK K
                      try simp only [Act.put, List.setIfInBounds_toArray, List.set_cons_zero, List.set_cons_succ]
                      refine wpAnyZ_ready (rs := [14]) (by kernel_rfl) (by simp) ?_
                      refine AllReadyZ.last (o := ?oo39) ?hi39 (fun K hK => ?hs39)
                      case hi39 => (simp only [List.getElem?_toArray, List.getElem?_cons_succ, List.getElem?_cons_zero]; rfl)
                      · go_simp
                        refine hK.out _ _ ?_
                        clear hK K
                        try simp only [Act.put, List.setIfInBounds_toArray, List.set_cons_zero, List.set_cons_succ]
                        refine wpAnyZ_done (by kernel_rfl) ?_ _
                        obtain ⟨W5, hW5⟩ : ∃ W5, wa.setCell ⟨N, 16 + x, none⟩ (.slice (some ⟨g, 0, none⟩) (m + 1) cg) = W5 := ⟨_, rfl⟩
                        have HW5 : Hid (O1At w N cs (k + 1) W5) := Lib.hid ⟨HBD.out, by rw [← hW5]; exact HBL4.out.setCell (p := ⟨N, 16 + x, none⟩) (Nat.le_refl _) _, _, by rw [HSTEP.out, ← hW5]; exact HP4.out⟩
                        rw [hW5]
                        clear hW5 HP4 HB4 s3 f3 hHeld HB0 HB3 HO3 HNW HBL3 HBL4 HBK HX3 HX3a HLK HVX HBD HSTEP HM
                        go_wp2_with fail
                        exact ⟨⟨k + 1, by omega, by go_num, HW5⟩, by simp only [Go.RowKit.intOf]; omega⟩
                    exact AllReadyZ.nil
                  exact AllReadyZ.nil
                exact AllReadyZ.nil
              exact AllReadyZ.nil
            exact AllReadyZ.nil
      · obtain rfl : k = n := by omega
        have hlti : ¬ (k : Int) < (k : Int) := by omega
        have htk : cs.take k = cs := List.take_of_length_le (by rw [HCN.out]; exact Nat.le_refl _)
        have hs0 := HS.out
        unfold O1At at hs0
        rw [htk] at hs0
        obtain ⟨hbd, hbl, vs, hbk⟩ := hs0
        obtain ⟨L, hL⟩ : ∃ L, natLs cs = L := ⟨_, rfl⟩
        have hLl : L.length ≤ 1024 := by rw [← hL]; unfold natLs; rw [List.length_map, HCN.out]; exact hn1
        rw [hL] at hbk
        have HL := Lib.hid hL
        have HLL := Lib.hid hLl
        have HBD := Lib.hid hbd
        have HST1 : Hid (O2At w N L 0 wr) := Lib.hid ⟨hbl, vs, by rw [fsN_zero]; exact hbk⟩
        clear hbd hbl hbk HS htk hL hLl
        go_wp2_with fail
        go_loopw [7] (fun sv wr => ∃ i : Nat, i ≤ 15 ∧ sv = .int .i64 ((i + 1 : Nat) : Int) ∧ Hid (O2At w N L i wr)) (fun sv _ => 17 - (Go.RowKit.intOf sv).toNat)
        case atStart => exact ⟨0, Nat.zero_le _, rfl, HST1⟩
        case round =>
          clear HST1
          obtain ⟨i, hi15, rfl, HS⟩ := hrel
          by_cases hl2 : i < 15
          · have hli : ((i + 1 : Nat) : Int) ≤ 15 := by omega
            obtain ⟨hbl, vs, hbk⟩ := HS.out
            obtain ⟨f, hf⟩ : ∃ f, firstN L (i + 1) = f := ⟨_, rfl⟩
            obtain ⟨e, he⟩ : ∃ e, endN L i = e := ⟨_, rfl⟩
            have hfe : f = 2 * e := by rw [← hf, ← he]; rfl
            obtain ⟨vx, hvx⟩ : ∃ v, vs[i + 1]? = some v := ⟨_, List.getElem?_eq_getElem (by rw [hbk.vl]; omega)⟩
            have hox := hbk.rows (i + 1) vx hvx
            obtain ⟨Ax, capx, rfl, -⟩ := own_formI hox
            obtain ⟨m, hm⟩ : ∃ m, (symsOf L (i + 1)).length = m := ⟨_, rfl⟩
            rw [hm] at hvx
            have hm1 : m ≤ 1024 := by rw [← hm]; exact Nat.le_trans (cnt_le L _) HLL.out
            have heb : e ≤ 1024 * 32768 := by
              rw [← he]
              have h1 := endN_le L i
              have h2 : (2 : Nat) ^ i ≤ 2 ^ 15 := Nat.pow_le_pow_right (by omega) (by omega)
              have h3 : L.length * (2 ^ i - 1) ≤ 1024 * (2 ^ i - 1) := Nat.mul_le_mul_right _ HLL.out
              omega
            have hen : endN L (i + 1) = f + m := by rw [endN_eq L (by omega), hf, ← symsOf_len, hm]
            rw [he] at hbk
            have c0 := cell_of hbk.box (book_e hbk.fl hbk.vl)
            have f0 : wr.frozen? ⟨N, i + 1, none⟩ = false := frozen_of hbk.box
            obtain ⟨z, hz⟩ : ∃ z, (fsN L i)[i + 1]? = some z := ⟨_, List.getElem?_eq_getElem (by rw [hbk.fl]; omega)⟩
            have k0 := cell_of hbk.box (book_f (vs := vs) (en := e) hz)
            have hbk2 := hbk.set (i := i + 1) (u := .int .u64 (f : Int)) (fs' := fsN L (i + 1)) (en' := e) (by rw [book_set_f (by rw [hbk.fl]; omega), ← hf, fsN_set L (by omega)]) (fsN_len _ _)
            obtain ⟨W2, hW2⟩ : ∃ W2, wr.drew.setCell ⟨N, i + 1, none⟩ (.int .u64 (f : Int)) = W2 := ⟨_, rfl⟩
            have hbk3 : BkAt W2 N (fsN L (i + 1)) vs e L := by
              rw [← hW2]
              exact hbk.drew.set (i := i + 1) (u := .int .u64 (f : Int)) (by rw [book_set_f (by rw [hbk.fl]; omega), ← hf, fsN_set L (by omega)]) (fsN_len _ _)
            have hbl3 : Below N w W2 := by rw [← hW2]; exact hbl.drew.setCell (p := ⟨N, i + 1, none⟩) (Nat.le_refl _) _
            have hff : (fsN L (i + 1))[i + 1]? = some f := by rw [fsN_at L (by omega) (Nat.le_refl _) (by omega), hf]
            have d0 := cell_of hbk3.box (book_f hff)
            have d1 := cell_of hbk3.box (book_v hbk3.fl hvx)
            have d2 := cell_of hbk3.box (book_e hbk3.fl hbk3.vl)
            have f2 : W2.frozen? ⟨N, 32, none⟩ = false := frozen_of hbk3.box
            obtain ⟨s, hs⟩ : ∃ s, f + m = s := ⟨_, rfl⟩
            rw [hs] at hen
            obtain ⟨W3, hW3⟩ : ∃ W3, W2.drew.setCell ⟨N, 32, none⟩ (.int .u64 (s : Int)) = W3 := ⟨_, rfl⟩
            have HNX : Hid (O2At w N L (i + 1) W3) := Lib.hid (by
              rw [← hW3]
              refine ⟨hbl3.drew.setCell (p := ⟨N, 32, none⟩) (Nat.le_refl _) _, vs, ?_⟩
              rw [hen]
              exact hbk3.drew.set (i := 32) (book_set_e hbk3.fl hbk3.vl) hbk3.fl)
            have hw1 : IntKind.u64.wrap ((e : Int) * 2) = (f : Int) := by rw [hfe, show IntKind.u64.wrap ((e : Int) * 2) = ((e : Int) * 2) % 18446744073709551616 from rfl]; omega
            have hw2 : IntKind.u64.wrap (m : Int) = (m : Int) := by rw [show IntKind.u64.wrap (m : Int) = (m : Int) % 18446744073709551616 from rfl]; omega
            have hw3 : IntKind.u64.wrap ((f : Int) + (m : Int)) = (s : Int) := by rw [show IntKind.u64.wrap ((f : Int) + (m : Int)) = ((f : Int) + (m : Int)) % 18446744073709551616 from rfl]; omega
            have HW2 : Hid ((wr.setCell ⟨N, i + 1, none⟩ (.int .u64 (f : Int))).drew = W2) := Lib.hid (by rw [← hW2]; rfl)
            have HW3 : Hid ((W2.setCell ⟨N, 32, none⟩ (.int .u64 (s : Int))).drew = W3) := Lib.hid (by rw [← hW3]; rfl)
            have hi16 : (i : Int) + 1 < 16 := by omega
            have hi17 : (0 : Int) ≤ (i : Int) + 1 := by omega
            have hi18 : ¬ (i : Int) + 1 < 0 := by omega
            clear hbl hbk hf he hfe hox hm hen hbk2 hbk3 hbl3 hff hW2 hW3 HS hz hs
            go_wp2_with fail
            go_still_tail 10, (by kernel_rfl)
            change wpList _ _ _ _ _ wr.drew
            go_wp2_with fail
            rw [HW2.out]
            clear c0 f0 k0
            go_wp2_with fail
            go_still_tail 18, (by kernel_rfl)
            change wpList _ _ _ _ _ W2.drew
            go_wp2_with fail
            rw [HW3.out]
            clear d0 d1 d2 f2 hw1 hw2 hw3 HW2 HW3
            go_wp2_with fail
            exact ⟨⟨i + 1, by omega, by go_num, HNX⟩, by simp only [Go.RowKit.intOf]; omega⟩
          · obtain rfl : i = 15 := by omega
            obtain ⟨hbl, vs, hbk⟩ := HS.out
            obtain ⟨e, he⟩ : ∃ e, endN L 15 = e := ⟨_, rfl⟩
            rw [he] at hbk
            have c0 := cell_of hbk.box (book_e hbk.fl hbk.vl)
            by_cases hbg : 32768 < e
            · have hI2 : (32768 : Int) < (e : Int) := by omega
              have HE : Hid (OpenV w cs (.returned (.tuple #[.pointer none, .int .i64 1])) wr) := Lib.hid ⟨by rw [HN.out]; exact hbl, .inl ⟨fun h => by have h2 := h.2.2; rw [HL.out] at h2; omega, rfl⟩⟩
              clear hbl hbk he hbg HS
              go_wp2_with fail
              go_ret2
              exact HE.out
            · have hI2 : ¬ (32768 : Int) < (e : Int) := by omega
              have HE : Hid (OpenV w cs (.returned (.tuple #[.pointer (some ⟨N, 0, none⟩), .int .i64 0])) wr) := Lib.hid ⟨by rw [HN.out]; exact hbl, .inr ⟨⟨by rw [HCN.out]; exact hn1, HBD.out, by rw [HL.out]; omega⟩, vs, by rw [HN.out], by rw [HN.out, HL.out, he]; exact hbk⟩⟩
              clear hbl hbk he hbg HS
              go_wp2_with fail
              go_ret2
              exact HE.out
end Go.Proofs.Yteennnhinfnahaa
namespace Go.Proofs.Yteennnhinfnahaa
open Go.RowKit Go.Shelf Go.Lib Go.Deep
set_option linter.unusedVariables false
set_option linter.unusedSimpArgs false

/-- The codes that are stored before symbol i of length n. -/
def cdL (L : List Nat) (n i : Nat) : List Nat := (List.range L.length).map fun s => if 1 ≤ L.getD s 0 ∧ (L.getD s 0 < n ∨ (L.getD s 0 = n ∧ (L.take s).count n < i)) then codeN L s else 0
/-- The codes of lengths. -/
def cdF (L : List Nat) : List Nat := (List.range L.length).map (codeN L)
theorem cdL_len (L : List Nat) (n i : Nat) : (cdL L n i).length = L.length := by simp [cdL]
theorem cdF_len (L : List Nat) : (cdF L).length = L.length := by simp [cdF]
theorem cdL_start (L : List Nat) : cdL L 1 0 = List.replicate L.length 0 := by
  apply List.ext_getElem?
  intro s
  unfold cdL
  rw [List.getElem?_map]
  by_cases h : s < L.length
  · rw [List.getElem?_range h, List.getElem?_replicate, if_pos h, Option.map_some, if_neg (by omega)]
  · rw [List.getElem?_eq_none (by simpa using h), List.getElem?_eq_none (by simpa using h)]; rfl
theorem cdL_set {L : List Nat} {n i s : Nat} (hn : 1 ≤ n) (h : (symsOf L n)[i]? = some s) : (cdL L n i).set s (firstN L n + i) = cdL L n (i + 1) := by
  obtain ⟨h1, h2⟩ := symsOf_back h
  have hs := (List.getElem?_eq_some_iff.1 h1).1
  have hg : L.getD s 0 = n := by rw [List.getD_eq_getElem?_getD, h1]; rfl
  apply List.ext_getElem?
  intro u
  rw [List.getElem?_set, cdL_len]
  unfold cdL
  rw [List.getElem?_map, List.getElem?_map]
  by_cases e : s = u
  · subst e
    rw [if_pos rfl, if_pos hs, List.getElem?_range hs, Option.map_some, if_pos ⟨by omega, .inr ⟨hg, by omega⟩⟩, codeN_at h1 hn, h2]
  · rw [if_neg e]
    by_cases hu : u < L.length
    · rw [List.getElem?_range hu, Option.map_some, Option.map_some]
      congr 1
      have hiff : (1 ≤ L.getD u 0 ∧ (L.getD u 0 < n ∨ (L.getD u 0 = n ∧ (L.take u).count n < i))) ↔ (1 ≤ L.getD u 0 ∧ (L.getD u 0 < n ∨ (L.getD u 0 = n ∧ (L.take u).count n < i + 1))) := by
        constructor
        · rintro ⟨a, b | ⟨b, c⟩⟩
          · exact ⟨a, .inl b⟩
          · exact ⟨a, .inr ⟨b, by omega⟩⟩
        · rintro ⟨a, b | ⟨b, c⟩⟩
          · exact ⟨a, .inl b⟩
          · refine ⟨a, .inr ⟨b, ?_⟩⟩
            rcases Nat.lt_or_ge ((L.take u).count n) i with q | q
            · exact q
            · exfalso
              have hun : L[u]? = some n := by rw [List.getElem?_eq_getElem hu]; congr 1; rw [← b, List.getD_eq_getElem?_getD, List.getElem?_eq_getElem hu]; rfl
              have := symsOf_get hun
              rw [show (L.take u).count n = i by omega, h] at this
              exact e (Option.some.inj this)
      by_cases c : 1 ≤ L.getD u 0 ∧ (L.getD u 0 < n ∨ (L.getD u 0 = n ∧ (L.take u).count n < i))
      · rw [if_pos c, if_pos (hiff.1 c)]
      · rw [if_neg c, if_neg (fun h => c (hiff.2 h))]
    · rw [List.getElem?_eq_none (by simpa using hu)]; rfl
theorem cdL_next (L : List Nat) (n : Nat) : cdL L n (symsOf L n).length = cdL L (n + 1) 0 := by
  unfold cdL
  apply List.map_congr_left
  intro s hs
  have hs' := List.mem_range.1 hs
  have hiff : (1 ≤ L.getD s 0 ∧ (L.getD s 0 < n ∨ (L.getD s 0 = n ∧ (L.take s).count n < (symsOf L n).length))) ↔ (1 ≤ L.getD s 0 ∧ (L.getD s 0 < n + 1 ∨ (L.getD s 0 = n + 1 ∧ (L.take s).count (n + 1) < 0))) := by
    constructor
    · rintro ⟨a, b | ⟨b, c⟩⟩
      · exact ⟨a, .inl (by omega)⟩
      · exact ⟨a, .inl (by omega)⟩
    · rintro ⟨a, b | ⟨b, c⟩⟩
      · refine ⟨a, ?_⟩
        rcases Nat.lt_or_ge (L.getD s 0) n with q | q
        · exact .inl q
        · have e : L.getD s 0 = n := by omega
          refine .inr ⟨e, ?_⟩
          rw [symsOf_len]
          refine count_lt ?_
          rw [List.getElem?_eq_getElem hs']; congr 1; rw [← e, List.getD_eq_getElem?_getD, List.getElem?_eq_getElem hs']; rfl
      · omega
  by_cases c : 1 ≤ L.getD s 0 ∧ (L.getD s 0 < n ∨ (L.getD s 0 = n ∧ (L.take s).count n < (symsOf L n).length))
  · rw [if_pos c, if_pos (hiff.1 c)]
  · rw [if_neg c, if_neg (fun h => c (hiff.2 h))]
theorem cdL_end {L : List Nat} (h : ∀ n ∈ L, n ≤ 15) : cdL L 16 0 = cdF L := by
  unfold cdL cdF
  apply List.map_congr_left
  intro s hs
  have hs' := List.mem_range.1 hs
  have h1 : L.getD s 0 ≤ 15 := h _ (by rw [List.getD_eq_getElem?_getD, List.getElem?_eq_getElem hs']; exact List.getElem_mem _)
  by_cases c : 1 ≤ L.getD s 0
  · rw [if_pos ⟨c, .inl (by omega)⟩]
  · rw [if_neg (fun h => c h.1)]
    unfold codeN
    rw [if_pos (by omega)]
theorem cdF_at {L : List Nat} {s n : Nat} (h : L[s]? = some n) : (cdF L)[s]? = some (codeN L s) := by
  unfold cdF
  rw [List.getElem?_map, List.getElem?_range (List.getElem?_eq_some_iff.1 h).1]; rfl
theorem codeN_le {L : List Nat} (hL : okLens L) (s : Nat) : codeN L s ≤ 32768 := by
  unfold codeN
  split
  · omega
  · rename_i h0
    by_cases hs : s < L.length
    · have e : L[s]? = some (L.getD s 0) := by rw [List.getD_eq_getElem?_getD, List.getElem?_eq_getElem hs]; rfl
      have h1 := hL.2.1 _ (List.mem_of_getElem? e)
      have h2 := codeN_lt e (by omega)
      rw [codeN_at e (by omega)] at h2
      have h3 := endN_le15 L h1
      have := hL.2.2
      omega
    · rw [List.getD_eq_getElem?_getD, List.getElem?_eq_none (by omega)] at h0
      exact absurd rfl h0
def EU (_ : World) (cs : List Value) (x : Nat) : Prop := cs = [.int .u64 (x : Int)]
theorem stays_u : Stays EU := fun _ _ _ _ _ h => h
theorem at_u {w : World} {A : Option Addr} {n cap : Nat} {xs : List Nat} (h : Rows 1 EU w (.slice A n cap) xs) (h0 : 0 < xs.length) :
    ∃ b off, A = some ⟨b, off, none⟩ ∧ b < w.heap.size ∧ ∀ (j : Nat) (x : Nat), xs[j]? = some x → w.cell? ⟨b, off + j, none⟩ = some (.int .u64 (x : Int)) := by
  obtain ⟨b, off, hA, hb, hj⟩ := h.at' h0
  refine ⟨b, off, hA, hb, fun j x hx => ?_⟩
  obtain ⟨cs, _, rfl, h3⟩ := hj j x hx
  have := h3 0 _ rfl
  rw [Nat.mul_one, Nat.add_zero] at this
  exact this
def rowU (l : List Nat) : Array Value := (u64V l).toArray
theorem rowU_get {l : List Nat} {i x : Nat} (h : l[i]? = some x) : (rowU l)[i]? = some (.int .u64 (x : Int)) := by
  unfold rowU u64V
  rw [List.getElem?_toArray, List.getElem?_map, h]; rfl
theorem rowU_set (l : List Nat) (i x : Nat) : (rowU l).setIfInBounds i (.int .u64 (x : Int)) = rowU (l.set i x) := by
  unfold rowU u64V
  rw [List.setIfInBounds_toArray, List.map_set]
theorem made_u (n : Nat) : madeCells #[.int .u64 0] n = rowU (List.replicate n 0) := by
  apply Array.toList_inj.1
  rw [toList_madeCells_one]
  simp [rowU, u64V]
theorem rows_u {W : World} {b n cap : Nat} {l : List Nat} {t : TypeId} {f : Nat × Nat} (hn : l.length = n) (hc : n ≤ cap) (h : W.heap[b]? = some (.cells (rowU l) t f)) : Rows 1 EU W (.slice (some ⟨b, 0, none⟩) n cap) l := by
  subst hn
  refine ⟨_, cap, rfl, hc, fun _ => ⟨b, 0, rfl, heap_lt h, fun j x hx => ⟨[.int .u64 (x : Int)], rfl, rfl, fun i u hu => ?_⟩⟩⟩
  match i, hu with
  | 0, hu =>
    cases hu
    have := cell_of (i := j) h (rowU_get hx)
    simpa using this
theorem Try.infoU64 : (Try.prog.info? 115).map (fun i => (i.zero, i.size, i.bytes)) = some (some (.int .u64 0), 1, 8) := by kernel_rfl
/-- Between two stores of codes. -/
def CdAt (w : World) (D : Nat) (L : List Nat) (n i : Nat) (wr : World) : Prop := Below w.heap.size w wr ∧ wr.heap[D]? = some (.cells (rowU (cdL L n i)) 115 (0, 0))
def CdV (w : World) (L : List Nat) (e : Ending) (w' : World) : Prop := ∃ v, e = .returned v ∧ Rows 1 EU w' v (cdF L) ∧ Below w.heap.size w w'

set_option maxRecDepth 100000 in
set_option maxHeartbeats 4000000 in
theorem codes_any {w : World} {N en : Nat} {vs : List Value} {L : List Nat} (h : BkAt w N (fsN L 15) vs en L) (hL : okLens L) :
    Calls Try.prog 62 #[.pointer (some ⟨N, 0, none⟩), .int .i64 (L.length : Nat)] w (CdV w L) := by
  obtain ⟨n, hn⟩ : ∃ n, L.length = n := ⟨_, rfl⟩
  obtain ⟨D, hD⟩ : ∃ D, w.heap.size = D := ⟨_, rfl⟩
  have hn1 : n ≤ 1024 := by rw [← hn]; exact hL.1
  obtain ⟨i1, hi1, hy0, hy1, hy2⟩ := info_parts' Try.infoU64
  have hmk : ∀ W : World, (Instr.makeSlice 85 (.int .i64 n) (.int .i64 n)).run Try.prog W = .ok (.slice (some ⟨W.heap.size, 0, none⟩) n n) (W.alloc (.cells (rowU (List.replicate n 0)) 115)) := fun W => by
    have := run_make (P := Try.prog) W 85 115 i1 _ Try.underlying85 hi1 hy0 .i64 .i64 n n (by omega) (by omega) (by rw [hy2]; omega) (by omega)
    rw [Int.toNat_natCast, hy1, Nat.mul_one] at this
    rw [← made_u]
    exact this
  obtain ⟨X, hX⟩ : ∃ X, w.alloc (.cells (rowU (List.replicate n 0)) 115) = X := ⟨_, rfl⟩
  have HST0 : Hid (CdAt w D L 1 0 X) := Lib.hid ⟨by rw [← hX]; exact below_box _ _, by rw [cdL_start, hn, ← hX, ← hD]; exact block_new _ _⟩
  have HX := Lib.hid hX
  have HD := Lib.hid hD
  have HCN := Lib.hid hn
  have HL := Lib.hid hL
  have HBK := Lib.hid (fun W (hb : Below w.heap.size w W) => h.below hb)
  rw [hn]
  clear h hL hn hD hX
  go_enter Try.func62, Try.ntmps62
  go_wp2_with fail
  rw [HX.out, HD.out]
  go_loopw [6] (fun sv wr => ∃ q : Nat, 1 ≤ q ∧ q ≤ 16 ∧ sv = .int .i64 q ∧ Hid (CdAt w D L q 0 wr)) (fun sv _ => 17 - (Go.RowKit.intOf sv).toNat)
  case atStart => exact ⟨1, Nat.le_refl _, by omega, rfl, HST0⟩
  case round =>
    clear HST0 HX hmk
    obtain ⟨q, hq1, hq16, rfl, HS⟩ := hrel
    by_cases hlt : q ≤ 15
    · have hli : (q : Int) ≤ 15 := by omega
      have hli2 : (q : Int) < 16 := by omega
      have hbk := HBK.out wr HS.out.1
      obtain ⟨vx, hvx⟩ : ∃ v, vs[q]? = some v := ⟨_, List.getElem?_eq_getElem (by rw [hbk.vl]; omega)⟩
      have hox := hbk.rows q vx hvx
      obtain ⟨Ax, capx, rfl, -⟩ := own_formI hox
      obtain ⟨m, hm⟩ : ∃ m, (symsOf L q).length = m := ⟨_, rfl⟩
      have c0 := cell_of hbk.box (book_v hbk.fl hvx)
      have HRW := Lib.hid (fun W (hb : Below w.heap.size w W) => own_int ((HBK.out W hb).rows q _ hvx))
      have HFQ := Lib.hid (fun W (hb : Below w.heap.size w W) => (show W.cell? ⟨N, q, none⟩ = some (.int .u64 ((firstN L q : Nat) : Int)) from cell_of (HBK.out W hb).box (book_f (fsN_at L hq1 hlt (Nat.le_refl _)))))
      rw [hm] at c0 HRW
      have HM := Lib.hid hm
      have hm1 : m ≤ 1024 := by rw [← hm]; have := cnt_le L q; rw [HCN.out] at this; omega
      obtain ⟨f, hf⟩ : ∃ f, firstN L q = f := ⟨_, rfl⟩
      have hfb : f ≤ 32768 := by
        rw [← hf]
        have h1 := endN_eq L hq1
        have h2 := endN_le15 L hlt
        have h3 := HL.out.2.2
        omega
      rw [hf] at HFQ
      have HF := Lib.hid hf
      have HQ1 := Lib.hid hq1
      obtain ⟨wo, rfl⟩ : ∃ wo, wo = wr := ⟨_, rfl⟩
      clear hbk hvx hox hm hf hlt hq1
      go_wp2_with fail
      clear c0
      go_loopw [22] (fun sv wr => ∃ i : Nat, i ≤ m ∧ sv = .int .i64 i ∧ Hid (CdAt w D L q i wr)) (fun sv _ => m - (Go.RowKit.intOf sv).toNat)
      case atStart => exact ⟨0, Nat.zero_le _, rfl, HS⟩
      case round =>
        clear HS
        obtain ⟨i, him, rfl, HT⟩ := hrel
        by_cases hlt2 : i < m
        · have hlti : (i : Int) < (m : Int) := by omega
          obtain ⟨s, hs⟩ : ∃ s, (symsOf L q)[i]? = some s := ⟨_, List.getElem?_eq_getElem (by rw [HM.out]; exact hlt2)⟩
          obtain ⟨b, o, rfl, -, hj⟩ := at_int (HRW.out wr HT.out.1) (by rw [List.length_map, HM.out]; omega)
          have u0 := hj i (s : Int) (by rw [List.getElem?_map, hs]; rfl)
          have k0 := HFQ.out wr HT.out.1
          have hsl : s < n := by rw [← HCN.out]; exact (List.getElem?_eq_some_iff.1 (symsOf_back hs).1).1
          have hsi : (s : Int) < (n : Int) := by omega
          obtain ⟨z, hz⟩ : ∃ z, (cdL L q i)[s]? = some z := ⟨_, List.getElem?_eq_getElem (by rw [cdL_len, HCN.out]; exact hsl)⟩
          have d0 := cell_of HT.out.2 (rowU_get hz)
          have f0 : wr.frozen? ⟨D, s, none⟩ = false := frozen_of HT.out.2
          obtain ⟨r, hr⟩ : ∃ r, f + i = r := ⟨_, rfl⟩
          have HNX : Hid (CdAt w D L q (i + 1) (wr.setCell ⟨D, s, none⟩ (.int .u64 (r : Int)))) := Lib.hid ⟨HT.out.1.setCell (p := ⟨D, s, none⟩) (by rw [HD.out]; exact Nat.le_refl _) _, by
            have h1 := cdL_set HQ1.out hs
            rw [HF.out, hr] at h1
            rw [← h1, ← rowU_set]; exact set_of HT.out.2 _⟩
          have hw2 : IntKind.u64.wrap (i : Int) = (i : Int) := by rw [show IntKind.u64.wrap (i : Int) = (i : Int) % 18446744073709551616 from rfl]; omega
          have hw3 : IntKind.u64.wrap ((f : Int) + (i : Int)) = (r : Int) := by rw [show IntKind.u64.wrap ((f : Int) + (i : Int)) = ((f : Int) + (i : Int)) % 18446744073709551616 from rfl]; omega
          clear hs hj hsl hz hr HT
          go_wp2_with fail
          exact ⟨⟨i + 1, by omega, by go_num, HNX⟩, by simp only [Go.RowKit.intOf]; omega⟩
        · obtain rfl : i = m := by omega
          have hlti : ¬ (i : Int) < (i : Int) := by omega
          have HNX : Hid (CdAt w D L (q + 1) 0 wr) := Lib.hid (by rw [CdAt, ← cdL_next, HM.out]; exact HT.out)
          clear HT
          go_wp2_with fail
          exact ⟨⟨q + 1, by omega, by omega, by go_num, HNX⟩, by simp only [Go.RowKit.intOf]; omega⟩
    · obtain rfl : q = 16 := by omega
      have HE : Hid (CdV w L (.returned (.slice (some ⟨D, 0, none⟩) n n)) wr) := Lib.hid ⟨_, rfl, by
        have h1 := HS.out.2
        rw [cdL_end HL.out.2.1] at h1
        exact rows_u (by rw [cdF_len, HCN.out]) (Nat.le_refl _) h1, HS.out.1⟩
      clear HS
      go_wp2_with fail
      go_ret
      exact HE.out

/-- What Codes answers. -/
def CodesV (w : World) (cs : List Int) (e : Ending) (w' : World) : Prop :=
  Below w.heap.size w w' ∧ ((¬ okLH cs ∧ e = .returned (.tuple #[.slice none 0 0, .int .i64 1])) ∨ (okLH cs ∧ ∃ v, e = .returned (.tuple #[v, .int .i64 0]) ∧ Rows 1 EU w' v (cdF (natLs cs))))
theorem okLH.lens {cs : List Int} (h : okLH cs) : okLens (natLs cs) := ⟨by unfold natLs; rw [List.length_map]; exact h.1, fun n hn => by
  unfold natLs at hn
  obtain ⟨c, hc, rfl⟩ := List.mem_map.1 hn
  have := h.2.1 c hc
  omega, h.2.2⟩
set_option maxRecDepth 100000 in
set_option maxHeartbeats 4000000 in
theorem codesF_any {w : World} {v : Value} {cs : List Int} (hv : Rows 1 EInt w v cs) (hlen : cs.length ≤ maxLen) :
    Calls Try.prog 40 #[v] w (CodesV w cs) := by
  have HO := Lib.hid (open_any hv hlen)
  have hnl : (natLs cs).length = cs.length := by unfold natLs; rw [List.length_map]
  obtain ⟨A, cap, rfl, hc⟩ := hv.form
  obtain ⟨n, hn⟩ : ∃ n, cs.length = n := ⟨_, rfl⟩
  rw [hn] at HO hnl ⊢
  have HNL := Lib.hid hnl
  clear hv hlen hc hn hnl
  go_enter Try.func40, Try.ntmps40
  go_wp2_with fail
  refine HO.out.mono ?_
  rintro e w2 ⟨hb, h | h⟩
  · obtain ⟨hno, rfl⟩ := h
    have HE : Hid (CodesV w cs (.returned (.tuple #[.slice none 0 0, .int .i64 1])) w2) := Lib.hid ⟨hb, .inl ⟨hno, rfl⟩⟩
    clear hb hno HO
    go_wp2_with fail
    go_ret2
    exact HE.out
  · obtain ⟨hok, vs, rfl, hbk⟩ := h
    have hcd := codes_any hbk hok.lens
    rw [HNL.out] at hcd
    have HCD := Lib.hid hcd
    have HB := Lib.hid hb
    have HOK := Lib.hid hok
    clear hb hok hbk hcd HO
    go_wp2_with fail
    refine HCD.out.mono ?_
    rintro e w3 ⟨v3, rfl, hr3, hb3⟩
    have HE : Hid (CodesV w cs (.returned (.tuple #[v3, .int .i64 0])) w3) := Lib.hid ⟨HB.out.trans (hb3.mono HB.out.size), .inr ⟨HOK.out, v3, rfl, hr3⟩⟩
    clear hr3 hb3 HCD
    go_wp2_with fail
    go_ret2
    exact HE.out
end Go.Proofs.Yteennnhinfnahaa
