/-
  PLAIN MATHEMATICS, NO PROGRAM: positions in strings: a line feed is a unit of its own wherever it stands; the units behind one do not depend on what stands before it; positions ascend.
-/
import Derived.Test.YtilgbjakhpgkcaaCpE
namespace Go.Proofs.Ytilgbjakhpgkcaa
open Go.Lib

theorem dec_shape (l : List UInt8) (hne : l ≠ []) :
    ((l.getD 0 0).toNat < 128 ∧ decodeL l = ((l.getD 0 0).toNat, 1)) ∨
    (128 ≤ (l.getD 0 0).toNat ∧ 128 ≤ (decodeL l).1 ∧ ∀ i, 0 < i → i < (decodeL l).2 → 128 ≤ (l.getD i 0).toNat) := by
  have hl : 0 < l.length := List.length_pos_iff.2 hne
  rw [decodeL_N]
  rcases decodeN_shape l.length (l.getD 0 0).toNat (l.getD 1 0).toNat (l.getD 2 0).toNat (l.getD 3 0).toNat with ⟨c, e⟩ | ⟨c1, c2, c3, cv, e⟩ | ⟨c1, c2, c3, c4, cv, cs, e⟩ | ⟨c1, c2, c3, c4, c5, cv, cw, e⟩ | e
  · exact .inl ⟨c, e⟩
  · refine .inr ⟨by omega, by rw [e]; exact cv, fun i h0 h1 => ?_⟩
    rw [e] at h1
    simp only at h1
    obtain rfl : i = 1 := by omega
    omega
  · refine .inr ⟨by omega, by rw [e]; simp only; omega, fun i h0 h1 => ?_⟩
    rw [e] at h1
    simp only at h1
    have : i = 1 ∨ i = 2 := by omega
    rcases this with rfl | rfl <;> omega
  · refine .inr ⟨by omega, by rw [e]; simp only; omega, fun i h0 h1 => ?_⟩
    rw [e] at h1
    simp only at h1
    have : i = 1 ∨ i = 2 ∨ i = 3 := by omega
    rcases this with rfl | rfl | rfl <;> omega
  · by_cases h : (l.getD 0 0).toNat < 128
    · exact .inl ⟨h, by rw [decodeN_ascii _ _ _ _ _ h]⟩
    · refine .inr ⟨by omega, by rw [e]; simp, fun i h0 h1 => ?_⟩
      rw [e] at h1
      simp only at h1
      omega

/-- A line feed stands in front just where the code point is 10. -/
theorem dec_ten (l : List UInt8) (hne : l ≠ []) : (decodeL l).1 = 10 ↔ l.getD 0 0 = 10 := by
  have h10 : l.getD 0 0 = 10 ↔ (l.getD 0 0).toNat = 10 := by
    constructor
    · intro h; rw [h]; rfl
    · intro h; exact UInt8.toNat_inj.1 h
  rw [h10]
  rcases dec_shape l hne with ⟨_, e⟩ | ⟨a, b, _⟩
  · rw [e]
  · constructor <;> intro h <;> omega
theorem dec_inner (l : List UInt8) (hne : l ≠ []) (i : Nat) (h0 : 0 < i) (h1 : i < (decodeL l).2) : l.getD i 0 ≠ 10 := by
  intro h
  rcases dec_shape l hne with ⟨_, e⟩ | ⟨_, _, c⟩
  · rw [e] at h1; simp only at h1; omega
  · have := c i h0 h1
    rw [h] at this
    exact absurd this (by decide)

set_option maxHeartbeats 1000000 in
/-- What follows a line feed behind a string does not change its first unit. -/
theorem dec_before_lf (l r : List UInt8) (hne : l ≠ []) : decodeL (l ++ 10 :: r) = decodeL l := by
  have hl : 0 < l.length := List.length_pos_iff.2 hne
  rw [decodeL_N, decodeL_N]
  have g : ∀ i, i < l.length → (l ++ 10 :: r).getD i 0 = l.getD i 0 := fun i h => by simp [List.getD, List.getElem?_append_left h]
  have g1 : (l ++ 10 :: r).getD l.length 0 = 10 := by simp [List.getD]
  have len : (l ++ 10 :: r).length = l.length + (r.length + 1) := by simp
  rw [len, g 0 hl]
  have k0 := (l.getD 0 0).toNat_lt
  rcases Nat.lt_or_ge 3 l.length with h | h
  · rw [g 1 (by omega), g 2 (by omega), g 3 (by omega)]
    unfold decodeN
    simp only [show (1 < l.length) = True from eq_true (by omega), show (2 < l.length) = True from eq_true (by omega), show (3 < l.length) = True from eq_true h,
      show (1 < l.length + (r.length + 1)) = True from eq_true (by omega), show (2 < l.length + (r.length + 1)) = True from eq_true (by omega), show (3 < l.length + (r.length + 1)) = True from eq_true (by omega)]
  · have h3 : l.length = 1 ∨ l.length = 2 ∨ l.length = 3 := by omega
    rcases h3 with h3 | h3 | h3
    · rw [h3] at g1 ⊢
      rw [g1]
      unfold decodeN
      simp
    · rw [h3] at g1 ⊢
      rw [g1, g 1 (by omega)]
      unfold decodeN
      simp [show 1 < 2 + (r.length + 1) by omega]
    · rw [h3] at g1 ⊢
      rw [g1, g 1 (by omega), g 2 (by omega)]
      unfold decodeN
      simp [show 1 < 3 + (r.length + 1) by omega, show 2 < 3 + (r.length + 1) by omega]

theorem units_lf (r : List UInt8) : ∀ (l : List UInt8) (p : Nat), unitsA (l ++ 10 :: r) p = unitsA l p ++ { c := 10, p := p + l.length, w := 1 } :: unitsA r (p + l.length + 1) := by
  have hten : ∀ p, unitsA (10 :: r) p = { c := 10, p := p, w := 1 } :: unitsA r (p + 1) := by
    intro p
    have hd : decodeL (10 :: r) = (10, 1) := by
      rcases dec_shape (10 :: r) (by simp) with ⟨_, e⟩ | ⟨a, _⟩
      · rw [e]; rfl
      · exact absurd a (by simp)
    rw [unitsA_step _ _ (by simp), hd]
    rfl
  refine unitsA_ind ?_ ?_
  · intro p
    rw [List.nil_append, unitsA_nil, List.nil_append, hten]
    rfl
  · intro l p hne ih
    have hle := decodeL_le l hne
    rw [unitsA_step l p hne, unitsA_step (l ++ 10 :: r) p (by simp), dec_before_lf l r hne, List.drop_append_of_le_length hle, ih, List.cons_append, List.length_drop]
    have e1 : p + (decodeL l).2 + (l.length - (decodeL l).2) = p + l.length := by omega
    rw [e1]

/-- The units of a string that begins at another place. -/
theorem units_shift (d : Nat) : ∀ (l : List UInt8) (p : Nat), unitsA l (p + d) = (unitsA l p).map fun u => { c := u.c, p := u.p + d, w := u.w } := by
  refine unitsA_ind ?_ ?_
  · intro p; rfl
  · intro l p hne ih
    rw [unitsA_step l p hne, unitsA_step l (p + d) hne, List.map_cons, ← ih]
    have : p + d + (decodeL l).2 = p + (decodeL l).2 + d := by omega
    rw [this]

/-- How many line feeds are there? -/
def lfs (l : List UInt8) : Nat := (l.filter fun b => b == 10).length

theorem pos_line : ∀ (l : List UInt8) (p : Nat) (q : Nat × Nat), ((unitsA l p).foldl stepP q).1 = q.1 + lfs l := by
  refine unitsA_ind ?_ ?_
  · intro p q; simp [unitsA_nil, lfs]
  · intro l p hne ih q
    rw [unitsA_step l p hne, List.foldl_cons, ih]
    have hle := decodeL_le l hne
    have hw := decodeL_width l
    have hsplit : lfs l = lfs (l.take (decodeL l).2) + lfs (l.drop (decodeL l).2) := by
      unfold lfs
      rw [← List.length_append, ← List.filter_append, List.take_append_drop]
    have htake : lfs (l.take (decodeL l).2) = if (decodeL l).1 = 10 then 1 else 0 := by
      obtain ⟨b, t, rfl⟩ : ∃ b t, l = b :: t := by
        cases l with
        | nil => exact absurd rfl hne
        | cons b t => exact ⟨b, t, rfl⟩
      obtain ⟨k, hk⟩ : ∃ k, (decodeL (b :: t)).2 = k + 1 := ⟨(decodeL (b :: t)).2 - 1, by omega⟩
      have hin : ∀ x ∈ t.take k, x ≠ 10 := by
        intro x hx
        obtain ⟨i, hi, rfl⟩ := List.getElem_of_mem hx
        rw [List.length_take] at hi
        have := dec_inner (b :: t) hne (i + 1) (by omega) (by omega)
        rw [List.getElem_take]
        have e : (b :: t).getD (i + 1) 0 = t[i]'(by omega) := by
          rw [List.getD_cons_succ]
          simp [List.getD, List.getElem?_eq_getElem (show i < t.length by omega)]
        rw [e] at this
        exact this
      have h0 : lfs (t.take k) = 0 := by
        unfold lfs
        rw [List.length_eq_zero_iff, List.filter_eq_nil_iff]
        intro x hx
        simpa using hin x hx
      have ht := dec_ten (b :: t) hne
      rw [List.getD_cons_zero] at ht
      rw [hk, List.take_succ_cons]
      have hc : lfs (b :: t.take k) = (if b = 10 then 1 else 0) + lfs (t.take k) := by
        unfold lfs
        by_cases hb : b = 10
        · simp [hb]; omega
        · simp [hb]
      rw [hc, h0, Nat.add_zero]
      by_cases hb : b = 10
      · rw [if_pos hb, if_pos (ht.2 hb)]
      · rw [if_neg hb, if_neg (fun h => hb (ht.1 h))]
    rw [hsplit, htake]
    unfold stepP
    by_cases h : (decodeL l).1 = 10
    · rw [if_pos h, if_pos h]
      simp only
      omega
    · rw [if_neg h, if_neg h]
      simp only
      omega

/-- Line and column are reckoned from the code points alone. -/
theorem pos_map (f : U → U) (hf : ∀ u, (f u).c = u.c) : ∀ (us : List U) (q : Nat × Nat), (us.map f).foldl stepP q = us.foldl stepP q
  | [], _ => rfl
  | u :: us, q => by
    rw [List.map_cons, List.foldl_cons, List.foldl_cons]
    have : stepP q (f u) = stepP q u := by unfold stepP; rw [hf]
    rw [this, pos_map f hf us]
/-- The lines before shift the line alone. -/
theorem pos_shift : ∀ (us : List U) (a b d : Nat), us.foldl stepP (a + d, b) = ((us.foldl stepP (a, b)).1 + d, (us.foldl stepP (a, b)).2)
  | [], _, _, _ => rfl
  | u :: us, a, b, d => by
    rw [List.foldl_cons, List.foldl_cons]
    by_cases h : u.c = 10
    · have e1 : stepP (a + d, b) u = (a + 1 + d, 1) := by unfold stepP; rw [if_pos h]; simp; omega
      have e2 : stepP (a, b) u = (a + 1, 1) := by unfold stepP; rw [if_pos h]
      rw [e1, e2, pos_shift us]
    · have e1 : stepP (a + d, b) u = (a + d, b + 1) := by unfold stepP; rw [if_neg h]
      have e2 : stepP (a, b) u = (a, b + 1) := by unfold stepP; rw [if_neg h]
      rw [e1, e2, pos_shift us]

/-- THE POSITION BEHIND A LINE FEED: the lines before count, nothing else. -/
theorem pos_behind (s t : List UInt8) (k : Nat) :
    posP ((unitsA (s ++ 10 :: t) 0).takeWhile fun u => decide (((u.p : Nat) : Int) < ((s.length + 1 + k : Nat) : Int))) =
      ((posP ((unitsA t 0).takeWhile fun u => decide (((u.p : Nat) : Int) < (k : Int)))).1 + (1 + lfs s), (posP ((unitsA t 0).takeWhile fun u => decide (((u.p : Nat) : Int) < (k : Int)))).2) := by
  rw [units_lf, Nat.zero_add]
  have h1 : ∀ u ∈ unitsA s 0 ++ [{ c := 10, p := s.length, w := 1 }], decide (((u.p : Nat) : Int) < ((s.length + 1 + k : Nat) : Int)) = true := by
    intro u hu
    rw [decide_eq_true_eq]
    rcases List.mem_append.1 hu with hu | hu
    · have := units_fit _ _ _ hu
      obtain ⟨_, h2, h3, _⟩ := this
      omega
    · rw [List.mem_singleton.1 hu]
      simp only
      omega
  have h2 : unitsA s 0 ++ { c := 10, p := s.length, w := 1 } :: unitsA t (s.length + 1) = (unitsA s 0 ++ [{ c := 10, p := s.length, w := 1 }]) ++ unitsA t (s.length + 1) := by simp
  rw [h2, List.takeWhile_append_of_pos h1]
  have h3 : unitsA t (s.length + 1) = (unitsA t 0).map fun u => { c := u.c, p := u.p + (s.length + 1), w := u.w } := by
    have := units_shift (s.length + 1) t 0
    rw [Nat.zero_add] at this
    exact this
  rw [h3, List.takeWhile_map]
  have h4 : ((fun u : U => decide (((u.p : Nat) : Int) < ((s.length + 1 + k : Nat) : Int))) ∘ fun u : U => ({ c := u.c, p := u.p + (s.length + 1), w := u.w } : U)) = fun u : U => decide (((u.p : Nat) : Int) < (k : Int)) := by
    funext u
    simp only [Function.comp]
    rw [decide_eq_decide]
    constructor <;> intro h <;> omega
  rw [h4]
  unfold posP
  rw [List.foldl_append, List.foldl_append, pos_map (fun u => { c := u.c, p := u.p + (s.length + 1), w := u.w }) (fun _ => rfl)]
  have h5 : List.foldl stepP (List.foldl stepP (1, 1) (unitsA s 0)) [{ c := 10, p := s.length, w := 1 }] = (1 + (1 + lfs s), 1) := by
    have := pos_line s 0 (1, 1)
    simp only [List.foldl_cons, List.foldl_nil, stepP, if_true, this]
    simp
    omega
  rw [h5, pos_shift]

/-- FROM AN OFFSET TO THE NEXT ONE: a unit begins there, or none does (and then no line feed stands there). -/
theorem pos_next : ∀ (l : List UInt8) (p k : Nat), p ≤ k → k < p + l.length →
    ∃ us, ((unitsA l p).takeWhile fun u => decide (((u.p : Nat) : Int) < ((k + 1 : Nat) : Int))) = ((unitsA l p).takeWhile fun u => decide (((u.p : Nat) : Int) < (k : Int))) ++ us ∧
      ((us = [] ∧ l.getD (k - p) 0 ≠ 10) ∨ ∃ u, us = [u] ∧ (u.c = 10 ↔ l.getD (k - p) 0 = 10)) := by
  have none_from : ∀ (l : List UInt8) (p : Nat) (x : Int), x ≤ (p : Int) → ((unitsA l p).takeWhile fun u => decide (((u.p : Nat) : Int) < x)) = [] := by
    intro l p x hx
    by_cases hne : l = []
    · subst hne; rfl
    · rw [unitsA_step l p hne, List.takeWhile_cons, if_neg (by rw [decide_eq_true_eq]; simp only; omega)]
  refine unitsA_ind ?_ ?_
  · intro p k h1 h2
    simp at h2
    omega
  · intro l p hne ih k h1 h2
    have hw := decodeL_width l
    have hle := decodeL_le l hne
    rw [unitsA_step l p hne]
    by_cases hkp : k = p
    · subst hkp
      refine ⟨[{ c := (decodeL l).1, p := k, w := (decodeL l).2 }], ?_, .inr ⟨_, rfl, ?_⟩⟩
      · rw [List.takeWhile_cons, if_pos (by rw [decide_eq_true_eq]; simp only; omega), List.takeWhile_cons, if_neg (by rw [decide_eq_true_eq]; simp only; omega), List.nil_append, none_from _ _ _ (by omega)]
      · rw [Nat.sub_self]
        exact dec_ten l hne
    · by_cases hkw : k < p + (decodeL l).2
      · refine ⟨[], ?_, .inl ⟨rfl, dec_inner l hne (k - p) (by omega) (by omega)⟩⟩
        rw [List.takeWhile_cons, if_pos (by rw [decide_eq_true_eq]; simp only; omega), List.takeWhile_cons, if_pos (by rw [decide_eq_true_eq]; simp only; omega), none_from _ _ _ (by omega), none_from _ _ _ (by omega), List.append_nil]
      · obtain ⟨us, e, h⟩ := ih k (by omega) (by rw [List.length_drop]; omega)
        refine ⟨us, ?_, ?_⟩
        · rw [List.takeWhile_cons, if_pos (by rw [decide_eq_true_eq]; simp only; omega), List.takeWhile_cons, if_pos (by rw [decide_eq_true_eq]; simp only; omega), e, List.cons_append]
        · have hg : (l.drop (decodeL l).2).getD (k - (p + (decodeL l).2)) 0 = l.getD (k - p) 0 := by
            rw [getD_dropU]
            congr 1
            omega
          rw [hg] at h
          exact h
end Go.Proofs.Ytilgbjakhpgkcaa
