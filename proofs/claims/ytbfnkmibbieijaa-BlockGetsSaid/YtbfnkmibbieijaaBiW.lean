/-
  PLAIN MATHEMATICS for package bitio, third part: what a Reader reads from a list of bits.
-/
import Derived.Test.YtbfnkmibbieijaaBiJ
namespace Go.Proofs.Ytbfnkmibbieijaa

/-- Bits 0 up to a bit 1: how many, and the error. -/
def zr : List Bool → Nat → Nat → Nat × Nat
  | [], _, _ => (0, 10)
  | true :: _, c, _ => (c, 0)
  | false :: r, c, m => if m < c + 1 then (0, 9) else zr r (c + 1) m
/-- The number, the position behind it, the error. -/
def rbits (l : List Bool) (p n : Nat) : Nat × Nat × Nat := if l.length - p < n then (0, p, 10) else (numL ((l.drop p).take n), p + n, 0)
def rgam (l : List Bool) (p : Nat) : Nat × Nat × Nat :=
  if (zr (l.drop p) 0 63).2 ≠ 0 then (0, p, (zr (l.drop p) 0 63).2)
  else if l.length - (p + (zr (l.drop p) 0 63).1 + 1) < (zr (l.drop p) 0 63).1 then (0, p, 10)
  else (2 ^ (zr (l.drop p) 0 63).1 + numL ((l.drop (p + (zr (l.drop p) 0 63).1 + 1)).take (zr (l.drop p) 0 63).1), p + (zr (l.drop p) 0 63).1 + 1 + (zr (l.drop p) 0 63).1, 0)
def rdel (l : List Bool) (p : Nat) : Nat × Nat × Nat :=
  if (rgam l p).2.2 ≠ 0 then (0, p, (rgam l p).2.2)
  else if 64 < (rgam l p).1 then (0, p, 9)
  else if l.length - (rgam l p).2.1 < (rgam l p).1 - 1 then (0, p, 10)
  else (2 ^ ((rgam l p).1 - 1) + numL ((l.drop (rgam l p).2.1).take ((rgam l p).1 - 1)), (rgam l p).2.1 + ((rgam l p).1 - 1), 0)
def runa (l : List Bool) (p : Nat) : Nat × Nat × Nat :=
  if (zr (l.drop p) 0 4096).2 ≠ 0 then (0, p, (zr (l.drop p) 0 4096).2) else ((zr (l.drop p) 0 4096).1, p + (zr (l.drop p) 0 4096).1 + 1, 0)
/-- What a call reads. -/
def rd (l : List Bool) (p : Nat) (c : CallL) : Nat × Nat × Nat :=
  if c.kind = 0 then (if c.n < 0 ∨ 64 < c.n then (0, p, 1) else rbits l p c.n.toNat)
  else if c.kind = 1 then runa l p
  else if c.kind = 2 then rgam l p else rdel l p

/-- A number of bits 0 was found: there they stand, and the bit 1 behind them. -/
theorem zr_ok : ∀ (l : List Bool) (c m : Nat), c ≤ m → (zr l c m).2 = 0 → c ≤ (zr l c m).1 ∧ (zr l c m).1 ≤ m ∧ ∃ r, l = List.replicate ((zr l c m).1 - c) false ++ true :: r
  | [], c, m, _, h => by simp [zr] at h
  | true :: r, c, m, hc, _ => by
    simp only [zr]
    exact ⟨Nat.le_refl _, hc, r, by simp⟩
  | false :: r, c, m, hc, h => by
    rw [zr] at h ⊢
    by_cases hm : m < c + 1
    · rw [if_pos hm] at h
      simp at h
    · rw [if_neg hm] at h ⊢
      obtain ⟨h1, h2, r', h3⟩ := zr_ok r (c + 1) m (by omega) h
      refine ⟨by omega, h2, r', ?_⟩
      obtain ⟨z, hz⟩ : ∃ z, (zr r (c + 1) m).1 = z := ⟨_, rfl⟩
      rw [hz] at h1 h3 ⊢
      have e : z - c = (z - (c + 1)) + 1 := by omega
      rw [e, List.replicate_succ, List.cons_append]
      exact congrArg (false :: ·) h3
theorem zr_err : ∀ (l : List Bool) (c m : Nat), (zr l c m).2 = 0 ∨ (zr l c m).2 = 9 ∨ (zr l c m).2 = 10
  | [], _, _ => .inr (.inr rfl)
  | true :: _, _, _ => .inl rfl
  | false :: r, c, m => by
    rw [zr]
    split
    · exact .inr (.inl rfl)
    · exact zr_err r (c + 1) m
theorem zr_val (l : List Bool) (c m : Nat) (hc : c ≤ m) : (zr l c m).1 ≤ m := by
  by_cases h : (zr l c m).2 = 0
  · exact (zr_ok l c m hc h).2.1
  · have : ∀ (l : List Bool) (c : Nat), (zr l c m).2 ≠ 0 → (zr l c m).1 = 0 := by
      intro l
      induction l with
      | nil => intro c _; rfl
      | cons b r ih =>
        intro c hh
        cases b with
        | true => simp [zr] at hh
        | false =>
          rw [zr] at hh ⊢
          split
          · rfl
          · rename_i hm
            rw [if_neg hm] at hh
            exact ih (c + 1) hh
    rw [this l c h]
    exact Nat.zero_le _
/-- Where bits were found. -/
theorem zr_at (l : List Bool) (p m : Nat) (h : (zr (l.drop p) 0 m).2 = 0) : (zr (l.drop p) 0 m).1 ≤ m ∧ p + (zr (l.drop p) 0 m).1 + 1 ≤ l.length ∧ l.drop (p + (zr (l.drop p) 0 m).1) = true :: l.drop (p + (zr (l.drop p) 0 m).1 + 1) := by
  obtain ⟨_, h2, r, h3⟩ := zr_ok (l.drop p) 0 m (Nat.zero_le _) h
  obtain ⟨z, hz⟩ : ∃ z, (zr (l.drop p) 0 m).1 = z := ⟨_, rfl⟩
  rw [hz] at h2 h3 ⊢
  rw [Nat.sub_zero] at h3
  have hl := congrArg List.length h3
  rw [List.length_drop, List.length_append, List.length_replicate, List.length_cons] at hl
  have e1 : l.drop (p + z) = true :: r := by
    rw [← List.drop_drop, h3, List.drop_left' (by simp)]
  refine ⟨h2, by omega, ?_⟩
  have e2 : l.drop (p + z + 1) = r := by rw [← List.drop_drop, e1]; rfl
  rw [e2]
  exact e1
theorem zr_step (l : List Bool) (p c m : Nat) (hp : p < l.length) : zr (l.drop p) c m = if l[p] then (c, 0) else if m < c + 1 then (0, 9) else zr (l.drop (p + 1)) (c + 1) m := by
  rw [List.drop_eq_getElem_cons hp]
  cases h : l[p] with
  | true => rfl
  | false => rfl
theorem zr_end (l : List Bool) (p c m : Nat) (hp : l.length ≤ p) : zr (l.drop p) c m = (0, 10) := by
  rw [List.drop_of_length_le hp]
  rfl

theorem rbits_le (l : List Bool) (p n : Nat) (hp : p ≤ l.length) : (rbits l p n).2.1 ≤ l.length ∧ (rbits l p n).1 < 2 ^ n := by
  unfold rbits
  split
  · exact ⟨hp, Nat.pow_pos (by decide)⟩
  · refine ⟨by show p + n ≤ _; omega, ?_⟩
    have h := numL_lt ((l.drop p).take n)
    have hl : ((l.drop p).take n).length = n := by rw [List.length_take, List.length_drop]; omega
    rw [hl] at h
    exact h
theorem rbits_one (l : List Bool) (p : Nat) (hp : p < l.length) : rbits l p 1 = ((l[p]).toNat, p + 1, 0) := by
  unfold rbits
  rw [if_neg (by omega), List.drop_eq_getElem_cons hp, List.take_succ_cons, List.take_zero]
  cases l[p] <;> rfl
theorem rbits_none (l : List Bool) (p : Nat) (hp : l.length ≤ p) : rbits l p 1 = (0, p, 10) := by
  unfold rbits
  rw [if_pos (by omega)]
theorem rbits_take (l : List Bool) (p k : Nat) (hp : p + k < l.length) : numL ((l.drop p).take (k + 1)) = 2 * numL ((l.drop p).take k) + (l[p + k]).toNat := by
  have hk : k < (l.drop p).length := by rw [List.length_drop]; omega
  rw [List.take_succ_eq_append_getElem hk, numL_snoc, List.getElem_drop]
theorem take_num_lt (l : List Bool) (p k : Nat) : numL ((l.drop p).take k) < 2 ^ k := by
  have h := numL_lt ((l.drop p).take k)
  have hl : ((l.drop p).take k).length ≤ k := List.length_take_le _ _
  exact Nat.lt_of_lt_of_le h (Nat.pow_le_pow_right (by decide) hl)
theorem numL_true (r : List Bool) (n : Nat) (hn : n ≤ r.length) : numL ((true :: r).take (n + 1)) = 2 ^ n + numL (r.take n) := by
  rw [List.take_succ_cons, numL, numA_cons, numA_eq, List.length_take, Nat.min_eq_left hn]
  simp

/-- What a call appends is read back. -/
theorem zr_zeros : ∀ (n c m : Nat) (r : List Bool), c + n ≤ m → zr (List.replicate n false ++ true :: r) c m = (c + n, 0)
  | 0, c, m, r, _ => rfl
  | n + 1, c, m, r, h => by
    rw [List.replicate_succ, List.cons_append, zr, if_neg (by omega), zr_zeros n (c + 1) m r (by omega)]
    congr 1
    omega
theorem low_top (v : Nat) (h : v ≠ 0) : low v (Nat.log2 v + 1) = true :: low v (Nat.log2 v) := by
  rw [low]
  congr 1
  have h1 := log_le v h
  have h2 := lt_log v
  rw [Nat.pow_succ] at h2
  have : v / 2 ^ Nat.log2 v = 1 := by
    rw [Nat.div_eq_iff (Nat.pow_pos (by decide))]
    omega
  rw [this]
  rfl
theorem log_split (v : Nat) (h : v ≠ 0) : 2 ^ Nat.log2 v + v % 2 ^ Nat.log2 v = v := by
  have h1 := log_le v h
  have h2 := lt_log v
  rw [Nat.pow_succ] at h2
  rw [Nat.mod_eq_sub_mod h1, Nat.mod_eq_of_lt (by omega)]
  omega
theorem drop_app (l a b : List Bool) (p : Nat) (h : l.drop p = a ++ b) (k : Nat) (hk : k = a.length) : l.drop (p + k) = b := by
  rw [← List.drop_drop, h, hk, List.drop_left]
theorem len_app (l a b : List Bool) (p : Nat) (h : l.drop p = a ++ b) (hp : p ≤ l.length) : l.length = p + a.length + b.length := by
  have := congrArg List.length h
  rw [List.length_drop, List.length_append] at this
  omega
theorem rbits_back (l : List Bool) (p v n : Nat) (rest : List Bool) (hp : p ≤ l.length) (h : l.drop p = low v n ++ rest) (hv : v < 2 ^ n) : rbits l p n = (v, p + n, 0) := by
  have hl := len_app l _ _ p h hp
  rw [low_len] at hl
  unfold rbits
  rw [if_neg (by omega), h, List.take_left' (low_len v n), numL_low, Nat.mod_eq_of_lt hv]
theorem rgam_back (l : List Bool) (p v : Nat) (rest : List Bool) (hp : p ≤ l.length) (h : l.drop p = gam v ++ rest) (h0 : v ≠ 0) (hv : v < 18446744073709551616) : rgam l p = (v, p + (gam v).length, 0) := by
  have hlog := log_lt v hv
  have hg : gam v = List.replicate (Nat.log2 v) false ++ true :: low v (Nat.log2 v) := by rw [gam, low_top v h0]
  have hl := len_app l _ _ p h hp
  have hgl := gam_len v
  have hsp := log_split v h0
  rw [hg, List.append_assoc, List.cons_append] at h
  obtain ⟨n, hn⟩ : ∃ n, Nat.log2 v = n := ⟨_, rfl⟩
  rw [hn] at hlog h hgl hsp
  have hz : zr (l.drop p) 0 63 = (n, 0) := by
    rw [h, zr_zeros n 0 63 _ (by omega), Nat.zero_add]
  have hd : l.drop (p + n + 1) = low v n ++ rest := by
    have h1 := drop_app l (List.replicate n false ++ [true]) (low v n ++ rest) p (by rw [h]; simp) (n + 1) (by simp)
    exact h1
  unfold rgam
  rw [hz]
  simp only
  rw [if_neg (by simp), if_neg (by omega), hd, List.take_left' (low_len v n), numL_low, hsp, hgl]
  congr 2
  omega
theorem rdel_back (l : List Bool) (p v : Nat) (rest : List Bool) (hp : p ≤ l.length) (h : l.drop p = del v ++ rest) (h0 : v ≠ 0) (hv : v < 18446744073709551616) : rdel l p = (v, p + (del v).length, 0) := by
  have hlog := log_lt v hv
  have hl := len_app l _ _ p h hp
  have hdl := del_len v
  have hsp := log_split v h0
  have hgl := gam_len (Nat.log2 v + 1)
  rw [del, List.append_assoc] at h
  obtain ⟨n, hn⟩ : ∃ n, Nat.log2 v = n := ⟨_, rfl⟩
  rw [hn] at hlog h hdl hsp hgl
  have hrg := rgam_back l p (n + 1) _ hp h (by omega) (by omega)
  have hd := drop_app l _ _ p h _ rfl
  unfold rdel
  rw [hrg]
  simp only
  rw [if_neg (by simp), if_neg (by omega), Nat.add_sub_cancel, if_neg (by omega), hd, List.take_left' (low_len v n), numL_low, hsp, hdl]
  congr 2
  omega
theorem runa_back (l : List Bool) (p n : Nat) (rest : List Bool) (h : l.drop p = una n ++ rest) (hn : n ≤ 4096) : runa l p = (n, p + (una n).length, 0) := by
  have hz : zr (l.drop p) 0 4096 = (n, 0) := by
    rw [h, una, List.append_assoc]
    have := zr_zeros n 0 4096 rest (by omega)
    rw [Nat.zero_add] at this
    exact this
  unfold runa
  rw [hz, una_len]
  rfl
/-- The number that a call has written. -/
def wantC (c : CallL) : Nat := if c.kind = 1 then c.n.toNat else c.v
theorem rd_back (l : List Bool) (p : Nat) (c : CallL) (hc : okCall c) (bs rest : List Bool) (hp : p ≤ l.length) (hw : wrL c = some bs) (h : l.drop p = bs ++ rest) : rd l p c = (wantC c, p + bs.length, 0) := by
  obtain ⟨_, _, h2, _, _⟩ := hc
  unfold wrL at hw
  unfold rd wantC
  by_cases k0 : c.kind = 0
  · rw [if_pos k0] at hw ⊢
    rw [if_neg (show ¬ c.kind = 1 by omega)]
    split at hw
    · cases hw
    · rename_i hcond
      injection hw with hw
      subst hw
      rw [if_neg (by omega), low_len]
      exact rbits_back l p c.v _ rest hp h (by omega)
  · rw [if_neg k0] at hw ⊢
    by_cases k1 : c.kind = 1
    · rw [if_pos k1] at hw ⊢
      rw [if_pos k1]
      split at hw
      · cases hw
      · rename_i hcond
        injection hw with hw
        subst hw
        exact runa_back l p _ rest h (by omega)
    · rw [if_neg k1] at hw ⊢
      rw [if_neg k1]
      split at hw
      · cases hw
      · rename_i hv0
        by_cases k2 : c.kind = 2
        · rw [if_pos k2] at hw ⊢
          injection hw with hw
          subst hw
          exact rgam_back l p c.v rest hp h hv0 h2
        · rw [if_neg k2] at hw ⊢
          injection hw with hw
          subst hw
          exact rdel_back l p c.v rest hp h hv0 h2
end Go.Proofs.Ytbfnkmibbieijaa
