/-
  PLAIN MATHEMATICS of package block: the encoding of a block with a width, its length, the least width.
  PLAIN MATHEMATICS of package block: what is read back from bytes, number by number; a block's own encoding is read back as its numbers.
-/
import Derived.Test.YteennnhinfnahaaDoorTzC
import Derived.Laws.MathBits
namespace Go.Proofs.YteennnhinfnahaaDoor

/-- The exceptions of the first numbers: how many, the index behind the last one, their bytes. -/
structure XS where
  ex : Nat
  bf : Nat
  hi : List UInt8
def xstep (w : Nat) (s : XS) (i v : Nat) : XS := if v / 2 ^ w = 0 then s else ⟨s.ex + 1, i + 1, s.hi ++ enc (i + 1 - s.bf) ++ enc (v / 2 ^ w)⟩
def xsK (w : Nat) (vs : List Nat) : Nat → XS
  | 0 => ⟨0, 0, []⟩
  | k + 1 => xstep w (xsK w vs k) k (vs.getD k 0)
def lowB (w : Nat) (vs : List Nat) : List Bool := vs.flatMap fun v => low v w
def blkB (vs : List Nat) (w : Nat) : List UInt8 := enc vs.length ++ enc w ++ enc (xsK w vs vs.length).ex ++ pack (lowB w vs) ++ (xsK w vs vs.length).hi
/-- How many bytes a number takes. -/
def uvs (v : Nat) : Nat := (max 1 (bitLen v) + 6) / 7
/-- The bytes of the exceptions among the first numbers. -/
def cst (vs : List Nat) (w : Nat) : Nat := (blkB vs w).length
def bestK (vs : List Nat) : Nat → Nat
  | 0 => 0
  | k + 1 => if cst vs (k + 1) < cst vs (bestK vs k) then k + 1 else bestK vs k
def wid (vs : List Nat) : Nat := bestK vs 31

theorem enc_uvs (v : Nat) : (enc v).length = uvs v := by
  induction v using Nat.strongRecOn with
  | ind v ih =>
    unfold uvs
    by_cases h : v < 128
    · have hb : bitLen v ≤ 7 := by
        unfold bitLen
        by_cases h0 : v = 0
        · rw [if_pos h0]; omega
        · rw [if_neg h0]
          have := (Nat.log2_lt h0 (k := 7)).2 (by omega)
          omega
      rw [enc_lt h, List.length_singleton]
      omega
    · have h1 := ih (v / 128) (by omega)
      unfold uvs at h1
      have h2 := bitLen_shift v 7 (by omega)
      have e : v / 2 ^ 7 = v / 128 := rfl
      rw [e] at h2
      have h3 : 1 ≤ bitLen (v / 128) := by unfold bitLen; rw [if_neg (by omega)]; omega
      rw [enc_ge (by omega), List.length_cons, h1, h2]
      omega
theorem uvs_one {v : Nat} (h : v < 128) : uvs v = 1 := by rw [← enc_uvs, enc_lt h]; rfl
theorem uvs_two {v : Nat} (h : v < 16384) : uvs v ≤ 2 := by rw [← enc_uvs]; exact enc_len 1 v (by omega)
theorem uvs_five {v : Nat} (h : v < 2147483648) : uvs v ≤ 5 := by rw [← enc_uvs]; exact enc_len 4 v (by omega)
theorem uvs_pos (v : Nat) : 1 ≤ uvs v := by rw [← enc_uvs]; exact enc_pos v

theorem xstep_no {w : Nat} {s : XS} {i v : Nat} (h : v / 2 ^ w = 0) : xstep w s i v = s := by unfold xstep; rw [if_pos h]
theorem xstep_yes {w : Nat} {s : XS} {i v : Nat} (h : v / 2 ^ w ≠ 0) : xstep w s i v = ⟨s.ex + 1, i + 1, s.hi ++ enc (i + 1 - s.bf) ++ enc (v / 2 ^ w)⟩ := by unfold xstep; rw [if_neg h]
theorem xsK_at {w : Nat} {vs : List Nat} {k v : Nat} (h : vs[k]? = some v) : xsK w vs (k + 1) = xstep w (xsK w vs k) k v := by
  show xstep w (xsK w vs k) k (vs.getD k 0) = _
  rw [List.getD_eq_getElem?_getD, h]; rfl
def ok31 (vs : List Nat) : Prop := vs.length ≤ 128 ∧ ∀ v ∈ vs, v < 2147483648
theorem ok31.getD {vs : List Nat} (h : ok31 vs) (k : Nat) : vs.getD k 0 < 2147483648 := by
  rw [List.getD_eq_getElem?_getD]
  cases hk : vs[k]? with
  | none => decide
  | some v => exact h.2 v (List.mem_of_getElem? hk)
theorem xsK_le {w : Nat} {vs : List Nat} (h : ok31 vs) : ∀ k, k ≤ 128 → (xsK w vs k).ex ≤ k ∧ (xsK w vs k).bf ≤ k ∧ (xsK w vs k).hi.length ≤ 7 * k
  | 0, _ => ⟨Nat.le_refl _, Nat.le_refl _, Nat.le_refl _⟩
  | k + 1, hk => by
    obtain ⟨h1, h2, h3⟩ := xsK_le (w := w) h k (by omega)
    have hv := h.getD k
    show (xstep w (xsK w vs k) k (vs.getD k 0)).ex ≤ k + 1 ∧ (xstep w (xsK w vs k) k (vs.getD k 0)).bf ≤ k + 1 ∧ (xstep w (xsK w vs k) k (vs.getD k 0)).hi.length ≤ 7 * (k + 1)
    by_cases h0 : vs.getD k 0 / 2 ^ w = 0
    · rw [xstep_no h0]; omega
    · rw [xstep_yes h0]
      have hq : vs.getD k 0 / 2 ^ w < 2147483648 := Nat.lt_of_le_of_lt (Nat.div_le_self _ _) hv
      have e1 := uvs_two (v := k + 1 - (xsK w vs k).bf) (by omega)
      have e2 := uvs_five hq
      refine ⟨by simp only; omega, Nat.le_refl _, ?_⟩
      simp only [List.length_append, enc_uvs]
      omega
theorem lowB_len (w : Nat) : ∀ vs : List Nat, (lowB w vs).length = vs.length * w
  | [] => by simp [lowB]
  | v :: r => by
    have := lowB_len w r
    unfold lowB at this ⊢
    rw [List.flatMap_cons, List.length_append, low_len, this, List.length_cons, Nat.add_mul]
    omega
theorem lowB_step {w : Nat} {vs : List Nat} {k v : Nat} (h : vs[k]? = some v) : lowB w (vs.take (k + 1)) = lowB w (vs.take k) ++ low v w := by
  unfold lowB
  rw [List.take_add_one, h, List.flatMap_append]
  simp
theorem cst_eq (vs : List Nat) (w : Nat) : cst vs w = uvs vs.length + uvs w + uvs (xsK w vs vs.length).ex + (vs.length * w + 7) / 8 + (xsK w vs vs.length).hi.length := by
  unfold cst blkB
  simp only [List.length_append, enc_uvs, pack_len, lowB_len]
theorem cst_le {vs : List Nat} (h : ok31 vs) {w : Nat} (hw : w ≤ 31) : cst vs w ≤ 1410 := by
  rw [cst_eq]
  have h1 := uvs_two (v := vs.length) (by have := h.1; omega)
  have h2 := uvs_two (v := w) (by omega)
  obtain ⟨h3, _, h4⟩ := xsK_le (w := w) h vs.length h.1
  have h5 := uvs_two (v := (xsK w vs vs.length).ex) (by have := h.1; omega)
  have h6 : vs.length * w ≤ 128 * 31 := Nat.mul_le_mul h.1 hw
  have := h.1
  omega
theorem bestK_le (vs : List Nat) : ∀ k, bestK vs k ≤ k
  | 0 => Nat.le_refl _
  | k + 1 => by
    have := bestK_le vs k
    unfold bestK
    split <;> omega
theorem bestK_min (vs : List Nat) : ∀ k j, j ≤ k → cst vs (bestK vs k) ≤ cst vs j ∧ (cst vs j = cst vs (bestK vs k) → bestK vs k ≤ j)
  | 0, j, h => by
    obtain rfl : j = 0 := by omega
    exact ⟨Nat.le_refl _, fun _ => Nat.le_refl _⟩
  | k + 1, j, h => by
    have hl := bestK_le vs k
    have ih := bestK_min vs k
    unfold bestK
    rcases Nat.lt_or_ge k j with hj | hj
    · obtain rfl : j = k + 1 := by omega
      split
      · exact ⟨Nat.le_refl _, fun _ => Nat.le_refl _⟩
      · exact ⟨by omega, fun _ => by omega⟩
    · obtain ⟨h1, h2⟩ := ih j hj
      split
      · exact ⟨by omega, fun e => by omega⟩
      · exact ⟨h1, h2⟩
theorem wid_le (vs : List Nat) : wid vs ≤ 31 := bestK_le vs 31

theorem wid_of {vs : List Nat} {m : Nat} (hm : m ≤ 31) (h : ∀ j, j < 32 → cst vs m ≤ cst vs j ∧ (j < m → cst vs m < cst vs j)) : wid vs = m := by
  have h1 := bestK_min vs 31 m hm
  have h2 := h (wid vs) (by have := wid_le vs; omega)
  have h3 : bestK vs 31 = wid vs := rfl
  rw [h3] at h1
  rcases Nat.lt_trichotomy (wid vs) m with h4 | h4 | h4
  · have := h2.2 h4
    omega
  · exact h4
  · have := h1.2 (by omega)
    omega
/-- The same counts in numbers alone. -/
def xsN (w : Nat) (vs : List Nat) : Nat → Nat × Nat × Nat
  | 0 => (0, 0, 0)
  | k + 1 => if vs.getD k 0 / 2 ^ w = 0 then xsN w vs k else ((xsN w vs k).1 + 1, k + 1, (xsN w vs k).2.2 + (uvs (k + 1 - (xsN w vs k).2.1) + uvs (vs.getD k 0 / 2 ^ w)))
theorem xsN_eq (w : Nat) (vs : List Nat) : ∀ k, xsN w vs k = ((xsK w vs k).ex, (xsK w vs k).bf, (xsK w vs k).hi.length)
  | 0 => rfl
  | k + 1 => by
    have e : xsK w vs (k + 1) = xstep w (xsK w vs k) k (vs.getD k 0) := rfl
    rw [e, xsN, xsN_eq w vs k]
    by_cases h0 : vs.getD k 0 / 2 ^ w = 0
    · rw [if_pos h0, xstep_no h0]
    · rw [if_neg h0, xstep_yes h0]
      simp only [List.length_append, enc_uvs, Nat.add_assoc]
def cstN (vs : List Nat) (w : Nat) : Nat := uvs vs.length + uvs w + uvs (xsN w vs vs.length).1 + (vs.length * w + 7) / 8 + (xsN w vs vs.length).2.2
theorem cst_cstN (vs : List Nat) (w : Nat) : cst vs w = cstN vs w := by rw [cst_eq, cstN, xsN_eq]

/-! Bounds -/
theorem xsK_none {w : Nat} {vs : List Nat} (h : ∀ v ∈ vs, v / 2 ^ w = 0) : ∀ k, xsK w vs k = ⟨0, 0, []⟩
  | 0 => rfl
  | k + 1 => by
    show xstep w (xsK w vs k) k (vs.getD k 0) = _
    rw [xsK_none h k, xstep_no]
    rw [List.getD_eq_getElem?_getD]
    cases hk : vs[k]? with
    | none => simp
    | some v => exact h v (List.mem_of_getElem? hk)
def bndN (n w : Nat) : Nat := 3 + (n * w + 7) / 8 + (if n = 128 then 1 else 0)
theorem uvs_count {n : Nat} (h : n ≤ 128) : uvs n = 1 + (if n = 128 then 1 else 0) := by
  by_cases h1 : n = 128
  · subst h1; decide
  · rw [if_neg h1, uvs_one (by omega)]
theorem bound_low {vs : List Nat} (h : ok31 vs) {w : Nat} (hw : w ≤ 31) (hl : ∀ v ∈ vs, v / 2 ^ w = 0) : cst vs (wid vs) ≤ bndN vs.length w := by
  refine Nat.le_trans (bestK_min vs 31 w hw).1 ?_
  rw [cst_eq, xsK_none hl, uvs_count h.1, uvs_one (v := w) (by omega)]
  have : uvs 0 = 1 := by decide
  simp only [List.length_nil, this]
  unfold bndN
  omega
theorem set_getD (vs : List Nat) (p g k : Nat) : (vs.set p g).getD k 0 = if p = k ∧ p < vs.length then g else vs.getD k 0 := by
  rw [List.getD_eq_getElem?_getD, List.getD_eq_getElem?_getD, List.getElem?_set]
  by_cases h : p = k
  · subst h
    by_cases h2 : p < vs.length
    · simp [h2]
    · simp [h2]
  · simp [h]
theorem xsK_single {w : Nat} {vs : List Nat} (h : ∀ v ∈ vs, v / 2 ^ w = 0) (p g : Nat) (hp : p < 128) (hg : g < 2147483648) : ∀ k, ((k ≤ p → xsK w (vs.set p g) k = ⟨0, 0, []⟩) ∧ (xsK w (vs.set p g) k).ex ≤ 1 ∧ (xsK w (vs.set p g) k).hi.length ≤ 7)
  | 0 => ⟨fun _ => rfl, by show 0 ≤ 1; omega, by show 0 ≤ 7; omega⟩
  | k + 1 => by
    obtain ⟨h1, h2, h3⟩ := xsK_single h p g hp hg k
    have hv : ∀ j, vs.getD j 0 / 2 ^ w = 0 := fun j => by
      rw [List.getD_eq_getElem?_getD]
      cases hk : vs[j]? with
      | none => simp
      | some v => exact h v (List.mem_of_getElem? hk)
    have e : xsK w (vs.set p g) (k + 1) = xstep w (xsK w (vs.set p g) k) k ((vs.set p g).getD k 0) := rfl
    rw [e, set_getD]
    by_cases hk : p = k ∧ p < vs.length
    · obtain ⟨rfl, _⟩ := hk
      rw [if_pos ⟨rfl, by assumption⟩, h1 (Nat.le_refl _)]
      by_cases h0 : g / 2 ^ w = 0
      · rw [xstep_no h0]
        exact ⟨fun h => by omega, by show 0 ≤ 1; omega, by show 0 ≤ 7; omega⟩
      · rw [xstep_yes h0]
        have e1 := uvs_two (v := p + 1 - 0) (by omega)
        have e2 := uvs_five (v := g / 2 ^ w) (Nat.lt_of_le_of_lt (Nat.div_le_self _ _) hg)
        refine ⟨fun h => by omega, Nat.le_refl _, ?_⟩
        simp only [List.length_append, enc_uvs, List.length_nil]
        omega
    · rw [if_neg hk, xstep_no (hv k)]
      exact ⟨fun h => h1 (by omega), h2, h3⟩
theorem ok31.set {vs : List Nat} (h : ok31 vs) {p g : Nat} (hg : g < 2147483648) : ok31 (vs.set p g) :=
  ⟨by rw [List.length_set]; exact h.1, fun v hv => by
    rcases List.mem_or_eq_of_mem_set hv with h1 | h1
    · exact h.2 v h1
    · rw [h1]; exact hg⟩
theorem bound_one {vs : List Nat} (h : ok31 vs) {w : Nat} (hw : w ≤ 31) (hl : ∀ v ∈ vs, v / 2 ^ w = 0) {p g : Nat} (hp : p < vs.length) (hg : g < 2147483648) : cst (vs.set p g) (wid (vs.set p g)) ≤ bndN vs.length w + 7 := by
  refine Nat.le_trans (bestK_min _ 31 w hw).1 ?_
  have h128 := h.1
  obtain ⟨_, h1, h2⟩ := xsK_single hl p g (by omega) hg (vs.set p g).length
  rw [cst_eq, List.length_set] at *
  rw [uvs_count h.1, uvs_one (v := w) (by omega)]
  have h3 := uvs_one (v := (xsK w (vs.set p g) vs.length).ex) (by omega)
  rw [h3]
  unfold bndN
  omega
end Go.Proofs.YteennnhinfnahaaDoor
namespace Go.Proofs.YteennnhinfnahaaDoor
set_option linter.unusedVariables false

/-- The exceptions that are read: og tells which differences may follow an index, oh which parts may be put in. -/
def exG (og : Nat → Nat → Bool) (oh : Nat → Bool) (W : Nat) : Nat → Nat → List Nat → List UInt8 → Option (List Nat)
  | 0, _, vals, _ => some vals
  | k + 1, a, vals, L =>
    if (tk L 0 0).2.2 = 0 ∧ og a (tk L 0 0).1 = true then
      if (tk (L.drop (tk L 0 0).2.1) 0 0).2.2 = 0 ∧ oh (tk (L.drop (tk L 0 0).2.1) 0 0).1 = true then
        exG og oh W k (a + (tk L 0 0).1) (vals.set (a + (tk L 0 0).1 - 1) (vals.getD (a + (tk L 0 0).1 - 1) 0 ||| (tk (L.drop (tk L 0 0).2.1) 0 0).1 * 2 ^ W)) ((L.drop (tk L 0 0).2.1).drop (tk (L.drop (tk L 0 0).2.1) 0 0).2.1)
      else none
    else none
/-- The lowest bits of c numbers. -/
def lowsOf (L : List UInt8) (c W : Nat) : List Nat := (List.range c).map fun i => numL (((unpack L (c * W)).drop (i * W)).take W)
/-- The exceptions of the numbers from index i on; b is the index behind the last exception before. -/
def tlB (W : Nat) : List Nat → Nat → Nat → List UInt8
  | [], _, _ => []
  | v :: r, i, b => if v / 2 ^ W = 0 then tlB W r (i + 1) b else enc (i + 1 - b) ++ (enc (v / 2 ^ W) ++ tlB W r (i + 1) (i + 1))
def tlN (W : Nat) : List Nat → Nat
  | [] => 0
  | v :: r => if v / 2 ^ W = 0 then tlN W r else tlN W r + 1

theorem drop_cons {vs : List Nat} {k v : Nat} (h : vs[k]? = some v) : vs.drop k = v :: vs.drop (k + 1) := by
  obtain ⟨hk, rfl⟩ := List.getElem?_eq_some_iff.1 h
  exact List.drop_eq_getElem_cons hk
theorem xs_split {W : Nat} {vs : List Nat} : ∀ (d k : Nat), k + d = vs.length → (xsK W vs vs.length).hi = (xsK W vs k).hi ++ tlB W (vs.drop k) k (xsK W vs k).bf ∧ (xsK W vs vs.length).ex = (xsK W vs k).ex + tlN W (vs.drop k)
  | 0, k, h => by
    have hk : k = vs.length := by omega
    subst hk
    simp [tlB, tlN]
  | d + 1, k, h => by
    obtain ⟨v, hv⟩ : ∃ v, vs[k]? = some v := ⟨_, List.getElem?_eq_getElem (by omega)⟩
    obtain ⟨h1, h2⟩ := xs_split (W := W) (vs := vs) d (k + 1) (by omega)
    rw [drop_cons hv, h1, h2, xsK_at hv]
    by_cases h0 : v / 2 ^ W = 0
    · rw [xstep_no h0]
      simp only [tlB, tlN, if_pos h0]
      exact ⟨trivial, trivial⟩
    · rw [xstep_yes h0]
      simp only [tlB, tlN, if_neg h0, List.append_assoc]
      exact ⟨trivial, by omega⟩
theorem xs_all {W : Nat} {vs : List Nat} : (xsK W vs vs.length).hi = tlB W vs 0 0 ∧ (xsK W vs vs.length).ex = tlN W vs := by
  obtain ⟨h1, h2⟩ := xs_split (W := W) (vs := vs) vs.length 0 (by omega)
  rw [h1, h2]
  simp [xsK]
theorem tk_enc {v : Nat} (hv : v < 18446744073709551616) (rest : List UInt8) : tk (enc v ++ rest) 0 0 = (v, (enc v).length, 0) := by
  have h := tk_back v 0 0 rest (by omega) (by omega) (by omega)
  simpa using h
theorem or_parts (v W : Nat) : v % 2 ^ W ||| v / 2 ^ W * 2 ^ W = v := by
  have h := Nat.two_pow_add_eq_or_of_lt (Nat.mod_lt v (Nat.pow_pos (n := W) (by decide : 0 < 2))) (v / 2 ^ W)
  rw [Nat.or_comm, Nat.mul_comm, ← h, Nat.mul_comm]
  exact Nat.div_add_mod' v (2 ^ W)
theorem exG_tail {og : Nat → Nat → Bool} {oh : Nat → Bool} {W c : Nat} (hog : ∀ a g, 1 ≤ g → a + g ≤ c → og a g = true) (hoh : ∀ q, 1 ≤ q → q ≤ 2147483647 / 2 ^ W → oh q = true) (hc : c ≤ 128) :
    ∀ (r : List Nat) (pre : List Nat) (b : Nat) (rest : List UInt8), b ≤ pre.length → pre.length + r.length = c → (∀ v ∈ r, v < 2147483648) →
      exG og oh W (tlN W r) b (pre ++ r.map (· % 2 ^ W)) (tlB W r pre.length b ++ rest) = some (pre ++ r)
  | [], pre, b, rest, _, _, _ => by simp [tlN, exG]
  | v :: r, pre, b, rest, hb, hl, hr => by
    have hv := hr v (List.mem_cons_self ..)
    have hr' : ∀ x ∈ r, x < 2147483648 := fun x hx => hr x (List.mem_cons_of_mem _ hx)
    rw [List.length_cons] at hl
    have ih := fun b' hb' => exG_tail hog hoh hc r (pre ++ [v]) b' rest (by rw [List.length_append, List.length_singleton]; exact hb') (by rw [List.length_append, List.length_singleton]; omega) hr'
    by_cases h0 : v / 2 ^ W = 0
    · have hm : v % 2 ^ W = v := by
        have := Nat.div_add_mod v (2 ^ W)
        rw [h0, Nat.mul_zero, Nat.zero_add] at this
        exact this
      have h := ih b (by omega)
      simp only [List.length_append, List.length_singleton, List.append_assoc, List.singleton_append] at h
      simp only [tlN, tlB, if_pos h0, List.map_cons, hm]
      exact h
    · have hq : v / 2 ^ W < 2147483648 := Nat.lt_of_le_of_lt (Nat.div_le_self _ _) hv
      have hq1 : v / 2 ^ W ≤ 2147483647 / 2 ^ W := Nat.div_le_div_right (by omega)
      have h := ih (pre.length + 1) (Nat.le_refl _)
      simp only [List.length_append, List.length_singleton, List.append_assoc, List.singleton_append] at h
      simp only [tlN, tlB, if_neg h0, exG, List.append_assoc]
      rw [tk_enc (by omega)]
      simp only [List.drop_left]
      rw [tk_enc (by omega)]
      simp only [List.drop_left]
      rw [if_pos ⟨trivial, hog _ _ (by omega) (by omega)⟩, if_pos ⟨trivial, hoh _ (Nat.one_le_iff_ne_zero.2 h0) hq1⟩]
      have e1 : b + (pre.length + 1 - b) = pre.length + 1 := by omega
      rw [e1, Nat.add_sub_cancel]
      have e2 : (pre ++ List.map (· % 2 ^ W) (v :: r)).getD pre.length 0 = v % 2 ^ W := by simp [List.getD]
      rw [e2, or_parts]
      have e3 : (pre ++ List.map (· % 2 ^ W) (v :: r)).set pre.length v = pre ++ v :: List.map (· % 2 ^ W) r := by simp
      rw [e3]
      exact h
theorem lowB_drop (W : Nat) : ∀ (vs : List Nat) (i v : Nat), vs[i]? = some v → ((lowB W vs).drop (i * W)).take W = low v W
  | [], i, v, h => by simp at h
  | u :: r, 0, v, h => by
    have : u = v := by simpa using h
    subst this
    unfold lowB
    rw [Nat.zero_mul, List.drop_zero, List.flatMap_cons, List.take_left' (low_len _ _)]
  | u :: r, i + 1, v, h => by
    have h1 := lowB_drop W r i v (by simpa using h)
    unfold lowB at h1 ⊢
    rw [List.flatMap_cons, Nat.add_mul, Nat.one_mul, Nat.add_comm, ← List.drop_drop, List.drop_left' (low_len _ _)]
    exact h1
theorem unpack_takeB (L : List UInt8) (n : Nat) : unpack (L.take ((n + 7) / 8)) n = unpack L n := by
  unfold unpack
  refine List.map_congr_left fun i hi => ?_
  have hi := List.mem_range.1 hi
  have e : (L.take ((n + 7) / 8)).getD (i / 8) 0 = L.getD (i / 8) 0 := by
    rw [List.getD_eq_getElem?_getD, List.getD_eq_getElem?_getD, List.getElem?_take, if_pos (by omega)]
  rw [e]
theorem lows_pack (vs : List Nat) (W : Nat) (rest : List UInt8) : lowsOf (pack (lowB W vs) ++ rest) vs.length W = vs.map (· % 2 ^ W) := by
  have hl := lowB_len W vs
  have hu : unpack (pack (lowB W vs) ++ rest) (vs.length * W) = lowB W vs := by
    rw [← unpack_takeB, List.take_left' (by rw [pack_len, hl]), ← hl, unpack_pack]
  unfold lowsOf
  rw [hu]
  refine List.ext_getElem? fun i => ?_
  rw [List.getElem?_map, List.getElem?_map]
  rcases Nat.lt_or_ge i vs.length with h | h
  · obtain ⟨v, hv⟩ : ∃ v, vs[i]? = some v := ⟨_, List.getElem?_eq_getElem h⟩
    rw [List.getElem?_range h, hv]
    simp only [Option.map_some, lowB_drop W vs i v hv, numL_low]
  · rw [List.getElem?_eq_none (by simpa using h), List.getElem?_eq_none h]
    rfl
/-- What is read from bytes. -/
def prsG (m3 : Nat → Nat) (og : Nat → Nat → Nat → Bool) (oh : Nat → Nat → Bool) (L : List UInt8) : Option (List Nat) :=
  if (tk L 0 0).2.2 = 0 ∧ (tk L 0 0).1 ≤ 128 then
    if (tk (L.drop (tk L 0 0).2.1) 0 0).2.2 = 0 ∧ (tk (L.drop (tk L 0 0).2.1) 0 0).1 ≤ 31 then
      if (tk ((L.drop (tk L 0 0).2.1).drop (tk (L.drop (tk L 0 0).2.1) 0 0).2.1) 0 0).2.2 = 0 ∧ (tk ((L.drop (tk L 0 0).2.1).drop (tk (L.drop (tk L 0 0).2.1) 0 0).2.1) 0 0).1 ≤ m3 (tk L 0 0).1 then
        if (tk L 0 0).1 * (tk (L.drop (tk L 0 0).2.1) 0 0).1 ≤ 8 * (((L.drop (tk L 0 0).2.1).drop (tk (L.drop (tk L 0 0).2.1) 0 0).2.1).drop (tk ((L.drop (tk L 0 0).2.1).drop (tk (L.drop (tk L 0 0).2.1) 0 0).2.1) 0 0).2.1).length then
          exG (og (tk L 0 0).1) (oh (tk (L.drop (tk L 0 0).2.1) 0 0).1) (tk (L.drop (tk L 0 0).2.1) 0 0).1 (tk ((L.drop (tk L 0 0).2.1).drop (tk (L.drop (tk L 0 0).2.1) 0 0).2.1) 0 0).1 0
            (lowsOf (((L.drop (tk L 0 0).2.1).drop (tk (L.drop (tk L 0 0).2.1) 0 0).2.1).drop (tk ((L.drop (tk L 0 0).2.1).drop (tk (L.drop (tk L 0 0).2.1) 0 0).2.1) 0 0).2.1) (tk L 0 0).1 (tk (L.drop (tk L 0 0).2.1) 0 0).1)
            ((((L.drop (tk L 0 0).2.1).drop (tk (L.drop (tk L 0 0).2.1) 0 0).2.1).drop (tk ((L.drop (tk L 0 0).2.1).drop (tk (L.drop (tk L 0 0).2.1) 0 0).2.1) 0 0).2.1).drop (((tk L 0 0).1 * (tk (L.drop (tk L 0 0).2.1) 0 0).1 + 7) / 8))
        else none
      else none
    else none
  else none
theorem prs_pack {m3 : Nat → Nat} {og : Nat → Nat → Nat → Bool} {oh : Nat → Nat → Bool} (h3 : ∀ c, c ≤ 128 → c ≤ m3 c) (hog : ∀ c a g, 1 ≤ g → a + g ≤ c → og c a g = true) (hoh : ∀ W q, 1 ≤ q → q ≤ 2147483647 / 2 ^ W → oh W q = true)
    {vs : List Nat} (hok : ok31 vs) {W : Nat} (hW : W ≤ 31) : prsG m3 og oh (blkB vs W) = some vs := by
  have h128 := hok.1
  have hex := (xsK_le (w := W) hok vs.length h128).1
  obtain ⟨hx1, hx2⟩ := xs_all (W := W) (vs := vs)
  have e0 : blkB vs W = enc vs.length ++ (enc W ++ (enc (tlN W vs) ++ (pack (lowB W vs) ++ tlB W vs 0 0))) := by
    unfold blkB
    rw [hx1, hx2]
    simp only [List.append_assoc]
  rw [hx2] at hex
  have t1 := tk_enc (v := vs.length) (by omega) (enc W ++ (enc (tlN W vs) ++ (pack (lowB W vs) ++ tlB W vs 0 0)))
  have t2 := tk_enc (v := W) (by omega) (enc (tlN W vs) ++ (pack (lowB W vs) ++ tlB W vs 0 0))
  have t3 := tk_enc (v := tlN W vs) (by omega) (pack (lowB W vs) ++ tlB W vs 0 0)
  unfold prsG
  rw [e0, t1]
  simp only [List.drop_left]
  rw [t2]
  simp only [List.drop_left]
  rw [t3]
  simp only [List.drop_left]
  have hpl : (pack (lowB W vs)).length = (vs.length * W + 7) / 8 := by rw [pack_len, lowB_len]
  rw [if_pos ⟨trivial, h128⟩, if_pos ⟨trivial, hW⟩, if_pos ⟨trivial, Nat.le_trans hex (h3 _ h128)⟩, if_pos (by rw [List.length_append, hpl]; omega), lows_pack, List.drop_left' hpl]
  have h := exG_tail (W := W) (c := vs.length) (hog vs.length) (hoh W) h128 vs [] 0 [] (Nat.le_refl _) (by simp) hok.2
  simpa using h
open Classical in
/-- The numbers of a block, if the bytes are one. -/
noncomputable def unpB (o : Option (List Nat)) (L : List UInt8) : Option (List Nat) :=
  match o with
  | some vs => if ok31 vs ∧ blkB vs (wid vs) = L then some vs else none
  | none => none
def og1 (c a g : Nat) : Bool := decide (1 ≤ g ∧ a + g ≤ c)
def oh1 (W q : Nat) : Bool := decide (1 ≤ q ∧ q ≤ 2147483647 / 2 ^ W)
def og2 (c a g : Nat) : Bool := decide (1 ≤ a + g ∧ a + g ≤ c)
def oh2 (_ q : Nat) : Bool := decide (q ≤ 2147483648)
def prs1 (L : List UInt8) : Option (List Nat) := prsG id og1 oh1 L
def prs2 (L : List UInt8) : Option (List Nat) := prsG (fun _ => 128) og2 oh2 L
theorem prs1_pack {vs : List Nat} (hok : ok31 vs) {W : Nat} (hW : W ≤ 31) : prs1 (blkB vs W) = some vs :=
  prs_pack (fun c _ => Nat.le_refl c) (fun c a g h1 h2 => decide_eq_true ⟨h1, h2⟩) (fun W q h1 h2 => decide_eq_true ⟨h1, h2⟩) hok hW
theorem prs2_pack {vs : List Nat} (hok : ok31 vs) {W : Nat} (hW : W ≤ 31) : prs2 (blkB vs W) = some vs :=
  prs_pack (fun c h => h) (fun c a g h1 h2 => decide_eq_true ⟨by omega, h2⟩) (fun W q h1 h2 => decide_eq_true (Nat.le_trans h2 (Nat.le_trans (Nat.div_le_self _ _) (by omega)))) hok hW
theorem unpB_pack {vs : List Nat} (hok : ok31 vs) : unpB (prs1 (blkB vs (wid vs))) (blkB vs (wid vs)) = some vs := by
  rw [prs1_pack hok (wid_le vs)]
  unfold unpB
  simp only
  rw [if_pos ⟨hok, rfl⟩]
theorem unpB_same (L : List UInt8) : unpB (prs1 L) L = unpB (prs2 L) L := by
  have key : ∀ (o o' : Option (List Nat)), (∀ vs, ok31 vs → blkB vs (wid vs) = L → o = some vs ∧ o' = some vs) → unpB o L = unpB o' L := by
    intro o o' h
    by_cases hx : ∃ vs, ok31 vs ∧ blkB vs (wid vs) = L
    · obtain ⟨vs, h1, h2⟩ := hx
      obtain ⟨rfl, rfl⟩ := h vs h1 h2
      rfl
    · have hn : ∀ o : Option (List Nat), unpB o L = none := by
        intro o
        unfold unpB
        cases o with
        | none => rfl
        | some vs => simp only; rw [if_neg fun h => hx ⟨vs, h⟩]
      rw [hn, hn]
  refine key _ _ fun vs h1 h2 => ?_
  subst h2
  exact ⟨prs1_pack h1 (wid_le vs), prs2_pack h1 (wid_le vs)⟩
end Go.Proofs.YteennnhinfnahaaDoor
