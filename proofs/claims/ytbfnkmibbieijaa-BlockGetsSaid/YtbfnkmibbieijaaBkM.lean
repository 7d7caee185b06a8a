/-
  PLAIN MATHEMATICS of package block: the encoding of a block with a width, its length, the least width.
-/
import Derived.Test.YtbfnkmibbieijaaBiN
import Derived.Laws.MathBits
namespace Go.Proofs.Ytbfnkmibbieijaa

/-- The exceptions of the first numbers: how many, the index behind the last one, their bytes. -/
structure XS where
  ex : Nat
  bf : Nat
  hi : List UInt8
def xstep (w : Nat) (s : XS) (i v : Nat) : XS := if v / 2 ^ w = 0 then s else ⟨s.ex + 1, i + 1, s.hi ++ enc (i + 1 - s.bf) ++ enc (v / 2 ^ w)⟩
def xsK (w : Nat) (vs : List Nat) : Nat → XS
  | 0 => ⟨0, 0, []⟩
  | k + 1 => xstep w (xsK w vs k) k (vs.getD k 0)
def lowB (w : Nat) (vs : List Nat) : List Bool := vs.flatMap fun v => low v w
def blkB (vs : List Nat) (w : Nat) : List UInt8 := enc vs.length ++ enc w ++ enc (xsK w vs vs.length).ex ++ pack (lowB w vs) ++ (xsK w vs vs.length).hi
/-- How many bytes a number takes. -/
def uvs (v : Nat) : Nat := (max 1 (bitLen v) + 6) / 7
/-- The bytes of the exceptions among the first numbers. -/
def cst (vs : List Nat) (w : Nat) : Nat := (blkB vs w).length
def bestK (vs : List Nat) : Nat → Nat
  | 0 => 0
  | k + 1 => if cst vs (k + 1) < cst vs (bestK vs k) then k + 1 else bestK vs k
def wid (vs : List Nat) : Nat := bestK vs 31

theorem enc_uvs (v : Nat) : (enc v).length = uvs v := by
  induction v using Nat.strongRecOn with
  | ind v ih =>
    unfold uvs
    by_cases h : v < 128
    · have hb : bitLen v ≤ 7 := by
        unfold bitLen
        by_cases h0 : v = 0
        · rw [if_pos h0]; omega
        · rw [if_neg h0]
          have := (Nat.log2_lt h0 (k := 7)).2 (by omega)
          omega
      rw [enc_lt h, List.length_singleton]
      omega
    · have h1 := ih (v / 128) (by omega)
      unfold uvs at h1
      have h2 := bitLen_shift v 7 (by omega)
      have e : v / 2 ^ 7 = v / 128 := rfl
      rw [e] at h2
      have h3 : 1 ≤ bitLen (v / 128) := by unfold bitLen; rw [if_neg (by omega)]; omega
      rw [enc_ge (by omega), List.length_cons, h1, h2]
      omega
theorem uvs_one {v : Nat} (h : v < 128) : uvs v = 1 := by rw [← enc_uvs, enc_lt h]; rfl
theorem uvs_two {v : Nat} (h : v < 16384) : uvs v ≤ 2 := by rw [← enc_uvs]; exact enc_len 1 v (by omega)
theorem uvs_five {v : Nat} (h : v < 2147483648) : uvs v ≤ 5 := by rw [← enc_uvs]; exact enc_len 4 v (by omega)
theorem uvs_pos (v : Nat) : 1 ≤ uvs v := by rw [← enc_uvs]; exact enc_pos v

theorem xstep_no {w : Nat} {s : XS} {i v : Nat} (h : v / 2 ^ w = 0) : xstep w s i v = s := by unfold xstep; rw [if_pos h]
theorem xstep_yes {w : Nat} {s : XS} {i v : Nat} (h : v / 2 ^ w ≠ 0) : xstep w s i v = ⟨s.ex + 1, i + 1, s.hi ++ enc (i + 1 - s.bf) ++ enc (v / 2 ^ w)⟩ := by unfold xstep; rw [if_neg h]
theorem xsK_at {w : Nat} {vs : List Nat} {k v : Nat} (h : vs[k]? = some v) : xsK w vs (k + 1) = xstep w (xsK w vs k) k v := by
  show xstep w (xsK w vs k) k (vs.getD k 0) = _
  rw [List.getD_eq_getElem?_getD, h]; rfl
def ok31 (vs : List Nat) : Prop := vs.length ≤ 128 ∧ ∀ v ∈ vs, v < 2147483648
theorem ok31.getD {vs : List Nat} (h : ok31 vs) (k : Nat) : vs.getD k 0 < 2147483648 := by
  rw [List.getD_eq_getElem?_getD]
  cases hk : vs[k]? with
  | none => decide
  | some v => exact h.2 v (List.mem_of_getElem? hk)
theorem xsK_le {w : Nat} {vs : List Nat} (h : ok31 vs) : ∀ k, k ≤ 128 → (xsK w vs k).ex ≤ k ∧ (xsK w vs k).bf ≤ k ∧ (xsK w vs k).hi.length ≤ 7 * k
  | 0, _ => ⟨Nat.le_refl _, Nat.le_refl _, Nat.le_refl _⟩
  | k + 1, hk => by
    obtain ⟨h1, h2, h3⟩ := xsK_le (w := w) h k (by omega)
    have hv := h.getD k
    show (xstep w (xsK w vs k) k (vs.getD k 0)).ex ≤ k + 1 ∧ (xstep w (xsK w vs k) k (vs.getD k 0)).bf ≤ k + 1 ∧ (xstep w (xsK w vs k) k (vs.getD k 0)).hi.length ≤ 7 * (k + 1)
    by_cases h0 : vs.getD k 0 / 2 ^ w = 0
    · rw [xstep_no h0]; omega
    · rw [xstep_yes h0]
      have hq : vs.getD k 0 / 2 ^ w < 2147483648 := Nat.lt_of_le_of_lt (Nat.div_le_self _ _) hv
      have e1 := uvs_two (v := k + 1 - (xsK w vs k).bf) (by omega)
      have e2 := uvs_five hq
      refine ⟨by simp only; omega, Nat.le_refl _, ?_⟩
      simp only [List.length_append, enc_uvs]
      omega
theorem lowB_len (w : Nat) : ∀ vs : List Nat, (lowB w vs).length = vs.length * w
  | [] => by simp [lowB]
  | v :: r => by
    have := lowB_len w r
    unfold lowB at this ⊢
    rw [List.flatMap_cons, List.length_append, low_len, this, List.length_cons, Nat.add_mul]
    omega
theorem lowB_step {w : Nat} {vs : List Nat} {k v : Nat} (h : vs[k]? = some v) : lowB w (vs.take (k + 1)) = lowB w (vs.take k) ++ low v w := by
  unfold lowB
  rw [List.take_add_one, h, List.flatMap_append]
  simp
theorem cst_eq (vs : List Nat) (w : Nat) : cst vs w = uvs vs.length + uvs w + uvs (xsK w vs vs.length).ex + (vs.length * w + 7) / 8 + (xsK w vs vs.length).hi.length := by
  unfold cst blkB
  simp only [List.length_append, enc_uvs, pack_len, lowB_len]
theorem cst_le {vs : List Nat} (h : ok31 vs) {w : Nat} (hw : w ≤ 31) : cst vs w ≤ 1410 := by
  rw [cst_eq]
  have h1 := uvs_two (v := vs.length) (by have := h.1; omega)
  have h2 := uvs_two (v := w) (by omega)
  obtain ⟨h3, _, h4⟩ := xsK_le (w := w) h vs.length h.1
  have h5 := uvs_two (v := (xsK w vs vs.length).ex) (by have := h.1; omega)
  have h6 : vs.length * w ≤ 128 * 31 := Nat.mul_le_mul h.1 hw
  have := h.1
  omega
theorem bestK_le (vs : List Nat) : ∀ k, bestK vs k ≤ k
  | 0 => Nat.le_refl _
  | k + 1 => by
    have := bestK_le vs k
    unfold bestK
    split <;> omega
theorem bestK_min (vs : List Nat) : ∀ k j, j ≤ k → cst vs (bestK vs k) ≤ cst vs j ∧ (cst vs j = cst vs (bestK vs k) → bestK vs k ≤ j)
  | 0, j, h => by
    obtain rfl : j = 0 := by omega
    exact ⟨Nat.le_refl _, fun _ => Nat.le_refl _⟩
  | k + 1, j, h => by
    have hl := bestK_le vs k
    have ih := bestK_min vs k
    unfold bestK
    rcases Nat.lt_or_ge k j with hj | hj
    · obtain rfl : j = k + 1 := by omega
      split
      · exact ⟨Nat.le_refl _, fun _ => Nat.le_refl _⟩
      · exact ⟨by omega, fun _ => by omega⟩
    · obtain ⟨h1, h2⟩ := ih j hj
      split
      · exact ⟨by omega, fun e => by omega⟩
      · exact ⟨h1, h2⟩
theorem wid_le (vs : List Nat) : wid vs ≤ 31 := bestK_le vs 31

theorem wid_of {vs : List Nat} {m : Nat} (hm : m ≤ 31) (h : ∀ j, j < 32 → cst vs m ≤ cst vs j ∧ (j < m → cst vs m < cst vs j)) : wid vs = m := by
  have h1 := bestK_min vs 31 m hm
  have h2 := h (wid vs) (by have := wid_le vs; omega)
  have h3 : bestK vs 31 = wid vs := rfl
  rw [h3] at h1
  rcases Nat.lt_trichotomy (wid vs) m with h4 | h4 | h4
  · have := h2.2 h4
    omega
  · exact h4
  · have := h1.2 (by omega)
    omega
/-- The same counts in numbers alone. -/
def xsN (w : Nat) (vs : List Nat) : Nat → Nat × Nat × Nat
  | 0 => (0, 0, 0)
  | k + 1 => if vs.getD k 0 / 2 ^ w = 0 then xsN w vs k else ((xsN w vs k).1 + 1, k + 1, (xsN w vs k).2.2 + (uvs (k + 1 - (xsN w vs k).2.1) + uvs (vs.getD k 0 / 2 ^ w)))
theorem xsN_eq (w : Nat) (vs : List Nat) : ∀ k, xsN w vs k = ((xsK w vs k).ex, (xsK w vs k).bf, (xsK w vs k).hi.length)
  | 0 => rfl
  | k + 1 => by
    have e : xsK w vs (k + 1) = xstep w (xsK w vs k) k (vs.getD k 0) := rfl
    rw [e, xsN, xsN_eq w vs k]
    by_cases h0 : vs.getD k 0 / 2 ^ w = 0
    · rw [if_pos h0, xstep_no h0]
    · rw [if_neg h0, xstep_yes h0]
      simp only [List.length_append, enc_uvs, Nat.add_assoc]
def cstN (vs : List Nat) (w : Nat) : Nat := uvs vs.length + uvs w + uvs (xsN w vs vs.length).1 + (vs.length * w + 7) / 8 + (xsN w vs vs.length).2.2
theorem cst_cstN (vs : List Nat) (w : Nat) : cst vs w = cstN vs w := by rw [cst_eq, cstN, xsN_eq]

/-! Bounds -/
theorem xsK_none {w : Nat} {vs : List Nat} (h : ∀ v ∈ vs, v / 2 ^ w = 0) : ∀ k, xsK w vs k = ⟨0, 0, []⟩
  | 0 => rfl
  | k + 1 => by
    show xstep w (xsK w vs k) k (vs.getD k 0) = _
    rw [xsK_none h k, xstep_no]
    rw [List.getD_eq_getElem?_getD]
    cases hk : vs[k]? with
    | none => simp
    | some v => exact h v (List.mem_of_getElem? hk)
def bndN (n w : Nat) : Nat := 3 + (n * w + 7) / 8 + (if n = 128 then 1 else 0)
theorem uvs_count {n : Nat} (h : n ≤ 128) : uvs n = 1 + (if n = 128 then 1 else 0) := by
  by_cases h1 : n = 128
  · subst h1; decide
  · rw [if_neg h1, uvs_one (by omega)]
theorem bound_low {vs : List Nat} (h : ok31 vs) {w : Nat} (hw : w ≤ 31) (hl : ∀ v ∈ vs, v / 2 ^ w = 0) : cst vs (wid vs) ≤ bndN vs.length w := by
  refine Nat.le_trans (bestK_min vs 31 w hw).1 ?_
  rw [cst_eq, xsK_none hl, uvs_count h.1, uvs_one (v := w) (by omega)]
  have : uvs 0 = 1 := by decide
  simp only [List.length_nil, this]
  unfold bndN
  omega
theorem set_getD (vs : List Nat) (p g k : Nat) : (vs.set p g).getD k 0 = if p = k ∧ p < vs.length then g else vs.getD k 0 := by
  rw [List.getD_eq_getElem?_getD, List.getD_eq_getElem?_getD, List.getElem?_set]
  by_cases h : p = k
  · subst h
    by_cases h2 : p < vs.length
    · simp [h2]
    · simp [h2]
  · simp [h]
theorem xsK_single {w : Nat} {vs : List Nat} (h : ∀ v ∈ vs, v / 2 ^ w = 0) (p g : Nat) (hp : p < 128) (hg : g < 2147483648) : ∀ k, ((k ≤ p → xsK w (vs.set p g) k = ⟨0, 0, []⟩) ∧ (xsK w (vs.set p g) k).ex ≤ 1 ∧ (xsK w (vs.set p g) k).hi.length ≤ 7)
  | 0 => ⟨fun _ => rfl, by show 0 ≤ 1; omega, by show 0 ≤ 7; omega⟩
  | k + 1 => by
    obtain ⟨h1, h2, h3⟩ := xsK_single h p g hp hg k
    have hv : ∀ j, vs.getD j 0 / 2 ^ w = 0 := fun j => by
      rw [List.getD_eq_getElem?_getD]
      cases hk : vs[j]? with
      | none => simp
      | some v => exact h v (List.mem_of_getElem? hk)
    have e : xsK w (vs.set p g) (k + 1) = xstep w (xsK w (vs.set p g) k) k ((vs.set p g).getD k 0) := rfl
    rw [e, set_getD]
    by_cases hk : p = k ∧ p < vs.length
    · obtain ⟨rfl, _⟩ := hk
      rw [if_pos ⟨rfl, by assumption⟩, h1 (Nat.le_refl _)]
      by_cases h0 : g / 2 ^ w = 0
      · rw [xstep_no h0]
        exact ⟨fun h => by omega, by show 0 ≤ 1; omega, by show 0 ≤ 7; omega⟩
      · rw [xstep_yes h0]
        have e1 := uvs_two (v := p + 1 - 0) (by omega)
        have e2 := uvs_five (v := g / 2 ^ w) (Nat.lt_of_le_of_lt (Nat.div_le_self _ _) hg)
        refine ⟨fun h => by omega, Nat.le_refl _, ?_⟩
        simp only [List.length_append, enc_uvs, List.length_nil]
        omega
    · rw [if_neg hk, xstep_no (hv k)]
      exact ⟨fun h => h1 (by omega), h2, h3⟩
theorem ok31.set {vs : List Nat} (h : ok31 vs) {p g : Nat} (hg : g < 2147483648) : ok31 (vs.set p g) :=
  ⟨by rw [List.length_set]; exact h.1, fun v hv => by
    rcases List.mem_or_eq_of_mem_set hv with h1 | h1
    · exact h.2 v h1
    · rw [h1]; exact hg⟩
theorem bound_one {vs : List Nat} (h : ok31 vs) {w : Nat} (hw : w ≤ 31) (hl : ∀ v ∈ vs, v / 2 ^ w = 0) {p g : Nat} (hp : p < vs.length) (hg : g < 2147483648) : cst (vs.set p g) (wid (vs.set p g)) ≤ bndN vs.length w + 7 := by
  refine Nat.le_trans (bestK_min _ 31 w hw).1 ?_
  have h128 := h.1
  obtain ⟨_, h1, h2⟩ := xsK_single hl p g (by omega) hg (vs.set p g).length
  rw [cst_eq, List.length_set] at *
  rw [uvs_count h.1, uvs_one (v := w) (by omega)]
  have h3 := uvs_one (v := (xsK w (vs.set p g) vs.length).ex) (by omega)
  rw [h3]
  unfold bndN
  omega
end Go.Proofs.Ytbfnkmibbieijaa
