/-
  THE PLAIN MATHEMATICS of package corpus, third part: texts one behind the other; the regions that contain a place.
-/
import Derived.Test.YtmjmidgfdjcbfaaGreatDoorQoM
namespace Go.Proofs.YtmjmidgfdjcbfaaGreatDoor
open Go.Lib

theorem findZ_spec {α : Type} (p : α → Bool) (l : List α) : (findZ p l = -1 ∧ ∀ x ∈ l, p x = false) ∨ ∃ (i : Nat) (x : α), l[i]? = some x ∧ p x = true ∧ (∀ (j : Nat) (y : α), j < i → l[j]? = some y → p y = false) ∧ findZ p l = (i : Int) := by
  unfold findZ
  cases h : l.findIdx? p with
  | none => exact .inl ⟨rfl, fun x hx => by simpa using List.findIdx?_eq_none_iff.1 h x hx⟩
  | some i =>
    obtain ⟨hi, hp, hj⟩ := List.findIdx?_eq_some_iff_getElem.1 h
    refine .inr ⟨i, l[i], List.getElem?_eq_getElem hi, hp, fun j y hji hy => ?_, rfl⟩
    obtain ⟨hjl, rfl⟩ := List.getElem?_eq_some_iff.1 hy
    simpa using hj j hji
theorem findZ_at {α : Type} {p : α → Bool} {l : List α} {i : Nat} {x : α} (h : l[i]? = some x) (hp : p x = true) (hj : ∀ (j : Nat) (y : α), j < i → l[j]? = some y → p y = false) : findZ p l = (i : Int) := by
  rcases findZ_spec p l with ⟨_, h1⟩ | ⟨k, y, hk, hy, h2, h3⟩
  · rw [h1 x (List.mem_of_getElem? h)] at hp; cases hp
  · rcases Nat.lt_trichotomy k i with e | e | e
    · rw [hj k y e hk] at hy; cases hy
    · rw [h3, e]
    · rw [h2 i x e h] at hp; cases hp
theorem findZ_range {α : Type} (p : α → Bool) (l : List α) : -1 ≤ findZ p l ∧ findZ p l < l.length := by
  rcases findZ_spec p l with ⟨h, _⟩ | ⟨k, y, hk, _, _, h3⟩
  · rw [h]; omega
  · have := (List.getElem?_eq_some_iff.1 hk).1
    rw [h3]; omega
theorem findZ_cons {α : Type} (p : α → Bool) (x : α) (l : List α) : findZ p (x :: l) = if p x then 0 else if findZ p l = -1 then -1 else findZ p l + 1 := by
  unfold findZ
  rw [List.findIdx?_cons]
  by_cases h : p x = true
  · rw [if_pos h, if_pos h]; rfl
  · rw [if_neg h, if_neg h]
    cases l.findIdx? p with
    | none => rfl
    | some i =>
      have : ¬ ((i : Int) = -1) := by omega
      simp only [Option.map_some, if_neg this]
      omega
/-- What is known of text i. -/
theorem text_facts {c : Cor} (h2 : ∀ i, i < c.texts.length → textE c i = 0) {i : Nat} {t : Ex} (hi : c.texts[i]? = some t) :
    nameB t.name = true ∧ (∀ y ∈ c.texts.take i, y.name ≠ t.name) ∧ t.b = endB c i ∧ t.b < t.e ∧ t.e ≤ c.toks.length ∧ (i + 1 = c.texts.length → t.e = c.toks.length) ∧ pairsE t.ps = 0 := by
  have hl := (List.getElem?_eq_some_iff.1 hi).1
  have h := h2 i hl
  unfold textE at h
  rw [hi] at h
  simp only at h
  by_cases h1 : nameB t.name = false
  · rw [if_pos h1] at h; cases h
  rw [if_neg h1] at h
  by_cases h3 : (c.texts.take i).any (fun y => decide (y.name = t.name)) = true
  · rw [if_pos h3] at h; cases h
  rw [if_neg h3] at h
  by_cases h4 : t.b ≠ endB c i ∨ t.e ≤ t.b ∨ (c.toks.length : Int) < t.e
  · rw [if_pos h4] at h; cases h
  rw [if_neg h4] at h
  by_cases h5 : i + 1 = c.texts.length ∧ t.e ≠ (c.toks.length : Int)
  · rw [if_pos h5] at h; cases h
  rw [if_neg h5] at h
  refine ⟨by simpa using h1, fun y hy e => h3 (List.any_eq_true.2 ⟨y, hy, by simp [e]⟩), ?_, ?_, ?_, ?_, h⟩
  · by_cases e : t.b = endB c i
    · exact e
    · exact absurd (.inl e) h4
  · by_cases e : t.e ≤ t.b
    · exact absurd (.inr (.inl e)) h4
    · omega
  · by_cases e : (c.toks.length : Int) < t.e
    · exact absurd (.inr (.inr e)) h4
    · omega
  · intro hl2
    by_cases e : t.e = (c.toks.length : Int)
    · exact e
    · exact absurd ⟨hl2, e⟩ h5
theorem endB_succ {c : Cor} {i : Nat} {t : Ex} (h : c.texts[i]? = some t) : endB c (i + 1) = t.e := by
  unfold endB
  rw [if_neg (by omega), Nat.add_sub_cancel, h]
theorem ends_le {c : Cor} (h2 : ∀ i, i < c.texts.length → textE c i = 0) : ∀ (j i : Nat) (t u : Ex), i < j → c.texts[i]? = some t → c.texts[j]? = some u → t.e ≤ u.b
  | 0, i, t, u, h, _, _ => by omega
  | j + 1, i, t, u, h, hi, hj => by
    have hl := (List.getElem?_eq_some_iff.1 hj).1
    obtain ⟨v, hv⟩ : ∃ v, c.texts[j]? = some v := ⟨_, List.getElem?_eq_getElem (by omega)⟩
    have hu := (text_facts h2 hj).2.2.1
    rw [endB_succ hv] at hu
    by_cases e : i = j
    · subst e
      rw [hi] at hv
      cases hv
      omega
    · have h3 := ends_le h2 j i t v (by omega) hi hv
      have h4 := (text_facts h2 hv).2.2.2.1
      omega
theorem begin_pos {c : Cor} (h2 : ∀ i, i < c.texts.length → textE c i = 0) {i : Nat} {t : Ex} (hi : c.texts[i]? = some t) : 0 ≤ t.b := by
  have h := (text_facts h2 hi).2.2.1
  cases i with
  | zero => rw [h]; simp [endB]
  | succ i =>
    have hl := (List.getElem?_eq_some_iff.1 hi).1
    obtain ⟨v, hv⟩ : ∃ v, c.texts[i]? = some v := ⟨_, List.getElem?_eq_getElem (by omega)⟩
    rw [endB_succ hv] at h
    have := begin_pos h2 hv
    have := (text_facts h2 hv).2.2.2.1
    omega
theorem textAt_of {c : Cor} (h2 : ∀ i, i < c.texts.length → textE c i = 0) {i : Nat} {t : Ex} {pos : Int} (hi : c.texts[i]? = some t) (h3 : t.b ≤ pos) (h4 : pos < t.e) : textAt c pos = (i : Int) := by
  unfold textAt
  refine findZ_at hi (by simp [h3, h4]) fun j y hj hy => ?_
  have := ends_le h2 i j y t hj hy hi
  simp
  omega
theorem textAt_spec (c : Cor) (pos : Int) : textAt c pos = -1 ∨ ∃ (i : Nat) (t : Ex), c.texts[i]? = some t ∧ t.b ≤ pos ∧ pos < t.e ∧ textAt c pos = (i : Int) := by
  rcases findZ_spec (fun t : Ex => decide (t.b ≤ pos) && decide (pos < t.e)) c.texts with ⟨h, _⟩ | ⟨i, t, h1, h2, _, h3⟩
  · exact .inl h
  · simp only [Bool.and_eq_true, decide_eq_true_eq] at h2
    exact .inr ⟨i, t, h1, h2.1, h2.2, h3⟩
/-- Every token lies in a text. -/
theorem textAt_tok {c : Cor} (h1 : textsE c = 0) (h2 : ∀ i, i < c.texts.length → textE c i = 0) : ∀ pos : Int, (0 ≤ pos ∧ pos < c.toks.length) ↔ 0 ≤ textAt c pos := by
  intro pos
  constructor
  · rintro ⟨h3, h4⟩
    have hne : 0 < c.texts.length := by
      unfold textsE at h1
      by_cases h5 : 64 < c.texts.length
      · omega
      rw [if_neg h5] at h1
      by_cases h6 : decide (c.texts.length = 0) ≠ decide (c.toks.length = 0)
      · rw [if_pos h6] at h1; cases h1
      · by_cases h7 : c.texts.length = 0
        · have : ¬ c.toks.length = 0 := by omega
          simp [h7, this] at h6
        · omega
    have key : ∀ k, k < c.texts.length → (∃ t, c.texts[k]? = some t ∧ pos < t.e) → 0 ≤ textAt c pos := by
      intro k
      induction k with
      | zero =>
        rintro hk ⟨t, ht, hp⟩
        have := (text_facts h2 ht).2.2.1
        rw [textAt_of h2 ht (by rw [this]; simp [endB]; omega) hp]
        omega
      | succ k ih =>
        rintro hk ⟨t, ht, hp⟩
        obtain ⟨v, hv⟩ : ∃ v, c.texts[k]? = some v := ⟨_, List.getElem?_eq_getElem (by omega)⟩
        have h5 := (text_facts h2 ht).2.2.1
        rw [endB_succ hv] at h5
        by_cases h6 : pos < v.e
        · exact ih (by omega) ⟨v, hv, h6⟩
        · rw [textAt_of h2 ht (by omega) hp]
          omega
    obtain ⟨t, ht⟩ : ∃ t, c.texts[c.texts.length - 1]? = some t := ⟨_, List.getElem?_eq_getElem (by omega)⟩
    exact key (c.texts.length - 1) (by omega) ⟨t, ht, by rw [(text_facts h2 ht).2.2.2.2.2.1 (by omega)]; exact h4⟩
  · intro h
    rcases textAt_spec c pos with h3 | ⟨i, t, ht, h4, h5, _⟩
    · omega
    · have := begin_pos h2 ht
      have := (text_facts h2 ht).2.2.2.2.1
      exact ⟨by omega, by omega⟩
theorem within_eq {c : Cor} (h2 : ∀ i, i < c.texts.length → textE c i = 0) (b e : Int) :
    within c b e = (decide (b < e) && (decide (0 ≤ textAt c b) && (match c.texts[(textAt c b).toNat]? with | none => false | some t => decide (e ≤ t.e)))) := by
  unfold within
  rw [Bool.eq_iff_iff]
  simp only [List.any_eq_true, Bool.and_eq_true, decide_eq_true_eq]
  constructor
  · rintro ⟨t, ht, ⟨h3, h4⟩, h5⟩
    obtain ⟨i, hi, rfl⟩ := List.getElem_of_mem ht
    have hx := List.getElem?_eq_getElem hi
    have h6 := textAt_of h2 hx h3 (by omega)
    rw [h6]
    refine ⟨h4, by omega, ?_⟩
    simp only [Int.toNat_natCast, hx, decide_eq_true_eq]
    exact h5
  · rintro ⟨h3, h4, h5⟩
    rcases textAt_spec c b with h6 | ⟨i, t, ht, h7, h8, h9⟩
    · omega
    · rw [h9] at h5
      simp only [Int.toNat_natCast, ht, decide_eq_true_eq] at h5
      exact ⟨t, List.mem_of_getElem? ht, ⟨h7, h3⟩, h5⟩

/-- The regions that are open behind the begin of the last one. -/
def openR (o : List Ex) (x : Ex) : List Ex := o.filter (fun y => decide (x.b < y.e)) ++ [x]
def openAll (l : List Ex) : List Ex := l.foldl openR []
theorem openAll_snoc (l : List Ex) (x : Ex) : openAll (l ++ [x]) = openR (openAll l) x := by simp [openAll]
theorem open_eq : ∀ (n : Nat) (l : List Ex) (x : Ex), l.length = n → (l ++ [x]).Pairwise (fun a b => a.b ≤ b.b) → (∀ y ∈ l ++ [x], y.b < y.e) → openAll (l ++ [x]) = (l ++ [x]).filter (fun y => decide (x.b < y.e))
  | 0, l, x, hn, _, hp => by
    have : l = [] := List.length_eq_zero_iff.1 hn
    subst this
    have := hp x (by simp)
    simp [openAll, openR, this]
  | n + 1, l, x, hn, hs, hp => by
    obtain ⟨m, z, rfl⟩ : ∃ m z, l = m ++ [z] := by
      refine ⟨l.dropLast, l.getLast (fun e => by rw [e] at hn; cases hn), (List.dropLast_concat_getLast _).symm⟩
    have ih := open_eq n m z (by simp at hn; omega) (List.pairwise_append.1 hs).1 (fun y hy => hp y (List.mem_append_left _ hy))
    rw [openAll_snoc, openR, ih, List.filter_filter, List.filter_append (l₁ := m ++ [z]) (l₂ := [x])]
    have hx := hp x (by simp)
    have hzx : z.b ≤ x.b := (List.pairwise_append.1 hs).2.2 z (by simp) x (by simp)
    congr 1
    · refine List.filter_congr fun y hy => ?_
      by_cases h : x.b < y.e
      · simp [h]; omega
      · simp [h]
    · simp [hx]
/-- What is known of the regions in front of one. -/
theorem reg_facts {c : Cor} {i : Nat} {x : Ex} (hi : c.regs[i]? = some x) (h : regE c i = 0) :
    nameB x.name = true ∧ within c x.b x.e = true ∧ pairsE x.ps = 0 ∧ badOrder c.regs i x = false ∧ (c.regs.take i).any (crosses x) = false ∧ ((c.regs.take (i + 1)).filter (holds x)).length ≤ 40 := by
  unfold regE at h
  rw [hi] at h
  simp only at h
  by_cases h1 : nameB x.name = false
  · rw [if_pos h1] at h; cases h
  rw [if_neg h1] at h
  by_cases h2 : within c x.b x.e = false
  · rw [if_pos h2] at h; cases h
  rw [if_neg h2] at h
  by_cases h3 : pairsE x.ps ≠ 0
  · rw [if_pos h3] at h; exact absurd h h3
  rw [if_neg h3] at h
  by_cases h4 : badOrder c.regs i x = true
  · rw [if_pos h4] at h; cases h
  rw [if_neg h4] at h
  by_cases h5 : (c.regs.take i).any (crosses x) = true
  · rw [if_pos h5] at h; cases h
  rw [if_neg h5] at h
  by_cases h6 : 40 < ((c.regs.take (i + 1)).filter (holds x)).length
  · rw [if_pos h6] at h; cases h
  exact ⟨by simpa using h1, by simpa using h2, by omega, by simpa using h4, by simpa using h5, by omega⟩
theorem within_pos {c : Cor} {b e : Int} (h : within c b e = true) : b < e := by
  unfold within at h
  obtain ⟨t, _, h⟩ := List.any_eq_true.1 h
  simp only [Bool.and_eq_true, decide_eq_true_eq] at h
  exact h.1.2
/-- The regions up to one whose order is right are in order. -/
theorem sorted_upto {l : List Ex} : ∀ i, i ≤ l.length → (∀ j y, j < i → l[j]? = some y → badOrder l j y = false) → (l.take i).Pairwise (fun a b => cmpR a b ≤ 0)
  | 0, _, _ => by simp
  | i + 1, hi, h => by
    have ih := sorted_upto i (by omega) (fun j y hj hy => h j y (by omega) hy)
    obtain ⟨x, hx⟩ : ∃ x, l[i]? = some x := ⟨_, List.getElem?_eq_getElem (by omega)⟩
    rw [List.take_add_one, hx]
    refine List.pairwise_append.2 ⟨ih, by simp, fun a ha b hb => ?_⟩
    simp at hb
    subst hb
    have hx2 := h i b (by omega) hx
    obtain ⟨j, hj, rfl⟩ := List.getElem_of_mem ha
    have hjl : j < i := by rw [List.length_take] at hj; omega
    rw [List.getElem_take]
    obtain ⟨z, hz⟩ : ∃ z, l[i - 1]? = some z := ⟨_, List.getElem?_eq_getElem (by omega)⟩
    have hzx : cmpR z b ≤ 0 := by
      unfold badOrder at hx2
      rw [hz] at hx2
      have : i ≠ 0 := by omega
      simp [this] at hx2
      omega
    by_cases e : j = i - 1
    · subst e
      obtain ⟨_, rfl⟩ := List.getElem?_eq_some_iff.1 hz
      exact hzx
    · refine ord_reg.le _ _ _ ?_ hzx
      have hp := List.pairwise_iff_getElem.1 ih j (i - 1) hj (by rw [List.length_take]; omega) (by omega)
      rw [List.getElem_take, List.getElem_take] at hp
      obtain ⟨_, rfl⟩ := List.getElem?_eq_some_iff.1 hz
      exact hp
/-- The two last tests of a region, by the open ones. -/
theorem reg_open {c : Cor} {i : Nat} {x : Ex} (hi : c.regs[i]? = some x) (hp : ∀ j, j < i → regE c j = 0) (hx : x.b < x.e) (ho : badOrder c.regs i x = false) :
    (openAll (c.regs.take (i + 1))).length = ((c.regs.take (i + 1)).filter (holds x)).length ∧
    (openAll (c.regs.take (i + 1))).any (fun o => decide (o.name = x.name) && decide (o.e < x.e)) = (c.regs.take i).any (crosses x) := by
  have hl := (List.getElem?_eq_some_iff.1 hi).1
  have hsort := sorted_upto (i + 1) hl (fun j y hj hy => by
    by_cases e : j = i
    · subst e
      rw [hi] at hy
      cases hy
      exact ho
    · exact (reg_facts hy (hp j (by omega))).2.2.2.1)
  have htk : c.regs.take (i + 1) = c.regs.take i ++ [x] := by rw [List.take_add_one, hi]; rfl
  rw [htk] at hsort ⊢
  have hpos : ∀ y ∈ c.regs.take i ++ [x], y.b < y.e := by
    intro y hy
    rcases List.mem_append.1 hy with hy | hy
    · obtain ⟨j, hj, rfl⟩ := List.getElem_of_mem hy
      have hjl : j < i := by rw [List.length_take] at hj; omega
      rw [List.getElem_take]
      exact within_pos (reg_facts (List.getElem?_eq_getElem (by omega)) (hp j hjl)).2.1
    · simp at hy
      subst hy
      exact hx
  have hb : (c.regs.take i ++ [x]).Pairwise (fun a b => a.b ≤ b.b) := hsort.imp (fun h => cmpR_b h)
  have hle : ∀ y ∈ c.regs.take i, cmpR y x ≤ 0 := fun y hy => (List.pairwise_append.1 hsort).2.2 y hy x (by simp)
  rw [open_eq _ _ _ rfl hb hpos]
  constructor
  · congr 1
    refine List.filter_congr fun y hy => ?_
    unfold holds
    rcases List.mem_append.1 hy with hy | hy
    · have := cmpR_b (hle y hy)
      simp [this]
    · simp at hy
      subst hy
      simp
  · rw [Bool.eq_iff_iff]
    simp only [List.any_eq_true, List.mem_filter, Bool.and_eq_true, decide_eq_true_eq]
    constructor
    · rintro ⟨y, ⟨hy, h1⟩, h2, h3⟩
      rcases List.mem_append.1 hy with hy | hy
      · refine ⟨y, hy, ?_⟩
        have h4 := cmpR_b (hle y hy)
        have h5 : x.b = y.b → x.e ≤ y.e := fun e => cmpR_e (hle y hy) e.symm
        unfold crosses
        simp
        refine ⟨⟨⟨⟨h2, by omega⟩, h1⟩, by omega⟩, ?_⟩
        by_cases e : x.b = y.b
        · have := h5 e
          omega
        · omega
      · simp at hy
        subst hy
        omega
    · rintro ⟨y, hy, h⟩
      unfold crosses at h
      simp at h
      have h4 := cmpR_b (hle y hy)
      refine ⟨y, ⟨List.mem_append_left _ hy, h.1.1.2⟩, h.1.1.1.1, ?_⟩
      have := h.1.2
      omega
end Go.Proofs.YtmjmidgfdjcbfaaGreatDoor
