/-
  THE PLAIN MATHEMATICS of package feature, third part: the laws of sets.
-/
import Derived.Test.YthagjdhfngdigaaFiM
namespace Go.Proofs.Ythagjdhfngdigaa
open Go.RowKit Go.Shelf Go.Lib

theorem textT_len (l : Fs) : (textT l).1.length ≤ 120 := by
  unfold textT
  by_cases h : 120 < (textL (setS l)).length
  · rw [if_pos h]; exact Nat.zero_le _
  · rw [if_neg h]; show (textL (setS l)).length ≤ 120; omega
theorem unionL_len (a b : Bs) : (unionL a b).1.length ≤ 120 := by
  unfold unionL
  by_cases h : err2 a b = 0
  · rw [if_pos h]; exact textT_len _
  · rw [if_neg h]; exact Nat.zero_le _
theorem both_len {a b : Bs} (h : (parseL a).2 = 0) : (textL (bothS (parseL a).1 (parseL b).1)).length ≤ 120 := by
  obtain ⟨_, hs, hl⟩ := parseL_ok h
  have := bothS_size (parseL a).1 (parseL b).1
  rw [hs, textL_len] at hl
  rw [textL_len]
  omega
theorem interL_len (a b : Bs) : (interL a b).1.length ≤ 120 := by
  unfold interL
  by_cases h : err2 a b = 0
  · rw [if_pos h]
    exact both_len (err2_zero.1 h).1
  · rw [if_neg h]; exact Nat.zero_le _
theorem good_union {x y : Fs} (hx : goodS x) (hy : goodS y) : goodS (setS (x ++ y)) :=
  good_set fun f hf => (List.mem_append.1 hf).elim (fun h => ⟨hx.2.1 f h, hx.2.2 f h⟩) (fun h => ⟨hy.2.1 f h, hy.2.2 f h⟩)
/-- A union that has room. -/
theorem union_ok {a b : Bs} (h : (unionL a b).2 = 0) : (parseL a).2 = 0 ∧ (parseL b).2 = 0 ∧ (unionL a b).1 = textL (setS ((parseL a).1 ++ (parseL b).1)) ∧ parseL (unionL a b).1 = (setS ((parseL a).1 ++ (parseL b).1), 0) := by
  unfold unionL at h ⊢
  by_cases h0 : err2 a b = 0
  · rw [if_pos h0] at h ⊢
    obtain ⟨ha, hb⟩ := err2_zero.1 h0
    unfold textT at h ⊢
    by_cases hs : 120 < (textL (setS ((parseL a).1 ++ (parseL b).1))).length
    · rw [if_pos hs] at h; simp at h
    · rw [if_neg hs]
      exact ⟨ha, hb, rfl, parseL_text (good_union (parseL_ok ha).1 (parseL_ok hb).1) (by omega)⟩
  · rw [if_neg h0] at h
    exact absurd h h0
theorem inter_ok {a b : Bs} (h : (interL a b).2 = 0) : (parseL a).2 = 0 ∧ (parseL b).2 = 0 ∧ (interL a b).1 = textL (bothS (parseL a).1 (parseL b).1) ∧ parseL (interL a b).1 = (bothS (parseL a).1 (parseL b).1, 0) := by
  unfold interL at h ⊢
  by_cases h0 : err2 a b = 0
  · rw [if_pos h0]
    obtain ⟨ha, hb⟩ := err2_zero.1 h0
    exact ⟨ha, hb, rfl, parseL_text (good_both (parseL_ok ha).1) (both_len ha)⟩
  · rw [if_neg h0] at h
    exact absurd h h0
theorem hasL_ok {s : Bs} {l : Fs} (h : parseL s = (l, 0)) (f : Bs) : hasL s f = decide (f ∈ l) := by
  unfold hasL
  rw [h]
  simp
theorem hasL_zero {s : Bs} (h : (parseL s).2 = 0) (f : Bs) : hasL s f = decide (f ∈ (parseL s).1) := by
  unfold hasL
  rw [h]
  simp
theorem has_union {a b : Bs} (h : (unionL a b).2 = 0) (f : Bs) : hasL (unionL a b).1 f = (hasL a f || hasL b f) := by
  obtain ⟨ha, hb, _, hp⟩ := union_ok h
  rw [hasL_ok hp, hasL_zero ha, hasL_zero hb, Bool.eq_iff_iff, Bool.or_eq_true, decide_eq_true_iff, decide_eq_true_iff, decide_eq_true_iff, setS_mem, List.mem_append]
theorem has_inter {a b : Bs} (h : (interL a b).2 = 0) (f : Bs) : hasL (interL a b).1 f = (hasL a f && hasL b f) := by
  obtain ⟨ha, hb, _, hp⟩ := inter_ok h
  rw [hasL_ok hp, hasL_zero ha, hasL_zero hb, Bool.eq_iff_iff, Bool.and_eq_true, decide_eq_true_iff, decide_eq_true_iff, decide_eq_true_iff, bothS_mem]
/-- Inclusion, union, intersection. -/
theorem sub_inter {a b : Bs} (h : (subL a b).2 = 0) : (interL a b).2 = 0 ∧ decide ((interL a b).1 = a) = (subL a b).1 := by
  unfold subL at h ⊢
  unfold interL
  by_cases h0 : err2 a b = 0
  · rw [if_pos h0, if_pos h0]
    refine ⟨rfl, ?_⟩
    obtain ⟨ha, hb⟩ := err2_zero.1 h0
    obtain ⟨hg, hs, _⟩ := parseL_ok ha
    rw [Bool.eq_iff_iff, decide_eq_true_iff, decide_eq_true_iff]
    show textL (bothS (parseL a).1 (parseL b).1) = a ↔ _
    constructor
    · intro e f hf
      have e2 := good_text_inj (good_both hg) hg (e.trans hs)
      rw [← e2] at hf
      exact ((bothS_mem _ _ f).1 hf).2
    · intro e
      have e2 : bothS (parseL a).1 (parseL b).1 = (parseL a).1 := asc_ext (bothS_asc _ hg.1) hg.1 fun z => by
        rw [bothS_mem]
        exact ⟨fun h => h.1, fun h => ⟨h, e z h⟩⟩
      rw [e2, ← hs]
  · rw [if_neg h0] at h
    exact absurd h h0
theorem sub_union {a b : Bs} (h : (subL a b).2 = 0) : ((unionL a b).2 = 0 → decide ((unionL a b).1 = b) = (subL a b).1) ∧ ((unionL a b).2 ≠ 0 → (unionL a b).2 = 2 ∧ (subL a b).1 = false) := by
  have h0 : err2 a b = 0 := by
    unfold subL at h
    by_cases h0 : err2 a b = 0
    · exact h0
    · rw [if_neg h0] at h; exact h
  obtain ⟨ha, hb⟩ := err2_zero.1 h0
  obtain ⟨hga, hsa, _⟩ := parseL_ok ha
  obtain ⟨hgb, hsb, hlb⟩ := parseL_ok hb
  have hsub : (subL a b).1 = decide (∀ f ∈ (parseL a).1, f ∈ (parseL b).1) := by unfold subL; rw [if_pos h0]
  have hset : (∀ f ∈ (parseL a).1, f ∈ (parseL b).1) → setS ((parseL a).1 ++ (parseL b).1) = (parseL b).1 := fun e => setS_of hgb.1 fun z => by
    rw [List.mem_append]
    exact ⟨fun h => h.elim (e z) id, fun h => .inr h⟩
  have hu : unionL a b = textT ((parseL a).1 ++ (parseL b).1) := by unfold unionL; rw [if_pos h0]
  refine ⟨fun hz => ?_, fun hz => ?_⟩
  · obtain ⟨_, _, he, _⟩ := union_ok hz
    rw [he, hsub, Bool.eq_iff_iff, decide_eq_true_iff, decide_eq_true_iff]
    constructor
    · intro e f hf
      have e2 := good_text_inj (good_union hga hgb) hgb (e.trans hsb)
      rw [← e2, setS_mem]
      exact List.mem_append_left _ hf
    · intro e
      rw [hset e, ← hsb]
  · rw [hu] at hz ⊢
    unfold textT at hz ⊢
    by_cases hs : 120 < (textL (setS ((parseL a).1 ++ (parseL b).1))).length
    · rw [if_pos hs]
      refine ⟨rfl, ?_⟩
      rw [hsub, decide_eq_false_iff_not]
      intro e
      rw [hset e, ← hsb] at hs
      omega
    · rw [if_neg hs] at hz
      exact absurd rfl hz
theorem union_zero {a b : Bs} (h : err2 a b = 0) : unionL a b = textT ((parseL a).1 ++ (parseL b).1) := by unfold unionL; rw [if_pos h]
theorem inter_zero {a b : Bs} (h : err2 a b = 0) : interL a b = (textL (bothS (parseL a).1 (parseL b).1), 0) := by unfold interL; rw [if_pos h]
theorem union_assoc {a b c : Bs} (h1 : (unionL a b).2 = 0) (h2 : (unionL c b).2 = 0) : unionL (unionL a b).1 c = unionL a (unionL c b).1 := by
  obtain ⟨ha, hb, _, hp⟩ := union_ok h1
  obtain ⟨hc, _, _, hq⟩ := union_ok h2
  have e1 : err2 (unionL a b).1 c = 0 := err2_zero.2 ⟨by rw [hp], hc⟩
  have e2 : err2 a (unionL c b).1 = 0 := err2_zero.2 ⟨ha, by rw [hq]⟩
  rw [union_zero e1, union_zero e2]
  rw [hp, hq]
  unfold textT
  have : setS (setS ((parseL a).1 ++ (parseL b).1) ++ (parseL c).1) = setS ((parseL a).1 ++ setS ((parseL c).1 ++ (parseL b).1)) := setS_ext fun z => by
    simp only [List.mem_append, setS_mem]
    constructor
    · rintro ((h | h) | h)
      · exact .inl h
      · exact .inr (.inr h)
      · exact .inr (.inl h)
    · rintro (h | h | h)
      · exact .inl (.inl h)
      · exact .inr h
      · exact .inl (.inr h)
  show (if 120 < (textL (setS (setS ((parseL a).1 ++ (parseL b).1) ++ (parseL c).1))).length then _ else _) = _
  simp only [this]
theorem inter_assoc {a b c : Bs} (h1 : (interL a b).2 = 0) (h2 : (interL c b).2 = 0) : interL (interL a b).1 c = interL a (interL c b).1 := by
  obtain ⟨ha, hb, _, hp⟩ := inter_ok h1
  obtain ⟨hc, _, _, hq⟩ := inter_ok h2
  have e1 : err2 (interL a b).1 c = 0 := err2_zero.2 ⟨by rw [hp], hc⟩
  have e2 : err2 a (interL c b).1 = 0 := err2_zero.2 ⟨ha, by rw [hq]⟩
  rw [inter_zero e1, inter_zero e2]
  rw [hp, hq]
  have hga := (parseL_ok ha).1
  have : bothS (bothS (parseL a).1 (parseL b).1) (parseL c).1 = bothS (parseL a).1 (bothS (parseL c).1 (parseL b).1) := asc_ext (bothS_asc _ (bothS_asc _ hga.1)) (bothS_asc _ hga.1) fun z => by
    simp only [bothS_mem]
    exact ⟨fun h => ⟨h.1.1, h.2, h.1.2⟩, fun h => ⟨⟨h.1, h.2.2⟩, h.2.1⟩⟩
  show (textL (bothS (bothS (parseL a).1 (parseL b).1) (parseL c).1), 0) = (textL (bothS (parseL a).1 (bothS (parseL c).1 (parseL b).1)), 0)
  rw [this]
end Go.Proofs.Ythagjdhfngdigaa
