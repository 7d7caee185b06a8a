/-
  THE PLAIN MATHEMATICS of package feature, second part: texts of valid features are valid values; what parsing answers; the laws of sets.
-/
import Derived.Test.YtmjmidgfdjcbfaaGreatDoorPvM
import Derived.Test.YtmjmidgfdjcbfaaGreatDoorFsM
namespace Go.Proofs.YtmjmidgfdjcbfaaGreatDoor
open Go.RowKit Go.Shelf Go.Lib

/-- A byte below 128 of a text begins a unit. -/
theorem unit_low : ∀ (l : List UInt8) (p i : Nat), i < l.length → (l.getD i 0).toNat < 128 → ∃ u ∈ unitsA l p, u.p = p + i := by
  intro l p
  revert l p
  refine unitsA_ind (M := fun l p => ∀ i, i < l.length → (l.getD i 0).toNat < 128 → ∃ u ∈ unitsA l p, u.p = p + i) ?_ ?_
  · intro p i h _
    simp at h
  · intro l p hne ih i hi hc
    have hw := decodeL_width l
    have hle := decodeL_le l hne
    rw [unitsA_step l p hne]
    by_cases h0 : i = 0
    · subst h0
      exact ⟨_, List.mem_cons_self .., rfl⟩
    · have hk : (decodeL l).2 ≤ i := by
        rcases dec_shape l hne with ⟨_, e⟩ | ⟨_, _, h⟩
        · rw [e]; show 1 ≤ i; omega
        · refine Nat.le_of_not_lt fun hlt => ?_
          have := h i (by omega) hlt
          omega
      obtain ⟨u, hu, hp⟩ := ih (i - (decodeL l).2) (by rw [List.length_drop]; omega) (by
        rw [List.getD_eq_getElem?_getD, List.getElem?_drop, ← List.getD_eq_getElem?_getD, show (decodeL l).2 + (i - (decodeL l).2) = i by omega]
        exact hc)
      exact ⟨u, List.mem_cons_of_mem _ hu, by omega⟩
theorem valE_any {l : Bs} : valE l = 0 ↔ l.length ≤ 120 ∧ validL l = true ∧ l.any ctlB = false := valE_zero
/-- A bar parts a valid value into two. -/
theorem valE_bar {f r : Bs} (h : valE (f ++ 124 :: r) = 0) : valE f = 0 ∧ valE r = 0 := by
  have hlen : f.length < (f ++ 124 :: r).length := by simp
  have hlow : ((f ++ (124 : UInt8) :: r).getD f.length 0).toNat < 128 := by
    rw [List.getD_eq_getElem?_getD, List.getElem?_append_right (Nat.le_refl _), Nat.sub_self, List.getElem?_cons_zero]
    decide
  obtain ⟨u, hu, hp⟩ := unit_low _ 0 f.length hlen hlow
  obtain ⟨_, h1, h2⟩ := valE_cut h hu
  rw [Nat.zero_add] at hp
  rw [hp, List.take_left] at h1
  rw [hp, List.drop_left] at h2
  refine ⟨h1, ?_⟩
  have hlow2 : ∀ r : Bs, valE ((124 : UInt8) :: r) = 0 → valE r = 0 := by
    intro r h
    obtain ⟨a1, a2, a3⟩ := valE_zero.1 h
    refine valE_zero.2 ⟨by simp at a1; omega, ?_, ?_⟩
    · unfold validL at a2
      rw [unitsA_step _ 0 (by simp)] at a2
      have hd : decodeL ((124 : UInt8) :: r) = (124, 1) := by
        rcases dec_shape ((124 : UInt8) :: r) (by simp) with ⟨_, e⟩ | ⟨h, _⟩
        · rw [e]; rfl
        · exact absurd (show 128 ≤ (124 : UInt8).toNat from h) (by decide)
      rw [hd, List.all_cons, Bool.and_eq_true] at a2
      rw [← valid_any_at r (0 + 1)]
      exact a2.2
    · rw [List.any_cons, Bool.or_eq_false_iff] at a3
      exact a3.2
  exact hlow2 r h2
theorem valE_one : valE [124] = 0 := by
  refine valE_zero.2 ⟨by decide, ?_, by decide⟩
  unfold validL
  have hd : decodeL [(124 : UInt8)] = (124, 1) := by
    rcases dec_shape [(124 : UInt8)] (by simp) with ⟨_, e⟩ | ⟨h, _⟩
    · rw [e]; rfl
    · exact absurd h (by decide)
  rw [unitsA_step _ 0 (by simp), hd, List.all_cons, badU_mk, show [(124 : UInt8)].drop 1 = [] from rfl, unitsA_nil]
  decide
theorem valE_nil : valE [] = 0 := valE_zero.2 ⟨by decide, rfl, rfl⟩
theorem valE_text : ∀ l : Fs, (∀ f ∈ l, valE f = 0) → (textB l).length ≤ 120 → valE (textB l) = 0
  | [], _, _ => valE_nil
  | f :: l, h, hs => by
    rw [textB_cons] at hs ⊢
    have hl : f.length + (1 + (textB l).length) ≤ 120 := by simp at hs; omega
    have ih := valE_text l (fun g hg => h g (by simp [hg])) (by omega)
    have h1 : valE ((124 : UInt8) :: textB l) = 0 := by
      have := valE_join valE_one ih
      rw [if_neg (by simp; omega)] at this
      exact this
    have := valE_join (h f (by simp)) h1
    rw [if_neg (by simp; omega)] at this
    exact this
theorem valE_textL (l : Fs) (h : ∀ f ∈ l, valE f = 0) (hs : (textL l).length ≤ 120) : valE (textL l) = 0 := by
  have hl : (textL l).length = 1 + (textB l).length := by rw [textL, List.length_cons]; omega
  have := valE_join valE_one (valE_text l h (by omega))
  rw [if_neg (by simp; omega)] at this
  exact this
theorem valE_of_text : ∀ l : Fs, valE (textB l) = 0 → ∀ f ∈ l, valE f = 0
  | [], _, f, hf => by simp at hf
  | g :: l, h, f, hf => by
    rw [textB_cons] at h
    obtain ⟨h1, h2⟩ := valE_bar h
    rcases List.mem_cons.1 hf with rfl | hf
    · exact h1
    · exact valE_of_text l h2 f hf
/-- What parsing answers: the features and the error's number. -/
def parseL (s : Bs) : Fs × Nat :=
  if valE s = 0 then (match featsO s with | none => ([], 3) | some l => if asc l then (l, 0) else ([], 6)) else ([], valE s)
/-- A list of features of a set, in order. -/
def goodS (l : Fs) : Prop := asc l ∧ (∀ f ∈ l, okF f) ∧ ∀ f ∈ l, valE f = 0
theorem parseL_ok {s : Bs} (h : (parseL s).2 = 0) : goodS (parseL s).1 ∧ s = textL (parseL s).1 ∧ s.length ≤ 120 := by
  unfold parseL at h ⊢
  by_cases hv : valE s = 0
  · rw [if_pos hv] at h ⊢
    cases hf : featsO s with
    | none => rw [hf] at h; simp at h
    | some l =>
      rw [hf] at h
      simp only at h ⊢
      by_cases ha : asc l
      · rw [if_pos ha]
        obtain ⟨h1, h2⟩ := featsO_some hf
        refine ⟨⟨ha, h1, ?_⟩, h2, (valE_zero.1 hv).1⟩
        rw [h2] at hv
        exact valE_of_text l (valE_bar (f := []) hv).2
      · rw [if_neg ha] at h; simp at h
  · rw [if_neg hv] at h
    exact absurd h hv
theorem parseL_bad {s : Bs} (h : (parseL s).2 ≠ 0) : (parseL s).1 = [] := by
  unfold parseL at h ⊢
  by_cases hv : valE s = 0
  · rw [if_pos hv] at h ⊢
    cases hf : featsO s with
    | none => rfl
    | some l =>
      rw [hf] at h
      simp only at h ⊢
      by_cases ha : asc l
      · rw [if_pos ha] at h; exact absurd rfl h
      · rw [if_neg ha]
  · rw [if_neg hv]
theorem parseL_text {l : Fs} (h : goodS l) (hs : (textL l).length ≤ 120) : parseL (textL l) = (l, 0) := by
  unfold parseL
  rw [if_pos (valE_textL l h.2.2 hs), featsO_text l h.2.1]
  simp only
  rw [if_pos h.1]
theorem good_text_inj {l m : Fs} (hl : goodS l) (hm : goodS m) (h : textL l = textL m) : l = m := textL_inj hl.2.1 hm.2.1 h
theorem good_set {l : Fs} (h : ∀ f ∈ l, okF f ∧ valE f = 0) : goodS (setS l) :=
  ⟨setS_asc l, fun f hf => (h f ((setS_mem f l).1 hf)).1, fun f hf => (h f ((setS_mem f l).1 hf)).2⟩
theorem good_both {l m : Fs} (h : goodS l) : goodS (bothS l m) :=
  ⟨bothS_asc m h.1, fun f hf => h.2.1 f ((bothS_mem l m f).1 hf).1, fun f hf => h.2.2 f ((bothS_mem l m f).1 hf).1⟩
/-- The error of an element of a list. -/
def elE (f : Bs) : Nat := if valE f = 0 then (if f = [] ∨ (124 : UInt8) ∈ f then 3 else 0) else valE f
theorem elE_zero {f : Bs} : elE f = 0 ↔ okF f ∧ valE f = 0 := by
  unfold elE okF
  by_cases h : valE f = 0
  · rw [if_pos h]
    by_cases k : f = [] ∨ (124 : UInt8) ∈ f
    · rw [if_pos k]
      refine ⟨fun h => by simp at h, fun hh => ?_⟩
      rcases k with k | k
      · exact absurd k hh.1.1
      · exact absurd k hh.1.2
    · rw [if_neg k]
      exact ⟨fun _ => ⟨⟨fun e => k (.inl e), fun e => k (.inr e)⟩, h⟩, fun _ => rfl⟩
  · rw [if_neg h]
    exact ⟨fun e => absurd e h, fun e => absurd e.2 h⟩
/-- The first error of a list's elements. -/
def errS : Fs → Nat
  | [] => 0
  | f :: l => if elE f = 0 then errS l else elE f
theorem errS_zero : ∀ l : Fs, errS l = 0 ↔ ∀ f ∈ l, elE f = 0
  | [] => by simp [errS]
  | f :: l => by
    rw [errS]
    by_cases h : elE f = 0
    · rw [if_pos h, errS_zero l]; simp [h]
    · rw [if_neg h]; simp [h]
/-- The text of a list, if it has room. -/
def textT (l : Fs) : Bs × Nat := if 120 < (textL (setS l)).length then ([], 2) else (textL (setS l), 0)
def formatL (l : Fs) : Bs × Nat := if errS l = 0 then textT l else ([], errS l)
def hasL (s f : Bs) : Bool := decide ((parseL s).2 = 0) && decide (f ∈ (parseL s).1)
/-- The errors of two texts. -/
def err2 (a b : Bs) : Nat := if (parseL a).2 = 0 then (parseL b).2 else (parseL a).2
def unionL (a b : Bs) : Bs × Nat := if err2 a b = 0 then textT ((parseL a).1 ++ (parseL b).1) else ([], err2 a b)
def interL (a b : Bs) : Bs × Nat := if err2 a b = 0 then (textL (bothS (parseL a).1 (parseL b).1), 0) else ([], err2 a b)
def subL (a b : Bs) : Bool × Nat := if err2 a b = 0 then (decide (∀ f ∈ (parseL a).1, f ∈ (parseL b).1), 0) else (false, err2 a b)
theorem err2_zero {a b : Bs} : err2 a b = 0 ↔ (parseL a).2 = 0 ∧ (parseL b).2 = 0 := by
  unfold err2
  by_cases h : (parseL a).2 = 0
  · rw [if_pos h]; exact ⟨fun k => ⟨h, k⟩, fun k => k.2⟩
  · rw [if_neg h]; exact ⟨fun k => absurd k h, fun k => absurd k.1 h⟩
end Go.Proofs.YtmjmidgfdjcbfaaGreatDoor
