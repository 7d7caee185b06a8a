/-
  THE PLAIN MATHEMATICS of package feature, of no program: what stands between the bars; texts of sets; ascending order; sorted insertion; union and intersection.
-/
import Derived.Test.YtmjmidgfdjcbfaaGreatDoorMkM
import Derived.Lib.Strings
namespace Go.Proofs.YtmjmidgfdjcbfaaGreatDoor
open Go.Lib

abbrev Fs := List (List UInt8)
/-- What stands between the bars, behind the first one. -/
def goF : Bs → Bs → Option Fs
  | cur, [] => if cur = [] then some [] else none
  | cur, b :: r => if b = 124 then (if cur = [] then none else (goF [] r).map (cur :: ·)) else goF (cur ++ [b]) r
def featsO : Bs → Option Fs
  | [] => none
  | b :: r => if b = 124 then goF [] r else none
def textB (l : Fs) : Bs := l.flatMap (· ++ [124])
def textL (l : Fs) : Bs := 124 :: textB l
def okF (f : Bs) : Prop := f ≠ [] ∧ (124 : UInt8) ∉ f
theorem textB_cons (f : Bs) (l : Fs) : textB (f :: l) = f ++ 124 :: textB l := by simp [textB]
theorem textB_app (l m : Fs) : textB (l ++ m) = textB l ++ textB m := by simp [textB]
theorem textB_len : ∀ l : Fs, (textB l).length = (l.map fun f => f.length + 1).sum
  | [] => rfl
  | f :: l => by rw [textB_cons]; simp [textB_len l]; omega
theorem goF_run : ∀ (f cur r : Bs), (124 : UInt8) ∉ f → goF cur (f ++ r) = goF (cur ++ f) r
  | [], cur, r, _ => by simp
  | b :: f, cur, r, h => by
    have hb : b ≠ 124 := fun e => h (by simp [e])
    have hf : (124 : UInt8) ∉ f := fun e => h (by simp [e])
    rw [List.cons_append, goF, if_neg hb, goF_run f _ r hf, List.append_assoc]
    rfl
theorem goF_cut (f r : Bs) (h : (124 : UInt8) ∉ f) : goF [] (f ++ 124 :: r) = if f = [] then none else (goF [] r).map (f :: ·) := by
  rw [goF_run f [] _ h, List.nil_append, goF, if_pos rfl]
theorem goF_open (f : Bs) (h : (124 : UInt8) ∉ f) (hne : f ≠ []) : goF [] f = none := by
  have := goF_run f [] [] h
  rw [List.append_nil, List.nil_append] at this
  rw [this, goF, if_neg hne]
theorem goF_text : ∀ l : Fs, (∀ f ∈ l, okF f) → goF [] (textB l) = some l
  | [], _ => by simp [textB, goF]
  | f :: l, h => by
    have hf := h f (by simp)
    rw [textB_cons, goF_cut f _ hf.2, if_neg hf.1, goF_text l (fun g hg => h g (by simp [hg]))]
    rfl
theorem goF_back : ∀ (r cur : Bs) (l : Fs), goF cur r = some l → (124 : UInt8) ∉ cur → (∀ f ∈ l, okF f) ∧ cur ++ r = textB l
  | [], cur, l, h, _ => by
    rw [goF] at h
    split at h
    · cases h; subst_vars; exact ⟨by simp, rfl⟩
    · cases h
  | b :: r, cur, l, h, hc => by
    rw [goF] at h
    by_cases hb : b = 124
    · rw [if_pos hb] at h
      by_cases h0 : cur = []
      · rw [if_pos h0] at h; cases h
      · rw [if_neg h0] at h
        cases hm : goF [] r with
        | none => rw [hm] at h; cases h
        | some m =>
          rw [hm] at h
          injection h with h
          subst h
          obtain ⟨h1, h2⟩ := goF_back r [] m hm (by simp)
          refine ⟨fun f hf => ?_, ?_⟩
          · rcases List.mem_cons.1 hf with rfl | hf
            · exact ⟨h0, hc⟩
            · exact h1 f hf
          · rw [textB_cons, ← h2, hb, List.nil_append]
    · rw [if_neg hb] at h
      obtain ⟨h1, h2⟩ := goF_back r (cur ++ [b]) l h (by simp [hc, Ne.symm hb])
      exact ⟨h1, by rw [← h2]; simp⟩
theorem featsO_text (l : Fs) (h : ∀ f ∈ l, okF f) : featsO (textL l) = some l := by rw [textL, featsO, if_pos rfl, goF_text l h]
theorem featsO_some {s : Bs} {l : Fs} (h : featsO s = some l) : (∀ f ∈ l, okF f) ∧ s = textL l := by
  cases s with
  | nil => cases h
  | cons b r =>
    rw [featsO] at h
    by_cases hb : b = 124
    · rw [if_pos hb] at h
      obtain ⟨h1, h2⟩ := goF_back r [] l h (by simp)
      exact ⟨h1, by rw [textL, ← h2, hb]; rfl⟩
    · rw [if_neg hb] at h; cases h
theorem textL_inj {l m : Fs} (hl : ∀ f ∈ l, okF f) (hm : ∀ f ∈ m, okF f) (h : textL l = textL m) : l = m := by
  have := featsO_text l hl
  rw [h, featsO_text m hm] at this
  exact (Option.some.inj this).symm
/-- The features, in strictly ascending order. -/
def asc (l : Fs) : Prop := l.Pairwise (· < ·)
instance (l : Fs) : Decidable (asc l) := by unfold asc; infer_instance
theorem lt_asymm' {a b : Bs} (h : a < b) : ¬ b < a := List.lt_asymm h
theorem lt_tri (a b : Bs) : a < b ∨ a = b ∨ b < a := by
  by_cases h : a < b
  · exact .inl h
  · by_cases k : b < a
    · exact .inr (.inr k)
    · exact .inr (.inl (List.le_antisymm (List.not_lt.1 k) (List.not_lt.1 h)))
theorem asc_iff {l : Fs} : asc l ↔ ∀ (j : Nat) (a b : Bs), l[j]? = some a → l[j + 1]? = some b → a < b := by
  unfold asc
  rw [List.pairwise_iff_getElem]
  refine ⟨fun h j a b ha hb => ?_, fun h => ?_⟩
  · obtain ⟨h1, rfl⟩ := List.getElem?_eq_some_iff.1 ha
    obtain ⟨h2, rfl⟩ := List.getElem?_eq_some_iff.1 hb
    exact h _ _ h1 h2 (by omega)
  · have key : ∀ (d i : Nat) (hi : i < l.length) (hd : i + d + 1 < l.length), l[i] < l[i + d + 1] := by
      intro d
      induction d with
      | zero => exact fun i hi hd => h i _ _ (List.getElem?_eq_getElem hi) (List.getElem?_eq_getElem hd)
      | succ d ih => exact fun i hi hd => List.lt_trans (ih i hi (by omega)) (h (i + d + 1) _ _ (List.getElem?_eq_getElem (by omega)) (List.getElem?_eq_getElem (by omega)))
    intro i j hi hj hij
    have := key (j - i - 1) i hi (by omega)
    have e : i + (j - i - 1) + 1 = j := by omega
    simpa only [e] using this
def insS (f : Bs) : Fs → Fs
  | [] => [f]
  | g :: r => if g < f then g :: insS f r else if g = f then g :: r else f :: g :: r
def setS (l : Fs) : Fs := l.foldl (fun m f => insS f m) []
theorem insS_mem (f x : Bs) : ∀ l : Fs, x ∈ insS f l ↔ x = f ∨ x ∈ l
  | [] => by simp [insS]
  | g :: r => by
    rw [insS]
    split
    · simp only [List.mem_cons, insS_mem f x r]; exact or_left_comm
    · split
      · next h => subst h; simp
      · simp
theorem insS_asc (f : Bs) : ∀ l : Fs, asc l → asc (insS f l)
  | [], _ => by simp [insS, asc]
  | g :: r, h => by
    obtain ⟨h1, h2⟩ := List.pairwise_cons.1 h
    rw [insS]
    by_cases hg : g < f
    · rw [if_pos hg]
      refine List.pairwise_cons.2 ⟨fun x hx => ?_, insS_asc f r h2⟩
      rcases (insS_mem f x r).1 hx with rfl | hx
      · exact hg
      · exact h1 x hx
    · rw [if_neg hg]
      by_cases he : g = f
      · rw [if_pos he]; exact h
      · rw [if_neg he]
        have hfg : f < g := by rcases lt_tri g f with h | h | h <;> first | exact h | contradiction
        refine List.pairwise_cons.2 ⟨fun x hx => ?_, h⟩
        rcases List.mem_cons.1 hx with rfl | hx
        · exact hfg
        · exact List.lt_trans hfg (h1 x hx)
/-- How many features stand in front of f. -/
def cntF (f : Bs) (l : Fs) : Nat := (l.takeWhile fun g => decide (g < f)).length
theorem cntF_le (f : Bs) (l : Fs) : cntF f l ≤ l.length := (List.takeWhile_sublist _).length_le
theorem cntF_cons (f g : Bs) (r : Fs) : cntF f (g :: r) = if g < f then cntF f r + 1 else 0 := by
  unfold cntF
  rw [List.takeWhile_cons]
  by_cases h : g < f <;> simp [h]
theorem insS_at (f : Bs) : ∀ l : Fs, insS f l = if l[cntF f l]? = some f then l else l.take (cntF f l) ++ f :: l.drop (cntF f l)
  | [] => by simp [insS]
  | g :: r => by
    rw [insS, cntF_cons]
    by_cases hg : g < f
    · rw [if_pos hg, if_pos hg, insS_at f r]
      simp only [List.getElem?_cons_succ, List.take_succ_cons, List.drop_succ_cons]
      split <;> simp
    · rw [if_neg hg, if_neg hg]
      simp [eq_comm]
theorem cntF_below {f : Bs} : ∀ {l : Fs} {t : Nat} {g : Bs}, t < cntF f l → l[t]? = some g → g < f
  | [], t, g, h, _ => by simp [cntF] at h
  | a :: r, t, g, h, hg => by
    rw [cntF_cons] at h
    by_cases ha : a < f
    · rw [if_pos ha] at h
      cases t with
      | zero => simp at hg; exact hg ▸ ha
      | succ t => exact cntF_below (l := r) (t := t) (by omega) (by simpa using hg)
    · rw [if_neg ha] at h; omega
theorem cntF_from {f : Bs} : ∀ {l : Fs}, asc l → ∀ {t : Nat} {g : Bs}, cntF f l ≤ t → l[t]? = some g → ¬ g < f
  | [], _, t, g, _, hg => by simp at hg
  | a :: r, hs, t, g, h, hg => by
    obtain ⟨h1, h2⟩ := List.pairwise_cons.1 hs
    rw [cntF_cons] at h
    by_cases ha : a < f
    · rw [if_pos ha] at h
      cases t with
      | zero => omega
      | succ t => exact cntF_from (l := r) h2 (t := t) (by omega) (by simpa using hg)
    · cases t with
      | zero => simp at hg; exact hg ▸ ha
      | succ t =>
        have hm : g ∈ r := List.mem_of_getElem? (by simpa using hg)
        exact fun hgf => ha (List.lt_trans (h1 g hm) hgf)
theorem foldS_mem (x : Bs) : ∀ l m : Fs, x ∈ l.foldl (fun m f => insS f m) m ↔ x ∈ l ∨ x ∈ m
  | [], m => by simp
  | f :: l, m => by rw [List.foldl_cons, foldS_mem x l, insS_mem, List.mem_cons, or_assoc]; exact or_left_comm
theorem foldS_asc : ∀ l m : Fs, asc m → asc (l.foldl (fun m f => insS f m) m)
  | [], _, h => h
  | f :: l, m, h => foldS_asc l _ (insS_asc f m h)
theorem setS_mem (x : Bs) (l : Fs) : x ∈ setS l ↔ x ∈ l := by unfold setS; rw [foldS_mem]; simp
theorem setS_asc (l : Fs) : asc (setS l) := foldS_asc l [] .nil
theorem asc_ext : ∀ {l m : Fs}, asc l → asc m → (∀ x, x ∈ l ↔ x ∈ m) → l = m
  | [], [], _, _, _ => rfl
  | [], b :: m, _, _, h => absurd ((h b).2 (by simp)) (by simp)
  | a :: l, [], _, _, h => absurd ((h a).1 (by simp)) (by simp)
  | a :: l, b :: m, hl, hm, h => by
    obtain ⟨a1, a2⟩ := List.pairwise_cons.1 hl
    obtain ⟨b1, b2⟩ := List.pairwise_cons.1 hm
    have hab : a = b := by
      rcases List.mem_cons.1 ((h a).1 (by simp)) with e | e
      · exact e
      · rcases List.mem_cons.1 ((h b).2 (by simp)) with e' | e'
        · exact e'.symm
        · exact absurd (a1 b e') (lt_asymm' (b1 a e))
    subst hab
    have hlm : l = m := asc_ext a2 b2 fun x => by
      have hx := h x
      simp only [List.mem_cons] at hx
      constructor
      · intro hxl
        rcases hx.1 (.inr hxl) with e | e
        · subst e; exact absurd (a1 x hxl) (List.lt_irrefl x)
        · exact e
      · intro hxm
        rcases hx.2 (.inr hxm) with e | e
        · subst e; exact absurd (b1 x hxm) (List.lt_irrefl x)
        · exact e
    rw [hlm]
theorem setS_of {l m : Fs} (hm : asc m) (h : ∀ x, x ∈ l ↔ x ∈ m) : setS l = m := asc_ext (setS_asc l) hm fun x => by rw [setS_mem]; exact h x
theorem setS_ext {l m : Fs} (h : ∀ x, x ∈ l ↔ x ∈ m) : setS l = setS m := setS_of (setS_asc m) fun x => by rw [setS_mem]; exact h x
theorem insS_size (f : Bs) (l : Fs) : (textB (insS f l)).length = if l[cntF f l]? = some f then (textB l).length else (textB l).length + (f.length + 1) := by
  rw [insS_at]
  split
  · rfl
  · have := textB_app (l.take (cntF f l)) (l.drop (cntF f l))
    rw [List.take_append_drop] at this
    rw [textB_app, textB_cons, this]
    simp only [List.length_append, List.length_cons]
    omega
theorem foldS_size : ∀ l m : Fs, (textB m).length ≤ (textB (l.foldl (fun m f => insS f m) m)).length
  | [], _ => Nat.le_refl _
  | f :: l, m => by
    refine Nat.le_trans ?_ (foldS_size l _)
    rw [insS_size]
    split <;> omega
theorem setS_take {l : Fs} {j : Nat} {f : Bs} (h : l[j]? = some f) : setS (l.take (j + 1)) = insS f (setS (l.take j)) := by
  unfold setS
  rw [List.take_add_one, h]
  simp [List.foldl_append]
theorem setS_size (l : Fs) (j : Nat) : (textB (setS (l.take j))).length ≤ (textB (setS l)).length := by
  have h := foldS_size (l.drop j) (setS (l.take j))
  unfold setS at h ⊢
  rw [← List.foldl_append, List.take_append_drop] at h
  exact h
theorem len_textB (l : Fs) : l.length ≤ (textB l).length := by
  induction l with
  | nil => simp
  | cons f r ih => rw [textB_cons]; simp; omega
theorem mem_textB {l : Fs} {f : Bs} (h : f ∈ l) : f.length + 1 ≤ (textB l).length := by
  induction l with
  | nil => simp at h
  | cons g r ih =>
    rw [textB_cons]
    simp only [List.length_append, List.length_cons]
    rcases List.mem_cons.1 h with rfl | h
    · omega
    · have := ih h; omega
def bothS (l m : Fs) : Fs := l.filter (fun f => decide (f ∈ m))
theorem bothS_mem (l m : Fs) (x : Bs) : x ∈ bothS l m ↔ x ∈ l ∧ x ∈ m := by simp [bothS]
theorem bothS_asc {l : Fs} (m : Fs) (h : asc l) : asc (bothS l m) := h.sublist List.filter_sublist
theorem bothS_size (l m : Fs) : (textB (bothS l m)).length ≤ (textB l).length := by
  induction l with
  | nil => simp [bothS]
  | cons f r ih =>
    unfold bothS at ih ⊢
    rw [List.filter_cons]
    split
    · rw [textB_cons, textB_cons]; simp only [List.length_append, List.length_cons]; omega
    · rw [textB_cons]; simp only [List.length_append, List.length_cons]; omega
theorem bothS_len (l m : Fs) : (bothS l m).length = l.length ↔ ∀ x ∈ l, x ∈ m := by
  unfold bothS
  rw [List.length_filter_eq_length_iff]
  simp
end Go.Proofs.YtmjmidgfdjcbfaaGreatDoor
