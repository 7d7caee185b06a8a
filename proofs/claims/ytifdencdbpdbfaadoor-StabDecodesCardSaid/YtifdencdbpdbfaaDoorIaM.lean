/-
  THE PLAIN MATHEMATICS of package interval, of no program: normal lists, running maxima, the relations of two spans, covers.
-/
import Derived.Test.YtifdencdbpdbfaaDoorProg
namespace Go.Proofs.YtifdencdbpdbfaaDoor
set_option linter.unusedVariables false
abbrev Sp := Int × Int
def okS (s : Sp) : Bool := decide (0 ≤ s.1) && decide (s.1 < s.2)
/-- The error of a list. -/
def chkS (l : List Sp) : Int := if 4096 < l.length then 2 else if l.all okS then 0 else 8
def chkSS : List (List Sp) → Int
  | [] => 0
  | l :: r => if chkS l = 0 then chkSS r else chkS l
theorem okS_iff (s : Sp) : okS s = true ↔ 0 ≤ s.1 ∧ s.1 < s.2 := by unfold okS; simp
/-- The order of normal lists. -/
def ltb (a b : Sp) : Bool := decide (a.1 < b.1) || (decide (a.1 = b.1) && decide (b.2 < a.2))
theorem ltb_iff (a b : Sp) : ltb a b = true ↔ a.1 < b.1 ∨ a.1 = b.1 ∧ b.2 < a.2 := by unfold ltb; simp
theorem ltb_not (a b : Sp) : ltb a b = false ↔ b.1 < a.1 ∨ a.1 = b.1 ∧ a.2 ≤ b.2 := by
  rw [← Bool.not_eq_true, ltb_iff]
  omega
theorem ltb_irr (a : Sp) : ltb a a = false := by rw [ltb_not]; omega
theorem ltb_tr {a b c : Sp} (h : ltb a b = true) (k : ltb b c = true) : ltb a c = true := by rw [ltb_iff] at *; omega
theorem ltb_ntr {a b c : Sp} (h : ltb a b = false) (k : ltb b c = false) : ltb a c = false := by rw [ltb_not] at *; omega
theorem ltb_three {a b : Sp} (h : ltb a b = false) (k : a ≠ b) : ltb b a = true := by
  rw [ltb_not] at h
  rw [ltb_iff]
  have : ¬ (a.1 = b.1 ∧ a.2 = b.2) := fun e => k (Prod.ext e.1 e.2)
  omega
theorem ltb_ne {a b : Sp} (h : ltb a b = true) : a ≠ b := fun e => by rw [e, ltb_irr] at h; cases h
theorem ltb_asymm {a b : Sp} (h : ltb a b = true) : ltb b a = false := by rw [ltb_iff] at h; rw [ltb_not]; omega
/-- The reference's insertion. -/
def insS (s : Sp) : List Sp → List Sp
  | [] => [s]
  | x :: r => if ltb x s then x :: insS s r else if x = s then x :: r else s :: x :: r
def normS (l : List Sp) : List Sp := l.foldl (fun m s => insS s m) []
def SortS (l : List Sp) : Prop := l.Pairwise (fun a b => ltb a b = true)
theorem insS_mem (s : Sp) : ∀ (l : List Sp) (x : Sp), x ∈ insS s l ↔ x = s ∨ x ∈ l
  | [], x => by simp [insS]
  | y :: r, x => by
    unfold insS
    by_cases h : ltb y s = true
    · rw [if_pos h, List.mem_cons, insS_mem s r x, List.mem_cons]
      exact ⟨fun h => by rcases h with h | h | h <;> simp [h], fun h => by rcases h with h | h | h <;> simp [h]⟩
    · rw [if_neg h]
      by_cases e : y = s
      · rw [if_pos e]
        subst e
        simp
      · rw [if_neg e]
        simp
theorem insS_sort (s : Sp) : ∀ (l : List Sp), SortS l → SortS (insS s l)
  | [], _ => List.pairwise_singleton _ _
  | y :: r, h => by
    obtain ⟨h1, h2⟩ := List.pairwise_cons.1 h
    unfold insS
    by_cases c : ltb y s = true
    · rw [if_pos c]
      refine List.pairwise_cons.2 ⟨fun x hx => ?_, insS_sort s r h2⟩
      rcases (insS_mem s r x).1 hx with rfl | hx
      · exact c
      · exact h1 x hx
    · rw [if_neg c]
      by_cases e : y = s
      · rw [if_pos e]; exact h
      · rw [if_neg e]
        have hs : ltb s y = true := ltb_three (by simpa using c) e
        refine List.pairwise_cons.2 ⟨fun x hx => ?_, h⟩
        rcases List.mem_cons.1 hx with rfl | hx
        · exact hs
        · exact ltb_tr hs (h1 x hx)
theorem foldS (l : List Sp) : ∀ m : List Sp, SortS m → SortS (l.foldl (fun m s => insS s m) m) ∧ ∀ x, x ∈ l.foldl (fun m s => insS s m) m ↔ x ∈ l ∨ x ∈ m := by
  induction l with
  | nil => intro m h; exact ⟨h, fun x => by simp⟩
  | cons s r ih =>
    intro m h
    obtain ⟨h1, h2⟩ := ih (insS s m) (insS_sort s m h)
    refine ⟨h1, fun x => ?_⟩
    rw [List.foldl_cons, h2, insS_mem, List.mem_cons]
    exact ⟨fun h => by rcases h with h | h | h <;> simp [h], fun h => by rcases h with (h | h) | h <;> simp [h]⟩
theorem normS_sort (l : List Sp) : SortS (normS l) := (foldS l [] List.Pairwise.nil).1
theorem normS_mem (l : List Sp) (x : Sp) : x ∈ normS l ↔ x ∈ l := by have := (foldS l [] List.Pairwise.nil).2 x; simpa [normS] using this
theorem normS_snoc (l : List Sp) (s : Sp) : normS (l ++ [s]) = insS s (normS l) := by unfold normS; rw [List.foldl_append]; rfl
/-- Sorted lists with the same members are equal. -/
theorem sort_ext : ∀ (l m : List Sp), SortS l → SortS m → (∀ x, x ∈ l ↔ x ∈ m) → l = m
  | [], [], _, _, _ => rfl
  | [], y :: r, _, _, h => by have := (h y).2 (by simp); simp at this
  | x :: l, [], _, _, h => by have := (h x).1 (by simp); simp at this
  | x :: l, y :: m, hl, hm, h => by
    obtain ⟨a1, a2⟩ := List.pairwise_cons.1 hl
    obtain ⟨b1, b2⟩ := List.pairwise_cons.1 hm
    have e : x = y := by
      rcases List.mem_cons.1 ((h x).1 (by simp)) with e | hx
      · exact e
      · rcases List.mem_cons.1 ((h y).2 (by simp)) with e | hy
        · exact e.symm
        · have h1 := a1 y hy
          have h2 := ltb_asymm (b1 x hx)
          rw [h2] at h1
          cases h1
    subst e
    congr 1
    refine sort_ext l m a2 b2 fun z => ⟨fun hz => ?_, fun hz => ?_⟩
    · rcases List.mem_cons.1 ((h z).1 (List.mem_cons_of_mem _ hz)) with rfl | hz'
      · have := a1 z hz
        rw [ltb_irr] at this
        cases this
      · exact hz'
    · rcases List.mem_cons.1 ((h z).2 (List.mem_cons_of_mem _ hz)) with rfl | hz'
      · have := b1 z hz
        rw [ltb_irr] at this
        cases this
      · exact hz'
theorem sort_len {l m : List Sp} (hl : SortS l) (h : ∀ x ∈ l, x ∈ m) : l.length ≤ m.length := by
  have hn : l.Nodup := List.Pairwise.imp (fun {a b} h => ltb_ne h) hl
  exact List.Nodup.length_le_of_subset hn h
theorem normS_len (l : List Sp) : (normS l).length ≤ l.length := sort_len (normS_sort l) fun x hx => (normS_mem l x).1 hx
theorem normS_ext {l m : List Sp} (h : ∀ x, x ∈ l ↔ x ∈ m) : normS l = normS m := sort_ext _ _ (normS_sort l) (normS_sort m) fun x => by rw [normS_mem, normS_mem]; exact h x
theorem normS_filter (p : Sp → Bool) (l : List Sp) : (normS l).filter p = normS (l.filter p) :=
  sort_ext _ _ ((normS_sort l).filter p) (normS_sort _) fun x => by rw [List.mem_filter, normS_mem, normS_mem, List.mem_filter]
/-- Equal neighbours are struck. -/
def ddF (p : Option Sp) : List Sp → List Sp
  | [] => []
  | x :: r => if p = some x then ddF p r else x :: ddF (some x) r
def ddup (l : List Sp) : List Sp := ddF none l
theorem ddF_snoc : ∀ (l : List Sp) (p : Option Sp) (x : Sp), ddF p (l ++ [x]) = ddF p l ++ (if (l.getLast?.or p) = some x then [] else [x])
  | [], p, x => by
    by_cases h : p = some x <;> simp [ddF, h]
  | y :: r, p, x => by
    have e : ((y :: r).getLast?.or p) = (r.getLast?.or (some y)) := by
      rw [List.getLast?_cons]
      cases r.getLast? <;> rfl
    rw [e, List.cons_append]
    unfold ddF
    by_cases h : p = some y
    · rw [if_pos h, if_pos h, ddF_snoc r p x, h]
    · rw [if_neg h, if_neg h, ddF_snoc r (some y) x, List.cons_append]
theorem ddup_take {l : List Sp} {m : Nat} {x : Sp} (hx : l[m]? = some x) : ddup (l.take (m + 1)) = ddup (l.take m) ++ (if 0 < m ∧ l[m - 1]? = some x then [] else [x]) := by
  have hm := (List.getElem?_eq_some_iff.1 hx).1
  unfold ddup
  rw [List.take_add_one, hx]
  show ddF none (l.take m ++ [x]) = _
  rw [ddF_snoc]
  have e : ((l.take m).getLast?.or none) = if 0 < m then l[m - 1]? else none := by
    rw [Option.or_none, List.getLast?_eq_getElem?, List.length_take, Nat.min_eq_left (by omega), List.getElem?_take]
    by_cases h : 0 < m
    · rw [if_pos (by omega), if_pos h]
    · rw [if_neg (by omega), if_neg h]
  rw [e]
  by_cases h : 0 < m
  · rw [if_pos h]
    simp only [h, true_and]
  · rw [if_neg h, if_neg (by simp), if_neg (by omega)]
theorem ddF_mem : ∀ (l : List Sp) (p : Option Sp) (x : Sp), (x ∈ ddF p l → x ∈ l) ∧ (x ∈ l → x ∈ ddF p l ∨ p = some x)
  | [], p, x => by simp [ddF]
  | y :: r, p, x => by
    unfold ddF
    by_cases h : p = some y
    · rw [if_pos h]
      obtain ⟨h1, h2⟩ := ddF_mem r p x
      refine ⟨fun hx => List.mem_cons_of_mem _ (h1 hx), fun hx => ?_⟩
      rcases List.mem_cons.1 hx with rfl | hx
      · exact .inr h
      · exact h2 hx
    · rw [if_neg h]
      obtain ⟨h1, h2⟩ := ddF_mem r (some y) x
      refine ⟨fun hx => ?_, fun hx => ?_⟩
      · rcases List.mem_cons.1 hx with rfl | hx
        · simp
        · exact List.mem_cons_of_mem _ (h1 hx)
      · rcases List.mem_cons.1 hx with rfl | hx
        · simp
        · rcases h2 hx with h3 | h3
          · exact .inl (List.mem_cons_of_mem _ h3)
          · cases h3; simp
def LeS (l : List Sp) : Prop := l.Pairwise (fun a b => ltb b a = false)
theorem ddF_sort : ∀ (l : List Sp) (p : Option Sp), LeS l → (∀ y, p = some y → ∀ x ∈ l, ltb x y = false) → SortS (ddF p l) ∧ ∀ y, p = some y → ∀ x ∈ ddF p l, ltb y x = true
  | [], p, _, _ => ⟨List.Pairwise.nil, fun y _ x hx => by simp [ddF] at hx⟩
  | z :: r, p, hl, hp => by
    obtain ⟨a1, a2⟩ := List.pairwise_cons.1 hl
    unfold ddF
    by_cases h : p = some z
    · rw [if_pos h]
      exact ddF_sort r p a2 fun y hy x hx => hp y hy x (List.mem_cons_of_mem _ hx)
    · rw [if_neg h]
      obtain ⟨h1, h2⟩ := ddF_sort r (some z) a2 (fun y hy x hx => by cases hy; exact a1 x hx)
      have h2 := h2 z rfl
      refine ⟨List.pairwise_cons.2 ⟨h2, h1⟩, fun y hy x hx => ?_⟩
      have hyz : ltb y z = true := ltb_three (hp y hy z (by simp)) (fun e => h (by rw [e]; exact hy))
      rcases List.mem_cons.1 hx with rfl | hx
      · exact hyz
      · exact ltb_tr hyz (h2 x hx)
theorem ddup_norm {l m : List Sp} (hl : LeS l) (h : ∀ x, x ∈ l ↔ x ∈ m) : ddup l = normS m :=
  sort_ext _ _ (ddF_sort l none hl (fun y hy => by cases hy)).1 (normS_sort m) fun x => by
    rw [normS_mem, ← h]
    obtain ⟨h1, h2⟩ := ddF_mem l none x
    exact ⟨h1, fun hx => by rcases h2 hx with h | h; exact h; cases h⟩
theorem ddup_len (l : List Sp) : (ddup l).length ≤ l.length := by
  have : ∀ (l : List Sp) (p : Option Sp), (ddF p l).length ≤ l.length := by
    intro l
    induction l with
    | nil => intro p; simp [ddF]
    | cons x r ih =>
      intro p
      unfold ddF
      by_cases h : p = some x
      · rw [if_pos h]; have := ih p; simp; omega
      · rw [if_neg h]; have := ih (some x); simp; omega
  exact this l none
theorem ddup_same {l : List Sp} (h : ∀ (j : Nat) (x y : Sp), 0 < j → l[j]? = some x → l[j - 1]? = some y → y ≠ x) : ddup l = l := by
  have : ∀ m, m ≤ l.length → ddup (l.take m) = l.take m := by
    intro m
    induction m with
    | zero => intro _; rfl
    | succ m ih =>
      intro hm
      have hx : l[m]? = some (l[m]'(by omega)) := List.getElem?_eq_getElem (by omega)
      rw [ddup_take hx, ih (by omega), if_neg (fun ⟨h0, e⟩ => h m _ _ h0 hx e rfl), List.take_add_one, hx]
      rfl
  have e := this l.length (Nat.le_refl _)
  rwa [List.take_length] at e

/-- The greatest height of points, and -1 of none. -/
def hiF (l : List Sp) : Int := l.foldl (fun m x => max m x.2) (-1)
theorem foldMax : ∀ (l : List Sp) (m : Int), m ≤ l.foldl (fun m x => max m x.2) m ∧ (∀ x ∈ l, x.2 ≤ l.foldl (fun m x => max m x.2) m) ∧ (l.foldl (fun m x => max m x.2) m = m ∨ ∃ x ∈ l, l.foldl (fun m x => max m x.2) m = x.2)
  | [], m => ⟨Int.le_refl _, by simp, .inl rfl⟩
  | y :: r, m => by
    obtain ⟨h1, h2, h3⟩ := foldMax r (max m y.2)
    simp only [List.foldl_cons]
    refine ⟨by omega, fun x hx => ?_, ?_⟩
    · rcases List.mem_cons.1 hx with rfl | hx
      · omega
      · exact h2 x hx
    · rcases h3 with h3 | ⟨x, hx, h3⟩
      · rw [h3]
        by_cases c : m ≤ y.2
        · exact .inr ⟨y, by simp, by omega⟩
        · exact .inl (by omega)
      · exact .inr ⟨x, List.mem_cons_of_mem _ hx, h3⟩
theorem le_hiF {l : List Sp} {h : Int} (h0 : -1 < h) : h ≤ hiF l ↔ ∃ x ∈ l, h ≤ x.2 := by
  obtain ⟨h1, h2, h3⟩ := foldMax l (-1)
  change -1 ≤ hiF l at h1
  change ∀ x ∈ l, x.2 ≤ hiF l at h2
  change hiF l = -1 ∨ ∃ x ∈ l, hiF l = x.2 at h3
  refine ⟨fun hh => ?_, fun ⟨x, hx, hh⟩ => Int.le_trans hh (h2 x hx)⟩
  rcases h3 with h3 | ⟨x, hx, h3⟩
  · omega
  · exact ⟨x, hx, by omega⟩
theorem hiF_snoc (l : List Sp) (x : Sp) : hiF (l ++ [x]) = max (hiF l) x.2 := by unfold hiF; rw [List.foldl_append]; rfl
theorem hiF_ge (l : List Sp) : -1 ≤ hiF l := (foldMax l (-1)).1
theorem hiF_mem {l : List Sp} {x : Sp} (h : x ∈ l) : x.2 ≤ hiF l := (foldMax l (-1)).2.1 x h
theorem hiF_perm {l m : List Sp} (h : ∀ x, x ∈ l ↔ x ∈ m) : hiF l = hiF m := by
  have h1 := hiF_ge l
  have h2 := hiF_ge m
  by_cases c : hiF l < hiF m
  · obtain ⟨x, hx, hh⟩ := (le_hiF (l := m) (h := hiF m) (by omega)).1 (Int.le_refl _)
    have := (le_hiF (l := l) (h := hiF m) (by omega)).2 ⟨x, (h x).2 hx, hh⟩
    omega
  · by_cases d : hiF m < hiF l
    · obtain ⟨x, hx, hh⟩ := (le_hiF (l := l) (h := hiF l) (by omega)).1 (Int.le_refl _)
      have := (le_hiF (l := m) (h := hiF l) (by omega)).2 ⟨x, (h x).1 hx, hh⟩
      omega
    · omega
/-- The greatest height at the places up to p. -/
def topF (l : List Sp) (p : Int) : Int := hiF (l.filter fun x => decide (x.1 ≤ p))
theorem le_topF {l : List Sp} {p h : Int} (h0 : -1 < h) : h ≤ topF l p ↔ ∃ x ∈ l, x.1 ≤ p ∧ h ≤ x.2 := by
  unfold topF
  rw [le_hiF h0]
  simp only [List.mem_filter, decide_eq_true_eq]
  exact ⟨fun ⟨x, ⟨a, b⟩, c⟩ => ⟨x, a, b, c⟩, fun ⟨x, a, b, c⟩ => ⟨x, ⟨a, b⟩, c⟩⟩
theorem topF_perm {l m : List Sp} (h : ∀ x, x ∈ l ↔ x ∈ m) (p : Int) : topF l p = topF m p := hiF_perm fun x => by simp only [List.mem_filter, h x]
/-- Running maxima: the first i heights are raised. -/
def riseU (ps : List Sp) (i : Nat) : List Sp := (List.range ps.length).map fun j => (((ps.getD j (0, 0)).1, if j < i then hiF (ps.take (j + 1)) else (ps.getD j (0, 0)).2) : Sp)
theorem riseU_len (ps : List Sp) (i : Nat) : (riseU ps i).length = ps.length := by simp [riseU]
theorem riseU_get {ps : List Sp} {i j : Nat} {x : Sp} (h : ps[j]? = some x) : (riseU ps i)[j]? = some (x.1, if j < i then hiF (ps.take (j + 1)) else x.2) := by
  have hj := (List.getElem?_eq_some_iff.1 h).1
  unfold riseU
  rw [List.getElem?_map, List.getElem?_range hj]
  simp [h]
theorem riseU_one {ps : List Sp} (h : ∀ x ∈ ps, -1 ≤ x.2) : riseU ps 1 = ps := by
  apply List.ext_getElem?
  intro j
  by_cases hj : j < ps.length
  · have hx : ps[j]? = some ps[j] := List.getElem?_eq_getElem hj
    rw [riseU_get hx, hx]
    by_cases e : j < 1
    · rw [if_pos e]
      have e0 : j = 0 := by omega
      subst e0
      have : ps.take (0 + 1) = [ps[0]] := by rw [List.take_add_one, hx]; rfl
      rw [this]
      have hh := h _ (List.getElem_mem hj)
      have : hiF [ps[0]] = (ps[0]).2 := by unfold hiF; simp; omega
      rw [this]
    · rw [if_neg e]
  · rw [List.getElem?_eq_none (by rw [riseU_len]; omega), List.getElem?_eq_none (by omega)]
theorem riseU_step {ps : List Sp} {i : Nat} {x : Sp} (h0 : 0 < i) (h : ps[i]? = some x) : riseU ps (i + 1) = (riseU ps i).set i (x.1, max x.2 (hiF (ps.take i))) := by
  have hi := (List.getElem?_eq_some_iff.1 h).1
  apply List.ext_getElem?
  intro j
  rw [List.getElem?_set]
  by_cases hj : j < ps.length
  · have hx : ps[j]? = some ps[j] := List.getElem?_eq_getElem hj
    rw [riseU_get hx]
    by_cases e : i = j
    · subst e
      rw [h] at hx
      rw [if_pos rfl, if_pos (show i < (riseU ps i).length by rw [riseU_len]; omega), if_pos (show i < i + 1 by omega), ← Option.some.inj hx, List.take_add_one, h]
      show some (x.1, hiF (ps.take i ++ [x])) = _
      rw [hiF_snoc, Int.max_comm]
    · rw [if_neg e, riseU_get hx]
      by_cases c : j < i
      · rw [if_pos c, if_pos (by omega)]
      · rw [if_neg c, if_neg (by omega)]
  · rw [List.getElem?_eq_none (by rw [riseU_len]; omega)]
    by_cases e : i = j
    · omega
    · rw [if_neg e, List.getElem?_eq_none (by rw [riseU_len]; omega)]
def riseL (ps : List Sp) : List Sp := riseU ps ps.length
/-- How many places lie up to p, where they ascend. -/
theorem count_take : ∀ (ps : List Sp) (p : Int), ps.Pairwise (fun a b => a.1 ≤ b.1) → ps.take (ps.countP fun x => decide (x.1 ≤ p)) = ps.filter fun x => decide (x.1 ≤ p)
  | [], p, _ => rfl
  | y :: r, p, h => by
    obtain ⟨h1, h2⟩ := List.pairwise_cons.1 h
    by_cases c : y.1 ≤ p
    · rw [List.countP_cons_of_pos (by simpa using c), List.take_succ_cons, List.filter_cons_of_pos (by simpa using c), count_take r p h2]
    · have hz : (y :: r).filter (fun x => decide (x.1 ≤ p)) = [] := List.filter_eq_nil_iff.2 fun x hx => by
        rcases List.mem_cons.1 hx with rfl | hx
        · simpa using c
        · have := h1 x hx
          simp
          omega
      rw [hz, List.countP_eq_length_filter, hz]
      rfl
/-- What upTo answers over the running maxima of sorted points. -/
theorem topF_rise {ps : List Sp} (h : ps.Pairwise (fun a b => a.1 ≤ b.1)) (p : Int) :
    ((ps.countP fun x => decide (x.1 ≤ p)) = 0 → topF ps p = -1) ∧ ∀ c, (ps.countP fun x => decide (x.1 ≤ p)) = c + 1 → ∃ x, (riseL ps)[c]? = some (x, topF ps p) := by
  have e := count_take ps p h
  refine ⟨fun h0 => ?_, fun c hc => ?_⟩
  · unfold topF
    rw [← e, h0]
    rfl
  · have hl : c + 1 ≤ ps.length := by rw [← hc]; exact List.countP_le_length
    have hx : ps[c]? = some (ps[c]'(by omega)) := List.getElem?_eq_getElem (by omega)
    refine ⟨(ps[c]'(by omega)).1, ?_⟩
    unfold riseL topF
    rw [riseU_get hx, if_pos (by omega), ← e, hc]
theorem rise_mono {ps : List Sp} (h : ps.Pairwise (fun a b => a.1 ≤ b.1)) {i j : Nat} {x y : Sp} (hij : i ≤ j) (hx : ps[i]? = some x) (hy : ps[j]? = some y) : x.1 ≤ y.1 := by
  rcases Nat.lt_or_ge i j with c | c
  · obtain ⟨hi, rfl⟩ := List.getElem?_eq_some_iff.1 hx
    obtain ⟨hj, rfl⟩ := List.getElem?_eq_some_iff.1 hy
    exact (List.pairwise_iff_getElem.1 h) i j hi hj c
  · have : i = j := by omega
    subst this
    rw [hx] at hy
    cases hy
    exact Int.le_refl _
/-- The choices. -/
def inB (t s : Sp) : Bool := decide (t.1 ≤ s.1) && decide (s.2 ≤ t.2)
def ovB (s t : Sp) : Bool := decide (s.1 < t.2) && decide (t.1 < s.2)
def withinL (a b : List Sp) : List Sp := (normS a).filter fun s => b.any fun t => inB t s
def containL (a b : List Sp) : List Sp := (normS a).filter fun s => b.any fun t => inB s t
def overL (a b : List Sp) : List Sp := (normS a).filter fun s => b.any fun t => ovB s t
def flipS (s : Sp) : Sp := (s.2, s.1)
theorem within_top {b : List Sp} {s : Sp} (hs : okS s = true) : decide (s.2 ≤ topF b s.1) = b.any fun t => inB t s := by
  rw [okS_iff] at hs
  rw [Bool.eq_iff_iff]
  simp only [decide_eq_true_eq, List.any_eq_true, inB, Bool.and_eq_true]
  rw [le_topF (by omega)]
theorem contain_top {b : List Sp} {s : Sp} (hs : okS s = true) : decide (s.1 ≤ topF (b.map flipS) s.2) = b.any fun t => inB s t := by
  rw [okS_iff] at hs
  rw [Bool.eq_iff_iff]
  simp only [decide_eq_true_eq, List.any_eq_true, inB, Bool.and_eq_true]
  rw [le_topF (by omega)]
  simp only [List.mem_map]
  exact ⟨fun ⟨x, ⟨t, ht, e⟩, h1, h2⟩ => ⟨t, ht, by subst e; exact ⟨h2, h1⟩⟩, fun ⟨t, ht, h1, h2⟩ => ⟨_, ⟨t, ht, rfl⟩, h2, h1⟩⟩
theorem over_top {b : List Sp} {s : Sp} (hs : okS s = true) : decide (s.1 < topF b (s.2 - 1)) = b.any fun t => ovB s t := by
  rw [okS_iff] at hs
  rw [Bool.eq_iff_iff]
  simp only [decide_eq_true_eq, List.any_eq_true, ovB, Bool.and_eq_true]
  have := le_topF (l := b) (p := s.2 - 1) (h := s.1 + 1) (by omega)
  rw [show s.1 < topF b (s.2 - 1) ↔ s.1 + 1 ≤ topF b (s.2 - 1) by omega, this]
  exact ⟨fun ⟨x, h1, h2, h3⟩ => ⟨x, h1, by omega, by omega⟩, fun ⟨x, h1, h2, h3⟩ => ⟨x, h1, by omega, by omega⟩⟩
theorem choose_ref (p : Sp → Bool) (a : List Sp) : (normS a).filter p = normS (a.filter p) := normS_filter p a
theorem all_norm {l : List Sp} (h : l.all okS = true) : ∀ s ∈ normS l, okS s = true := fun s hs => List.all_eq_true.1 h s ((normS_mem l s).1 hs)
theorem chk_ok {l : List Sp} (h : chkS l = 0) : l.length ≤ 4096 ∧ l.all okS = true := by
  unfold chkS at h
  by_cases c : 4096 < l.length
  · rw [if_pos c] at h; cases h
  · rw [if_neg c] at h
    by_cases d : l.all okS = true
    · exact ⟨by omega, d⟩
    · rw [if_neg d] at h; cases h
/-- The relations: what the code decides directly, and all. -/
def dirZ (a b : Sp) : Int :=
  if a.2 < b.1 then 1 else if a.2 = b.1 then 2 else if a = b then 7 else if a.1 < b.1 ∧ a.2 < b.2 then 3 else if a.1 < b.1 ∧ a.2 = b.2 then 4 else if a.1 < b.1 then 5 else if a.1 = b.1 ∧ a.2 < b.2 then 6 else 0
def relZ (a b : Sp) : Int := if okS a = true ∧ okS b = true then (if dirZ a b ≠ 0 then dirZ a b else 14 - dirZ b a) else 0
/-- What the reference decides without turning round. -/
def refZ (a b : Sp) : Int :=
  if a = b then 7 else if a.2 < b.1 then 1 else if a.2 = b.1 then 2 else if a.1 = b.1 ∧ a.2 < b.2 then 6 else if a.1 < b.1 ∧ a.2 = b.2 then 4 else if a.1 < b.1 ∧ b.2 < a.2 then 5 else if a.1 < b.1 ∧ b.1 < a.2 ∧ a.2 < b.2 then 3 else 0
theorem sp_eq (a b : Sp) : a = b ↔ a.1 = b.1 ∧ a.2 = b.2 := Prod.ext_iff
theorem ref_dir {a b : Sp} (ha : okS a = true) (hb : okS b = true) : refZ a b = dirZ a b := by
  rw [okS_iff] at ha hb
  unfold refZ dirZ
  simp only [sp_eq]
  by_cases c1 : a.2 < b.1
  · rw [if_neg (by omega), if_pos c1, if_pos c1]
  · by_cases c2 : a.2 = b.1
    · rw [if_neg (by omega), if_neg c1, if_pos c2, if_neg c1, if_pos c2]
    · rw [if_neg c1, if_neg c2, if_neg c1, if_neg c2]
      by_cases c3 : a.1 = b.1 ∧ a.2 = b.2
      · rw [if_pos c3, if_pos c3]
      · rw [if_neg c3, if_neg c3]
        by_cases d1 : a.1 < b.1
        · rw [if_neg (by omega)]
          by_cases d2 : a.2 < b.2
          · rw [if_neg (by omega), if_neg (by omega), if_pos ⟨d1, by omega, d2⟩, if_pos ⟨d1, d2⟩]
          · by_cases d3 : a.2 = b.2
            · rw [if_pos ⟨d1, d3⟩, if_neg (by omega), if_pos ⟨d1, d3⟩]
            · rw [if_neg (by omega), if_pos ⟨d1, by omega⟩, if_neg (by omega), if_neg (by omega), if_pos d1]
        · by_cases d2 : a.1 = b.1 ∧ a.2 < b.2
          · rw [if_pos d2, if_neg (by omega), if_neg (by omega), if_neg d1, if_pos d2]
          · rw [if_neg d2, if_neg (by omega), if_neg (by omega), if_neg (by omega), if_neg (by omega), if_neg (by omega), if_neg d1, if_neg d2]
/-- One of the two directions is decided. -/
theorem dir_turn {a b : Sp} (ha : okS a = true) (hb : okS b = true) (h : dirZ a b = 0) : 1 ≤ dirZ b a ∧ dirZ b a ≤ 6 := by
  rw [okS_iff] at ha hb
  unfold dirZ at *
  simp only [sp_eq] at *
  by_cases c1 : a.2 < b.1
  · rw [if_pos c1] at h; cases h
  · rw [if_neg c1] at h
    by_cases c2 : a.2 = b.1
    · rw [if_pos c2] at h; cases h
    · rw [if_neg c2] at h
      by_cases c3 : a.1 = b.1 ∧ a.2 = b.2
      · rw [if_pos c3] at h; cases h
      · rw [if_neg c3] at h
        by_cases d1 : a.1 < b.1
        · by_cases d2 : a.2 < b.2
          · rw [if_pos ⟨d1, d2⟩] at h; cases h
          · by_cases d3 : a.2 = b.2
            · rw [if_neg (by omega), if_pos ⟨d1, d3⟩] at h; cases h
            · rw [if_neg (by omega), if_neg (by omega), if_pos d1] at h; cases h
        · rw [if_neg (by omega), if_neg (by omega), if_neg d1] at h
          by_cases d2 : a.1 = b.1 ∧ a.2 < b.2
          · rw [if_pos d2] at h; cases h
          · by_cases e1 : b.2 < a.1
            · rw [if_pos e1]; omega
            · rw [if_neg e1]
              by_cases e2 : b.2 = a.1
              · rw [if_pos e2]; omega
              · rw [if_neg e2, if_neg (by omega)]
                by_cases f1 : b.1 < a.1
                · by_cases f2 : b.2 < a.2
                  · rw [if_pos ⟨f1, f2⟩]; omega
                  · by_cases f3 : b.2 = a.2
                    · rw [if_neg (by omega), if_pos ⟨f1, f3⟩]; omega
                    · rw [if_neg (by omega), if_neg (by omega), if_pos f1]; omega
                · rw [if_neg (by omega), if_neg (by omega), if_neg f1, if_pos ⟨by omega, by omega⟩]; omega
theorem dir_range (a b : Sp) : 0 ≤ dirZ a b ∧ dirZ a b ≤ 7 := by
  unfold dirZ
  repeat' split
  all_goals omega
/-- Each relation by its condition. -/
def relC (a b : Sp) : Int :=
  if a.2 < b.1 then 1 else if a.2 = b.1 then 2 else if b.2 < a.1 then 13 else if b.2 = a.1 then 12 else
  if a.1 < b.1 then (if a.2 < b.2 then 3 else if a.2 = b.2 then 4 else 5) else
  if a.1 = b.1 then (if a.2 < b.2 then 6 else if a.2 = b.2 then 7 else 8) else
  (if a.2 < b.2 then 9 else if a.2 = b.2 then 10 else 11)
theorem dir_rel {a b : Sp} (ha : okS a = true) (hb : okS b = true) : dirZ a b = if relC a b ≤ 7 then relC a b else 0 := by
  rw [okS_iff] at ha hb
  unfold dirZ relC
  simp only [sp_eq]
  by_cases c1 : a.2 < b.1
  · rw [if_pos c1, if_pos c1]; rfl
  · rw [if_neg c1, if_neg c1]
    by_cases c2 : a.2 = b.1
    · rw [if_pos c2, if_pos c2]; rfl
    · rw [if_neg c2, if_neg c2]
      by_cases c3 : b.2 < a.1
      · rw [if_pos c3, if_neg (by omega), if_neg (by omega), if_neg (by omega), if_neg (by omega), if_neg (by omega)]; rfl
      · rw [if_neg c3]
        by_cases c4 : b.2 = a.1
        · rw [if_pos c4, if_neg (by omega), if_neg (by omega), if_neg (by omega), if_neg (by omega), if_neg (by omega)]; rfl
        · rw [if_neg c4]
          by_cases d1 : a.1 < b.1
          · rw [if_neg (show ¬ (a.1 = b.1 ∧ a.2 = b.2) by omega), if_pos d1]
            by_cases d2 : a.2 < b.2
            · rw [if_pos ⟨d1, d2⟩, if_pos d1, if_pos d2]; rfl
            · rw [if_neg (by omega), if_neg d2]
              by_cases d3 : a.2 = b.2
              · rw [if_pos ⟨d1, d3⟩, if_pos d1, if_pos d3]; rfl
              · rw [if_neg (by omega), if_neg d3, if_pos d1]; rfl
          · rw [if_neg (show ¬ (a.1 < b.1 ∧ a.2 < b.2) by omega), if_neg (show ¬ (a.1 < b.1 ∧ a.2 = b.2) by omega), if_neg d1, if_neg d1]
            by_cases e1 : a.1 = b.1
            · rw [if_pos e1]
              by_cases e2 : a.2 < b.2
              · rw [if_neg (by omega), if_pos ⟨e1, e2⟩, if_pos e2]; rfl
              · rw [if_neg e2]
                by_cases e3 : a.2 = b.2
                · rw [if_pos ⟨e1, e3⟩, if_pos e3]; rfl
                · rw [if_neg (by omega), if_neg (by omega), if_neg e3]; rfl
            · rw [if_neg e1, if_neg (by omega), if_neg (by omega)]
              by_cases e2 : a.2 < b.2
              · rw [if_pos e2]; rfl
              · rw [if_neg e2]
                by_cases e3 : a.2 = b.2
                · rw [if_pos e3]; rfl
                · rw [if_neg e3]; rfl
/-- The relation by the order of the four ends. -/
theorem relC_cases (a b : Sp) : relC a b = 1 ∧ a.2 < b.1 ∨
    relC a b = 2 ∧ a.2 = b.1 ∨
    relC a b = 13 ∧ b.1 < a.2 ∧ b.2 < a.1 ∨
    relC a b = 12 ∧ b.1 < a.2 ∧ b.2 = a.1 ∨
    relC a b = 3 ∧ b.1 < a.2 ∧ a.1 < b.2 ∧ a.1 < b.1 ∧ a.2 < b.2 ∨
    relC a b = 4 ∧ b.1 < a.2 ∧ a.1 < b.2 ∧ a.1 < b.1 ∧ a.2 = b.2 ∨
    relC a b = 5 ∧ b.1 < a.2 ∧ a.1 < b.2 ∧ a.1 < b.1 ∧ b.2 < a.2 ∨
    relC a b = 6 ∧ b.1 < a.2 ∧ a.1 < b.2 ∧ a.1 = b.1 ∧ a.2 < b.2 ∨
    relC a b = 7 ∧ b.1 < a.2 ∧ a.1 < b.2 ∧ a.1 = b.1 ∧ a.2 = b.2 ∨
    relC a b = 8 ∧ b.1 < a.2 ∧ a.1 < b.2 ∧ a.1 = b.1 ∧ b.2 < a.2 ∨
    relC a b = 9 ∧ b.1 < a.2 ∧ a.1 < b.2 ∧ b.1 < a.1 ∧ a.2 < b.2 ∨
    relC a b = 10 ∧ b.1 < a.2 ∧ a.1 < b.2 ∧ b.1 < a.1 ∧ a.2 = b.2 ∨
    relC a b = 11 ∧ b.1 < a.2 ∧ a.1 < b.2 ∧ b.1 < a.1 ∧ b.2 < a.2 := by
  by_cases c1 : a.2 < b.1
  · exact .inl ⟨by unfold relC; rw [if_pos c1], by omega⟩
  · by_cases c2 : a.2 = b.1
    · exact .inr (.inl ⟨by unfold relC; rw [if_neg c1, if_pos c2], by omega⟩)
    · by_cases c3 : b.2 < a.1
      · exact .inr (.inr (.inl ⟨by unfold relC; rw [if_neg c1, if_neg c2, if_pos c3], by omega, by omega⟩))
      · by_cases c4 : b.2 = a.1
        · exact .inr (.inr (.inr (.inl ⟨by unfold relC; rw [if_neg c1, if_neg c2, if_neg c3, if_pos c4], by omega, by omega⟩)))
        · rcases Int.lt_trichotomy a.1 b.1 with d | d | d
          · rcases Int.lt_trichotomy a.2 b.2 with e | e | e
            · exact .inr (.inr (.inr (.inr (.inl ⟨by unfold relC; rw [if_neg c1, if_neg c2, if_neg c3, if_neg c4, if_pos d, if_pos e], by omega, by omega, by omega, by omega⟩))))
            · exact .inr (.inr (.inr (.inr (.inr (.inl ⟨by unfold relC; rw [if_neg c1, if_neg c2, if_neg c3, if_neg c4, if_pos d, if_neg (by omega), if_pos e], by omega, by omega, by omega, by omega⟩)))))
            · exact .inr (.inr (.inr (.inr (.inr (.inr (.inl ⟨by unfold relC; rw [if_neg c1, if_neg c2, if_neg c3, if_neg c4, if_pos d, if_neg (by omega), if_neg (by omega)], by omega, by omega, by omega, by omega⟩))))))
          · rcases Int.lt_trichotomy a.2 b.2 with e | e | e
            · exact .inr (.inr (.inr (.inr (.inr (.inr (.inr (.inl ⟨by unfold relC; rw [if_neg c1, if_neg c2, if_neg c3, if_neg c4, if_neg (by omega), if_pos d, if_pos e], by omega, by omega, by omega, by omega⟩)))))))
            · exact .inr (.inr (.inr (.inr (.inr (.inr (.inr (.inr (.inl ⟨by unfold relC; rw [if_neg c1, if_neg c2, if_neg c3, if_neg c4, if_neg (by omega), if_pos d, if_neg (by omega), if_pos e], by omega, by omega, by omega, by omega⟩))))))))
            · exact .inr (.inr (.inr (.inr (.inr (.inr (.inr (.inr (.inr (.inl ⟨by unfold relC; rw [if_neg c1, if_neg c2, if_neg c3, if_neg c4, if_neg (by omega), if_pos d, if_neg (by omega), if_neg (by omega)], by omega, by omega, by omega, by omega⟩)))))))))
          · rcases Int.lt_trichotomy a.2 b.2 with e | e | e
            · exact .inr (.inr (.inr (.inr (.inr (.inr (.inr (.inr (.inr (.inr (.inl ⟨by unfold relC; rw [if_neg c1, if_neg c2, if_neg c3, if_neg c4, if_neg (by omega), if_neg (by omega), if_pos e], by omega, by omega, by omega, by omega⟩))))))))))
            · exact .inr (.inr (.inr (.inr (.inr (.inr (.inr (.inr (.inr (.inr (.inr (.inl ⟨by unfold relC; rw [if_neg c1, if_neg c2, if_neg c3, if_neg c4, if_neg (by omega), if_neg (by omega), if_neg (by omega), if_pos e], by omega, by omega, by omega, by omega⟩)))))))))))
            · exact .inr (.inr (.inr (.inr (.inr (.inr (.inr (.inr (.inr (.inr (.inr (.inr (⟨by unfold relC; rw [if_neg c1, if_neg c2, if_neg c3, if_neg c4, if_neg (by omega), if_neg (by omega), if_neg (by omega), if_neg (by omega)], by omega, by omega, by omega, by omega⟩))))))))))))
theorem relC_turn {a b : Sp} (ha : okS a = true) (hb : okS b = true) : relC b a = 14 - relC a b := by
  rw [okS_iff] at ha hb
  have k1 := relC_cases a b
  have k2 := relC_cases b a
  omega
theorem relC_range (a b : Sp) : 1 ≤ relC a b ∧ relC a b ≤ 13 := by
  unfold relC
  repeat' split
  all_goals omega
theorem relZ_eq (a b : Sp) : relZ a b = if okS a = true ∧ okS b = true then relC a b else 0 := by
  unfold relZ
  by_cases h : okS a = true ∧ okS b = true
  · rw [if_pos h, if_pos h, dir_rel h.1 h.2, dir_rel h.2 h.1, relC_turn h.1 h.2]
    have := relC_range a b
    by_cases c : relC a b ≤ 7
    · rw [if_pos c, if_pos (by omega)]
    · rw [if_neg c, if_neg (by omega), if_pos (by omega)]; omega
  · rw [if_neg h, if_neg h]
theorem relZ_turn (a b : Sp) : relZ a b = 0 ∧ relZ b a = 0 ∨ relZ a b + relZ b a = 14 := by
  rw [relZ_eq, relZ_eq]
  by_cases h : okS a = true ∧ okS b = true
  · rw [if_pos h, if_pos ⟨h.2, h.1⟩, relC_turn h.1 h.2]; omega
  · rw [if_neg h, if_neg (fun k => h ⟨k.2, k.1⟩)]; omega
theorem rel_zero {a b : Sp} : relZ a b = 0 ↔ ¬ (okS a = true ∧ okS b = true) := by
  rw [relZ_eq]
  by_cases h : okS a = true ∧ okS b = true
  · rw [if_pos h]; have := relC_range a b; exact ⟨fun e => by omega, fun k => absurd h k⟩
  · rw [if_neg h]; exact ⟨fun _ => h, fun _ => rfl⟩
theorem rel_pos {a b : Sp} (h : relZ a b ≠ 0) : okS a = true ∧ okS b = true ∧ relZ a b = relC a b := by
  rw [relZ_eq] at *
  by_cases k : okS a = true ∧ okS b = true
  · rw [if_pos k]; exact ⟨k.1, k.2, rfl⟩
  · rw [if_neg k] at h; exact absurd rfl h
theorem rel_comp1 {a b c : Sp} (h1 : relZ a b ≠ 0) (h2 : relZ b c ≠ 0) : relZ a c ≠ 0 := by
  obtain ⟨h3, h4, _⟩ := rel_pos h1
  obtain ⟨h5, h6, _⟩ := rel_pos h2
  exact fun e => rel_zero.1 e ⟨h3, h6⟩
theorem rel_comp2 {a b c : Sp} {n : Int} (hn : n = 1 ∨ n = 4 ∨ n = 5 ∨ n = 6 ∨ n = 7) (h1 : relZ a b = n) (h2 : relZ b c = n) : relZ a c = n := by
  obtain ⟨h3, h4, e1⟩ := rel_pos (a := a) (b := b) (by omega)
  obtain ⟨h5, h6, e2⟩ := rel_pos (a := b) (b := c) (by omega)
  rw [relZ_eq, if_pos ⟨h3, h6⟩]
  have k1 := relC_cases a b
  have k2 := relC_cases b c
  have k3 := relC_cases a c
  rw [okS_iff] at h3 h4 h6
  rcases hn with rfl | rfl | rfl | rfl | rfl <;> omega
theorem rel_comp3 {a b c : Sp} (h1 : relZ a b = 1) (h2 : relZ b c = 5 ∨ relZ b c = 6 ∨ relZ b c = 8 ∨ relZ b c = 7 ∨ relZ b c = 2) : relZ a c = 1 := by
  obtain ⟨h3, h4, e1⟩ := rel_pos (a := a) (b := b) (by omega)
  obtain ⟨h5, h6, e2⟩ := rel_pos (a := b) (b := c) (by omega)
  rw [relZ_eq, if_pos ⟨h3, h6⟩]
  have k1 := relC_cases a b
  have k2 := relC_cases b c
  have k3 := relC_cases a c
  rw [okS_iff] at h3 h4 h6
  omega
theorem rel_seven {a b : Sp} (h : relZ a b = 7) : a = b := by
  obtain ⟨h3, h4, e1⟩ := rel_pos (a := a) (b := b) (by omega)
  have k1 := relC_cases a b
  exact Prod.ext (by omega) (by omega)
theorem rel_within {s t : Sp} (hs : okS s = true) (ht : okS t = true) : (relZ s t = 6 ∨ relZ s t = 7 ∨ relZ s t = 9 ∨ relZ s t = 10) ↔ inB t s = true := by
  rw [relZ_eq, if_pos ⟨hs, ht⟩]
  have k := relC_cases s t
  rw [okS_iff] at hs ht
  unfold inB
  simp only [Bool.and_eq_true, decide_eq_true_eq]
  omega
theorem rel_contain {s t : Sp} (hs : okS s = true) (ht : okS t = true) : (relZ s t = 4 ∨ relZ s t = 5 ∨ relZ s t = 7 ∨ relZ s t = 8) ↔ inB s t = true := by
  rw [relZ_eq, if_pos ⟨hs, ht⟩]
  have k := relC_cases s t
  rw [okS_iff] at hs ht
  unfold inB
  simp only [Bool.and_eq_true, decide_eq_true_eq]
  omega
theorem rel_over {s t : Sp} (hs : okS s = true) (ht : okS t = true) : (3 ≤ relZ s t ∧ relZ s t ≤ 11) ↔ ovB s t = true := by
  rw [relZ_eq, if_pos ⟨hs, ht⟩]
  have k := relC_cases s t
  rw [okS_iff] at hs ht
  unfold ovB
  simp only [Bool.and_eq_true, decide_eq_true_eq]
  omega
/-- Covering, step by step: the last span of m grows, or the next one stands behind. -/
def covStep (m : List Sp) (s : Sp) : List Sp :=
  match m.getLast? with
  | none => m ++ [s]
  | some t => if s.1 ≤ t.2 then m.set (m.length - 1) (t.1, max t.2 s.2) else m ++ [s]
def covL (l : List Sp) : List Sp := (normS l).foldl covStep []
def covF (t : Sp) : List Sp → List Sp
  | [] => [t]
  | s :: r => if s.1 ≤ t.2 then covF (t.1, max t.2 s.2) r else t :: covF s r
theorem set_last : ∀ (m : List Sp) (t u : Sp), (m ++ [t]).set ((m ++ [t]).length - 1) u = m ++ [u]
  | [], t, u => rfl
  | a :: m, t, u => by
    have := set_last m t u
    simp only [List.length_append, List.length_cons, List.length_nil, Nat.zero_add, Nat.add_sub_cancel, List.cons_append] at *
    rw [List.set_cons_succ, this]
theorem cov_fold : ∀ (r : List Sp) (m : List Sp) (t : Sp), r.foldl covStep (m ++ [t]) = m ++ covF t r
  | [], m, t => rfl
  | s :: r, m, t => by
    have e : covStep (m ++ [t]) s = if s.1 ≤ t.2 then m ++ [(t.1, max t.2 s.2)] else m ++ [t] ++ [s] := by
      unfold covStep
      rw [List.getLast?_concat]
      simp only
      rw [set_last]
    rw [List.foldl_cons, e]
    unfold covF
    by_cases c : s.1 ≤ t.2
    · rw [if_pos c, if_pos c, cov_fold r m]
    · rw [if_neg c, if_neg c, cov_fold r (m ++ [t]) s, List.append_assoc]
      rfl
theorem covL_eq (l : List Sp) : covL l = match normS l with | [] => [] | t :: r => covF t r := by
  unfold covL
  cases normS l with
  | nil => rfl
  | cons t r => exact cov_fold r [] t
theorem covStep_len (m : List Sp) (s : Sp) : (covStep m s).length ≤ m.length + 1 := by
  unfold covStep
  cases m.getLast? with
  | none => simp
  | some t =>
    simp only
    by_cases c : s.1 ≤ t.2
    · rw [if_pos c]; simp
    · rw [if_neg c]; simp
theorem covFold_len : ∀ (l m : List Sp), (l.foldl covStep m).length ≤ m.length + l.length
  | [], m => by simp
  | s :: r, m => by
    have := covFold_len r (covStep m s)
    have := covStep_len m s
    simp only [List.foldl_cons, List.length_cons]
    omega
theorem covL_len (l : List Sp) : (covL l).length ≤ l.length := by
  have := covFold_len (normS l) []
  have := normS_len l
  simp only [List.length_nil] at *
  unfold covL
  omega
/-- Every token of t is in some span of l. -/
def Full (l : List Sp) (t : Sp) : Prop := ∀ at_ : Int, t.1 ≤ at_ → at_ < t.2 → ∃ s ∈ l, s.1 ≤ at_ ∧ at_ < s.2
theorem covF_all (l : List Sp) : ∀ (r : List Sp) (t : Sp), okS t = true → Full l t → (∀ s ∈ r, s ∈ l ∧ okS s = true ∧ t.1 ≤ s.1) → r.Pairwise (fun a b => a.1 ≤ b.1) →
    (∀ c ∈ covF t r, okS c = true ∧ Full l c ∧ t.1 ≤ c.1) ∧ (covF t r).Pairwise (fun a b => a.2 < b.1) ∧ (∃ c ∈ covF t r, c.1 ≤ t.1 ∧ t.2 ≤ c.2) ∧ ∀ s ∈ r, ∃ c ∈ covF t r, c.1 ≤ s.1 ∧ s.2 ≤ c.2
  | [], t, ht, hf, _, _ => by
    unfold covF
    refine ⟨fun c hc => ?_, List.pairwise_singleton _ _, ⟨t, by simp, by omega, by omega⟩, by simp⟩
    rw [List.mem_singleton] at hc
    subst hc
    exact ⟨ht, hf, Int.le_refl _⟩
  | s :: r, t, ht, hf, hr, hp => by
    obtain ⟨p1, p2⟩ := List.pairwise_cons.1 hp
    obtain ⟨s1, s2, s3⟩ := hr s (by simp)
    have ht' := (okS_iff t).1 ht
    have hs' := (okS_iff s).1 s2
    unfold covF
    by_cases c : s.1 ≤ t.2
    · rw [if_pos c]
      obtain ⟨h1, h2, ⟨c0, h3, h4, h5⟩, h6⟩ := covF_all l r (t.1, max t.2 s.2) (by rw [okS_iff]; simp only; omega) (fun a ha hb => by
        simp only at ha hb
        by_cases k : a < t.2
        · exact hf a ha k
        · exact ⟨s, s1, by omega, by omega⟩) (fun u hu => by
        obtain ⟨u1, u2, u3⟩ := hr u (List.mem_cons_of_mem _ hu)
        exact ⟨u1, u2, u3⟩) p2
      simp only at h4 h5
      refine ⟨h1, h2, ⟨c0, h3, h4, by omega⟩, fun u hu => ?_⟩
      rcases List.mem_cons.1 hu with rfl | hu
      · exact ⟨c0, h3, by omega, by omega⟩
      · exact h6 u hu
    · rw [if_neg c]
      obtain ⟨h1, h2, ⟨c0, h3, h4, h5⟩, h6⟩ := covF_all l r s s2 (fun a ha hb => ⟨s, s1, ha, hb⟩) (fun u hu => by
        obtain ⟨u1, u2, u3⟩ := hr u (List.mem_cons_of_mem _ hu)
        exact ⟨u1, u2, p1 u hu⟩) p2
      refine ⟨fun d hd => ?_, List.pairwise_cons.2 ⟨fun d hd => ?_, h2⟩, ⟨t, by simp, by omega, by omega⟩, fun u hu => ?_⟩
      · rcases List.mem_cons.1 hd with rfl | hd
        · exact ⟨ht, hf, Int.le_refl _⟩
        · obtain ⟨k1, k2, k3⟩ := h1 d hd
          exact ⟨k1, k2, by omega⟩
      · obtain ⟨k1, k2, k3⟩ := h1 d hd
        omega
      · rcases List.mem_cons.1 hu with rfl | hu
        · exact ⟨c0, List.mem_cons_of_mem _ h3, h4, h5⟩
        · obtain ⟨d, k1, k2, k3⟩ := h6 u hu
          exact ⟨d, List.mem_cons_of_mem _ k1, k2, k3⟩
theorem cov_all {l : List Sp} (h : l.all okS = true) : (∀ c ∈ covL l, okS c = true ∧ Full l c) ∧ (covL l).Pairwise (fun a b => a.2 < b.1) ∧ ∀ s ∈ l, ∃ c ∈ covL l, c.1 ≤ s.1 ∧ s.2 ≤ c.2 := by
  have hn := all_norm h
  have hm := normS_mem l
  have hs := normS_sort l
  rw [covL_eq]
  cases e : normS l with
  | nil =>
    rw [e] at hm
    refine ⟨by simp, List.Pairwise.nil, fun s hs => ?_⟩
    have := (hm s).2 hs
    simp at this
  | cons t r =>
    rw [e] at hn hm hs
    simp only
    have hle : (t :: r).Pairwise (fun a b => a.1 ≤ b.1) := hs.imp fun h => by rw [ltb_iff] at h; omega
    obtain ⟨p1, p2⟩ := List.pairwise_cons.1 hle
    obtain ⟨h1, h2, h3, h4⟩ := covF_all l r t (hn t (by simp)) (fun a ha hb => ⟨t, (hm t).1 (by simp), ha, hb⟩) (fun u hu => ⟨(hm u).1 (List.mem_cons_of_mem _ hu), hn u (List.mem_cons_of_mem _ hu), p1 u hu⟩) p2
    refine ⟨fun c hc => ⟨(h1 c hc).1, (h1 c hc).2.1⟩, h2, fun s hs => ?_⟩
    rcases List.mem_cons.1 ((hm s).2 hs) with rfl | k
    · exact h3
    · exact h4 s k
theorem cov_chk {l : List Sp} (h : chkS l = 0) : chkS (covL l) = 0 := by
  obtain ⟨h1, h2⟩ := chk_ok h
  have := covL_len l
  unfold chkS
  rw [if_neg (by omega), if_pos (List.all_eq_true.2 fun c hc => ((cov_all h2).1 c hc).1)]
theorem cov_within {l : List Sp} (h : chkS l = 0) : withinL l (covL l) = normS l := by
  obtain ⟨_, h2⟩ := chk_ok h
  refine List.filter_eq_self.2 fun s hs => ?_
  obtain ⟨c, hc, h3, h4⟩ := (cov_all h2).2.2 s ((normS_mem l s).1 hs)
  exact List.any_eq_true.2 ⟨c, hc, by unfold inB; simp; omega⟩
/-- One round of the law: as far as some span leads. -/
def goS (l : List Sp) (a : Int) : Int := l.foldl (fun a t => if t.1 ≤ a ∧ a < t.2 then t.2 else a) a
def goN (l : List Sp) : Nat → Int → Int
  | 0, a => a
  | n + 1, a => goS l (goN l n a)
/-- Spans that end behind a place. -/
def behind (l : List Sp) (a : Int) : Nat := l.countP fun t => decide (a < t.2)
theorem goS_mono : ∀ (l : List Sp) (a : Int), a ≤ goS l a
  | [], a => Int.le_refl _
  | t :: r, a => by
    have := goS_mono r (if t.1 ≤ a ∧ a < t.2 then t.2 else a)
    show a ≤ goS r (if t.1 ≤ a ∧ a < t.2 then t.2 else a)
    by_cases c : t.1 ≤ a ∧ a < t.2
    · rw [if_pos c] at *; omega
    · rw [if_neg c] at *; omega
theorem goS_far : ∀ (l : List Sp) (a : Int) (s : Sp), s ∈ l → s.1 ≤ a → a < s.2 → a < goS l a
  | t :: r, a, s, hs, h1, h2 => by
    show a < goS r (if t.1 ≤ a ∧ a < t.2 then t.2 else a)
    by_cases c : t.1 ≤ a ∧ a < t.2
    · rw [if_pos c]
      have := goS_mono r t.2
      omega
    · rw [if_neg c]
      rcases List.mem_cons.1 hs with rfl | hs
      · exact absurd ⟨h1, h2⟩ c
      · exact goS_far r a s hs h1 h2
theorem goS_le {e : Int} : ∀ (l : List Sp) (a : Int), a ≤ e → (∀ s ∈ l, s.1 ≤ e → s.2 ≤ e) → goS l a ≤ e
  | [], a, h, _ => h
  | t :: r, a, h, hl => by
    show goS r (if t.1 ≤ a ∧ a < t.2 then t.2 else a) ≤ e
    refine goS_le r _ ?_ fun s hs => hl s (List.mem_cons_of_mem _ hs)
    by_cases c : t.1 ≤ a ∧ a < t.2
    · rw [if_pos c]; exact hl t (by simp) (by omega)
    · rw [if_neg c]; exact h
theorem behind_le {l : List Sp} {a b : Int} (h : a ≤ b) : behind l b ≤ behind l a := List.countP_mono_left fun x _ hx => by simp at *; omega
theorem behind_lt : ∀ {l : List Sp} {a b : Int} {s : Sp}, s ∈ l → a ≤ b → a < s.2 → s.2 ≤ b → behind l b < behind l a
  | t :: r, a, b, s, hs, hab, h1, h2 => by
    unfold behind
    rcases List.mem_cons.1 hs with rfl | hs
    · rw [List.countP_cons_of_neg (by simp; omega), List.countP_cons_of_pos (by simp; omega)]
      have := behind_le (l := r) hab
      unfold behind at this
      omega
    · have := behind_lt hs hab h1 h2
      unfold behind at this
      by_cases c : b < t.2
      · rw [List.countP_cons_of_pos (by simp; omega), List.countP_cons_of_pos (by simp; omega)]; omega
      · rw [List.countP_cons_of_neg (by simp; omega)]
        by_cases d : a < t.2
        · rw [List.countP_cons_of_pos (by simp; omega)]; omega
        · rw [List.countP_cons_of_neg (by simp; omega)]; omega
theorem goS_reach : ∀ (l : List Sp) (a : Int) (s : Sp), s ∈ l → s.1 ≤ a → s.2 ≤ goS l a
  | t :: r, a, s, hs, h1 => by
    show s.2 ≤ goS r (if t.1 ≤ a ∧ a < t.2 then t.2 else a)
    rcases List.mem_cons.1 hs with rfl | hs
    · by_cases c : s.1 ≤ a ∧ a < s.2
      · rw [if_pos c]; exact goS_mono r s.2
      · rw [if_neg c]; have := goS_mono r a; omega
    · refine goS_reach r _ s hs ?_
      by_cases c : t.1 ≤ a ∧ a < t.2
      · rw [if_pos c]; omega
      · rw [if_neg c]; exact h1
theorem goN_inv {l : List Sp} {c : Sp} (hf : Full l c) (hc : okS c = true) (he : ∀ s ∈ l, s.1 ≤ c.2 → s.2 ≤ c.2) : ∀ n, c.1 ≤ goN l n c.1 ∧ goN l n c.1 ≤ c.2 ∧ (goN l n c.1 = c.2 ∨ behind l (goN l n c.1) + n ≤ l.length)
  | 0 => by
    have := (okS_iff c).1 hc
    exact ⟨Int.le_refl _, by show c.1 ≤ c.2; omega, .inr (by show behind l c.1 + 0 ≤ _; exact List.countP_le_length)⟩
  | n + 1 => by
    obtain ⟨h1, h2, h3⟩ := goN_inv hf hc he n
    have hm := goS_mono l (goN l n c.1)
    have hle := goS_le l (goN l n c.1) h2 he
    refine ⟨by show c.1 ≤ goS l _; omega, hle, ?_⟩
    show goS l _ = c.2 ∨ _
    by_cases e : goN l n c.1 = c.2
    · exact .inl (by omega)
    · rcases h3 with h3 | h3
      · exact absurd h3 e
      · obtain ⟨s, hs, k1, k2⟩ := hf (goN l n c.1) h1 (by omega)
        have := behind_lt hs hm k2 (goS_reach l _ s hs k1)
        refine .inr ?_
        show behind l (goS l _) + (n + 1) ≤ _
        omega
theorem goN_end {l : List Sp} {c : Sp} (hl : l.all okS = true) (hc : c ∈ covL l) : goN l l.length c.1 = c.2 := by
  obtain ⟨h1, h2, h3⟩ := cov_all hl
  obtain ⟨k1, k2⟩ := h1 c hc
  have he : ∀ s ∈ l, s.1 ≤ c.2 → s.2 ≤ c.2 := fun s hs hle => by
    obtain ⟨d, hd, d1, d2⟩ := h3 s hs
    have hs' := (okS_iff s).1 (List.all_eq_true.1 hl s hs)
    by_cases e : c = d
    · rw [e]; exact d2
    · obtain ⟨i, hi, rfl⟩ := List.getElem_of_mem hc
      obtain ⟨j, hj, rfl⟩ := List.getElem_of_mem hd
      rcases Nat.lt_trichotomy i j with q | q | q
      · have := (List.pairwise_iff_getElem.1 h2) i j hi hj q
        omega
      · subst q; exact absurd rfl e
      · have := (List.pairwise_iff_getElem.1 h2) j i hj hi q
        have := (okS_iff _).1 k1
        omega
  obtain ⟨i1, i2, i3⟩ := goN_inv k2 k1 he l.length
  rcases i3 with i3 | i3
  · exact i3
  · have hz : behind l (goN l l.length c.1) = 0 := by omega
    by_cases e : goN l l.length c.1 = c.2
    · exact e
    · obtain ⟨s, hs, q1, q2⟩ := k2 _ i1 (by omega)
      have := List.countP_eq_zero.1 hz s hs
      simp at this
      omega
/-- A list that begins elsewhere, and ends with its first element once more. -/
def turnS (l : List Sp) (by_ : Nat) : List Sp := ((List.range l.length).map fun i => l.getD ((i + by_) % l.length) (0, 0)) ++ l.take 1
theorem turn_mem (l : List Sp) (k : Nat) (x : Sp) : x ∈ turnS l k ↔ x ∈ l := by
  unfold turnS
  rw [List.mem_append, List.mem_map]
  refine ⟨fun h => ?_, fun h => ?_⟩
  · rcases h with ⟨i, hi, rfl⟩ | h
    · have hi := List.mem_range.1 hi
      have hm : (i + k) % l.length < l.length := Nat.mod_lt _ (by omega)
      rw [List.getD_eq_getElem?_getD, List.getElem?_eq_getElem hm]
      exact List.getElem_mem hm
    · exact List.mem_of_mem_take h
  · obtain ⟨j, hj, rfl⟩ := List.getElem_of_mem h
    refine .inl ⟨(j + (l.length - k % l.length)) % l.length, List.mem_range.2 (Nat.mod_lt _ (by omega)), ?_⟩
    have e : ((j + (l.length - k % l.length)) % l.length + k) % l.length = j := by
      have hk : k % l.length < l.length := Nat.mod_lt _ (by omega)
      rw [Nat.mod_add_mod]
      have hd := Nat.div_add_mod k l.length
      have : j + (l.length - k % l.length) + k = j + l.length * (k / l.length + 1) := by
        rw [Nat.mul_add, Nat.mul_one]
        omega
      rw [this, Nat.add_mul_mod_self_left, Nat.mod_eq_of_lt hj]
    rw [e, List.getD_eq_getElem?_getD, List.getElem?_eq_getElem hj]
    rfl
theorem turn_len (l : List Sp) (k : Nat) : (turnS l k).length ≤ l.length + 1 := by
  unfold turnS
  simp
  omega
theorem turn_chk {l : List Sp} (h : l.length ≤ 60) (k : Nat) : chkS (turnS l k) = chkS l := by
  have := turn_len l k
  unfold chkS
  rw [if_neg (show ¬ 4096 < (turnS l k).length by omega), if_neg (show ¬ 4096 < l.length by omega)]
  have : (turnS l k).all okS = l.all okS := by
    rw [Bool.eq_iff_iff, List.all_eq_true, List.all_eq_true]
    exact ⟨fun h x hx => h x ((turn_mem l k x).2 hx), fun h x hx => h x ((turn_mem l k x).1 hx)⟩
  rw [this]
theorem any_turn (p : Sp → Bool) (l : List Sp) (k : Nat) : (turnS l k).any p = l.any p := by
  rw [Bool.eq_iff_iff, List.any_eq_true, List.any_eq_true]
  exact ⟨fun ⟨x, h1, h2⟩ => ⟨x, (turn_mem l k x).1 h1, h2⟩, fun ⟨x, h1, h2⟩ => ⟨x, (turn_mem l k x).2 h1, h2⟩⟩
theorem turn_norm (l : List Sp) (k : Nat) : normS (turnS l k) = normS l := normS_ext (turn_mem l k)
theorem turn_within (a b : List Sp) (k : Nat) : withinL (turnS a k) (turnS b k) = withinL a b := by
  unfold withinL
  rw [turn_norm]
  congr 1
  funext s
  exact any_turn _ b k
theorem turn_contain (a b : List Sp) (k : Nat) : containL (turnS a k) (turnS b k) = containL a b := by
  unfold containL
  rw [turn_norm]
  congr 1
  funext s
  exact any_turn _ b k
theorem norm_rep {s : Sp} {n : Nat} (h : 0 < n) : normS (List.replicate n s) = [s] :=
  sort_ext _ _ (normS_sort _) (List.pairwise_singleton _ _) fun x => by
    rw [normS_mem, List.mem_replicate, List.mem_singleton]
    exact ⟨fun h => h.2, fun e => ⟨by omega, e⟩⟩
theorem cov_rep {s : Sp} {n : Nat} (h : 0 < n) : covL (List.replicate n s) = [s] := by rw [covL_eq, norm_rep h]; rfl
end Go.Proofs.YtifdencdbpdbfaaDoor
