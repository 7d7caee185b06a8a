/-
  THE PLAIN MATHEMATICS of package lexicon, second part: the sum of counts, ranges of prefixes, orders by a key, by descending counts; common prefixes.
-/
import Derived.Test.YteennnhinfnahaaLxM
namespace Go.Proofs.Yteennnhinfnahaa
set_option linter.unusedVariables false
theorem one_sum : ∀ {ws : List Wd} {v : Wd}, Asc ws → v ∈ ws → (ws.map fun w => if v = w then 1 else 0).sum = 1
  | [], v, _, h => absurd h (List.not_mem_nil)
  | w :: ws, v, hs, h => by
    unfold Asc at hs
    rw [List.pairwise_cons] at hs
    rw [List.map_cons, List.sum_cons]
    by_cases e : v = w
    · subst e
      have h0 : (ws.map fun w => if v = w then 1 else 0).sum = 0 := by
        have hz : ∀ l : List Wd, (∀ x ∈ l, v < x) → (l.map fun w => if v = w then 1 else 0).sum = 0 := by
          intro l
          induction l with
          | nil => intro _; rfl
          | cons x l ih =>
            intro hl
            rw [List.map_cons, List.sum_cons, ih fun y hy => hl y (List.mem_cons_of_mem _ hy), if_neg fun e => wd_irr x (by have := hl x (List.mem_cons_self ..); rwa [e] at this)]
        exact hz ws hs.1
      rw [h0, if_pos rfl]
    · rw [if_neg e, one_sum hs.2 ((List.mem_cons.1 h).resolve_left e)]
theorem cnt_sum {ws : List Wd} (hs : Asc ws) : ∀ vs : List Wd, (∀ x ∈ vs, x ∈ ws) → (cntW vs ws).sum = vs.length
  | [], _ => by
    unfold cntW
    induction ws with
    | nil => rfl
    | cons w ws ih =>
      unfold Asc at hs
      rw [List.pairwise_cons] at hs
      rw [List.map_cons, List.sum_cons, ih hs.2 fun x hx => by simp at hx]
      rfl
  | v :: vs, h => by
    have ih := cnt_sum hs vs fun x hx => h x (List.mem_cons_of_mem _ hx)
    have h1 := one_sum hs (h v (List.mem_cons_self ..))
    have hadd : ∀ l : List Wd, (l.map fun w => (v :: vs).count w).sum = (l.map fun w => vs.count w).sum + (l.map fun w => if v = w then 1 else 0).sum := by
      intro l
      induction l with
      | nil => rfl
      | cons x l ih =>
        rw [List.map_cons, List.map_cons, List.map_cons, List.sum_cons, List.sum_cons, List.sum_cons, ih, List.count_cons]
        by_cases e : v = x
        · simp [e]; omega
        · simp [e]; omega
    unfold cntW at ih ⊢
    rw [hadd, ih, h1, List.length_cons]
theorem lex_sum (vs : List Wd) : (cntW vs (lexW vs)).sum = vs.length := cnt_sum (lex_asc vs) vs fun x hx => (lex_mem vs x).2 hx

/-- PREFIXES -/
theorem pre_ge : ∀ {p w : Wd}, p <+: w → ¬ w < p
  | [], w, _ => List.not_lt_nil w
  | a :: p, w, h => by
    obtain ⟨t, rfl⟩ := h
    intro hlt
    rw [List.cons_append, List.cons_lt_cons_iff] at hlt
    rcases hlt with hlt | ⟨_, hlt⟩
    · exact absurd hlt (by simp)
    · exact pre_ge (List.prefix_append p t) hlt
theorem pre_mid : ∀ {p a b : Wd}, ¬ a < p → a < b → p <+: b → p <+: a
  | [], a, b, _, _, _ => List.nil_prefix
  | x :: p, [], b, h, _, _ => absurd (List.nil_lt_cons x p) h
  | x :: p, y :: a, b, h1, h2, h3 => by
    obtain ⟨t, rfl⟩ := h3
    rw [List.cons_append, List.cons_lt_cons_iff] at h2
    rw [List.cons_lt_cons_iff] at h1
    rcases h2 with h2 | ⟨rfl, h2⟩
    · exact absurd (.inl h2) h1
    · have := pre_mid (fun h => h1 (.inr ⟨rfl, h⟩)) h2 (List.prefix_append p t)
      exact (List.prefix_cons_inj y).2 this
/-- Does a word begin with p? -/
def hasP (p w : Wd) : Bool := p.isPrefixOf w
theorem hasP_iff {p w : Wd} : hasP p w = true ↔ p <+: w := List.isPrefixOf_iff_prefix
/-- How many words, from the prefix's place on, begin with it. -/
def manyP (ws : List Wd) (p : Wd) : Nat := ((ws.drop (fnd ws p)).takeWhile (hasP p)).length
theorem many_le (ws : List Wd) (p : Wd) : fnd ws p + manyP ws p ≤ ws.length := by
  have := (List.takeWhile_sublist (l := ws.drop (fnd ws p)) (hasP p)).length_le
  rw [List.length_drop] at this
  have h := fnd_le ws p
  unfold manyP
  omega
theorem tw_low {α : Type} {q : α → Bool} : ∀ (l : List α) (i : Nat) (a : α), i < (l.takeWhile q).length → l[i]? = some a → q a = true
  | [], i, a, h, _ => by simp at h
  | x :: l, i, a, h, ha => by
    rw [List.takeWhile_cons] at h
    by_cases hx : q x = true
    · rw [if_pos hx, List.length_cons] at h
      cases i with
      | zero => rw [List.getElem?_cons_zero, Option.some.injEq] at ha; rw [← ha]; exact hx
      | succ i => rw [List.getElem?_cons_succ] at ha; exact tw_low l i a (by omega) ha
    · rw [if_neg hx] at h
      simp at h
theorem tw_stop {α : Type} {q : α → Bool} : ∀ (l : List α) (a : α), l[(l.takeWhile q).length]? = some a → q a = false
  | [], a, h => by simp at h
  | x :: l, a, h => by
    rw [List.takeWhile_cons] at h
    by_cases hx : q x = true
    · rw [if_pos hx, List.length_cons, List.getElem?_cons_succ] at h
      exact tw_stop l a h
    · rw [if_neg hx, List.length_nil, List.getElem?_cons_zero, Option.some.injEq] at h
      rw [← h]
      simpa using hx
theorem tw_eq {α : Type} {q : α → Bool} {l : List α} {k : Nat} (hk : k ≤ l.length) (h1 : ∀ i a, i < k → l[i]? = some a → q a = true) (h2 : ∀ a, l[k]? = some a → q a = false) : (l.takeWhile q).length = k := by
  have hle : (l.takeWhile q).length ≤ l.length := (List.takeWhile_sublist _).length_le
  rcases Nat.lt_trichotomy (l.takeWhile q).length k with h | h | h
  · have hb := List.getElem?_eq_getElem (l := l) (i := (l.takeWhile q).length) (by omega)
    have e1 := h1 _ _ h hb
    rw [tw_stop l _ hb] at e1
    cases e1
  · exact h
  · have hb := List.getElem?_eq_getElem (l := l) (i := k) (by omega)
    have e1 := tw_low l k _ h hb
    rw [h2 _ hb] at e1
    cases e1
/-- The words that begin with p are those of one range. -/
theorem pre_range {ws : List Wd} (hs : Asc ws) (p : Wd) {i : Nat} {a : Wd} (ha : ws[i]? = some a) : p <+: a ↔ fnd ws p ≤ i ∧ i < fnd ws p + manyP ws p := by
  have hil := (List.getElem?_eq_some_iff.1 ha).1
  constructor
  · intro h
    have h1 : fnd ws p ≤ i := by
      rcases Nat.lt_or_ge i (fnd ws p) with hlt | hge
      · exact absurd (fnd_low ws p i a hlt ha) (pre_ge h)
      · exact hge
    refine ⟨h1, ?_⟩
    rcases Nat.lt_or_ge i (fnd ws p + manyP ws p) with hlt | hge
    · exact hlt
    · exfalso
      obtain ⟨b, hb⟩ : ∃ b, ws[fnd ws p + manyP ws p]? = some b := ⟨_, List.getElem?_eq_getElem (by omega)⟩
      have hnb : hasP p b = false := tw_stop (ws.drop (fnd ws p)) b (by rw [List.getElem?_drop]; exact hb)
      have hpb : p <+: b := by
        rcases Nat.eq_or_lt_of_le hge with e | hlt
        · rw [e, ha, Option.some.injEq] at hb
          rw [← hb]; exact h
        · exact pre_mid (fnd_high hs (Nat.le_add_right _ _) hb) (asc_lt hs hlt hb ha) h
      rw [hasP_iff.2 hpb] at hnb
      cases hnb
  · rintro ⟨h1, h2⟩
    have := tw_low (q := hasP p) (ws.drop (fnd ws p)) (i - fnd ws p) a (by unfold manyP at h2; omega) (by rw [List.getElem?_drop, Nat.add_sub_cancel' h1]; exact ha)
    exact hasP_iff.1 this
/-- What Prefix answers. -/
def preP (ws : List Wd) (p : Wd) : Nat × Nat := if manyP ws p = 0 then (0, 0) else (fnd ws p, fnd ws p + manyP ws p)

/-- What a loop over the words has of it, i of them seen. -/
def preSt (ws : List Wd) (p : Wd) (i : Nat) : Nat × Nat := if i ≤ fnd ws p ∨ manyP ws p = 0 then (0, 0) else (fnd ws p, min i (fnd ws p + manyP ws p))
theorem preSt_zero (ws : List Wd) (p : Wd) : preSt ws p 0 = (0, 0) := by unfold preSt; rw [if_pos (.inl (Nat.zero_le _))]
theorem preSt_end (ws : List Wd) (p : Wd) : preSt ws p ws.length = preP ws p := by
  have h := many_le ws p
  unfold preSt preP
  by_cases h0 : manyP ws p = 0
  · rw [if_pos (.inr h0), if_pos h0]
  · rw [if_neg (by omega), if_neg h0, Nat.min_eq_right h]
theorem preSt_step {ws : List Wd} (hs : Asc ws) (p : Wd) {i : Nat} {a : Wd} (ha : ws[i]? = some a) :
    preSt ws p (i + 1) = if p <+: a then (if (preSt ws p i).2 = 0 then i else (preSt ws p i).1, i + 1) else preSt ws p i := by
  have hr := pre_range hs p ha
  by_cases hp : p <+: a
  · obtain ⟨h1, h2⟩ := hr.1 hp
    have e1 : preSt ws p (i + 1) = (fnd ws p, i + 1) := by
      unfold preSt
      rw [if_neg (by omega), Nat.min_eq_left (by omega)]
    rw [if_pos hp, e1]
    by_cases hi : i ≤ fnd ws p
    · have e2 : preSt ws p i = (0, 0) := by unfold preSt; rw [if_pos (.inl hi)]
      rw [e2, if_pos rfl, show fnd ws p = i by omega]
    · have e2 : preSt ws p i = (fnd ws p, i) := by
        unfold preSt
        rw [if_neg (by omega), Nat.min_eq_left (by omega)]
      have h0 : ¬ i = 0 := by omega
      rw [e2]
      simp only
      rw [if_neg h0]
  · rw [if_neg hp]
    have hn : ¬ (fnd ws p ≤ i ∧ i < fnd ws p + manyP ws p) := fun h => hp (hr.2 h)
    unfold preSt
    by_cases hi : i + 1 ≤ fnd ws p ∨ manyP ws p = 0
    · rw [if_pos hi, if_pos (by omega)]
    · rw [if_neg hi, if_neg (by omega), Nat.min_eq_right (by omega), Nat.min_eq_right (by omega)]
/-- ORDERS BY A KEY: a number put in front of those with a key that is not less. -/
def insK (key : Nat → Wd) (l : List Nat) (i : Nat) : List Nat :=
  l.take (l.takeWhile fun j => decide (key j < key i)).length ++ i :: l.drop (l.takeWhile fun j => decide (key j < key i)).length
theorem insK_map (key : Nat → Wd) (l : List Nat) (i : Nat) : (insK key l i).map key = putW (l.map key) (key i) := by
  have h : fnd (l.map key) (key i) = (l.takeWhile fun j => decide (key j < key i)).length := by
    unfold fnd
    rw [List.takeWhile_map, List.length_map]
    rfl
  unfold insK putW
  rw [h, List.map_append, List.map_cons, List.map_take, List.map_drop]
theorem insK_mem (key : Nat → Wd) (l : List Nat) (i x : Nat) : x ∈ insK key l i ↔ x ∈ l ∨ x = i := by
  unfold insK
  generalize (l.takeWhile fun j => decide (key j < key i)).length = k
  rw [List.mem_append, List.mem_cons]
  constructor
  · rintro (h | h | h)
    · exact .inl (List.mem_of_mem_take h)
    · exact .inr h
    · exact .inl (List.mem_of_mem_drop h)
  · rintro (h | h)
    · rw [← List.take_append_drop k l] at h
      rcases List.mem_append.1 h with h | h
      · exact .inl h
      · exact .inr (.inr h)
    · exact .inr (.inl h)
/-- The numbers below n in the order of their keys. -/
def ordK (key : Nat → Wd) (n : Nat) : List Nat := (List.range n).foldl (insK key) []
theorem ordK_succ (key : Nat → Wd) (n : Nat) : ordK key (n + 1) = insK key (ordK key n) n := by
  unfold ordK
  rw [List.range_succ, List.foldl_append]
  rfl
theorem ordK_mem (key : Nat → Wd) : ∀ (n x : Nat), x ∈ ordK key n ↔ x < n
  | 0, x => by simp [ordK]
  | n + 1, x => by rw [ordK_succ, insK_mem, ordK_mem key n x]; omega
theorem ordK_asc (key : Nat → Wd) : ∀ (n : Nat), (∀ i j, i < n → j < n → key i = key j → i = j) → Asc ((ordK key n).map key)
  | 0, _ => List.Pairwise.nil
  | n + 1, h => by
    rw [ordK_succ, insK_map]
    refine put_asc (ordK_asc key n fun i j hi hj => h i j (by omega) (by omega)) fun hm => ?_
    obtain ⟨j, hj, he⟩ := List.mem_map.1 hm
    rw [ordK_mem] at hj
    have := h j n (by omega) (by omega) he
    omega
theorem ordK_unique (key : Nat → Wd) {n : Nat} {l : List Nat} (hinj : ∀ i j, i < n → j < n → key i = key j → i = j) (hl : Asc (l.map key)) (hm : ∀ x, x ∈ l ↔ x < n) : l = ordK key n := by
  have hp : ∀ {m : List Nat}, Asc (m.map key) → m.Pairwise fun a b => key a < key b := fun h => List.pairwise_map.1 h
  exact pw_unique (r := fun a b => key a < key b) (fun a => wd_irr _) (fun a b => wd_as) (hp hl) (hp (ordK_asc key n hinj)) fun x => (hm x).trans (ordK_mem key n x).symm

/-- ORDER BY DESCENDING COUNTS, equal counts by ascending numbers. -/
def Dsc (c : Nat → Nat) (a b : Nat) : Prop := c b < c a ∨ (c a = c b ∧ a < b)
theorem dsc_irr (c : Nat → Nat) (a : Nat) : ¬ Dsc c a a := by unfold Dsc; omega
theorem dsc_asy (c : Nat → Nat) (a b : Nat) (h : Dsc c a b) : ¬ Dsc c b a := by unfold Dsc at h ⊢; omega
theorem dsc_tr (c : Nat → Nat) {a b d : Nat} (h : Dsc c a b) (k : Dsc c b d) : Dsc c a d := by unfold Dsc at h k ⊢; omega
/-- How many at the end have a lesser count. -/
def lastC (c : Nat → Nat) (l : List Nat) (i : Nat) : Nat := (l.reverse.takeWhile fun j => decide (c j < c i)).length
def insC (c : Nat → Nat) (l : List Nat) (i : Nat) : List Nat := l.take (l.length - lastC c l i) ++ i :: l.drop (l.length - lastC c l i)
theorem insC_mem (c : Nat → Nat) (l : List Nat) (i x : Nat) : x ∈ insC c l i ↔ x ∈ l ∨ x = i := by
  unfold insC
  generalize l.length - lastC c l i = k
  rw [List.mem_append, List.mem_cons]
  constructor
  · rintro (h | h | h)
    · exact .inl (List.mem_of_mem_take h)
    · exact .inr h
    · exact .inl (List.mem_of_mem_drop h)
  · rintro (h | h)
    · rw [← List.take_append_drop k l] at h
      rcases List.mem_append.1 h with h | h
      · exact .inl h
      · exact .inr (.inr h)
    · exact .inr (.inl h)
theorem lastC_le (c : Nat → Nat) (l : List Nat) (i : Nat) : lastC c l i ≤ l.length := by
  have := (List.takeWhile_sublist (l := l.reverse) fun j => decide (c j < c i)).length_le
  rw [List.length_reverse] at this
  exact this
theorem lastC_hi {c : Nat → Nat} {l : List Nat} {i j a : Nat} (hj : l.length - lastC c l i ≤ j) (ha : l[j]? = some a) : c a < c i := by
  have hl := (List.getElem?_eq_some_iff.1 ha).1
  have := tw_low (q := fun j => decide (c j < c i)) l.reverse (l.length - 1 - j) a (by have := lastC_le c l i; unfold lastC at hj; unfold lastC at this; omega) (by rw [List.getElem?_reverse (by omega), show l.length - 1 - (l.length - 1 - j) = j by omega]; exact ha)
  simpa using this
theorem lastC_stop {c : Nat → Nat} {l : List Nat} {i a : Nat} (hk : lastC c l i < l.length) (ha : l[l.length - lastC c l i - 1]? = some a) : ¬ c a < c i := by
  have := tw_stop (q := fun j => decide (c j < c i)) l.reverse a (by
    have e : l.length - 1 - (l.reverse.takeWhile fun j => decide (c j < c i)).length = l.length - lastC c l i - 1 := by unfold lastC; omega
    rw [List.getElem?_reverse (by unfold lastC at hk; exact hk), e]
    exact ha)
  simpa using this
theorem insC_dsc {c : Nat → Nat} {l : List Nat} {i : Nat} (hl : l.Pairwise (Dsc c)) (hi : ∀ x ∈ l, x < i) : (insC c l i).Pairwise (Dsc c) := by
  have hle := lastC_le c l i
  have hlo : ∀ a ∈ l.take (l.length - lastC c l i), Dsc c a i := fun a ha => by
    obtain ⟨j, hj⟩ := List.getElem?_of_mem ha
    have hjl := (List.getElem?_eq_some_iff.1 hj).1
    rw [List.length_take] at hjl
    rw [List.getElem?_take_of_lt (by omega)] at hj
    have hai := hi a (List.mem_of_getElem? hj)
    obtain ⟨b, hb⟩ : ∃ b, l[l.length - lastC c l i - 1]? = some b := ⟨_, List.getElem?_eq_getElem (by omega)⟩
    have hcb := lastC_stop (by omega) hb
    have hab : c b ≤ c a := by
      rcases Nat.lt_or_ge j (l.length - lastC c l i - 1) with h | h
      · obtain ⟨h1, rfl⟩ := List.getElem?_eq_some_iff.1 hj
        obtain ⟨h2, rfl⟩ := List.getElem?_eq_some_iff.1 hb
        have := List.pairwise_iff_getElem.1 hl j _ h1 h2 h
        unfold Dsc at this
        omega
      · have : j = l.length - lastC c l i - 1 := by omega
        rw [this, hb, Option.some.injEq] at hj
        rw [hj]
        exact Nat.le_refl _
    unfold Dsc
    omega
  have hhi : ∀ a ∈ l.drop (l.length - lastC c l i), Dsc c i a := fun a ha => by
    obtain ⟨j, hj⟩ := List.getElem?_of_mem ha
    rw [List.getElem?_drop] at hj
    exact .inl (lastC_hi (Nat.le_add_right _ _) hj)
  unfold insC
  rw [List.pairwise_append]
  refine ⟨hl.sublist (List.take_sublist _ _), ?_, fun a ha b hb => ?_⟩
  · rw [List.pairwise_cons]
    exact ⟨hhi, hl.sublist (List.drop_sublist _ _)⟩
  · rcases List.mem_cons.1 hb with rfl | hb
    · exact hlo a ha
    · exact dsc_tr c (hlo a ha) (hhi b hb)
def ordC (c : Nat → Nat) (n : Nat) : List Nat := (List.range n).foldl (insC c) []
theorem ordC_succ (c : Nat → Nat) (n : Nat) : ordC c (n + 1) = insC c (ordC c n) n := by
  unfold ordC
  rw [List.range_succ, List.foldl_append]
  rfl
theorem ordC_mem (c : Nat → Nat) : ∀ (n x : Nat), x ∈ ordC c n ↔ x < n
  | 0, x => by simp [ordC]
  | n + 1, x => by rw [ordC_succ, insC_mem, ordC_mem c n x]; omega
theorem ordC_dsc (c : Nat → Nat) : ∀ n : Nat, (ordC c n).Pairwise (Dsc c)
  | 0 => List.Pairwise.nil
  | n + 1 => by
    rw [ordC_succ]
    exact insC_dsc (ordC_dsc c n) fun x hx => (ordC_mem c n x).1 hx
theorem ordC_unique (c : Nat → Nat) {n : Nat} {l : List Nat} (hl : l.Pairwise (Dsc c)) (hm : ∀ x, x ∈ l ↔ x < n) : l = ordC c n :=
  pw_unique (dsc_irr c) (dsc_asy c) hl (ordC_dsc c n) fun x => (hm x).trans (ordC_mem c n x).symm

/-- COMMON PREFIXES -/
def comN : Wd → Wd → Nat
  | a :: x, b :: y => if a = b then comN x y + 1 else 0
  | _, _ => 0
theorem comN_le : ∀ x y : Wd, comN x y ≤ x.length ∧ comN x y ≤ y.length
  | [], y => by simp [comN]
  | a :: x, [] => by simp [comN]
  | a :: x, b :: y => by
    have := comN_le x y
    simp only [comN, List.length_cons]
    split <;> omega
theorem comN_take : ∀ x y : Wd, x.take (comN x y) = y.take (comN x y)
  | [], y => by simp [comN]
  | a :: x, [] => by simp [comN]
  | a :: x, b :: y => by
    simp only [comN]
    by_cases h : a = b
    · subst h
      rw [if_pos rfl, List.take_succ_cons, List.take_succ_cons, comN_take x y]
    · rw [if_neg h]; rfl
theorem comN_split (x y : Wd) : y = x.take (comN x y) ++ y.drop (comN x y) := by rw [comN_take, List.take_append_drop]
end Go.Proofs.Yteennnhinfnahaa
