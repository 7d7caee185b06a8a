/-
  THE PLAIN MATHEMATICS of package lexicon, of no program: ascending words, their places, counts, numbers; orders by a key; ranges of prefixes.
  THE PLAIN MATHEMATICS of package lexicon, second part: the sum of counts, ranges of prefixes, orders by a key, by descending counts; common prefixes.
  WALKS over package lexicon, orders: numbersBy; comparisons by strings and by counts.
-/
import Derived.Test.YteennnhinfnahaaProg
import Derived.Test.YteennnhinfnahaaTzE
import Derived.Test.YteennnhinfnahaaDaRq
import Derived.Sort.Walk0
namespace Go.Proofs.Yteennnhinfnahaa
set_option linter.unusedVariables false
/-- A word: its bytes. -/
abbrev Wd := List UInt8
theorem wd_irr (a : Wd) : ¬ a < a := List.lt_irrefl a
theorem wd_tr {a b c : Wd} (h : a < b) (k : b < c) : a < c := List.lt_trans h k
theorem wd_as {a b : Wd} (h : a < b) : ¬ b < a := fun k => wd_irr a (wd_tr h k)
theorem wd_tri (a b : Wd) : a < b ∨ a = b ∨ b < a := by
  by_cases h1 : a < b
  · exact .inl h1
  · by_cases h2 : b < a
    · exact .inr (.inr h2)
    · exact .inr (.inl (List.le_antisymm (List.not_lt.1 h2) (List.not_lt.1 h1)))
/-- Two lists in strict order with the same members are one list. -/
theorem pw_unique {α : Type} {r : α → α → Prop} (irr : ∀ a, ¬ r a a) (asy : ∀ a b, r a b → ¬ r b a) : ∀ {l m : List α}, l.Pairwise r → m.Pairwise r → (∀ x, x ∈ l ↔ x ∈ m) → l = m
  | [], [], _, _, _ => rfl
  | [], b :: m, _, _, h => absurd ((h b).2 (List.mem_cons_self ..)) (List.not_mem_nil)
  | a :: l, [], _, _, h => absurd ((h a).1 (List.mem_cons_self ..)) (List.not_mem_nil)
  | a :: l, b :: m, hl, hm, h => by
    rw [List.pairwise_cons] at hl hm
    have hab : a = b := by
      rcases List.mem_cons.1 ((h a).1 (List.mem_cons_self ..)) with e | ha
      · exact e
      · rcases List.mem_cons.1 ((h b).2 (List.mem_cons_self ..)) with e | hb
        · exact e.symm
        · exact absurd (hl.1 b hb) (asy _ _ (hm.1 a ha))
    subst hab
    rw [pw_unique irr asy hl.2 hm.2 fun x => ⟨fun hx => ?_, fun hx => ?_⟩]
    · rcases List.mem_cons.1 ((h x).1 (List.mem_cons_of_mem _ hx)) with rfl | hx2
      · exact absurd (hl.1 _ hx) (irr _)
      · exact hx2
    · rcases List.mem_cons.1 ((h x).2 (List.mem_cons_of_mem _ hx)) with rfl | hx2
      · exact absurd (hm.1 _ hx) (irr _)
      · exact hx2
/-- Ascending: each word is less than those behind it. -/
def Asc (ws : List Wd) : Prop := ws.Pairwise (· < ·)
theorem asc_unique {l m : List Wd} (hl : Asc l) (hm : Asc m) (h : ∀ x, x ∈ l ↔ x ∈ m) : l = m := pw_unique wd_irr (fun _ _ => wd_as) hl hm h
theorem asc_lt {ws : List Wd} (h : Asc ws) {i j : Nat} {a b : Wd} (hij : i < j) (ha : ws[i]? = some a) (hb : ws[j]? = some b) : a < b := by
  obtain ⟨hi, rfl⟩ := List.getElem?_eq_some_iff.1 ha
  obtain ⟨hj, rfl⟩ := List.getElem?_eq_some_iff.1 hb
  exact List.pairwise_iff_getElem.1 h i j hi hj hij
theorem asc_inj {ws : List Wd} (h : Asc ws) {i j : Nat} {a : Wd} (ha : ws[i]? = some a) (hb : ws[j]? = some a) : i = j := by
  rcases Nat.lt_trichotomy i j with hij | hij | hij
  · exact absurd (asc_lt h hij ha hb) (wd_irr a)
  · exact hij
  · exact absurd (asc_lt h hij hb ha) (wd_irr a)
/-- The place of a word: how many words in front are less. -/
def fnd (ws : List Wd) (v : Wd) : Nat := (ws.takeWhile fun w => decide (w < v)).length
theorem fnd_le (ws : List Wd) (v : Wd) : fnd ws v ≤ ws.length := (List.takeWhile_sublist _).length_le
theorem fnd_low : ∀ (ws : List Wd) (v : Wd) (i : Nat) (a : Wd), i < fnd ws v → ws[i]? = some a → a < v
  | [], v, i, a, h, _ => by simp [fnd] at h
  | w :: ws, v, i, a, h, ha => by
    unfold fnd at h
    rw [List.takeWhile_cons] at h
    by_cases hw : w < v
    · rw [if_pos (decide_eq_true hw), List.length_cons] at h
      cases i with
      | zero => rw [List.getElem?_cons_zero, Option.some.injEq] at ha; rw [← ha]; exact hw
      | succ i => rw [List.getElem?_cons_succ] at ha; exact fnd_low ws v i a (by unfold fnd; omega) ha
    · rw [if_neg (by simpa using hw)] at h
      simp at h
theorem fnd_stop : ∀ (ws : List Wd) (v : Wd) (a : Wd), ws[fnd ws v]? = some a → ¬ a < v
  | [], v, a, h => by simp [fnd] at h
  | w :: ws, v, a, h => by
    unfold fnd at h
    rw [List.takeWhile_cons] at h
    by_cases hw : w < v
    · rw [if_pos (decide_eq_true hw), List.length_cons, List.getElem?_cons_succ] at h
      exact fnd_stop ws v a h
    · rw [if_neg (by simpa using hw)] at h
      rw [List.length_nil, List.getElem?_cons_zero, Option.some.injEq] at h
      rw [← h]; exact hw
theorem fnd_high {ws : List Wd} (hs : Asc ws) {v : Wd} {i : Nat} {a : Wd} (hi : fnd ws v ≤ i) (ha : ws[i]? = some a) : ¬ a < v := by
  rcases Nat.eq_or_lt_of_le hi with e | hlt
  · rw [← e] at ha
    exact fnd_stop ws v a ha
  · have hl := (List.getElem?_eq_some_iff.1 ha).1
    have hb := List.getElem?_eq_getElem (l := ws) (i := fnd ws v) (by omega)
    exact fun h => fnd_stop ws v _ hb (wd_tr (asc_lt hs hlt hb ha) h)
/-- A place that parts the lesser words from the others is the place. -/
theorem fnd_eq {ws : List Wd} {v : Wd} {k : Nat} (hk : k ≤ ws.length) (h1 : ∀ i a, i < k → ws[i]? = some a → a < v) (h2 : ∀ a, ws[k]? = some a → ¬ a < v) : fnd ws v = k := by
  rcases Nat.lt_trichotomy (fnd ws v) k with h | h | h
  · have hb := List.getElem?_eq_getElem (l := ws) (i := fnd ws v) (by omega)
    exact absurd (h1 _ _ h hb) (fnd_stop ws v _ hb)
  · exact h
  · have hl := fnd_le ws v
    have hb := List.getElem?_eq_getElem (l := ws) (i := k) (by omega)
    exact absurd (fnd_low ws v k _ h hb) (h2 _ hb)
theorem fnd_at {ws : List Wd} (hs : Asc ws) {v : Wd} {k : Nat} (h : ws[k]? = some v) : fnd ws v = k :=
  fnd_eq (Nat.le_of_lt (List.getElem?_eq_some_iff.1 h).1) (fun i a hi ha => asc_lt hs hi ha h) (fun a ha => by rw [h, Option.some.injEq] at ha; rw [← ha]; exact wd_irr v)
theorem fnd_mem {ws : List Wd} (hs : Asc ws) {v : Wd} : v ∈ ws ↔ ws[fnd ws v]? = some v := by
  constructor
  · intro h
    obtain ⟨k, hk⟩ := List.getElem?_of_mem h
    rw [fnd_at hs hk]
    exact hk
  · exact fun h => List.mem_of_getElem? h
/-- A word put at its place. -/
def putW (ws : List Wd) (v : Wd) : List Wd := ws.take (fnd ws v) ++ v :: ws.drop (fnd ws v)
theorem put_mem (ws : List Wd) (v x : Wd) : x ∈ putW ws v ↔ x ∈ ws ∨ x = v := by
  unfold putW
  rw [List.mem_append, List.mem_cons]
  constructor
  · rintro (h | h | h)
    · exact .inl (List.mem_of_mem_take h)
    · exact .inr h
    · exact .inl (List.mem_of_mem_drop h)
  · rintro (h | h)
    · rw [← List.take_append_drop (fnd ws v) ws] at h
      rcases List.mem_append.1 h with h | h
      · exact .inl h
      · exact .inr (.inr h)
    · exact .inr (.inl h)
theorem put_asc {ws : List Wd} (hs : Asc ws) {v : Wd} (hv : v ∉ ws) : Asc (putW ws v) := by
  have hlo : ∀ a ∈ ws.take (fnd ws v), a < v := fun a ha => by
    obtain ⟨i, hi⟩ := List.getElem?_of_mem ha
    have hil := (List.getElem?_eq_some_iff.1 hi).1
    rw [List.length_take] at hil
    rw [List.getElem?_take_of_lt (by omega)] at hi
    exact fnd_low ws v i a (by omega) hi
  have hhi : ∀ a ∈ ws.drop (fnd ws v), v < a := fun a ha => by
    obtain ⟨i, hi⟩ := List.getElem?_of_mem ha
    rw [List.getElem?_drop] at hi
    rcases wd_tri v a with h | h | h
    · exact h
    · exact absurd (h ▸ List.mem_of_getElem? hi) hv
    · exact absurd h (fnd_high hs (Nat.le_add_right _ _) hi)
  unfold Asc putW
  rw [List.pairwise_append]
  refine ⟨hs.sublist (List.take_sublist _ _), ?_, fun a ha b hb => ?_⟩
  · rw [List.pairwise_cons]
    exact ⟨hhi, hs.sublist (List.drop_sublist _ _)⟩
  · rcases List.mem_cons.1 hb with rfl | hb
    · exact hlo a ha
    · exact wd_tr (hlo a ha) (hhi b hb)
/-- The words of a list of values. -/
def addW (ws : List Wd) (v : Wd) : List Wd := if v ∈ ws then ws else putW ws v
def lexW (vs : List Wd) : List Wd := vs.foldl addW []
theorem lexW_snoc (vs : List Wd) (v : Wd) : lexW (vs ++ [v]) = addW (lexW vs) v := by unfold lexW; rw [List.foldl_append]; rfl
theorem add_asc {ws : List Wd} (hs : Asc ws) (v : Wd) : Asc (addW ws v) := by
  unfold addW
  by_cases h : v ∈ ws
  · rw [if_pos h]; exact hs
  · rw [if_neg h]; exact put_asc hs h
theorem add_mem (ws : List Wd) (v x : Wd) : x ∈ addW ws v ↔ x ∈ ws ∨ x = v := by
  unfold addW
  by_cases h : v ∈ ws
  · rw [if_pos h]
    exact ⟨.inl, fun k => k.elim id fun e => e ▸ h⟩
  · rw [if_neg h]; exact put_mem ws v x
theorem fold_asc : ∀ (vs ws : List Wd), Asc ws → Asc (vs.foldl addW ws)
  | [], _, h => h
  | v :: vs, ws, h => fold_asc vs (addW ws v) (add_asc h v)
theorem fold_mem : ∀ (vs ws : List Wd) (x : Wd), x ∈ vs.foldl addW ws ↔ x ∈ ws ∨ x ∈ vs
  | [], ws, x => by simp
  | v :: vs, ws, x => by
    rw [List.foldl_cons, fold_mem vs (addW ws v) x, add_mem, List.mem_cons, or_assoc]
theorem lex_asc (vs : List Wd) : Asc (lexW vs) := fold_asc vs [] List.Pairwise.nil
theorem lex_mem (vs : List Wd) (x : Wd) : x ∈ lexW vs ↔ x ∈ vs := by unfold lexW; rw [fold_mem]; simp
/-- Whatever ascends and has the same members is the list of the words. -/
theorem lex_unique {vs ws : List Wd} (h : Asc ws) (hm : ∀ x, x ∈ ws ↔ x ∈ vs) : ws = lexW vs := asc_unique h (lex_asc vs) fun x => (hm x).trans (lex_mem vs x).symm
theorem lex_len (vs : List Wd) : (lexW vs).length ≤ vs.length := by
  have : ∀ (vs ws : List Wd), (vs.foldl addW ws).length ≤ ws.length + vs.length := by
    intro vs
    induction vs with
    | nil => intro ws; simp
    | cons v vs ih =>
      intro ws
      have h1 := ih (addW ws v)
      have h2 : (addW ws v).length ≤ ws.length + 1 := by
        unfold addW
        split
        · omega
        · unfold putW
          rw [List.length_append, List.length_cons, List.length_take, List.length_drop]
          have := fnd_le ws v
          omega
      rw [List.foldl_cons, List.length_cons]
      omega
  have := this vs []
  simpa [lexW] using this
/-- The counts of words, the numbers of values. -/
def cntW (vs ws : List Wd) : List Nat := ws.map fun w => vs.count w
def numW (vs : List Wd) : List Nat := vs.map (fnd (lexW vs))
theorem num_at {vs : List Wd} {i : Nat} {v : Wd} (h : vs[i]? = some v) : (numW vs)[i]? = some (fnd (lexW vs) v) ∧ (lexW vs)[fnd (lexW vs) v]? = some v :=
  ⟨by unfold numW; rw [List.getElem?_map, h]; rfl, (fnd_mem (lex_asc vs)).1 ((lex_mem vs v).2 (List.mem_of_getElem? h))⟩
theorem count_snoc (vs : List Wd) (v w : Wd) : (vs ++ [v]).count w = vs.count w + if v = w then 1 else 0 := by
  rw [List.count_append, List.count_singleton]
  congr 1
  by_cases h : v = w
  · simp [h]
  · simp [h]
/-- One more element that is a word: its count grows. -/
theorem cnt_old {vs ws : List Wd} (hs : Asc ws) {v : Wd} (hv : v ∈ ws) : cntW (vs ++ [v]) ws = (cntW vs ws).set (fnd ws v) (vs.count v + 1) := by
  have hk := (fnd_mem hs).1 hv
  apply List.ext_getElem?
  intro i
  unfold cntW
  rw [List.getElem?_map, List.getElem?_set, List.length_map, List.getElem?_map]
  by_cases hi : fnd ws v = i
  · rw [if_pos hi, ← hi, if_pos (List.getElem?_eq_some_iff.1 hk).1, hk, Option.map_some, count_snoc, if_pos rfl]
  · rw [if_neg hi]
    cases ha : ws[i]? with
    | none => rfl
    | some a =>
      rw [Option.map_some, Option.map_some, count_snoc, if_neg fun e => hi (asc_inj hs hk (by rw [ha, e]))]
      rfl
/-- One more element that is no word yet: it comes to its place with the count 1. -/
theorem cnt_new {vs ws : List Wd} (hm : ∀ x, x ∈ ws ↔ x ∈ vs) {v : Wd} (hv : v ∉ ws) : cntW (vs ++ [v]) (putW ws v) = (cntW vs ws).take (fnd ws v) ++ 1 :: (cntW vs ws).drop (fnd ws v) := by
  have hsame : ∀ l : List Wd, (∀ x ∈ l, x ∈ ws) → l.map (fun w => (vs ++ [v]).count w) = l.map fun w => vs.count w := fun l hl => by
    apply List.map_congr_left
    intro a ha
    rw [count_snoc, if_neg (fun (e : v = a) => hv (by rw [e]; exact hl a ha)), Nat.add_zero]
  unfold cntW putW
  rw [List.map_append, List.map_cons, hsame _ (fun x hx => List.mem_of_mem_take hx), hsame _ (fun x hx => List.mem_of_mem_drop hx), List.map_take, List.map_drop, count_snoc, if_pos rfl, List.count_eq_zero.2 fun h => hv ((hm v).2 h)]
theorem cnt_pos {vs ws : List Wd} (hm : ∀ x, x ∈ ws ↔ x ∈ vs) : ∀ c ∈ cntW vs ws, 1 ≤ c := fun c hc => by
  unfold cntW at hc
  obtain ⟨w, hw, rfl⟩ := List.mem_map.1 hc
  exact List.count_pos_iff.2 ((hm w).1 hw)
end Go.Proofs.Yteennnhinfnahaa
namespace Go.Proofs.Yteennnhinfnahaa
set_option linter.unusedVariables false
theorem one_sum : ∀ {ws : List Wd} {v : Wd}, Asc ws → v ∈ ws → (ws.map fun w => if v = w then 1 else 0).sum = 1
  | [], v, _, h => absurd h (List.not_mem_nil)
  | w :: ws, v, hs, h => by
    unfold Asc at hs
    rw [List.pairwise_cons] at hs
    rw [List.map_cons, List.sum_cons]
    by_cases e : v = w
    · subst e
      have h0 : (ws.map fun w => if v = w then 1 else 0).sum = 0 := by
        have hz : ∀ l : List Wd, (∀ x ∈ l, v < x) → (l.map fun w => if v = w then 1 else 0).sum = 0 := by
          intro l
          induction l with
          | nil => intro _; rfl
          | cons x l ih =>
            intro hl
            rw [List.map_cons, List.sum_cons, ih fun y hy => hl y (List.mem_cons_of_mem _ hy), if_neg fun e => wd_irr x (by have := hl x (List.mem_cons_self ..); rwa [e] at this)]
        exact hz ws hs.1
      rw [h0, if_pos rfl]
    · rw [if_neg e, one_sum hs.2 ((List.mem_cons.1 h).resolve_left e)]
theorem cnt_sum {ws : List Wd} (hs : Asc ws) : ∀ vs : List Wd, (∀ x ∈ vs, x ∈ ws) → (cntW vs ws).sum = vs.length
  | [], _ => by
    unfold cntW
    induction ws with
    | nil => rfl
    | cons w ws ih =>
      unfold Asc at hs
      rw [List.pairwise_cons] at hs
      rw [List.map_cons, List.sum_cons, ih hs.2 fun x hx => by simp at hx]
      rfl
  | v :: vs, h => by
    have ih := cnt_sum hs vs fun x hx => h x (List.mem_cons_of_mem _ hx)
    have h1 := one_sum hs (h v (List.mem_cons_self ..))
    have hadd : ∀ l : List Wd, (l.map fun w => (v :: vs).count w).sum = (l.map fun w => vs.count w).sum + (l.map fun w => if v = w then 1 else 0).sum := by
      intro l
      induction l with
      | nil => rfl
      | cons x l ih =>
        rw [List.map_cons, List.map_cons, List.map_cons, List.sum_cons, List.sum_cons, List.sum_cons, ih, List.count_cons]
        by_cases e : v = x
        · simp [e]; omega
        · simp [e]; omega
    unfold cntW at ih ⊢
    rw [hadd, ih, h1, List.length_cons]
theorem lex_sum (vs : List Wd) : (cntW vs (lexW vs)).sum = vs.length := cnt_sum (lex_asc vs) vs fun x hx => (lex_mem vs x).2 hx

/-- PREFIXES -/
theorem pre_ge : ∀ {p w : Wd}, p <+: w → ¬ w < p
  | [], w, _ => List.not_lt_nil w
  | a :: p, w, h => by
    obtain ⟨t, rfl⟩ := h
    intro hlt
    rw [List.cons_append, List.cons_lt_cons_iff] at hlt
    rcases hlt with hlt | ⟨_, hlt⟩
    · exact absurd hlt (by simp)
    · exact pre_ge (List.prefix_append p t) hlt
theorem pre_mid : ∀ {p a b : Wd}, ¬ a < p → a < b → p <+: b → p <+: a
  | [], a, b, _, _, _ => List.nil_prefix
  | x :: p, [], b, h, _, _ => absurd (List.nil_lt_cons x p) h
  | x :: p, y :: a, b, h1, h2, h3 => by
    obtain ⟨t, rfl⟩ := h3
    rw [List.cons_append, List.cons_lt_cons_iff] at h2
    rw [List.cons_lt_cons_iff] at h1
    rcases h2 with h2 | ⟨rfl, h2⟩
    · exact absurd (.inl h2) h1
    · have := pre_mid (fun h => h1 (.inr ⟨rfl, h⟩)) h2 (List.prefix_append p t)
      exact (List.prefix_cons_inj y).2 this
/-- Does a word begin with p? -/
def hasP (p w : Wd) : Bool := p.isPrefixOf w
theorem hasP_iff {p w : Wd} : hasP p w = true ↔ p <+: w := List.isPrefixOf_iff_prefix
/-- How many words, from the prefix's place on, begin with it. -/
def manyP (ws : List Wd) (p : Wd) : Nat := ((ws.drop (fnd ws p)).takeWhile (hasP p)).length
theorem many_le (ws : List Wd) (p : Wd) : fnd ws p + manyP ws p ≤ ws.length := by
  have := (List.takeWhile_sublist (l := ws.drop (fnd ws p)) (hasP p)).length_le
  rw [List.length_drop] at this
  have h := fnd_le ws p
  unfold manyP
  omega
theorem tw_low {α : Type} {q : α → Bool} : ∀ (l : List α) (i : Nat) (a : α), i < (l.takeWhile q).length → l[i]? = some a → q a = true
  | [], i, a, h, _ => by simp at h
  | x :: l, i, a, h, ha => by
    rw [List.takeWhile_cons] at h
    by_cases hx : q x = true
    · rw [if_pos hx, List.length_cons] at h
      cases i with
      | zero => rw [List.getElem?_cons_zero, Option.some.injEq] at ha; rw [← ha]; exact hx
      | succ i => rw [List.getElem?_cons_succ] at ha; exact tw_low l i a (by omega) ha
    · rw [if_neg hx] at h
      simp at h
theorem tw_stop {α : Type} {q : α → Bool} : ∀ (l : List α) (a : α), l[(l.takeWhile q).length]? = some a → q a = false
  | [], a, h => by simp at h
  | x :: l, a, h => by
    rw [List.takeWhile_cons] at h
    by_cases hx : q x = true
    · rw [if_pos hx, List.length_cons, List.getElem?_cons_succ] at h
      exact tw_stop l a h
    · rw [if_neg hx, List.length_nil, List.getElem?_cons_zero, Option.some.injEq] at h
      rw [← h]
      simpa using hx
theorem tw_eq {α : Type} {q : α → Bool} {l : List α} {k : Nat} (hk : k ≤ l.length) (h1 : ∀ i a, i < k → l[i]? = some a → q a = true) (h2 : ∀ a, l[k]? = some a → q a = false) : (l.takeWhile q).length = k := by
  have hle : (l.takeWhile q).length ≤ l.length := (List.takeWhile_sublist _).length_le
  rcases Nat.lt_trichotomy (l.takeWhile q).length k with h | h | h
  · have hb := List.getElem?_eq_getElem (l := l) (i := (l.takeWhile q).length) (by omega)
    have e1 := h1 _ _ h hb
    rw [tw_stop l _ hb] at e1
    cases e1
  · exact h
  · have hb := List.getElem?_eq_getElem (l := l) (i := k) (by omega)
    have e1 := tw_low l k _ h hb
    rw [h2 _ hb] at e1
    cases e1
/-- The words that begin with p are those of one range. -/
theorem pre_range {ws : List Wd} (hs : Asc ws) (p : Wd) {i : Nat} {a : Wd} (ha : ws[i]? = some a) : p <+: a ↔ fnd ws p ≤ i ∧ i < fnd ws p + manyP ws p := by
  have hil := (List.getElem?_eq_some_iff.1 ha).1
  constructor
  · intro h
    have h1 : fnd ws p ≤ i := by
      rcases Nat.lt_or_ge i (fnd ws p) with hlt | hge
      · exact absurd (fnd_low ws p i a hlt ha) (pre_ge h)
      · exact hge
    refine ⟨h1, ?_⟩
    rcases Nat.lt_or_ge i (fnd ws p + manyP ws p) with hlt | hge
    · exact hlt
    · exfalso
      obtain ⟨b, hb⟩ : ∃ b, ws[fnd ws p + manyP ws p]? = some b := ⟨_, List.getElem?_eq_getElem (by omega)⟩
      have hnb : hasP p b = false := tw_stop (ws.drop (fnd ws p)) b (by rw [List.getElem?_drop]; exact hb)
      have hpb : p <+: b := by
        rcases Nat.eq_or_lt_of_le hge with e | hlt
        · rw [e, ha, Option.some.injEq] at hb
          rw [← hb]; exact h
        · exact pre_mid (fnd_high hs (Nat.le_add_right _ _) hb) (asc_lt hs hlt hb ha) h
      rw [hasP_iff.2 hpb] at hnb
      cases hnb
  · rintro ⟨h1, h2⟩
    have := tw_low (q := hasP p) (ws.drop (fnd ws p)) (i - fnd ws p) a (by unfold manyP at h2; omega) (by rw [List.getElem?_drop, Nat.add_sub_cancel' h1]; exact ha)
    exact hasP_iff.1 this
/-- What Prefix answers. -/
def preP (ws : List Wd) (p : Wd) : Nat × Nat := if manyP ws p = 0 then (0, 0) else (fnd ws p, fnd ws p + manyP ws p)

/-- What a loop over the words has of it, i of them seen. -/
def preSt (ws : List Wd) (p : Wd) (i : Nat) : Nat × Nat := if i ≤ fnd ws p ∨ manyP ws p = 0 then (0, 0) else (fnd ws p, min i (fnd ws p + manyP ws p))
theorem preSt_zero (ws : List Wd) (p : Wd) : preSt ws p 0 = (0, 0) := by unfold preSt; rw [if_pos (.inl (Nat.zero_le _))]
theorem preSt_end (ws : List Wd) (p : Wd) : preSt ws p ws.length = preP ws p := by
  have h := many_le ws p
  unfold preSt preP
  by_cases h0 : manyP ws p = 0
  · rw [if_pos (.inr h0), if_pos h0]
  · rw [if_neg (by omega), if_neg h0, Nat.min_eq_right h]
theorem preSt_step {ws : List Wd} (hs : Asc ws) (p : Wd) {i : Nat} {a : Wd} (ha : ws[i]? = some a) :
    preSt ws p (i + 1) = if p <+: a then (if (preSt ws p i).2 = 0 then i else (preSt ws p i).1, i + 1) else preSt ws p i := by
  have hr := pre_range hs p ha
  by_cases hp : p <+: a
  · obtain ⟨h1, h2⟩ := hr.1 hp
    have e1 : preSt ws p (i + 1) = (fnd ws p, i + 1) := by
      unfold preSt
      rw [if_neg (by omega), Nat.min_eq_left (by omega)]
    rw [if_pos hp, e1]
    by_cases hi : i ≤ fnd ws p
    · have e2 : preSt ws p i = (0, 0) := by unfold preSt; rw [if_pos (.inl hi)]
      rw [e2, if_pos rfl, show fnd ws p = i by omega]
    · have e2 : preSt ws p i = (fnd ws p, i) := by
        unfold preSt
        rw [if_neg (by omega), Nat.min_eq_left (by omega)]
      have h0 : ¬ i = 0 := by omega
      rw [e2]
      simp only
      rw [if_neg h0]
  · rw [if_neg hp]
    have hn : ¬ (fnd ws p ≤ i ∧ i < fnd ws p + manyP ws p) := fun h => hp (hr.2 h)
    unfold preSt
    by_cases hi : i + 1 ≤ fnd ws p ∨ manyP ws p = 0
    · rw [if_pos hi, if_pos (by omega)]
    · rw [if_neg hi, if_neg (by omega), Nat.min_eq_right (by omega), Nat.min_eq_right (by omega)]
/-- ORDERS BY A KEY: a number put in front of those with a key that is not less. -/
def insK (key : Nat → Wd) (l : List Nat) (i : Nat) : List Nat :=
  l.take (l.takeWhile fun j => decide (key j < key i)).length ++ i :: l.drop (l.takeWhile fun j => decide (key j < key i)).length
theorem insK_map (key : Nat → Wd) (l : List Nat) (i : Nat) : (insK key l i).map key = putW (l.map key) (key i) := by
  have h : fnd (l.map key) (key i) = (l.takeWhile fun j => decide (key j < key i)).length := by
    unfold fnd
    rw [List.takeWhile_map, List.length_map]
    rfl
  unfold insK putW
  rw [h, List.map_append, List.map_cons, List.map_take, List.map_drop]
theorem insK_mem (key : Nat → Wd) (l : List Nat) (i x : Nat) : x ∈ insK key l i ↔ x ∈ l ∨ x = i := by
  unfold insK
  generalize (l.takeWhile fun j => decide (key j < key i)).length = k
  rw [List.mem_append, List.mem_cons]
  constructor
  · rintro (h | h | h)
    · exact .inl (List.mem_of_mem_take h)
    · exact .inr h
    · exact .inl (List.mem_of_mem_drop h)
  · rintro (h | h)
    · rw [← List.take_append_drop k l] at h
      rcases List.mem_append.1 h with h | h
      · exact .inl h
      · exact .inr (.inr h)
    · exact .inr (.inl h)
/-- The numbers below n in the order of their keys. -/
def ordK (key : Nat → Wd) (n : Nat) : List Nat := (List.range n).foldl (insK key) []
theorem ordK_succ (key : Nat → Wd) (n : Nat) : ordK key (n + 1) = insK key (ordK key n) n := by
  unfold ordK
  rw [List.range_succ, List.foldl_append]
  rfl
theorem ordK_mem (key : Nat → Wd) : ∀ (n x : Nat), x ∈ ordK key n ↔ x < n
  | 0, x => by simp [ordK]
  | n + 1, x => by rw [ordK_succ, insK_mem, ordK_mem key n x]; omega
theorem ordK_asc (key : Nat → Wd) : ∀ (n : Nat), (∀ i j, i < n → j < n → key i = key j → i = j) → Asc ((ordK key n).map key)
  | 0, _ => List.Pairwise.nil
  | n + 1, h => by
    rw [ordK_succ, insK_map]
    refine put_asc (ordK_asc key n fun i j hi hj => h i j (by omega) (by omega)) fun hm => ?_
    obtain ⟨j, hj, he⟩ := List.mem_map.1 hm
    rw [ordK_mem] at hj
    have := h j n (by omega) (by omega) he
    omega
theorem ordK_unique (key : Nat → Wd) {n : Nat} {l : List Nat} (hinj : ∀ i j, i < n → j < n → key i = key j → i = j) (hl : Asc (l.map key)) (hm : ∀ x, x ∈ l ↔ x < n) : l = ordK key n := by
  have hp : ∀ {m : List Nat}, Asc (m.map key) → m.Pairwise fun a b => key a < key b := fun h => List.pairwise_map.1 h
  exact pw_unique (r := fun a b => key a < key b) (fun a => wd_irr _) (fun a b => wd_as) (hp hl) (hp (ordK_asc key n hinj)) fun x => (hm x).trans (ordK_mem key n x).symm

/-- ORDER BY DESCENDING COUNTS, equal counts by ascending numbers. -/
def Dsc (c : Nat → Nat) (a b : Nat) : Prop := c b < c a ∨ (c a = c b ∧ a < b)
theorem dsc_irr (c : Nat → Nat) (a : Nat) : ¬ Dsc c a a := by unfold Dsc; omega
theorem dsc_asy (c : Nat → Nat) (a b : Nat) (h : Dsc c a b) : ¬ Dsc c b a := by unfold Dsc at h ⊢; omega
theorem dsc_tr (c : Nat → Nat) {a b d : Nat} (h : Dsc c a b) (k : Dsc c b d) : Dsc c a d := by unfold Dsc at h k ⊢; omega
/-- How many at the end have a lesser count. -/
def lastC (c : Nat → Nat) (l : List Nat) (i : Nat) : Nat := (l.reverse.takeWhile fun j => decide (c j < c i)).length
def insC (c : Nat → Nat) (l : List Nat) (i : Nat) : List Nat := l.take (l.length - lastC c l i) ++ i :: l.drop (l.length - lastC c l i)
theorem insC_mem (c : Nat → Nat) (l : List Nat) (i x : Nat) : x ∈ insC c l i ↔ x ∈ l ∨ x = i := by
  unfold insC
  generalize l.length - lastC c l i = k
  rw [List.mem_append, List.mem_cons]
  constructor
  · rintro (h | h | h)
    · exact .inl (List.mem_of_mem_take h)
    · exact .inr h
    · exact .inl (List.mem_of_mem_drop h)
  · rintro (h | h)
    · rw [← List.take_append_drop k l] at h
      rcases List.mem_append.1 h with h | h
      · exact .inl h
      · exact .inr (.inr h)
    · exact .inr (.inl h)
theorem lastC_le (c : Nat → Nat) (l : List Nat) (i : Nat) : lastC c l i ≤ l.length := by
  have := (List.takeWhile_sublist (l := l.reverse) fun j => decide (c j < c i)).length_le
  rw [List.length_reverse] at this
  exact this
theorem lastC_hi {c : Nat → Nat} {l : List Nat} {i j a : Nat} (hj : l.length - lastC c l i ≤ j) (ha : l[j]? = some a) : c a < c i := by
  have hl := (List.getElem?_eq_some_iff.1 ha).1
  have := tw_low (q := fun j => decide (c j < c i)) l.reverse (l.length - 1 - j) a (by have := lastC_le c l i; unfold lastC at hj; unfold lastC at this; omega) (by rw [List.getElem?_reverse (by omega), show l.length - 1 - (l.length - 1 - j) = j by omega]; exact ha)
  simpa using this
theorem lastC_stop {c : Nat → Nat} {l : List Nat} {i a : Nat} (hk : lastC c l i < l.length) (ha : l[l.length - lastC c l i - 1]? = some a) : ¬ c a < c i := by
  have := tw_stop (q := fun j => decide (c j < c i)) l.reverse a (by
    have e : l.length - 1 - (l.reverse.takeWhile fun j => decide (c j < c i)).length = l.length - lastC c l i - 1 := by unfold lastC; omega
    rw [List.getElem?_reverse (by unfold lastC at hk; exact hk), e]
    exact ha)
  simpa using this
theorem insC_dsc {c : Nat → Nat} {l : List Nat} {i : Nat} (hl : l.Pairwise (Dsc c)) (hi : ∀ x ∈ l, x < i) : (insC c l i).Pairwise (Dsc c) := by
  have hle := lastC_le c l i
  have hlo : ∀ a ∈ l.take (l.length - lastC c l i), Dsc c a i := fun a ha => by
    obtain ⟨j, hj⟩ := List.getElem?_of_mem ha
    have hjl := (List.getElem?_eq_some_iff.1 hj).1
    rw [List.length_take] at hjl
    rw [List.getElem?_take_of_lt (by omega)] at hj
    have hai := hi a (List.mem_of_getElem? hj)
    obtain ⟨b, hb⟩ : ∃ b, l[l.length - lastC c l i - 1]? = some b := ⟨_, List.getElem?_eq_getElem (by omega)⟩
    have hcb := lastC_stop (by omega) hb
    have hab : c b ≤ c a := by
      rcases Nat.lt_or_ge j (l.length - lastC c l i - 1) with h | h
      · obtain ⟨h1, rfl⟩ := List.getElem?_eq_some_iff.1 hj
        obtain ⟨h2, rfl⟩ := List.getElem?_eq_some_iff.1 hb
        have := List.pairwise_iff_getElem.1 hl j _ h1 h2 h
        unfold Dsc at this
        omega
      · have : j = l.length - lastC c l i - 1 := by omega
        rw [this, hb, Option.some.injEq] at hj
        rw [hj]
        exact Nat.le_refl _
    unfold Dsc
    omega
  have hhi : ∀ a ∈ l.drop (l.length - lastC c l i), Dsc c i a := fun a ha => by
    obtain ⟨j, hj⟩ := List.getElem?_of_mem ha
    rw [List.getElem?_drop] at hj
    exact .inl (lastC_hi (Nat.le_add_right _ _) hj)
  unfold insC
  rw [List.pairwise_append]
  refine ⟨hl.sublist (List.take_sublist _ _), ?_, fun a ha b hb => ?_⟩
  · rw [List.pairwise_cons]
    exact ⟨hhi, hl.sublist (List.drop_sublist _ _)⟩
  · rcases List.mem_cons.1 hb with rfl | hb
    · exact hlo a ha
    · exact dsc_tr c (hlo a ha) (hhi b hb)
def ordC (c : Nat → Nat) (n : Nat) : List Nat := (List.range n).foldl (insC c) []
theorem ordC_succ (c : Nat → Nat) (n : Nat) : ordC c (n + 1) = insC c (ordC c n) n := by
  unfold ordC
  rw [List.range_succ, List.foldl_append]
  rfl
theorem ordC_mem (c : Nat → Nat) : ∀ (n x : Nat), x ∈ ordC c n ↔ x < n
  | 0, x => by simp [ordC]
  | n + 1, x => by rw [ordC_succ, insC_mem, ordC_mem c n x]; omega
theorem ordC_dsc (c : Nat → Nat) : ∀ n : Nat, (ordC c n).Pairwise (Dsc c)
  | 0 => List.Pairwise.nil
  | n + 1 => by
    rw [ordC_succ]
    exact insC_dsc (ordC_dsc c n) fun x hx => (ordC_mem c n x).1 hx
theorem ordC_unique (c : Nat → Nat) {n : Nat} {l : List Nat} (hl : l.Pairwise (Dsc c)) (hm : ∀ x, x ∈ l ↔ x < n) : l = ordC c n :=
  pw_unique (dsc_irr c) (dsc_asy c) hl (ordC_dsc c n) fun x => (hm x).trans (ordC_mem c n x).symm

/-- COMMON PREFIXES -/
def comN : Wd → Wd → Nat
  | a :: x, b :: y => if a = b then comN x y + 1 else 0
  | _, _ => 0
theorem comN_le : ∀ x y : Wd, comN x y ≤ x.length ∧ comN x y ≤ y.length
  | [], y => by simp [comN]
  | a :: x, [] => by simp [comN]
  | a :: x, b :: y => by
    have := comN_le x y
    simp only [comN, List.length_cons]
    split <;> omega
theorem comN_take : ∀ x y : Wd, x.take (comN x y) = y.take (comN x y)
  | [], y => by simp [comN]
  | a :: x, [] => by simp [comN]
  | a :: x, b :: y => by
    simp only [comN]
    by_cases h : a = b
    · subst h
      rw [if_pos rfl, List.take_succ_cons, List.take_succ_cons, comN_take x y]
    · rw [if_neg h]; rfl
theorem comN_split (x y : Wd) : y = x.take (comN x y) ++ y.drop (comN x y) := by rw [comN_take, List.take_append_drop]
end Go.Proofs.Yteennnhinfnahaa
namespace Go.Proofs.Yteennnhinfnahaa
open Go.RowKit Go.Shelf Go.Lib Go.Sort
set_option linter.unusedVariables false
set_option linter.unusedSimpArgs false

theorem grown_sortZ {α : Type} [Inhabited α] (enc : α → Value) {w : World} {g m : Nat} {os : Array Obj} (d : Array α) : w.grownBy (sortWorld enc w g 0 m d os) (some g) := by
  unfold sortWorld
  refine ⟨rfl, rfl, rfl, by simp [putRow, mapBlock, Sort.ahead], fun k hk hne => ?_⟩
  rw [heap_grow_old _ _ (by simpa [putRow, mapBlock, Sort.ahead] using hk)]
  have : g ≠ k := fun e => hne (by rw [e])
  simp [putRow, mapBlock, Sort.ahead, Array.getElem?_modify, this]
def encZ' (n : Nat) (x : Fin n) : Value := .int .i64 (x.1 : Int)
/-- What an order of n numbers is. -/
def Srt (n : Nat) (cf : Fin n → Fin n → Int) (ord : List Nat) : Prop := ord.length = n ∧ (∀ x, x ∈ ord ↔ x < n) ∧ ∃ l : List (Fin n), ord = l.map (·.1) ∧ l.Pairwise (Tr (ltOf cf) (·.1))
def OrdV (w : World) (n : Nat) (cf : Fin n → Fin n → Int) (e : Ending) (w' : World) : Prop :=
  ∃ (v : Value) (ord : List Nat), e = .returned v ∧ Srt n cf ord ∧ Rows 1 EInt w' v (ord.map fun (j : Nat) => (j : Int)) ∧ Below w.heap.size w w'
theorem rows_sw {n g : Nat} {w w' : World} [Inhabited (Fin n)] {d0 d' : Array (Fin n)} (R : Row1 (encZ' n) w g 0 d0) (h0 : d0.size = n) (hs : d'.size = n) (S : SW (encZ' n) w g 0 d' w') : Rows 1 EInt w' (.slice (some ⟨g, 0, none⟩) n n) ((d'.toList.map (·.1)).map fun (j : Nat) => (j : Int)) := by
  have hlen : ((d'.toList.map (·.1)).map fun (j : Nat) => (j : Int)).length = n := by simp [hs]
  refine ⟨_, n, by rw [hlen], by rw [hlen]; exact Nat.le_refl _, fun _ => ⟨g, 0, rfl, S.lt R.hblk, fun j x hx => ⟨[.int .i64 x], rfl, rfl, fun i u hu => ?_⟩⟩⟩
  match i, hu with
  | 0, hu =>
    cases hu
    have hj : j < d'.size := by
      have := (List.getElem?_eq_some_iff.1 hx).1
      rw [hlen] at this
      omega
    have hcl := S.c1 R (by omega) j hj
    rw [getElem!_pos d' j hj] at hcl
    rw [List.map_map, List.getElem?_map, List.getElem?_eq_getElem (by simpa using hj)] at hx
    have hx := Option.some.inj hx
    rw [← hx]
    simpa [encZ'] using hcl
theorem srt_of {n : Nat} [Inhabited (Fin n)] {cf : Fin n → Fin n → Int} {d0 d' : Array (Fin n)} (h0 : d0.size = n) (hd : ∀ k : Fin n, d0[k.1]! = k) (hM : Mvd 0 n d0 d') (hS : SoT (ltOf cf) (·.1) d' 0 n) : Srt n cf (d'.toList.map (·.1)) := by
  have hs : d'.size = n := hM.size.trans h0
  refine ⟨by simp [hs], fun x => ⟨fun hx => ?_, fun hx => ?_⟩, d'.toList, rfl, ?_⟩
  · obtain ⟨y, _, rfl⟩ := List.mem_map.1 hx
    exact y.2
  · obtain ⟨j, _, j2, ej⟩ := hM.bck x (Nat.zero_le _) hx
    refine List.mem_map.2 ⟨d'[j]!, ?_, ?_⟩
    · rw [getElem!_pos d' j (by omega)]; simp
    · rw [← ej]
      have := hd ⟨x, hx⟩
      simp only at this
      rw [this]
  · rw [List.pairwise_iff_getElem]
    intro i j hi hj hij
    have hi' : i < d'.size := by simpa using hi
    have hj' : j < d'.size := by simpa using hj
    have := hS i j (Nat.zero_le _) hij (by omega)
    rw [getElem!_pos d' i hi', getElem!_pos d' j hj'] at this
    simpa using this

set_option maxHeartbeats 2000000 in
set_option maxRecDepth 1000000 in
theorem sortStable_none (A : Option Addr) (cap : Nat) (v : Value) (w : World) : Calls Try.prog 37 #[.slice A 0 cap, v] w fun e w' => e = .returned (.tuple #[]) ∧ w' = w := by
  have hI : Calls Try.prog 75 #[.slice A 0 cap, .int .i64 0, .int .i64 0, v] w fun e w' => e = .returned (.tuple #[]) ∧ w' = w := by
    go_enter Try.func75, Try.ntmps75
    go_wp2
    refine wp_loop_rounds 1 ?_
    rw [rounds_succ]
    go_wp2
    go_end0
    exact ⟨rfl, rfl⟩
  have hS : Calls Try.prog 59 #[.slice A 0 cap, .int .i64 0, v] w fun e w' => e = .returned (.tuple #[]) ∧ w' = w := by
    have HI := Lib.hid hI
    clear hI
    go_enter Try.func59, Try.ntmps59
    go_wp2
    refine wp_loop_rounds 1 ?_
    rw [rounds_succ]
    go_wp2_with (go_at_call 75; refine HI.out.mono ?_; rintro e w2 ⟨rfl, rfl⟩)
    refine wp_loop_rounds 1 ?_
    rw [rounds_succ]
    go_wp2
    go_end0
    exact ⟨rfl, rfl⟩
  have HS := Lib.hid hS
  clear hI hS
  go_enter Try.func37, Try.ntmps37
  go_wp2_with (go_at_call 59; refine HS.out.mono ?_; rintro e w2 ⟨rfl, rfl⟩)
  go_end0
  exact ⟨rfl, rfl⟩

/-- A block of numbers of the call's own. -/
structure BlS (w W : World) (N : Nat) (ds : List Int) : Prop where
  below : Below w.heap.size w W
  d : W.heap[N]? = some (.cells (intRow ds) 3 (0, 0))
theorem BlS.set {w W : World} {N : Nat} {ds : List Int} (h : BlS w W N ds) (hN : w.heap.size = N) (i : Nat) (x : Int) : BlS w (W.setCell ⟨N, i, none⟩ (.int .i64 x)) N (ds.set i x) :=
  ⟨h.below.trans ⟨rfl, rfl, rfl, by simp [World.setCell], fun k hk => Below.heap_setCell _ _ _ k (by show k ≠ N; omega)⟩, by rw [← intRow_set]; exact set_of h.d _⟩
/-- The first k numbers stand at their places. -/
def cntL0 (n k : Nat) : List Int := (List.range n).map fun j => if j < k then (j : Int) else 0
theorem cntL0_zero (n : Nat) : cntL0 n 0 = List.replicate n 0 := by
  apply List.ext_getElem?
  intro i
  simp only [cntL0, List.getElem?_map]
  by_cases h : i < n
  · rw [List.getElem?_range h, List.getElem?_replicate, if_pos h]; rfl
  · rw [List.getElem?_eq_none (by simp; omega), List.getElem?_eq_none (by simp; omega)]; rfl
theorem cntL0_set {n k : Nat} (hk : k < n) : (cntL0 n k).set k (k : Int) = cntL0 n (k + 1) := by
  apply List.ext_getElem?
  intro i
  simp only [cntL0, List.getElem?_map, List.getElem?_set, List.length_map, List.length_range]
  by_cases h : k = i
  · subst h
    rw [if_pos rfl, if_pos hk, List.getElem?_range hk]
    simp
  · rw [if_neg h]
    by_cases h2 : i < n
    · rw [List.getElem?_range h2]
      simp only [Option.map_some]
      by_cases h3 : i < k
      · rw [if_pos h3, if_pos (by omega)]
      · rw [if_neg h3, if_neg (by omega)]
    · rw [List.getElem?_eq_none (by simp; omega)]; rfl
theorem cntL0_get {n : Nat} {j : Nat} (hj : j < n) : (cntL0 n n)[j]? = some (j : Int) := by
  simp only [cntL0, List.getElem?_map, List.getElem?_range hj, Option.map_some, if_pos hj]
theorem cntL0_len (n k : Nat) : (cntL0 n k).length = n := by simp [cntL0]

set_option maxHeartbeats 4000000 in
set_option maxRecDepth 1000000 in
theorem numbersBy_any {w : World} {n : Nat} (hn : n ≤ 4096) (cf : Fin n → Fin n → Int) (O : SWO (ltOf cf)) (g : Nat) (cb : Array Value) (eg : ∀ args w, (callFunc g args).run Try.prog w = .ok (.enter g args) w)
    (hcl : ∀ W, Below w.heap.size w W → ∀ x y : Fin n, Calls Try.prog g (#[.int .i64 (x.1 : Int), .int .i64 (y.1 : Int)] ++ cb) W fun e w' => e = .returned (.int .i64 (cf x y)) ∧ ∃ q, w' = W.drewN q) :
    Calls Try.prog 84 #[.int .i64 n, .func (.func g) #[] cb] w (OrdV w n cf) := by
  obtain ⟨N, hN⟩ : ∃ N, w.heap.size = N := ⟨_, rfl⟩
  have HN := Lib.hid hN
  have HSRT := Lib.hid (show ∀ W1 : World, W1.heap[N]? = some (.cells (intRow (cntL0 n n)) 3 (0, 0)) → Below N w W1 → Calls Try.prog 37 #[.slice (some ⟨N, 0, none⟩) n n, .func (.func g) #[] cb] W1 fun e w' => e = .returned (.tuple #[]) ∧ OrdV w n cf (.returned (.slice (some ⟨N, 0, none⟩) n n)) w' by
    intro W1 hB1 hb1
    by_cases h0 : n = 0
    · subst h0
      refine (sortStable_none (some ⟨N, 0, none⟩) 0 (.func (.func g) #[] cb) W1).mono ?_
      rintro e w' ⟨rfl, rfl⟩
      exact ⟨rfl, _, [], rfl, ⟨rfl, fun x => by simp, [], rfl, List.Pairwise.nil⟩, Rows.empty _ _ _, by rw [hN]; exact hb1⟩
    · have hpos : 0 < n := by omega
      letI : Inhabited (Fin n) := ⟨⟨0, hpos⟩⟩
      obtain ⟨d0, hd0⟩ : ∃ d : Array (Fin n), d = Array.ofFn (fun i : Fin n => i) := ⟨_, rfl⟩
      have hsz : d0.size = n := by rw [hd0]; simp
      have hat : ∀ k : Fin n, d0[k.1]! = k := fun k => by
        rw [getElem!_pos d0 k.1 (by rw [hsz]; exact k.2)]
        subst hd0
        rw [Array.getElem_ofFn]
      have hH : Holds (encZ' n) W1 N 0 d0 := fun j hj => by
        rw [hsz] at hj
        have := hat ⟨j, hj⟩
        simp only at this
        rw [this, Nat.zero_add]
        refine ⟨cell_of hB1 ?_, frozen_of hB1⟩
        unfold intRow
        rw [List.getElem?_toArray, List.getElem?_map, cntL0_get hj]
        rfl
      have hlt : N < W1.heap.size := (Array.getElem?_eq_some_iff.1 hB1).1
      have R : Row1 (encZ' n) W1 N 0 d0 := ⟨fun _ => rfl, hH, hlt⟩
      have hcmp : CmpReads Try.prog g cb (encZ' n) cf N 0 d0.size W1 := fun m os dk hs x y => by
        have hgr := grown_sortZ (w := W1) (g := N) (m := m) (os := os) (encZ' n) dk
        have hb2 := below_of_grown hgr (Nat.le_of_lt hlt) (fun k e => by cases e; exact Nat.le_refl _)
        exact hcl _ (by rw [hN]; exact hb1.trans hb2) x y
      refine (sortStable_any (encZ' n) cf (·.1) O g cb N 0 n n d0 W1 eg hcmp.lays R hsz (by omega) (fun k hk => by have := hat ⟨k, hk⟩; simp only at this; rw [this])).mono ?_
      rintro e w' ⟨rfl, d', hM, hS, hSW⟩
      refine ⟨rfl, _, d'.toList.map (·.1), rfl, srt_of hsz hat hM hS, rows_sw R hsz (hM.size.trans hsz) hSW, ?_⟩
      obtain ⟨m, os, rfl⟩ := hSW
      have hgr := grown_sortZ (w := W1) (g := N) (m := m) (os := os) (encZ' n) d'
      rw [hN]
      exact hb1.trans (below_of_grown hgr (Nat.le_of_lt hlt) (fun k e => by cases e; exact Nat.le_refl _)))
  obtain ⟨i1, hi1, hy0, hy1, hy2⟩ := info_parts' Try.infoInt2
  have hmk : ∀ W : World, (Instr.makeSlice 22 (.int .i64 n) (.int .i64 n)).run Try.prog W = .ok (.slice (some ⟨W.heap.size, 0, none⟩) n n) (W.alloc (.cells (intRow (List.replicate n 0)) 3)) := fun W => by
    have := run_make (P := Try.prog) W 22 3 i1 _ Try.underlying22 hi1 hy0 .i64 .i64 n n (by omega) (by omega) (by rw [hy2]; omega) (by omega)
    rw [Int.toNat_natCast, hy1, Nat.mul_one] at this
    rw [← made_int]
    exact this
  obtain ⟨W0, hW0⟩ : ∃ W0, w.alloc (.cells (intRow (List.replicate n 0)) 3) = W0 := ⟨_, rfl⟩
  have hst0 : BlS w W0 N (cntL0 n 0) := by
    have b1 := block_new w (.cells (intRow (List.replicate n 0)) 3)
    rw [hN] at b1
    rw [← hW0, cntL0_zero]
    exact ⟨below_box w _, b1⟩
  have HST0 := Lib.hid hst0
  have HW0 := Lib.hid hW0
  clear hcl O hst0 hW0 hN
  go_enter Try.func84, Try.ntmps84
  go_wp2_with fail
  rw [HW0.out, HN.out]
  go_loopw [11] (fun sv wr => ∃ s : Nat, s ≤ n ∧ sv = .int .i64 s ∧ Hid (BlS w wr N (cntL0 n s))) (fun sv _ => n - (Go.RowKit.intOf sv).toNat)
  case atStart => exact ⟨0, Nat.zero_le _, rfl, HST0⟩
  case round =>
    clear HST0 HW0 hmk
    obtain ⟨s, hsn, rfl, HS⟩ := hrel
    by_cases hlt : s < n
    · have hlti : (s : Int) < (n : Int) := by omega
      obtain ⟨c, hcc⟩ : ∃ c, (cntL0 n s).getD s 0 = c := ⟨_, rfl⟩
      have kw : wr.cell? ⟨N, s, none⟩ = some (.int .i64 c) := by
        rw [← hcc]
        exact cell_of HS.out.d (intRow_get (by rw [cntL0_len]; exact hlt))
      have fw : wr.frozen? ⟨N, s, none⟩ = false := frozen_of HS.out.d
      have HNX := Lib.hid (show BlS w (wr.setCell ⟨N, s, none⟩ (.int .i64 (s : Int))) N (cntL0 n (s + 1)) by
        rw [← cntL0_set hlt]
        exact HS.out.set HN.out s (s : Int))
      clear hcc HS
      go_wp2_with fail
      exact ⟨⟨s + 1, by omega, by go_num, HNX⟩, by simp only [Go.RowKit.intOf]; omega⟩
    · obtain rfl : s = n := by omega
      have hlti : ¬ (s : Int) < (s : Int) := by omega
      have HC := Lib.hid (HSRT.out wr HS.out.d (by rw [← HN.out]; exact HS.out.below))
      clear HSRT HS
      go_wp2_with (go_at_call 37; refine HC.out.mono ?_; rintro e w2 ⟨rfl, h2⟩)
      have HE := Lib.hid h2
      clear h2
      go_ret
      exact HE.out
end Go.Proofs.Yteennnhinfnahaa
