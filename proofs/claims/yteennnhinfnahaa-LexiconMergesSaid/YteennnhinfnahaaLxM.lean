/-
  THE PLAIN MATHEMATICS of package lexicon, of no program: ascending words, their places, counts, numbers; orders by a key; ranges of prefixes.
-/
import Derived.Test.YteennnhinfnahaaProg
namespace Go.Proofs.Yteennnhinfnahaa
set_option linter.unusedVariables false
/-- A word: its bytes. -/
abbrev Wd := List UInt8
theorem wd_irr (a : Wd) : ¬ a < a := List.lt_irrefl a
theorem wd_tr {a b c : Wd} (h : a < b) (k : b < c) : a < c := List.lt_trans h k
theorem wd_as {a b : Wd} (h : a < b) : ¬ b < a := fun k => wd_irr a (wd_tr h k)
theorem wd_tri (a b : Wd) : a < b ∨ a = b ∨ b < a := by
  by_cases h1 : a < b
  · exact .inl h1
  · by_cases h2 : b < a
    · exact .inr (.inr h2)
    · exact .inr (.inl (List.le_antisymm (List.not_lt.1 h2) (List.not_lt.1 h1)))
/-- Two lists in strict order with the same members are one list. -/
theorem pw_unique {α : Type} {r : α → α → Prop} (irr : ∀ a, ¬ r a a) (asy : ∀ a b, r a b → ¬ r b a) : ∀ {l m : List α}, l.Pairwise r → m.Pairwise r → (∀ x, x ∈ l ↔ x ∈ m) → l = m
  | [], [], _, _, _ => rfl
  | [], b :: m, _, _, h => absurd ((h b).2 (List.mem_cons_self ..)) (List.not_mem_nil)
  | a :: l, [], _, _, h => absurd ((h a).1 (List.mem_cons_self ..)) (List.not_mem_nil)
  | a :: l, b :: m, hl, hm, h => by
    rw [List.pairwise_cons] at hl hm
    have hab : a = b := by
      rcases List.mem_cons.1 ((h a).1 (List.mem_cons_self ..)) with e | ha
      · exact e
      · rcases List.mem_cons.1 ((h b).2 (List.mem_cons_self ..)) with e | hb
        · exact e.symm
        · exact absurd (hl.1 b hb) (asy _ _ (hm.1 a ha))
    subst hab
    rw [pw_unique irr asy hl.2 hm.2 fun x => ⟨fun hx => ?_, fun hx => ?_⟩]
    · rcases List.mem_cons.1 ((h x).1 (List.mem_cons_of_mem _ hx)) with rfl | hx2
      · exact absurd (hl.1 _ hx) (irr _)
      · exact hx2
    · rcases List.mem_cons.1 ((h x).2 (List.mem_cons_of_mem _ hx)) with rfl | hx2
      · exact absurd (hm.1 _ hx) (irr _)
      · exact hx2
/-- Ascending: each word is less than those behind it. -/
def Asc (ws : List Wd) : Prop := ws.Pairwise (· < ·)
theorem asc_unique {l m : List Wd} (hl : Asc l) (hm : Asc m) (h : ∀ x, x ∈ l ↔ x ∈ m) : l = m := pw_unique wd_irr (fun _ _ => wd_as) hl hm h
theorem asc_lt {ws : List Wd} (h : Asc ws) {i j : Nat} {a b : Wd} (hij : i < j) (ha : ws[i]? = some a) (hb : ws[j]? = some b) : a < b := by
  obtain ⟨hi, rfl⟩ := List.getElem?_eq_some_iff.1 ha
  obtain ⟨hj, rfl⟩ := List.getElem?_eq_some_iff.1 hb
  exact List.pairwise_iff_getElem.1 h i j hi hj hij
theorem asc_inj {ws : List Wd} (h : Asc ws) {i j : Nat} {a : Wd} (ha : ws[i]? = some a) (hb : ws[j]? = some a) : i = j := by
  rcases Nat.lt_trichotomy i j with hij | hij | hij
  · exact absurd (asc_lt h hij ha hb) (wd_irr a)
  · exact hij
  · exact absurd (asc_lt h hij hb ha) (wd_irr a)
/-- The place of a word: how many words in front are less. -/
def fnd (ws : List Wd) (v : Wd) : Nat := (ws.takeWhile fun w => decide (w < v)).length
theorem fnd_le (ws : List Wd) (v : Wd) : fnd ws v ≤ ws.length := (List.takeWhile_sublist _).length_le
theorem fnd_low : ∀ (ws : List Wd) (v : Wd) (i : Nat) (a : Wd), i < fnd ws v → ws[i]? = some a → a < v
  | [], v, i, a, h, _ => by simp [fnd] at h
  | w :: ws, v, i, a, h, ha => by
    unfold fnd at h
    rw [List.takeWhile_cons] at h
    by_cases hw : w < v
    · rw [if_pos (decide_eq_true hw), List.length_cons] at h
      cases i with
      | zero => rw [List.getElem?_cons_zero, Option.some.injEq] at ha; rw [← ha]; exact hw
      | succ i => rw [List.getElem?_cons_succ] at ha; exact fnd_low ws v i a (by unfold fnd; omega) ha
    · rw [if_neg (by simpa using hw)] at h
      simp at h
theorem fnd_stop : ∀ (ws : List Wd) (v : Wd) (a : Wd), ws[fnd ws v]? = some a → ¬ a < v
  | [], v, a, h => by simp [fnd] at h
  | w :: ws, v, a, h => by
    unfold fnd at h
    rw [List.takeWhile_cons] at h
    by_cases hw : w < v
    · rw [if_pos (decide_eq_true hw), List.length_cons, List.getElem?_cons_succ] at h
      exact fnd_stop ws v a h
    · rw [if_neg (by simpa using hw)] at h
      rw [List.length_nil, List.getElem?_cons_zero, Option.some.injEq] at h
      rw [← h]; exact hw
theorem fnd_high {ws : List Wd} (hs : Asc ws) {v : Wd} {i : Nat} {a : Wd} (hi : fnd ws v ≤ i) (ha : ws[i]? = some a) : ¬ a < v := by
  rcases Nat.eq_or_lt_of_le hi with e | hlt
  · rw [← e] at ha
    exact fnd_stop ws v a ha
  · have hl := (List.getElem?_eq_some_iff.1 ha).1
    have hb := List.getElem?_eq_getElem (l := ws) (i := fnd ws v) (by omega)
    exact fun h => fnd_stop ws v _ hb (wd_tr (asc_lt hs hlt hb ha) h)
/-- A place that parts the lesser words from the others is the place. -/
theorem fnd_eq {ws : List Wd} {v : Wd} {k : Nat} (hk : k ≤ ws.length) (h1 : ∀ i a, i < k → ws[i]? = some a → a < v) (h2 : ∀ a, ws[k]? = some a → ¬ a < v) : fnd ws v = k := by
  rcases Nat.lt_trichotomy (fnd ws v) k with h | h | h
  · have hb := List.getElem?_eq_getElem (l := ws) (i := fnd ws v) (by omega)
    exact absurd (h1 _ _ h hb) (fnd_stop ws v _ hb)
  · exact h
  · have hl := fnd_le ws v
    have hb := List.getElem?_eq_getElem (l := ws) (i := k) (by omega)
    exact absurd (fnd_low ws v k _ h hb) (h2 _ hb)
theorem fnd_at {ws : List Wd} (hs : Asc ws) {v : Wd} {k : Nat} (h : ws[k]? = some v) : fnd ws v = k :=
  fnd_eq (Nat.le_of_lt (List.getElem?_eq_some_iff.1 h).1) (fun i a hi ha => asc_lt hs hi ha h) (fun a ha => by rw [h, Option.some.injEq] at ha; rw [← ha]; exact wd_irr v)
theorem fnd_mem {ws : List Wd} (hs : Asc ws) {v : Wd} : v ∈ ws ↔ ws[fnd ws v]? = some v := by
  constructor
  · intro h
    obtain ⟨k, hk⟩ := List.getElem?_of_mem h
    rw [fnd_at hs hk]
    exact hk
  · exact fun h => List.mem_of_getElem? h
/-- A word put at its place. -/
def putW (ws : List Wd) (v : Wd) : List Wd := ws.take (fnd ws v) ++ v :: ws.drop (fnd ws v)
theorem put_mem (ws : List Wd) (v x : Wd) : x ∈ putW ws v ↔ x ∈ ws ∨ x = v := by
  unfold putW
  rw [List.mem_append, List.mem_cons]
  constructor
  · rintro (h | h | h)
    · exact .inl (List.mem_of_mem_take h)
    · exact .inr h
    · exact .inl (List.mem_of_mem_drop h)
  · rintro (h | h)
    · rw [← List.take_append_drop (fnd ws v) ws] at h
      rcases List.mem_append.1 h with h | h
      · exact .inl h
      · exact .inr (.inr h)
    · exact .inr (.inl h)
theorem put_asc {ws : List Wd} (hs : Asc ws) {v : Wd} (hv : v ∉ ws) : Asc (putW ws v) := by
  have hlo : ∀ a ∈ ws.take (fnd ws v), a < v := fun a ha => by
    obtain ⟨i, hi⟩ := List.getElem?_of_mem ha
    have hil := (List.getElem?_eq_some_iff.1 hi).1
    rw [List.length_take] at hil
    rw [List.getElem?_take_of_lt (by omega)] at hi
    exact fnd_low ws v i a (by omega) hi
  have hhi : ∀ a ∈ ws.drop (fnd ws v), v < a := fun a ha => by
    obtain ⟨i, hi⟩ := List.getElem?_of_mem ha
    rw [List.getElem?_drop] at hi
    rcases wd_tri v a with h | h | h
    · exact h
    · exact absurd (h ▸ List.mem_of_getElem? hi) hv
    · exact absurd h (fnd_high hs (Nat.le_add_right _ _) hi)
  unfold Asc putW
  rw [List.pairwise_append]
  refine ⟨hs.sublist (List.take_sublist _ _), ?_, fun a ha b hb => ?_⟩
  · rw [List.pairwise_cons]
    exact ⟨hhi, hs.sublist (List.drop_sublist _ _)⟩
  · rcases List.mem_cons.1 hb with rfl | hb
    · exact hlo a ha
    · exact wd_tr (hlo a ha) (hhi b hb)
/-- The words of a list of values. -/
def addW (ws : List Wd) (v : Wd) : List Wd := if v ∈ ws then ws else putW ws v
def lexW (vs : List Wd) : List Wd := vs.foldl addW []
theorem lexW_snoc (vs : List Wd) (v : Wd) : lexW (vs ++ [v]) = addW (lexW vs) v := by unfold lexW; rw [List.foldl_append]; rfl
theorem add_asc {ws : List Wd} (hs : Asc ws) (v : Wd) : Asc (addW ws v) := by
  unfold addW
  by_cases h : v ∈ ws
  · rw [if_pos h]; exact hs
  · rw [if_neg h]; exact put_asc hs h
theorem add_mem (ws : List Wd) (v x : Wd) : x ∈ addW ws v ↔ x ∈ ws ∨ x = v := by
  unfold addW
  by_cases h : v ∈ ws
  · rw [if_pos h]
    exact ⟨.inl, fun k => k.elim id fun e => e ▸ h⟩
  · rw [if_neg h]; exact put_mem ws v x
theorem fold_asc : ∀ (vs ws : List Wd), Asc ws → Asc (vs.foldl addW ws)
  | [], _, h => h
  | v :: vs, ws, h => fold_asc vs (addW ws v) (add_asc h v)
theorem fold_mem : ∀ (vs ws : List Wd) (x : Wd), x ∈ vs.foldl addW ws ↔ x ∈ ws ∨ x ∈ vs
  | [], ws, x => by simp
  | v :: vs, ws, x => by
    rw [List.foldl_cons, fold_mem vs (addW ws v) x, add_mem, List.mem_cons, or_assoc]
theorem lex_asc (vs : List Wd) : Asc (lexW vs) := fold_asc vs [] List.Pairwise.nil
theorem lex_mem (vs : List Wd) (x : Wd) : x ∈ lexW vs ↔ x ∈ vs := by unfold lexW; rw [fold_mem]; simp
/-- Whatever ascends and has the same members is the list of the words. -/
theorem lex_unique {vs ws : List Wd} (h : Asc ws) (hm : ∀ x, x ∈ ws ↔ x ∈ vs) : ws = lexW vs := asc_unique h (lex_asc vs) fun x => (hm x).trans (lex_mem vs x).symm
theorem lex_len (vs : List Wd) : (lexW vs).length ≤ vs.length := by
  have : ∀ (vs ws : List Wd), (vs.foldl addW ws).length ≤ ws.length + vs.length := by
    intro vs
    induction vs with
    | nil => intro ws; simp
    | cons v vs ih =>
      intro ws
      have h1 := ih (addW ws v)
      have h2 : (addW ws v).length ≤ ws.length + 1 := by
        unfold addW
        split
        · omega
        · unfold putW
          rw [List.length_append, List.length_cons, List.length_take, List.length_drop]
          have := fnd_le ws v
          omega
      rw [List.foldl_cons, List.length_cons]
      omega
  have := this vs []
  simpa [lexW] using this
/-- The counts of words, the numbers of values. -/
def cntW (vs ws : List Wd) : List Nat := ws.map fun w => vs.count w
def numW (vs : List Wd) : List Nat := vs.map (fnd (lexW vs))
theorem num_at {vs : List Wd} {i : Nat} {v : Wd} (h : vs[i]? = some v) : (numW vs)[i]? = some (fnd (lexW vs) v) ∧ (lexW vs)[fnd (lexW vs) v]? = some v :=
  ⟨by unfold numW; rw [List.getElem?_map, h]; rfl, (fnd_mem (lex_asc vs)).1 ((lex_mem vs v).2 (List.mem_of_getElem? h))⟩
theorem count_snoc (vs : List Wd) (v w : Wd) : (vs ++ [v]).count w = vs.count w + if v = w then 1 else 0 := by
  rw [List.count_append, List.count_singleton]
  congr 1
  by_cases h : v = w
  · simp [h]
  · simp [h]
/-- One more element that is a word: its count grows. -/
theorem cnt_old {vs ws : List Wd} (hs : Asc ws) {v : Wd} (hv : v ∈ ws) : cntW (vs ++ [v]) ws = (cntW vs ws).set (fnd ws v) (vs.count v + 1) := by
  have hk := (fnd_mem hs).1 hv
  apply List.ext_getElem?
  intro i
  unfold cntW
  rw [List.getElem?_map, List.getElem?_set, List.length_map, List.getElem?_map]
  by_cases hi : fnd ws v = i
  · rw [if_pos hi, ← hi, if_pos (List.getElem?_eq_some_iff.1 hk).1, hk, Option.map_some, count_snoc, if_pos rfl]
  · rw [if_neg hi]
    cases ha : ws[i]? with
    | none => rfl
    | some a =>
      rw [Option.map_some, Option.map_some, count_snoc, if_neg fun e => hi (asc_inj hs hk (by rw [ha, e]))]
      rfl
/-- One more element that is no word yet: it comes to its place with the count 1. -/
theorem cnt_new {vs ws : List Wd} (hm : ∀ x, x ∈ ws ↔ x ∈ vs) {v : Wd} (hv : v ∉ ws) : cntW (vs ++ [v]) (putW ws v) = (cntW vs ws).take (fnd ws v) ++ 1 :: (cntW vs ws).drop (fnd ws v) := by
  have hsame : ∀ l : List Wd, (∀ x ∈ l, x ∈ ws) → l.map (fun w => (vs ++ [v]).count w) = l.map fun w => vs.count w := fun l hl => by
    apply List.map_congr_left
    intro a ha
    rw [count_snoc, if_neg (fun (e : v = a) => hv (by rw [e]; exact hl a ha)), Nat.add_zero]
  unfold cntW putW
  rw [List.map_append, List.map_cons, hsame _ (fun x hx => List.mem_of_mem_take hx), hsame _ (fun x hx => List.mem_of_mem_drop hx), List.map_take, List.map_drop, count_snoc, if_pos rfl, List.count_eq_zero.2 fun h => hv ((hm v).2 h)]
theorem cnt_pos {vs ws : List Wd} (hm : ∀ x, x ∈ ws ↔ x ∈ vs) : ∀ c ∈ cntW vs ws, 1 ≤ c := fun c hc => by
  unfold cntW at hc
  obtain ⟨w, hw, rfl⟩ := List.mem_map.1 hc
  exact List.count_pos_iff.2 ((hm w).1 hw)
end Go.Proofs.Yteennnhinfnahaa
