/-
  THE PLAIN MATHEMATICS of package stab, of no program: numbered spans, balanced trees with greatest ends, which numbers a walk collects.
-/
import Derived.Test.YtifdencdbpdbfaaDoorIaM
namespace Go.Proofs.YtifdencdbpdbfaaDoor
set_option linter.unusedVariables false
/-- A node: its span, its number, its reach. -/
abbrev Nd := Sp × Int × Int
def keyN (x : Nd) : Sp × Int := (x.1, x.2.1)
/-- The nodes of a list, numbered from n on. -/
def plantF : Nat → List Sp → List Nd
  | _, [] => []
  | n, s :: l => (s, (n : Int), 0) :: plantF (n + 1) l
/-- The numbers of the spans that fit. -/
def idxF (P : Sp → Bool) : Nat → List Sp → List Int
  | _, [] => []
  | n, s :: l => if P s then (n : Int) :: idxF P (n + 1) l else idxF P (n + 1) l
def idxs (P : Sp → Bool) (l : List Sp) : List Int := idxF P 0 l
theorem plantF_len : ∀ (l : List Sp) (n : Nat), (plantF n l).length = l.length
  | [], _ => rfl
  | s :: l, n => by simp [plantF, plantF_len l]
theorem plantF_get : ∀ (l : List Sp) (n j : Nat) (s : Sp), l[j]? = some s → (plantF n l)[j]? = some (s, ((n + j : Nat) : Int), 0)
  | [], n, j, s, h => by simp at h
  | x :: l, n, 0, s, h => by
    simp at h
    subst h
    simp [plantF]
  | x :: l, n, j + 1, s, h => by
    have := plantF_get l (n + 1) j s (by simpa using h)
    rw [show n + 1 + j = n + (j + 1) by omega] at this
    simpa [plantF] using this
theorem idxF_app (P : Sp → Bool) : ∀ (l m : List Sp) (n : Nat), idxF P n (l ++ m) = idxF P n l ++ idxF P (n + l.length) m
  | [], m, n => by simp [idxF]
  | s :: l, m, n => by
    simp only [List.cons_append, idxF, idxF_app P l m (n + 1), List.length_cons]
    rw [show n + 1 + l.length = n + (l.length + 1) by omega]
    split <;> simp
theorem idxs_step {P : Sp → Bool} {l : List Sp} {k : Nat} {s : Sp} (h : l[k]? = some s) : idxs P (l.take (k + 1)) = idxs P (l.take k) ++ (if P s then [(k : Int)] else []) := by
  have hk : k < l.length := (List.getElem?_eq_some_iff.1 h).1
  unfold idxs
  rw [List.take_add_one, h, Option.toList_some, idxF_app, List.length_take, Nat.min_eq_left (by omega), Nat.zero_add]
  congr 1
theorem idxF_len (P : Sp → Bool) : ∀ (l : List Sp) (n : Nat), (idxF P n l).length ≤ l.length
  | [], _ => by simp [idxF]
  | s :: l, n => by
    have := idxF_len P l (n + 1)
    simp only [idxF]
    split <;> simp <;> omega
theorem idxs_len (P : Sp → Bool) (l : List Sp) : (idxs P l).length ≤ l.length := idxF_len P l 0
theorem idxF_ge (P : Sp → Bool) : ∀ (l : List Sp) (n : Nat) (i : Int), i ∈ idxF P n l → (n : Int) ≤ i
  | [], _, i, h => by simp [idxF] at h
  | s :: l, n, i, h => by
    simp only [idxF] at h
    split at h
    · rcases List.mem_cons.1 h with h | h
      · omega
      · have := idxF_ge P l (n + 1) i h
        omega
    · have := idxF_ge P l (n + 1) i h
      omega
theorem idxF_sort (P : Sp → Bool) : ∀ (l : List Sp) (n : Nat), (idxF P n l).Pairwise (fun a b => a < b)
  | [], _ => List.Pairwise.nil
  | s :: l, n => by
    simp only [idxF]
    split
    · exact List.pairwise_cons.2 ⟨fun i hi => by have := idxF_ge P l (n + 1) i hi; omega, idxF_sort P l (n + 1)⟩
    · exact idxF_sort P l (n + 1)
/-- Whatever order the numbers were collected in, sorted they are these. -/
theorem sort_idx {P : Sp → Bool} {l : List Sp} {xs : List Int} (h : xs.Perm (idxs P l)) : xs.mergeSort (fun x y => decide (x ≤ y)) = idxs P l := by
  refine List.Perm.eq_of_pairwise (le := fun a b : Int => a ≤ b) (fun a b _ _ h1 h2 => by omega) ?_ ((idxF_sort P l 0).imp fun h => by omega) ((List.mergeSort_perm xs _).trans h)
  have := List.pairwise_mergeSort (le := fun x y : Int => decide (x ≤ y)) (fun a b c h1 h2 => by simp at *; omega) (fun a b => by simp; omega) xs
  exact this.imp fun h => by simpa using h
/-- What a predicate of spans chooses among nodes. -/
def colL (P : Sp → Bool) (L : List Nd) : List Int := (L.filter fun x => P x.1).map fun x => x.2.1
theorem colL_key (P : Sp → Bool) (L : List Nd) : colL P L = ((L.map keyN).filter fun k => P k.1).map fun k => k.2 := by
  unfold colL
  rw [List.filter_map, List.map_map]
  rfl
theorem colL_cons (P : Sp → Bool) (x : Nd) (L : List Nd) : colL P (x :: L) = if P x.1 then x.2.1 :: colL P L else colL P L := by
  unfold colL
  rw [List.filter_cons]
  split <;> rfl
theorem colL_plant (P : Sp → Bool) : ∀ (l : List Sp) (n : Nat), colL P (plantF n l) = idxF P n l
  | [], _ => rfl
  | s :: l, n => by
    have := colL_plant P l (n + 1)
    simp only [plantF, idxF, colL_cons, this]
theorem colL_app (P : Sp → Bool) (a b : List Nd) : colL P (a ++ b) = colL P a ++ colL P b := by simp [colL]
theorem colL_len (P : Sp → Bool) (a : List Nd) : (colL P a).length ≤ a.length := by unfold colL; rw [List.length_map]; exact List.length_filter_le _ _
/-- Every root's reach is no smaller than the ends in its tree. -/
def Msr (L : List Nd) : Nat → Nat → Nat → Prop
  | 0, lo, hi => hi ≤ lo
  | k + 1, lo, hi => lo < hi → ∃ r, L[lo + (hi - lo) / 2]? = some r ∧ (∀ (j : Nat) (x : Nd), lo ≤ j → j < hi → L[j]? = some x → x.1.2 ≤ r.2.2) ∧ Msr L k lo (lo + (hi - lo) / 2) ∧ Msr L k (lo + (hi - lo) / 2 + 1) hi
theorem msr_same {L L' : List Nd} : ∀ (k lo hi : Nat), (∀ j, lo ≤ j → j < hi → L'[j]? = L[j]?) → Msr L k lo hi → Msr L' k lo hi
  | 0, lo, hi, _, hm => hm
  | k + 1, lo, hi, h, hm => fun hlt => by
    obtain ⟨r, h1, h2, h3, h4⟩ := hm hlt
    exact ⟨r, by rw [h _ (by omega) (by omega)]; exact h1, fun j x a b c => h2 j x a b (by rw [← h j a b]; exact c), msr_same k _ _ (fun j a b => h j a (by omega)) h3, msr_same k _ _ (fun j a b => h j (by omega) b) h4⟩
theorem msr_nil (L : List Nd) (k lo : Nat) : Msr L k lo lo := by
  cases k with
  | zero => exact Nat.le_refl _
  | succ k => exact fun h => absurd h (by omega)
/-- The nodes from lo to hi that end behind tok. -/
def segF (L : List Nd) (tok : Int) (lo hi : Nat) : List Nd := ((L.take hi).drop lo).filter fun x => decide (tok < x.1.2)
theorem segF_nil (L : List Nd) (tok : Int) (lo : Nat) : segF L tok lo lo = [] := by
  unfold segF
  rw [List.drop_eq_nil_of_le (by rw [List.length_take]; omega)]
  rfl
theorem segF_split {L : List Nd} {tok : Int} {lo m hi : Nat} {r : Nd} (h1 : lo ≤ m) (h2 : m < hi) (hr : L[m]? = some r) :
    segF L tok lo hi = segF L tok lo m ++ (if tok < r.1.2 then [r] else []) ++ segF L tok (m + 1) hi := by
  have hm : m < L.length := (List.getElem?_eq_some_iff.1 hr).1
  have e : (L.take hi).drop lo = (L.take m).drop lo ++ r :: (L.take hi).drop (m + 1) := by
    apply List.ext_getElem?
    intro i
    rw [List.getElem?_drop, List.getElem?_take, List.getElem?_append]
    rw [List.length_drop, List.length_take, Nat.min_eq_left (by omega)]
    by_cases hi1 : i < m - lo
    · rw [if_pos hi1, if_pos (by omega), List.getElem?_drop, List.getElem?_take, if_pos (by omega)]
    · rw [if_neg hi1, List.getElem?_cons]
      by_cases hi2 : i - (m - lo) = 0
      · rw [if_pos hi2, if_pos (by omega), show lo + i = m by omega, hr]
      · rw [if_neg hi2, List.getElem?_drop, List.getElem?_take, show m + 1 + (i - (m - lo) - 1) = lo + i by omega]
  unfold segF
  rw [e, List.filter_append, List.filter_cons]
  by_cases ht : tok < r.1.2
  · rw [if_pos (by simpa using ht), if_pos ht]
    simp
  · rw [if_neg (by simpa using ht), if_neg ht]
    simp
theorem segF_len (L : List Nd) (tok : Int) (lo hi : Nat) (h : lo ≤ hi) : (segF L tok lo hi).length ≤ hi - lo := by
  unfold segF
  refine Nat.le_trans (List.length_filter_le _ _) ?_
  rw [List.length_drop, List.length_take]
  omega
/-- A tree whose reach does not reach behind tok has no node that ends there. -/
theorem segF_cut {L : List Nd} {tok : Int} {lo hi : Nat} (h : ∀ (j : Nat) (x : Nd), lo ≤ j → j < hi → L[j]? = some x → x.1.2 ≤ tok) : segF L tok lo hi = [] := by
  unfold segF
  rw [List.filter_eq_nil_iff]
  intro x hx
  obtain ⟨i, hi1⟩ := List.getElem?_of_mem hx
  rw [List.getElem?_drop, List.getElem?_take] at hi1
  split at hi1
  · have := h _ x (by omega) (by assumption) hi1
    simpa using this
  · cases hi1
theorem segF_all (L : List Nd) (tok : Int) : segF L tok 0 L.length = L.filter fun x => decide (tok < x.1.2) := by simp [segF]
/-- The tree of a list. -/
def TreeOf (L : List Nd) (l : List Sp) : Prop := (L.map keyN).Perm ((plantF 0 l).map keyN) ∧ L.Pairwise (fun a b => a.1.1 ≤ b.1.1) ∧ L.length = l.length ∧ Msr L L.length 0 L.length
/-- The spans that begin at most at last, end behind tok and fit. -/
def selP (last tok : Int) (fits : Sp → Bool) (s : Sp) : Bool := decide (s.1 ≤ last) && (decide (tok < s.2) && fits s)
theorem col_filter (P : Nd → Bool) (fits Q : Sp → Bool) : ∀ (L : List Nd), (∀ x ∈ L, (P x && fits x.1) = Q x.1) → colL fits (L.filter P) = colL Q L
  | [], _ => rfl
  | x :: L, h => by
    have ih := col_filter P fits Q L (fun y hy => h y (List.mem_cons_of_mem _ hy))
    have hx := h x (List.mem_cons_self ..)
    rw [List.filter_cons, colL_cons, ← hx]
    by_cases hp : P x = true
    · rw [if_pos hp, colL_cons, ih, hp, Bool.true_and]
    · rw [if_neg hp, ih, if_neg (by simp [hp])]
theorem tree_perm {L : List Nd} {l : List Sp} (h : TreeOf L l) (Q : Sp → Bool) : (colL Q L).Perm (idxs Q l) := by
  have e := colL_plant Q l 0
  rw [colL_key] at e ⊢
  unfold idxs
  rw [← e]
  exact (h.1.filter _).map _
theorem find_whole {L : List Nd} {l : List Sp} (h : TreeOf L l) {last tok : Int} {fits : Sp → Bool} (hb : ∀ x ∈ L.filter (fun x => decide (tok < x.1.2)), x.1.1 ≤ last) :
    (colL fits (L.filter fun x => decide (tok < x.1.2))).Perm (idxs (selP last tok fits) l) := by
  rw [col_filter (fun x => decide (tok < x.1.2)) fits (selP last tok fits) L ?_]
  · exact tree_perm h _
  · intro x hx
    unfold selP
    by_cases ht : tok < x.1.2
    · have := hb x (List.mem_filter.2 ⟨hx, by simpa using ht⟩)
      simp [ht, this]
    · simp [ht]
theorem find_cut {L : List Nd} {l : List Sp} (h : TreeOf L l) {last tok : Int} {fits : Sp → Bool} {pre : List Nd} {x : Nd} (hp : pre ++ [x] <+: L.filter fun x => decide (tok < x.1.2)) (hb : ∀ y ∈ pre, y.1.1 ≤ last) (hx : last < x.1.1) :
    (colL fits pre).Perm (idxs (selP last tok fits) l) := by
  have hs : (L.filter fun x => decide (tok < x.1.2)).Pairwise (fun a b => a.1.1 ≤ b.1.1) := h.2.1.filter _
  obtain ⟨rest, hr⟩ := hp
  have e1 : colL (selP last tok fits) L = colL (selP last tok fits) (L.filter fun x => decide (tok < x.1.2)) := by
    rw [← col_filter (fun x => decide (tok < x.1.2)) (selP last tok fits) (selP last tok fits) L]
    intro x _
    unfold selP
    by_cases ht : tok < x.1.2 <;> simp [ht]
  have e2 : colL (selP last tok fits) (pre ++ [x] ++ rest) = colL fits pre := by
    rw [← hr] at hs
    have hall : ∀ y ∈ [x] ++ rest, last < y.1.1 := by
      intro y hy
      rw [List.append_assoc] at hs
      rcases List.mem_append.1 hy with hy | hy
      · simp at hy
        subst hy
        exact hx
      · have := (List.pairwise_append.1 ((List.pairwise_append.1 hs).2.1)).2.2 x (by simp) y hy
        omega
    rw [List.append_assoc, colL_app]
    have e3 : colL (selP last tok fits) ([x] ++ rest) = [] := by
      unfold colL
      rw [List.filter_eq_nil_iff.2, List.map_nil]
      intro y hy
      have := hall y hy
      unfold selP
      simp
      omega
    rw [e3, List.append_nil]
    have hpre : ∀ y ∈ pre, tok < y.1.2 := by
      intro y hy
      have : y ∈ L.filter fun x => decide (tok < x.1.2) := by rw [← hr]; simp [hy]
      simpa using (List.mem_filter.1 this).2
    have : pre = pre.filter fun _ => true := (List.filter_eq_self.2 fun _ _ => rfl).symm
    rw [← col_filter (fun _ => true) fits (selP last tok fits) pre, ← this]
    intro y hy
    unfold selP
    simp [hpre y hy, hb y hy]
  rw [hr] at e2
  rw [← e2, ← e1]
  exact tree_perm h _
/-- The index' errors. -/
def okT (s : Sp) : Bool := okS s && decide (s.2 ≤ 2147483647)
def chkT (l : List Sp) : Int := if 4096 < l.length then 2 else if l.all okT then 0 else 8
theorem chkT_ref (l : List Sp) : chkT l = if chkS l ≠ 0 then chkS l else if l.all (fun s => decide (s.2 ≤ 2147483647)) then 0 else 8 := by
  unfold chkT chkS
  by_cases h1 : 4096 < l.length
  · simp [h1]
  · by_cases h2 : l.all okS = true
    · rw [if_neg h1, if_neg h1, if_pos h2]
      have : l.all okT = l.all fun s => decide (s.2 ≤ 2147483647) := by
        rw [Bool.eq_iff_iff, List.all_eq_true, List.all_eq_true]
        exact ⟨fun h s hs => by have := h s hs; unfold okT at this; simp at this; simpa using this.2, fun h s hs => by have h3 := List.all_eq_true.1 h2 s hs; have h4 := h s hs; unfold okT; rw [h3, h4]; rfl⟩
      rw [this]
      simp
    · have : ¬ l.all okT = true := fun h => h2 (List.all_eq_true.2 fun s hs => by have := List.all_eq_true.1 h s hs; unfold okT at this; simp at this; exact this.1)
      rw [if_neg h1, if_neg h1, if_neg h2, if_neg this]
      simp
end Go.Proofs.YtifdencdbpdbfaaDoor
