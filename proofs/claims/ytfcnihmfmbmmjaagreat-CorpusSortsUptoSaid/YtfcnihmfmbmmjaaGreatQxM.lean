/-
  THE PLAIN MATHEMATICS of package corpus: sorted insertion by its place.
-/
import Derived.Test.YtfcnihmfmbmmjaaGreatQoM
import Derived.Test.YtfcnihmfmbmmjaaGreatQeF
namespace Go.Proofs.YtfcnihmfmbmmjaaGreat
open Go.Lib

def insAt {α : Type} (i : Nat) (x : α) (l : List α) : List α := l.take i ++ x :: l.drop i
theorem insAt_len {α : Type} (i : Nat) (x : α) (l : List α) (h : i ≤ l.length) : (insAt i x l).length = l.length + 1 := by
  unfold insAt
  rw [List.length_append, List.length_take, List.length_cons, List.length_drop]
  omega
def SortedR (l : List Ex) : Prop := l.Pairwise (fun a b => cmpR a b ≤ 0)
theorem insR_mem {x y : Ex} : ∀ {l : List Ex}, y ∈ insR x l → y = x ∨ y ∈ l
  | [], h => by simpa [insR] using h
  | z :: l, h => by
    unfold insR at h
    split at h
    · rcases List.mem_cons.1 h with h | h
      · exact .inr (h ▸ List.mem_cons_self ..)
      · rcases insR_mem h with h | h
        · exact .inl h
        · exact .inr (List.mem_cons_of_mem _ h)
    · rcases List.mem_cons.1 h with h | h
      · exact .inl h
      · exact .inr h
theorem insR_sorted (x : Ex) : ∀ {l : List Ex}, SortedR l → SortedR (insR x l)
  | [], _ => by simp [insR, SortedR]
  | y :: l, h => by
    have h1 := List.pairwise_cons.1 h
    unfold insR
    by_cases hy : cmpR y x ≤ 0
    · rw [if_pos hy]
      refine List.pairwise_cons.2 ⟨fun z hz => ?_, insR_sorted x h1.2⟩
      rcases insR_mem hz with e | e
      · rw [e]; exact hy
      · exact h1.1 z e
    · rw [if_neg hy]
      have hxy : cmpR x y ≤ 0 := by have := ord_reg.anti y x; omega
      refine List.pairwise_cons.2 ⟨fun z hz => ?_, h⟩
      rcases List.mem_cons.1 hz with e | e
      · rw [e]; exact hxy
      · exact ord_reg.le x y z hxy (h1.1 z e)
/-- Behind all that are not greater, in front of all that are. -/
theorem insR_at {x : Ex} : ∀ {l : List Ex} {k : Nat}, k ≤ l.length → (∀ (j : Nat) (y : Ex), j < k → l[j]? = some y → cmpR y x ≤ 0) → (∀ (j : Nat) (y : Ex), k ≤ j → l[j]? = some y → 0 < cmpR y x) → insR x l = insAt k x l
  | [], k, hk, _, _ => by
    obtain rfl : k = 0 := by simpa using hk
    rfl
  | y :: l, 0, _, _, h2 => by
    unfold insR
    rw [if_neg (by have := h2 0 y (Nat.le_refl _) rfl; omega)]
    rfl
  | y :: l, k + 1, hk, h1, h2 => by
    unfold insR
    rw [if_pos (h1 0 y (Nat.succ_pos _) rfl), insR_at (k := k) (by simpa using hk) (fun j z hj hz => h1 (j + 1) z (by omega) (by simpa using hz)) (fun j z hj hz => h2 (j + 1) z (by omega) (by simpa using hz))]
    rfl
/-- In front of all that are not less: the same list, because equal ones are the same. -/
theorem insAt_low {x : Ex} : ∀ {l : List Ex} {k : Nat}, SortedR l → k ≤ l.length → (∀ (j : Nat) (y : Ex), j < k → l[j]? = some y → cmpR y x < 0) → (∀ (j : Nat) (y : Ex), k ≤ j → l[j]? = some y → 0 ≤ cmpR y x) → insAt k x l = insR x l
  | [], k, _, hk, _, _ => by
    obtain rfl : k = 0 := by simpa using hk
    rfl
  | y :: l, 0, hs, _, _, h2 => by
    unfold insR
    have hy := h2 0 y (Nat.le_refl _) rfl
    by_cases hz : cmpR y x ≤ 0
    · rw [if_pos hz]
      obtain rfl := ord_reg.zero y x (by omega)
      have h1 := List.pairwise_cons.1 hs
      rw [← insAt_low (k := 0) h1.2 (Nat.zero_le _) (fun j z hj => absurd hj (by omega)) (fun j z hj hz => by
        have := h1.1 z (List.mem_of_getElem? hz)
        have := ord_reg.anti y z
        omega)]
      rfl
    · rw [if_neg hz]
      rfl
  | y :: l, k + 1, hs, hk, h1, h2 => by
    unfold insR
    have := h1 0 y (Nat.succ_pos _) rfl
    rw [if_pos (by omega), ← insAt_low (k := k) (List.pairwise_cons.1 hs).2 (by simpa using hk) (fun j z hj hz => h1 (j + 1) z (by omega) (by simpa using hz)) (fun j z hj hz => h2 (j + 1) z (by omega) (by simpa using hz))]
    rfl
theorem sortR_take {l : List Ex} {k : Nat} {x : Ex} (h : l[k]? = some x) : sortR (l.take (k + 1)) = insR x (sortR (l.take k)) := by
  unfold sortR
  rw [List.take_add_one, h]
  simp
theorem sortR_sorted : ∀ (l : List Ex) (k : Nat), SortedR (sortR (l.take k)) := by
  intro l k
  induction k with
  | zero => simp [sortR, SortedR]
  | succ k ih =>
    cases hx : l[k]? with
    | none =>
      rw [List.take_add_one, hx]
      simpa using ih
    | some x =>
      rw [sortR_take hx]
      exact insR_sorted x ih
theorem sortR_len (l : List Ex) : ∀ k, k ≤ l.length → (sortR (l.take k)).length = k
  | 0, _ => rfl
  | k + 1, h => by
    obtain ⟨x, hx⟩ : ∃ x, l[k]? = some x := ⟨_, List.getElem?_eq_getElem (by omega)⟩
    rw [sortR_take hx, insR_len, sortR_len l k (by omega)]
theorem sortR_mem {l : List Ex} {y : Ex} : ∀ k, y ∈ sortR (l.take k) → y ∈ l
  | 0, h => by simp [sortR] at h
  | k + 1, h => by
    cases hx : l[k]? with
    | none =>
      rw [List.take_add_one, hx] at h
      exact sortR_mem k (by simpa using h)
    | some x =>
      rw [sortR_take hx] at h
      rcases insR_mem h with e | e
      · rw [e]; exact List.mem_of_getElem? hx
      · exact sortR_mem k e
theorem sorted_low {l : List Ex} (h : SortedR l) (x : Ex) : ∀ (i j : Nat) (y z : Ex), i < j → l[i]? = some y → l[j]? = some z → cmpR z x < 0 → cmpR y x < 0 := by
  intro i j y z hij hy hz hlt
  have h1 : cmpR y z ≤ 0 := by
    obtain ⟨hi, ei⟩ := List.getElem?_eq_some_iff.1 hy
    obtain ⟨hj, ej⟩ := List.getElem?_eq_some_iff.1 hz
    have := List.pairwise_iff_getElem.1 h i j hi hj hij
    rw [ei, ej] at this
    exact this
  have h2 := ord_reg.le y z x h1 (by omega)
  by_cases h0 : cmpR y x = 0
  · have e := ord_reg.zero y x h0
    subst e
    have := ord_reg.anti y z
    omega
  · omega
theorem sorted_high {l : List Ex} (h : SortedR l) (x : Ex) : ∀ (i j : Nat) (y z : Ex), i ≤ j → l[i]? = some y → l[j]? = some z → cmpR z x ≤ 0 → cmpR y x ≤ 0 := by
  intro i j y z hij hy hz hle
  by_cases e : i = j
  · subst e
    rw [hy] at hz
    cases hz
    exact hle
  · obtain ⟨hi, ei⟩ := List.getElem?_eq_some_iff.1 hy
    obtain ⟨hj, ej⟩ := List.getElem?_eq_some_iff.1 hz
    have := List.pairwise_iff_getElem.1 h i j hi hj (by omega)
    rw [ei, ej] at this
    exact ord_reg.le y z x this hle
theorem cntL_low {l : List Ex} {x : Ex} (h : SortedR l) : insAt (cntL (fun y => decide (cmpR y x < 0)) l) x l = insR x l := by
  have hle : cntL (fun y => decide (cmpR y x < 0)) l ≤ l.length := by unfold cntL; exact (List.takeWhile_sublist _).length_le
  refine insAt_low h hle (fun j y hj hy => ?_) (fun j y hj hy => ?_)
  · have : ∀ (l : List Ex) (j : Nat) (y : Ex), j < cntL (fun y => decide (cmpR y x < 0)) l → l[j]? = some y → cmpR y x < 0 := by
      intro l
      induction l with
      | nil => intro j y _ hy; simp at hy
      | cons a l ih =>
        intro j y hj hy
        unfold cntL at hj ih
        by_cases ha : cmpR a x < 0
        · rw [List.takeWhile_cons_of_pos (by simpa using ha)] at hj
          cases j with
          | zero => cases hy; exact ha
          | succ j => exact ih j y (by simpa using hj) (by simpa using hy)
        · rw [List.takeWhile_cons_of_neg (by simpa using ha)] at hj
          simp at hj
    exact this l j y hj hy
  · have hw : ∀ (l : List Ex) (z : Ex), l[cntL (fun y => decide (cmpR y x < 0)) l]? = some z → ¬ cmpR z x < 0 := by
      intro l
      induction l with
      | nil => intro z hz; simp at hz
      | cons a l ih =>
        intro z hz
        unfold cntL at hz ih
        by_cases ha : cmpR a x < 0
        · rw [List.takeWhile_cons_of_pos (by simpa using ha), List.length_cons, List.getElem?_cons_succ] at hz
          exact ih z hz
        · rw [List.takeWhile_cons_of_neg (by simpa using ha)] at hz
          cases hz
          exact ha
    by_cases h0 : cmpR y x < 0
    · obtain ⟨z, hz⟩ : ∃ z, l[cntL (fun y => decide (cmpR y x < 0)) l]? = some z := ⟨_, List.getElem?_eq_getElem (by have := (List.getElem?_eq_some_iff.1 hy).1; omega)⟩
      by_cases e : cntL (fun y => decide (cmpR y x < 0)) l = j
      · rw [e, hy] at hz
        cases hz
        have := hw l y (by rw [e]; exact hy)
        omega
      · exact absurd (sorted_low h x _ j z y (by omega) hz hy h0) (hw l z hz)
    · omega
end Go.Proofs.YtfcnihmfmbmmjaaGreat
