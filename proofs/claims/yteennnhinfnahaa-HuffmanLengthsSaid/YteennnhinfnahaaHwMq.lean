/-
  PLAIN MATHEMATICS for the reference's Lengths of package huffman: items beside the trees that they stand for; leaves by insertion; levels; sums.
-/
import Derived.Test.YteennnhinfnahaaTzG
import Derived.Test.YteennnhinfnahaaTzJ
import Derived.Test.YteennnhinfnahaaHwAq
namespace Go.Proofs.Yteennnhinfnahaa
open Go.RowKit Go.Shelf Go.Lib
set_option linter.unusedVariables false

/-- An item and its tree. -/
abbrev IP := ItH × PT
def occR (n : Nat) (T : PT) : List Nat := (List.range n).map fun s => T.occ s
theorem occR_len (n : Nat) (T : PT) : (occR n T).length = n := by simp [occR]
theorem occR_at {n s : Nat} (T : PT) (h : s < n) : (occR n T)[s]? = some (T.occ s) := by
  unfold occR
  rw [List.getElem?_map, List.getElem?_range h]
  rfl
theorem occR_leaf {n s : Nat} (h : s < n) : (List.replicate n 0).set s 1 = occR n (.leaf s) := by
  refine List.ext_getElem? fun j => ?_
  rw [List.getElem?_set, List.length_replicate]
  rcases Nat.lt_or_ge j n with hj | hj
  · rw [occR_at _ hj]
    by_cases e : s = j
    · subst e
      rw [if_pos rfl, if_pos h]
      simp [PT.occ]
    · rw [if_neg e, List.getElem?_replicate, if_pos hj]
      simp [PT.occ, e]
  · have e0 : (occR n (.leaf s))[j]? = none := List.getElem?_eq_none (by rw [occR_len]; exact hj)
    rw [e0]
    by_cases e : s = j
    · omega
    · rw [if_neg e]
      exact List.getElem?_eq_none (by rw [List.length_replicate]; exact hj)
theorem mergeA_map {α β : Type} (f : α → β) (w : α → Nat) (v : β → Nat) : ∀ (ps ls : List α), (∀ x ∈ ls, v (f x) = w x) → (∀ x ∈ ps, v (f x) = w x) → (mergeA w ls ps).map f = mergeA v (ls.map f) (ps.map f)
  | [], ls, _, _ => rfl
  | p :: ps, ls, hl, hp => by
    have hpw := hp p (List.mem_cons_self ..)
    have ht : ∀ l : List α, (∀ x ∈ l, v (f x) = w x) → (l.takeWhile fun y => decide (w y ≤ w p)).map f = (l.map f).takeWhile (fun y => decide (v y ≤ v (f p))) ∧ (l.dropWhile fun y => decide (w y ≤ w p)).map f = (l.map f).dropWhile (fun y => decide (v y ≤ v (f p))) := by
      intro l
      induction l with
      | nil => intro _; exact ⟨rfl, rfl⟩
      | cons x r ih =>
        intro hx
        have h1 := hx x (List.mem_cons_self ..)
        obtain ⟨i1, i2⟩ := ih fun y hy => hx y (List.mem_cons_of_mem _ hy)
        by_cases hle : w x ≤ w p
        · have hle' : v (f x) ≤ v (f p) := by rw [h1, hpw]; exact hle
          rw [List.takeWhile_cons_of_pos (by simpa using hle), List.dropWhile_cons_of_pos (by simpa using hle), List.map_cons, List.map_cons, List.takeWhile_cons_of_pos (by simpa using hle'), List.dropWhile_cons_of_pos (by simpa using hle'), i1, i2]
          exact ⟨rfl, rfl⟩
        · have hle' : ¬ v (f x) ≤ v (f p) := by rw [h1, hpw]; exact hle
          rw [List.takeWhile_cons_of_neg (by simpa using hle), List.dropWhile_cons_of_neg (by simpa using hle), List.map_cons, List.takeWhile_cons_of_neg (by simpa using hle'), List.dropWhile_cons_of_neg (by simpa using hle')]
          exact ⟨rfl, rfl⟩
    obtain ⟨h1, h2⟩ := ht ls hl
    have ih := mergeA_map f w v ps (ls.dropWhile fun y => decide (w y ≤ w p)) (fun x hx => hl x ((List.dropWhile_sublist _).subset hx)) (fun x hx => hp x (List.mem_cons_of_mem _ hx))
    simp only [mergeA, List.map_append, List.map_cons]
    rw [h1, ih, h2]
/-- Items and trees that are merged alike. -/
theorem merge_pairs (c : Nat → Nat) {P Q : List IP} (hP : ∀ p ∈ P, p.1.wt = p.2.wt c) (hQ : ∀ p ∈ Q, p.1.wt = p.2.wt c) :
    ∃ Z : List IP, Z.map Prod.fst = mergeA ItH.wt (P.map Prod.fst) (Q.map Prod.fst) ∧ Z.map Prod.snd = mergeA (PT.wt c) (P.map Prod.snd) (Q.map Prod.snd) ∧ ∀ z ∈ Z, z ∈ P ∨ z ∈ Q := by
  refine ⟨mergeA (fun p : IP => p.1.wt) P Q, ?_, ?_, fun z hz => ?_⟩
  · exact mergeA_map Prod.fst _ _ Q P (fun _ _ => rfl) (fun _ _ => rfl)
  · exact mergeA_map Prod.snd _ _ Q P (fun p hp => (hP p hp).symm) (fun p hp => (hQ p hp).symm)
  · have hmem : ∀ (Q P : List IP), z ∈ mergeA (fun p : IP => p.1.wt) P Q → z ∈ P ∨ z ∈ Q := by
      intro Q
      induction Q with
      | nil => intro P h; exact .inl h
      | cons q Q ih =>
        intro P h
        simp only [mergeA, List.mem_append, List.mem_cons] at h
        rcases h with h | rfl | h
        · exact .inl ((List.takeWhile_sublist _).subset h)
        · exact .inr (List.mem_cons_self ..)
        · rcases ih _ h with h | h
          · exact .inl ((List.dropWhile_sublist _).subset h)
          · exact .inr (List.mem_cons_of_mem _ h)
    exact hmem Q P hz
/-- The list behind the levels 1 to limit - 1: the last level. -/
theorem lev_one (c : Nat → Nat) (S : List Nat) : lev c (leavesP S) 1 = leavesP (srt c S) := by
  show sortA (PT.wt c) (leavesP S ++ pairs []) = _
  rw [show pairs [] = [] from rfl, List.append_nil]
  exact srt_leaves c S
/-- What the reference adds up. -/
theorem sum_hufL (c : Nat → Nat) (S : List Nat) (i s : Nat) (h2 : 2 ≤ S.length) : occL s ((lev c (leavesP S) i).take (2 * S.length - 2)) = hufL c S i s := by
  unfold hufL cutK
  rw [Nat.max_eq_right (by omega)]
theorem occL_step (s : Nat) {l : List PT} {k : Nat} {T : PT} (h : l[k]? = some T) : occL s (l.take (k + 1)) = occL s (l.take k) + T.occ s := by
  rw [List.take_add_one, h, Option.toList_some, occL_append]
  simp [occL]
end Go.Proofs.Yteennnhinfnahaa
