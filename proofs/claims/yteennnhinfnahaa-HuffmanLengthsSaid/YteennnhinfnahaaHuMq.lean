/-
  THE PLAIN MATHEMATICS of package huffman, of no program: a stable sort by weight, two ascending lists in one; packages, the lists of package-merge, which leaves they take; no lengths within the limit have a smaller sum.
-/
import Derived.Test.YteennnhinfnahaaProg
namespace Go.Proofs.Yteennnhinfnahaa
set_option linter.unusedVariables false
/-! ### a stable sort by weight -/
section
variable {α : Type}
/-- Put behind all that weigh no more. -/
def insA (w : α → Nat) (x : α) : List α → List α
  | [] => [x]
  | y :: l => if w y ≤ w x then y :: insA w x l else x :: y :: l
def sortA (w : α → Nat) (l : List α) : List α := l.foldl (fun acc x => insA w x acc) []
/-- Ascending weights. -/
def AscW (w : α → Nat) (l : List α) : Prop := l.Pairwise fun x y => w x ≤ w y
theorem insA_perm (w : α → Nat) (x : α) : ∀ l, (insA w x l).Perm (x :: l)
  | [] => List.Perm.refl _
  | y :: l => by
    unfold insA
    by_cases h : w y ≤ w x
    · rw [if_pos h]; exact ((insA_perm w x l).cons y).trans (List.Perm.swap x y l)
    · rw [if_neg h]
theorem insA_asc (w : α → Nat) (x : α) : ∀ l, AscW w l → AscW w (insA w x l)
  | [], _ => by unfold insA AscW; exact List.pairwise_singleton _ _
  | y :: l, h => by
    unfold AscW at h
    rw [List.pairwise_cons] at h
    unfold insA
    by_cases c : w y ≤ w x
    · rw [if_pos c]
      unfold AscW
      rw [List.pairwise_cons]
      refine ⟨fun z hz => ?_, insA_asc w x l h.2⟩
      rcases List.mem_cons.1 ((insA_perm w x l).mem_iff.1 hz) with rfl | hz
      · exact c
      · exact h.1 z hz
    · rw [if_neg c]
      unfold AscW
      rw [List.pairwise_cons, List.pairwise_cons]
      refine ⟨fun z hz => ?_, h⟩
      rcases List.mem_cons.1 hz with rfl | hz
      · omega
      · have := h.1 z hz; omega
theorem foldIns_perm (w : α → Nat) : ∀ (l acc : List α), (l.foldl (fun a x => insA w x a) acc).Perm (acc ++ l)
  | [], acc => by simp
  | x :: l, acc => by
    rw [List.foldl_cons]
    refine (foldIns_perm w l _).trans ?_
    refine ((insA_perm w x acc).append_right l).trans ?_
    rw [List.cons_append]
    exact List.perm_middle.symm
theorem foldIns_asc (w : α → Nat) : ∀ (l acc : List α), AscW w acc → AscW w (l.foldl (fun a x => insA w x a) acc)
  | [], acc, h => h
  | x :: l, acc, h => by rw [List.foldl_cons]; exact foldIns_asc w l _ (insA_asc w x acc h)
theorem sortA_perm (w : α → Nat) (l : List α) : (sortA w l).Perm l := by simpa [sortA] using foldIns_perm w l []
theorem sortA_asc (w : α → Nat) (l : List α) : AscW w (sortA w l) := foldIns_asc w l [] List.Pairwise.nil
theorem sortA_append (w : α → Nat) (l m : List α) : sortA w (l ++ m) = m.foldl (fun a x => insA w x a) (sortA w l) := by unfold sortA; rw [List.foldl_append]
theorem sortA_snoc (w : α → Nat) (l : List α) (x : α) : sortA w (l ++ [x]) = insA w x (sortA w l) := by rw [sortA_append]; rfl
theorem insA_map {β : Type} (f : α → β) (w : α → Nat) (v : β → Nat) (h : ∀ x, v (f x) = w x) (x : α) : ∀ l, (insA w x l).map f = insA v (f x) (l.map f)
  | [] => rfl
  | y :: l => by
    rw [List.map_cons]
    unfold insA
    rw [h, h]
    by_cases c : w y ≤ w x
    · rw [if_pos c, if_pos c, List.map_cons, insA_map f w v h x l]
    · rw [if_neg c, if_neg c]; rfl
theorem foldIns_map {β : Type} (f : α → β) (w : α → Nat) (v : β → Nat) (h : ∀ x, v (f x) = w x) : ∀ (l acc : List α), (l.foldl (fun a x => insA w x a) acc).map f = (l.map f).foldl (fun a x => insA v x a) (acc.map f)
  | [], acc => rfl
  | x :: l, acc => by rw [List.map_cons, List.foldl_cons, List.foldl_cons, ← insA_map f w v h, foldIns_map f w v h l]
theorem sortA_map {β : Type} (f : α → β) (w : α → Nat) (v : β → Nat) (h : ∀ x, v (f x) = w x) (l : List α) : (sortA w l).map f = sortA v (l.map f) := foldIns_map f w v h l []
/-- Where all in front weigh no more, and one behind weighs more. -/
theorem insA_at (w : α → Nat) (x : α) : ∀ (l : List α) (k : Nat), k ≤ l.length → (∀ y ∈ l.take k, w y ≤ w x) → (∀ y, l[k]? = some y → w x < w y) → insA w x l = l.take k ++ x :: l.drop k
  | [], k, hk, _, _ => by simp [insA]
  | y :: l, 0, _, _, h => by
    unfold insA
    have := h y rfl
    rw [if_neg (by omega)]
    rfl
  | y :: l, k + 1, hk, h1, h2 => by
    unfold insA
    rw [if_pos (h1 y (by simp)), insA_at w x l k (by simpa using hk) (fun z hz => h1 z (by simp [hz])) (fun z hz => h2 z (by simpa using hz))]
    rfl
/-- In front of what weighs no more nothing changes. -/
theorem insA_behind (w : α → Nat) (x : α) : ∀ (l m : List α), (∀ y ∈ l, w y ≤ w x) → insA w x (l ++ m) = l ++ insA w x m
  | [], m, _ => rfl
  | y :: l, m, h => by
    rw [List.cons_append]
    conv => lhs; unfold insA
    rw [if_pos (h y (by simp)), insA_behind w x l m fun z hz => h z (by simp [hz])]
    rfl
theorem foldIns_behind (w : α → Nat) : ∀ (ps l m : List α), (∀ y ∈ l, ∀ p ∈ ps, w y ≤ w p) → ps.foldl (fun a x => insA w x a) (l ++ m) = l ++ ps.foldl (fun a x => insA w x a) m
  | [], l, m, _ => rfl
  | p :: ps, l, m, h => by
    rw [List.foldl_cons, List.foldl_cons, insA_behind w p l m fun y hy => h y hy p (by simp), foldIns_behind w ps l _ fun y hy q hq => h y hy q (by simp [hq])]

/-- Two ascending lists in one, the first one's ahead if they weigh the same. -/
def mergeA (w : α → Nat) : List α → List α → List α
  | ls, [] => ls
  | ls, p :: ps => ls.takeWhile (fun y => decide (w y ≤ w p)) ++ p :: mergeA w (ls.dropWhile fun y => decide (w y ≤ w p)) ps
theorem asc_take {w : α → Nat} {l : List α} (h : AscW w l) (n : Nat) : AscW w (l.take n) := h.sublist (List.take_sublist n l)
theorem asc_drop {w : α → Nat} {l : List α} (h : AscW w l) (n : Nat) : AscW w (l.drop n) := h.sublist (List.drop_sublist n l)
theorem drop_while_gt {w : α → Nat} {b : Nat} : ∀ {l : List α}, AscW w l → ∀ x ∈ l.dropWhile (fun y => decide (w y ≤ b)), b < w x
  | [], _, x, hx => by simp at hx
  | y :: l, h, x, hx => by
    unfold AscW at h
    rw [List.pairwise_cons] at h
    by_cases c : w y ≤ b
    · rw [List.dropWhile_cons_of_pos (by simpa using c)] at hx
      exact drop_while_gt h.2 x hx
    · rw [List.dropWhile_cons_of_neg (by simpa using c)] at hx
      rcases List.mem_cons.1 hx with rfl | hx
      · omega
      · have := h.1 x hx; omega
theorem take_while_le {w : α → Nat} {b : Nat} : ∀ {l : List α}, ∀ x ∈ l.takeWhile (fun y => decide (w y ≤ b)), w x ≤ b
  | [], x, hx => by simp at hx
  | y :: l, x, hx => by
    by_cases c : w y ≤ b
    · rw [List.takeWhile_cons_of_pos (by simpa using c)] at hx
      rcases List.mem_cons.1 hx with rfl | hx
      · exact c
      · exact take_while_le x hx
    · rw [List.takeWhile_cons_of_neg (by simpa using c)] at hx
      simp at hx
theorem insA_while {w : α → Nat} (x : α) {l : List α} : insA w x l = l.takeWhile (fun y => decide (w y ≤ w x)) ++ x :: l.dropWhile (fun y => decide (w y ≤ w x)) := by
  induction l with
  | nil => rfl
  | cons y l ih =>
    unfold insA
    by_cases c : w y ≤ w x
    · rw [if_pos c, List.takeWhile_cons_of_pos (by simpa using c), List.dropWhile_cons_of_pos (by simpa using c), ih]; rfl
    · rw [if_neg c, List.takeWhile_cons_of_neg (by simpa using c), List.dropWhile_cons_of_neg (by simpa using c)]; rfl
theorem merge_fold (w : α → Nat) : ∀ (ps ls : List α), AscW w ps → ps.foldl (fun a x => insA w x a) ls = mergeA w ls ps
  | [], ls, _ => by simp [mergeA]
  | p :: ps, ls, h => by
    unfold AscW at h
    rw [List.pairwise_cons] at h
    rw [List.foldl_cons, insA_while]
    unfold mergeA
    have e : ls.takeWhile (fun y => decide (w y ≤ w p)) ++ p :: ls.dropWhile (fun y => decide (w y ≤ w p)) = (ls.takeWhile (fun y => decide (w y ≤ w p)) ++ [p]) ++ ls.dropWhile (fun y => decide (w y ≤ w p)) := by simp
    rw [e, foldIns_behind w ps _ _ (fun y hy q hq => ?_), merge_fold w ps _ h.2]
    · simp
    · rcases List.mem_append.1 hy with hy | hy
      · exact Nat.le_trans (take_while_le y hy) (h.1 q hq)
      · rw [List.mem_singleton] at hy; subst hy; exact h.1 q hq
theorem sort_merge (w : α → Nat) {l ps : List α} (h : AscW w ps) : sortA w (l ++ ps) = mergeA w (sortA w l) ps := by rw [sortA_append, merge_fold w ps _ h]
/-- The first n of a merged list: the first of both; a leaf left out is heavier than each package taken. -/
theorem merge_split (w : α → Nat) : ∀ (ps ls : List α) (n : Nat), AscW w ls → n ≤ ls.length + ps.length → ∃ a b, a + b = n ∧ a ≤ ls.length ∧ b ≤ ps.length ∧ ((mergeA w ls ps).take n).Perm (ls.take a ++ ps.take b) ∧ ∀ x ∈ ls.drop a, ∀ p ∈ ps.take b, w p < w x
  | [], ls, n, _, hn => ⟨n, 0, rfl, by simpa using hn, Nat.le_refl _, by simp [mergeA], by simp⟩
  | p :: ps, ls, n, hs, hn => by
    unfold mergeA
    obtain ⟨A, hA⟩ : ∃ A, ls.takeWhile (fun y => decide (w y ≤ w p)) = A := ⟨_, rfl⟩
    obtain ⟨B, hB⟩ : ∃ B, ls.dropWhile (fun y => decide (w y ≤ w p)) = B := ⟨_, rfl⟩
    have hAB : ls = A ++ B := by rw [← hA, ← hB]; exact List.takeWhile_append_dropWhile.symm
    have hgt : ∀ x ∈ B, w p < w x := by rw [← hB]; exact drop_while_gt hs
    have hBs : AscW w B := by rw [← hB]; exact hs.sublist (List.dropWhile_sublist _)
    rw [hA, hB]
    have hlen : ls.length = A.length + B.length := by rw [hAB, List.length_append]
    rw [List.length_cons] at hn
    by_cases c : n ≤ A.length
    · refine ⟨n, 0, rfl, by omega, Nat.zero_le _, ?_, by simp⟩
      rw [hAB, List.take_append_of_le_length c, List.take_append_of_le_length c]
      simp
    · obtain ⟨n', hn'⟩ : ∃ n', n = A.length + (n' + 1) := ⟨n - A.length - 1, by omega⟩
      obtain ⟨a, b, h1, h2, h3, h4, h5⟩ := merge_split w ps B n' hBs (by omega)
      refine ⟨A.length + a, b + 1, by omega, by omega, by simp; omega, ?_, ?_⟩
      · rw [hn', List.take_length_add_append, List.take_succ_cons, hAB, List.take_length_add_append, List.take_succ_cons, List.append_assoc]
        refine List.Perm.append_left A ?_
        exact (h4.cons p).trans List.perm_middle.symm
      · intro x hx q hq
        rw [hAB, List.drop_length_add_append] at hx
        rw [List.take_succ_cons] at hq
        rcases List.mem_cons.1 hq with rfl | hq
        · exact hgt x (List.mem_of_mem_drop hx)
        · exact h5 x hx q hq
/-- The least sum of n is that of the first n. -/
def sumW (w : α → Nat) (l : List α) : Nat := (l.map w).sum
theorem sumW_append (w : α → Nat) (l m : List α) : sumW w (l ++ m) = sumW w l + sumW w m := by simp [sumW]
theorem sumW_cons (w : α → Nat) (x : α) (l : List α) : sumW w (x :: l) = w x + sumW w l := by simp [sumW]
theorem sumW_perm (w : α → Nat) {l m : List α} (h : l.Perm m) : sumW w l = sumW w m := (h.map w).sum_nat
theorem sum_take_shift (w : α → Nat) : ∀ (l : List α) (x : α) (n : Nat), AscW w (x :: l) → n ≤ l.length → sumW w ((x :: l).take n) ≤ sumW w (l.take n)
  | l, x, 0, _, _ => by simp [sumW]
  | [], x, n + 1, _, hn => by simp at hn
  | y :: l, x, n + 1, h, hn => by
    unfold AscW at h
    rw [List.pairwise_cons] at h
    rw [List.take_succ_cons, List.take_succ_cons, sumW_cons, sumW_cons]
    have h1 := h.1 y (by simp)
    have h2 := sum_take_shift w l y n h.2 (by simpa using hn)
    have h3 : sumW w ((y :: l).take n) = sumW w ((y :: l).take n) := rfl
    omega
theorem min_sum (w : α → Nat) : ∀ (s t r : List α), AscW w s → (t ++ r).Perm s → sumW w (s.take t.length) ≤ sumW w t
  | [], t, r, _, hp => by
    have := hp.length_eq
    simp [sumW]
  | x :: s, t, r, h, hp => by
    have hx : x ∈ t ++ r := hp.mem_iff.2 (by simp)
    have hs : AscW w s := (List.pairwise_cons.1 h).2
    have hl := hp.length_eq
    rw [List.length_append, List.length_cons] at hl
    rcases List.mem_append.1 hx with hx | hx
    · obtain ⟨t1, t2, ht⟩ := List.append_of_mem hx
      have hp2 : ((t1 ++ t2) ++ r).Perm s := by
        have : (x :: ((t1 ++ t2) ++ r)).Perm (x :: s) := by
          refine List.Perm.trans ?_ hp
          rw [ht]
          simpa using (List.perm_middle (a := x) (l₁ := t1) (l₂ := t2 ++ r)).symm
        exact this.cons_inv
      have ih := min_sum w s (t1 ++ t2) r hs hp2
      have e1 : t.length = (t1 ++ t2).length + 1 := by rw [ht]; simp; omega
      have e2 : sumW w t = w x + sumW w (t1 ++ t2) := by rw [ht, sumW_append, sumW_cons, sumW_append]; omega
      rw [e1, List.take_succ_cons, sumW_cons, e2]
      omega
    · obtain ⟨r1, r2, hr⟩ := List.append_of_mem hx
      have hp2 : (t ++ (r1 ++ r2)).Perm s := by
        have : (x :: (t ++ (r1 ++ r2))).Perm (x :: s) := by
          refine List.Perm.trans ?_ hp
          rw [hr]
          simpa using (List.perm_middle (a := x) (l₁ := t ++ r1) (l₂ := r2)).symm
        exact this.cons_inv
      have ih := min_sum w s t (r1 ++ r2) hs hp2
      have hle : t.length ≤ s.length := by have := hp2.length_eq; rw [List.length_append] at this; omega
      exact Nat.le_trans (sum_take_shift w s x t.length h hle) ih
end
/-! ### packages -/
inductive PT where
  | leaf (s : Nat)
  | node (a b : PT)
def PT.wt (c : Nat → Nat) : PT → Nat
  | .leaf s => c s
  | .node a b => a.wt c + b.wt c
/-- How often a symbol occurs. -/
def PT.occ (s : Nat) : PT → Nat
  | .leaf t => if t = s then 1 else 0
  | .node a b => a.occ s + b.occ s
/-- Items 0 and 1, 2 and 3, .. -/
def pairs : List PT → List PT
  | a :: b :: l => .node a b :: pairs l
  | _ => []
/-- The lists of package-merge: list i has packages of up to 2^(i-1) leaves. -/
def lev (c : Nat → Nat) (L : List PT) : Nat → List PT
  | 0 => []
  | i + 1 => sortA (PT.wt c) (L ++ pairs (lev c L i))
def occL (s : Nat) (l : List PT) : Nat := (l.map (PT.occ s)).sum
theorem occL_append (s : Nat) (l m : List PT) : occL s (l ++ m) = occL s l + occL s m := by simp [occL]
theorem occL_perm (s : Nat) {l m : List PT} (h : l.Perm m) : occL s l = occL s m := (h.map _).sum_nat
theorem pairs_len : ∀ l : List PT, (pairs l).length = l.length / 2
  | [] => rfl
  | [a] => by simp [pairs]
  | a :: b :: l => by
    simp only [pairs, List.length_cons, pairs_len l]
    omega
theorem pairs_take : ∀ (l : List PT) (n : Nat), (pairs l).take n = pairs (l.take (2 * n))
  | [], n => by simp [pairs]
  | [a], n => by
    cases n with
    | zero => simp [pairs]
    | succ n => rw [show 2 * (n + 1) = (2 * n + 1) + 1 by omega, List.take_succ_cons, List.take_nil]; simp [pairs]
  | a :: b :: l, 0 => by simp [pairs]
  | a :: b :: l, n + 1 => by
    rw [show 2 * (n + 1) = (2 * n + 1) + 1 by omega, List.take_succ_cons, List.take_succ_cons]
    simp only [pairs, List.take_succ_cons, pairs_take l n]
theorem pairs_sum (f : PT → Nat) (hf : ∀ a b, f (.node a b) = f a + f b) : ∀ l : List PT, l.length % 2 = 0 → ((pairs l).map f).sum = (l.map f).sum
  | [], _ => rfl
  | [a], h => by simp at h
  | a :: b :: l, h => by
    simp only [pairs, List.map_cons, List.sum_cons, hf, pairs_sum f hf l (by simp only [List.length_cons] at h; omega)]
    omega
theorem pairs_asc (c : Nat → Nat) : ∀ l : List PT, AscW (PT.wt c) l → AscW (PT.wt c) (pairs l)
  | [], _ => List.Pairwise.nil
  | [a], _ => List.Pairwise.nil
  | a :: b :: l, h => by
    unfold AscW at h
    rw [List.pairwise_cons, List.pairwise_cons] at h
    show List.Pairwise _ (PT.node a b :: pairs l)
    rw [List.pairwise_cons]
    refine ⟨fun p hp => ?_, pairs_asc c l h.2.2⟩
    have : ∀ (m : List PT), (∀ x ∈ m, a.wt c ≤ x.wt c) → (∀ x ∈ m, b.wt c ≤ x.wt c) → ∀ p ∈ pairs m, a.wt c + b.wt c ≤ p.wt c := by
      intro m
      induction m using pairs.induct with
      | case1 x y m ih =>
        intro h1 h2 p hp
        rcases List.mem_cons.1 hp with rfl | hp
        · have := h1 x (by simp)
          have := h2 y (by simp)
          simp only [PT.wt]; omega
        · exact ih (fun z hz => h1 z (by simp [hz])) (fun z hz => h2 z (by simp [hz])) p hp
      | case2 m hm =>
        intro _ _ p hp
        unfold pairs at hp
        split at hp
        · exact absurd rfl (hm _ _ _)
        · simp at hp
    exact this l (fun x hx => h.1 x (by simp [hx])) (fun x hx => h.2.1 x hx) p hp
/-- What occurs in a tree weighs no more than the tree. -/
theorem occ_wt (c : Nat → Nat) (s : Nat) : ∀ t : PT, 0 < t.occ s → c s ≤ t.wt c
  | .leaf t, h => by
    unfold PT.occ at h
    by_cases e : t = s
    · subst e; exact Nat.le_refl _
    · rw [if_neg e] at h; omega
  | .node a b, h => by
    unfold PT.occ at h
    unfold PT.wt
    by_cases e : 0 < a.occ s
    · have := occ_wt c s a e; omega
    · have := occ_wt c s b (by omega); omega
theorem pairs_occ (s : Nat) : ∀ l : List PT, l.length % 2 = 0 → occL s (pairs l) = occL s l := fun l h => pairs_sum (PT.occ s) (fun _ _ => rfl) l h
theorem occL_pos {s : Nat} : ∀ {l : List PT}, 0 < occL s l → ∃ t ∈ l, 0 < t.occ s
  | [], h => by simp [occL] at h
  | t :: l, h => by
    by_cases e : 0 < t.occ s
    · exact ⟨t, by simp, e⟩
    · obtain ⟨u, hu, h2⟩ := occL_pos (s := s) (l := l) (by simp only [occL, List.map_cons, List.sum_cons] at h ⊢; omega)
      exact ⟨u, by simp [hu], h2⟩
/-- The leaves of symbols. -/
def leavesP (S : List Nat) : List PT := S.map PT.leaf
theorem occ_leaves : ∀ (S : List Nat) (s : Nat), occL s (leavesP S) = S.count s
  | [], s => rfl
  | t :: S, s => by
    have := occ_leaves S s
    simp only [occL, leavesP, List.map_cons, List.sum_cons] at this ⊢
    rw [this, List.count_cons]
    simp only [PT.occ, beq_iff_eq]
    omega
theorem lev_asc (c : Nat → Nat) (L : List PT) (i : Nat) : AscW (PT.wt c) (lev c L i) := by
  cases i with
  | zero => exact List.Pairwise.nil
  | succ i => exact sortA_asc _ _
theorem lev_perm (c : Nat → Nat) (L : List PT) (i : Nat) : (lev c L (i + 1)).Perm (L ++ pairs (lev c L i)) := sortA_perm _ _
/-- The sorted symbols. -/
def srt (c : Nat → Nat) (S : List Nat) : List Nat := sortA c S
theorem srt_leaves (c : Nat → Nat) (S : List Nat) : sortA (PT.wt c) (leavesP S) = leavesP (srt c S) := (sortA_map PT.leaf c (PT.wt c) (fun _ => rfl) S).symm
theorem lev_merge (c : Nat → Nat) (S : List Nat) (i : Nat) : lev c (leavesP S) (i + 1) = mergeA (PT.wt c) (leavesP (srt c S)) (pairs (lev c (leavesP S) i)) := by
  show sortA _ _ = _
  rw [sort_merge _ (pairs_asc c _ (lev_asc c _ i)), srt_leaves]
/-- The first n of a list of package-merge: the first leaves, and the first packages. -/
theorem lev_split (c : Nat → Nat) (S : List Nat) (i n : Nat) (hn : n ≤ (lev c (leavesP S) (i + 1)).length) :
    ∃ a b, a + b = n ∧ a ≤ S.length ∧ 2 * b ≤ (lev c (leavesP S) i).length ∧ (∀ s, occL s ((lev c (leavesP S) (i + 1)).take n) = ((srt c S).take a).count s + occL s ((lev c (leavesP S) i).take (2 * b))) ∧
      ∀ s ∈ (srt c S).drop a, occL s ((lev c (leavesP S) i).take (2 * b)) = 0 := by
  rw [lev_merge] at hn ⊢
  have hsl : (srt c S).length = S.length := (sortA_perm c S).length_eq
  have hasc : AscW (PT.wt c) (leavesP (srt c S)) := by
    have := sortA_asc (PT.wt c) (leavesP S)
    rwa [srt_leaves] at this
  have hml : (mergeA (PT.wt c) (leavesP (srt c S)) (pairs (lev c (leavesP S) i))).length = S.length + (pairs (lev c (leavesP S) i)).length := by
    rw [← lev_merge, (lev_perm c _ i).length_eq, List.length_append]; simp [leavesP]
  obtain ⟨a, b, h1, h2, h3, h4, h5⟩ := merge_split (PT.wt c) (pairs (lev c (leavesP S) i)) (leavesP (srt c S)) n hasc (by rw [hml] at hn; simp [leavesP, hsl]; exact hn)
  rw [pairs_len] at h3
  have hb : 2 * b ≤ (lev c (leavesP S) i).length := by omega
  have hlen : ((lev c (leavesP S) i).take (2 * b)).length % 2 = 0 := by rw [List.length_take, Nat.min_eq_left hb]; omega
  refine ⟨a, b, h1, by simpa [leavesP, hsl] using h2, hb, fun s => ?_, fun s hs => ?_⟩
  · rw [occL_perm s h4, occL_append, pairs_take, pairs_occ s _ hlen]
    rw [show (leavesP (srt c S)).take a = leavesP ((srt c S).take a) from (List.map_take ..).symm, occ_leaves]
  · rw [← pairs_occ s _ hlen, ← pairs_take]
    refine Nat.eq_zero_of_not_pos fun h0 => ?_
    obtain ⟨p, hp, hpo⟩ := occL_pos h0
    have h6 := h5 (.leaf s) (by rw [show (leavesP (srt c S)).drop a = leavesP ((srt c S).drop a) from (List.map_drop ..).symm]; exact List.mem_map.2 ⟨s, hs, rfl⟩) p hp
    have h7 := occ_wt c s p hpo
    have h8 : PT.wt c (.leaf s) = c s := rfl
    omega

/-! ### sums over symbols -/
def sumS (S : List Nat) (f : Nat → Nat) : Nat := (S.map f).sum
theorem sumS_cons (s : Nat) (S : List Nat) (f : Nat → Nat) : sumS (s :: S) f = f s + sumS S f := by simp [sumS]
theorem sumS_congr {S : List Nat} {f g : Nat → Nat} (h : ∀ s ∈ S, f s = g s) : sumS S f = sumS S g := by
  unfold sumS
  rw [List.map_congr_left h]
theorem sumS_add (S : List Nat) (f g : Nat → Nat) : sumS S (fun s => f s + g s) = sumS S f + sumS S g := by
  induction S with
  | nil => rfl
  | cons s S ih => rw [sumS_cons, sumS_cons, sumS_cons, ih]; omega
theorem sumS_mul (S : List Nat) (k : Nat) (f : Nat → Nat) : sumS S (fun s => k * f s) = k * sumS S f := by
  induction S with
  | nil => rfl
  | cons s S ih => rw [sumS_cons, sumS_cons, ih, Nat.mul_add]
theorem sumS_perm {S T : List Nat} (h : S.Perm T) (f : Nat → Nat) : sumS S f = sumS T f := (h.map f).sum_nat
theorem sumS_const (S : List Nat) (k : Nat) : sumS S (fun _ => k) = S.length * k := by
  induction S with
  | nil => simp [sumS]
  | cons s S ih => rw [sumS_cons, ih, List.length_cons, Nat.add_mul]; omega
theorem sumS_le {S : List Nat} {f g : Nat → Nat} (h : ∀ s ∈ S, f s ≤ g s) : sumS S f ≤ sumS S g := by
  induction S with
  | nil => exact Nat.le_refl _
  | cons s S ih =>
    rw [sumS_cons, sumS_cons]
    have := h s (by simp)
    have := ih fun t ht => h t (by simp [ht])
    omega
theorem sumS_zero {S : List Nat} {f : Nat → Nat} (h : ∀ s ∈ S, f s = 0) : sumS S f = 0 := by
  rw [sumS_congr h, sumS_const, Nat.mul_zero]
theorem sumS_mem {S : List Nat} {f : Nat → Nat} {s : Nat} (h : s ∈ S) : f s ≤ sumS S f := by
  induction S with
  | nil => simp at h
  | cons t S ih =>
    rw [sumS_cons]
    rcases List.mem_cons.1 h with rfl | h
    · omega
    · have := ih h; omega
theorem sumS_count (S T : List Nat) (_hT : T.Nodup) (hS : ∀ s ∈ T, S.count s = 1) : sumS T (fun s => S.count s) = T.length := by
  rw [sumS_congr hS, sumS_const]; omega
theorem sumS_append (S T : List Nat) (f : Nat → Nat) : sumS (S ++ T) f = sumS S f + sumS T f := by simp [sumS]

/-! ### nestedness, width -/
/-- What the first n of list i have of each symbol. -/
structure Nest (c : Nat → Nat) (S : List Nat) (i n : Nat) : Prop where
  le : ∀ s ∈ S, occL s ((lev c (leavesP S) i).take n) ≤ i
  no : ∀ s, s ∉ S → occL s ((lev c (leavesP S) i).take n) = 0
  wide : 2 * sumS S (fun s => 2 ^ i - 2 ^ (i - occL s ((lev c (leavesP S) i).take n))) = n * 2 ^ i
  mono : ∀ s ∈ S, ∀ t ∈ S, c t < c s → occL s ((lev c (leavesP S) i).take n) ≤ occL t ((lev c (leavesP S) i).take n)
theorem count_take_drop {l : List Nat} (h : l.Nodup) (a : Nat) {s : Nat} (hs : s ∈ l) : ((l.take a).count s = 1 ∧ s ∉ l.drop a ∧ s ∈ l.take a) ∨ ((l.take a).count s = 0 ∧ s ∈ l.drop a) := by
  have h1 : l.count s = (l.take a).count s + (l.drop a).count s := by rw [← List.count_append, List.take_append_drop]
  have h2 : l.count s = 1 := by rw [List.Nodup.count h, if_pos hs]
  by_cases c : s ∈ l.drop a
  · have := List.count_pos_iff.2 c
    exact .inr ⟨by omega, c⟩
  · have h3 := List.count_eq_zero.2 c
    have h4 : (l.take a).count s = 1 := by omega
    exact .inl ⟨h4, c, List.count_pos_iff.1 (by omega)⟩
theorem nest (c : Nat → Nat) (S : List Nat) (hS : S.Nodup) : ∀ (i n : Nat), n ≤ (lev c (leavesP S) i).length → Nest c S i n
  | 0, n, hn => by
    have h0 : n = 0 := by simpa [lev] using hn
    subst h0
    refine ⟨fun s _ => by simp [lev, occL], fun s _ => by simp [lev, occL], ?_, fun s _ t _ _ => by simp [lev, occL]⟩
    rw [sumS_zero fun s _ => by simp [lev, occL]]
  | i + 1, n, hn => by
    obtain ⟨a, b, hab, ha, hb, hocc, hz⟩ := lev_split c S i n hn
    have ih := nest c S hS i (2 * b) hb
    have hp : (srt c S).Perm S := sortA_perm c S
    have hnd : (srt c S).Nodup := hp.nodup_iff.2 hS
    obtain ⟨o, ho⟩ : ∃ o : Nat → Nat, ∀ s, occL s ((lev c (leavesP S) i).take (2 * b)) = o s := ⟨_, fun _ => rfl⟩
    obtain ⟨ih1, ih2, ih3, ih4⟩ := ih
    simp only [ho] at ih1 ih2 ih3 ih4 hocc hz
    have hpart := fun s (hs : s ∈ S) => count_take_drop hnd a (hp.mem_iff.2 hs)
    refine ⟨fun s hs => ?_, fun s hs => ?_, ?_, fun s hs t ht hlt => ?_⟩
    · rw [hocc]
      have := ih1 s hs
      rcases hpart s hs with ⟨h, _⟩ | ⟨h, _⟩ <;> omega
    · rw [hocc, ih2 s hs, Nat.add_zero]
      exact List.count_eq_zero.2 fun h => hs (hp.mem_iff.1 (List.mem_of_mem_take h))
    · simp only [hocc]
      have e : ∀ s ∈ S, 2 ^ (i + 1) - 2 ^ (i + 1 - (((srt c S).take a).count s + o s)) = ((srt c S).take a).count s * 2 ^ i + (2 ^ i - 2 ^ (i - o s)) := fun s hs => by
        have h1 := ih1 s hs
        have hpw : (2 : Nat) ^ (i + 1) = 2 * 2 ^ i := by rw [Nat.pow_succ]; omega
        have hle : (2 : Nat) ^ (i - o s) ≤ 2 ^ i := Nat.pow_le_pow_right (by omega) (by omega)
        rcases hpart s hs with ⟨h, _⟩ | ⟨h, hd⟩
        · rw [h, show i + 1 - (1 + o s) = i - o s by omega, hpw]; omega
        · rw [h, hz s hd, hpw]; simp
          rw [hpw]; omega
      rw [sumS_congr e, sumS_add]
      have e2 : sumS S (fun s => ((srt c S).take a).count s * 2 ^ i) = a * 2 ^ i := by
        rw [sumS_congr (g := fun s => 2 ^ i * ((srt c S).take a).count s) fun s _ => Nat.mul_comm _ _, sumS_mul, Nat.mul_comm]
        congr 1
        rw [← sumS_perm hp]
        rw [show sumS (srt c S) (fun s => ((srt c S).take a).count s) = sumS ((srt c S).take a ++ (srt c S).drop a) (fun s => ((srt c S).take a).count s) by rw [List.take_append_drop]]
        rw [sumS_append]
        have hal : ((srt c S).take a).length = a := by rw [List.length_take, hp.length_eq, Nat.min_eq_left ha]
        rw [sumS_count ((srt c S).take a) ((srt c S).take a) (hnd.sublist (List.take_sublist ..)) fun s hs => by
          rcases count_take_drop hnd a (List.mem_of_mem_take hs) with ⟨h, _⟩ | ⟨h, _⟩
          · exact h
          · have := List.count_pos_iff.2 hs; omega, hal]
        rw [sumS_zero fun s hs => by
          rcases count_take_drop hnd a (List.mem_of_mem_drop hs) with ⟨_, h, _⟩ | ⟨h, _⟩
          · exact absurd hs h
          · exact h]
        rfl
      rw [e2, Nat.mul_add, ih3, ← hab, Nat.add_mul, Nat.pow_succ, Nat.mul_comm 2 b, Nat.mul_assoc b, ← Nat.mul_assoc 2, Nat.mul_comm 2 a, Nat.mul_assoc a]
      congr 1
      · congr 1; omega
      · congr 1; omega
    · rw [hocc, hocc]
      have h4 := ih4 s hs t ht hlt
      rcases hpart s hs with ⟨h1, _, h1m⟩ | ⟨h1, _⟩
      · rcases hpart t ht with ⟨h2, _⟩ | ⟨h2, h2d⟩
        · omega
        · exfalso
          have hasc : AscW c (srt c S) := sortA_asc c S
          have : AscW c ((srt c S).take a ++ (srt c S).drop a) := by rw [List.take_append_drop]; exact hasc
          have := (List.pairwise_append.1 this).2.2 s h1m t h2d
          omega
      · have := hz t
        rcases hpart t ht with ⟨h2, _⟩ | ⟨h2, h2d⟩ <;> omega

/-! ### the least sum -/
theorem occ_sum_wt (c : Nat → Nat) (S : List Nat) (hS : S.Nodup) : ∀ t : PT, (∀ s, s ∉ S → t.occ s = 0) → t.wt c = sumS S (fun s => c s * t.occ s)
  | .leaf t, h => by
    have ht : t ∈ S := Classical.byContradiction fun hn => by
      have := h t hn
      simp [PT.occ] at this
    unfold PT.wt PT.occ
    clear h
    induction S with
    | nil => simp at ht
    | cons s S ih =>
      rw [List.nodup_cons] at hS
      rw [sumS_cons]
      by_cases e : t = s
      · subst e
        rw [if_pos rfl, sumS_zero fun s hs => by rw [if_neg (fun e => hS.1 (by rw [e]; exact hs)), Nat.mul_zero]]
        omega
      · rw [if_neg e, ← ih hS.2 (by rcases List.mem_cons.1 ht with h | h; exact absurd h e; exact h)]
        omega
  | .node a b, h => by
    unfold PT.wt
    rw [occ_sum_wt c S hS a (fun s hs => by have := h s hs; unfold PT.occ at this; omega), occ_sum_wt c S hS b (fun s hs => by have := h s hs; unfold PT.occ at this; omega), ← sumS_add]
    exact sumS_congr fun s _ => (Nat.mul_add _ _ _).symm
theorem occL_sum_wt (c : Nat → Nat) (S : List Nat) (hS : S.Nodup) : ∀ l : List PT, (∀ s, s ∉ S → occL s l = 0) → sumW (PT.wt c) l = sumS S (fun s => c s * occL s l)
  | [], _ => by rw [sumS_zero fun s _ => by simp [occL]]; rfl
  | t :: l, h => by
    have e : ∀ s, occL s (t :: l) = t.occ s + occL s l := fun s => by simp [occL]
    rw [sumW_cons, occ_sum_wt c S hS t (fun s hs => by have := h s hs; rw [e] at this; omega), occL_sum_wt c S hS l (fun s hs => by have := h s hs; rw [e] at this; omega), ← sumS_add]
    exact sumS_congr fun s _ => by rw [e, Nat.mul_add]
theorem pairs_wt (c : Nat → Nat) (l : List PT) (h : l.length % 2 = 0) : sumW (PT.wt c) (pairs l) = sumW (PT.wt c) l := pairs_sum (PT.wt c) (fun _ _ => rfl) l h
theorem sumW_take_le (w : PT → Nat) (l : List PT) {n m : Nat} (h : n ≤ m) : sumW w (l.take n) ≤ sumW w (l.take m) := by
  obtain ⟨k, rfl⟩ := Nat.exists_eq_add_of_le h
  rw [List.take_add, sumW_append]; omega
theorem filter_perm {α : Type} (p : α → Bool) : ∀ l : List α, (l.filter p ++ l.filter (fun x => !p x)).Perm l
  | [] => List.Perm.refl _
  | x :: l => by
    by_cases h : p x = true
    · rw [List.filter_cons_of_pos h, List.filter_cons_of_neg (by simpa using h), List.cons_append]
      exact (filter_perm p l).cons x
    · rw [List.filter_cons_of_neg h, List.filter_cons_of_pos (by simpa using h)]
      exact List.perm_middle.trans ((filter_perm p l).cons x)
theorem sumS_filter (S : List Nat) (p : Nat → Bool) (f : Nat → Nat) : sumS (S.filter p) f = sumS S (fun s => if p s then f s else 0) := by
  induction S with
  | nil => rfl
  | cons s S ih =>
    rw [sumS_cons]
    by_cases h : p s = true
    · rw [List.filter_cons_of_pos h, sumS_cons, ih, if_pos h]
    · rw [List.filter_cons_of_neg h, ih, if_neg h]; omega
/-- THE LEAST: whatever lengths fill n places of list i, the first n weigh no more; and there are n. -/
theorem least (c : Nat → Nat) (S : List Nat) : ∀ (i n : Nat) (m : Nat → Nat), (∀ s ∈ S, m s ≤ i) → n * 2 ^ i ≤ 2 * sumS S (fun s => 2 ^ i - 2 ^ (i - m s)) →
    n ≤ (lev c (leavesP S) i).length ∧ sumW (PT.wt c) ((lev c (leavesP S) i).take n) ≤ sumS S (fun s => c s * m s)
  | 0, n, m, hm, hw => by
    rw [sumS_zero (fun s hs => by rw [Nat.le_zero.1 (hm s hs)])] at hw
    have : n = 0 := by simpa using hw
    subst this
    exact ⟨Nat.zero_le _, by simp [sumW]⟩
  | i + 1, n, m, hm, hw => by
    obtain ⟨p, hp⟩ : ∃ p : Nat → Bool, ∀ s, p s = decide (0 < m s) := ⟨_, fun _ => rfl⟩
    obtain ⟨A, hA⟩ : ∃ A, (S.filter p) = A := ⟨_, rfl⟩
    have hpw : (2 : Nat) ^ (i + 1) = 2 * 2 ^ i := by rw [Nat.pow_succ]; omega
    have e : ∀ s ∈ S, 2 ^ (i + 1) - 2 ^ (i + 1 - m s) = (if p s then 2 ^ i else 0) + (2 ^ i - 2 ^ (i - (m s - 1))) := fun s hs => by
      rw [hp]
      by_cases h : 0 < m s
      · rw [if_pos (decide_eq_true h), show i + 1 - m s = i - (m s - 1) by omega, hpw]
        have hle : (2 : Nat) ^ (i - (m s - 1)) ≤ 2 ^ i := Nat.pow_le_pow_right (by omega) (by omega)
        omega
      · rw [if_neg (by simpa using h), show m s = 0 by omega]; simp
    rw [sumS_congr e, sumS_add, ← sumS_filter, hA, sumS_const] at hw
    obtain ⟨Q, hQ⟩ : ∃ Q, sumS S (fun s => 2 ^ i - 2 ^ (i - (m s - 1))) = Q := ⟨_, rfl⟩
    rw [hQ] at hw
    have hw2 : 2 * (n - A.length) * 2 ^ i ≤ 2 * Q := by
      rw [hpw] at hw
      have h1 : (n - A.length) * 2 ^ i ≤ Q := by
        rw [Nat.sub_mul]
        have : n * (2 * 2 ^ i) = 2 * (n * 2 ^ i) := by rw [← Nat.mul_assoc, Nat.mul_comm n 2, Nat.mul_assoc]
        omega
      rw [Nat.mul_assoc]; omega
    obtain ⟨h1, h2⟩ := least c S i (2 * (n - A.length)) (fun s => m s - 1) (fun s hs => by have := hm s hs; omega) (by rw [hQ]; exact hw2)
    have hAl : A.length ≤ S.length := by rw [← hA]; exact List.length_filter_le ..
    have hl := (lev_perm c (leavesP S) i).length_eq
    rw [List.length_append, pairs_len] at hl
    have hll : (leavesP S).length = S.length := by simp [leavesP]
    refine ⟨by omega, ?_⟩
    obtain ⟨T, hT⟩ : ∃ T, leavesP A ++ (pairs (lev c (leavesP S) i)).take (n - A.length) = T := ⟨_, rfl⟩
    have hTl : T.length = A.length + (n - A.length) := by
      rw [← hT, List.length_append, List.length_take, pairs_len, Nat.min_eq_left (by omega)]; simp [leavesP]
    have hperm : (T ++ (leavesP (S.filter fun s => !p s) ++ (pairs (lev c (leavesP S) i)).drop (n - A.length))).Perm (lev c (leavesP S) (i + 1)) := by
      refine List.Perm.trans ?_ (lev_perm c (leavesP S) i).symm
      rw [← hT]
      have h3 : (leavesP A ++ leavesP (S.filter fun s => !p s)).Perm (leavesP S) := by
        rw [← hA]
        unfold leavesP
        rw [← List.map_append]
        exact (filter_perm p S).map _
      have h4 : ∀ (a b x y : List PT), (a ++ x ++ (b ++ y)).Perm ((a ++ b) ++ (x ++ y)) := fun a b x y => by
        rw [List.append_assoc, List.append_assoc]
        refine List.Perm.append_left a ?_
        rw [← List.append_assoc, ← List.append_assoc]
        exact List.Perm.append_right y List.perm_append_comm
      refine (h4 _ _ _ _).trans ?_
      rw [List.take_append_drop]
      exact h3.append_right _
    have h5 := min_sum (PT.wt c) _ T _ (lev_asc c _ (i + 1)) hperm
    have h6 : sumW (PT.wt c) T = sumS A c + sumW (PT.wt c) ((lev c (leavesP S) i).take (2 * (n - A.length))) := by
      rw [← hT, sumW_append, pairs_take, pairs_wt c _ (by rw [List.length_take, Nat.min_eq_left h1]; omega)]
      congr 1
      unfold sumW sumS leavesP
      rw [List.map_map]; rfl
    have h7 := sumW_take_le (PT.wt c) (lev c (leavesP S) (i + 1)) (n := n) (m := T.length) (by omega)
    have h8 : sumS S (fun s => c s * m s) = sumS A c + sumS S (fun s => c s * (m s - 1)) := by
      rw [← hA, sumS_filter, ← sumS_add]
      exact sumS_congr fun s _ => by
        rw [hp]
        by_cases h : 0 < m s
        · rw [if_pos (decide_eq_true h)]
          obtain ⟨q, hq⟩ := Nat.exists_eq_add_of_lt h
          rw [show m s = q + 1 by omega, Nat.mul_add]; simp; omega
        · rw [if_neg (by simpa using h), show m s = 0 by omega]; simp
    omega
/-! ### the lengths of package-merge -/
def cutK (k : Nat) : Nat := max k (2 * k - 2)
def hufL (c : Nat → Nat) (S : List Nat) (i s : Nat) : Nat := occL s ((lev c (leavesP S) i).take (cutK S.length))
theorem sum_sub (S : List Nat) (i : Nat) (m : Nat → Nat) (_hm : ∀ s ∈ S, m s ≤ i) : sumS S (fun s => 2 ^ i - 2 ^ (i - m s)) + sumS S (fun s => 2 ^ (i - m s)) = S.length * 2 ^ i := by
  rw [← sumS_add, ← sumS_const]
  exact sumS_congr fun s hs => by
    have : (2 : Nat) ^ (i - m s) ≤ 2 ^ i := Nat.pow_le_pow_right (by omega) (by omega)
    omega
theorem huf_enough (c : Nat → Nat) (S : List Nat) {i : Nat} (hi : 1 ≤ i) (hk : S.length ≤ 2 ^ i) : cutK S.length ≤ (lev c (leavesP S) i).length := by
  have h1 : S.length ≤ (lev c (leavesP S) i).length := by
    obtain ⟨j, rfl⟩ : ∃ j, i = j + 1 := ⟨i - 1, by omega⟩
    rw [(lev_perm c _ j).length_eq, List.length_append]; simp [leavesP]
  have h2 : 2 * S.length - 2 ≤ (lev c (leavesP S) i).length := by
    refine (least c S i _ (fun _ => i) (fun _ _ => Nat.le_refl _) ?_).1
    have := sum_sub S i (fun _ => i) (fun _ _ => Nat.le_refl _)
    have e : sumS S (fun _ => 2 ^ (i - i)) = S.length := by rw [Nat.sub_self, sumS_const]; omega
    rw [e] at this
    obtain ⟨P, hP⟩ : ∃ P, (2 : Nat) ^ i = P := ⟨_, rfl⟩
    rw [hP] at this hk ⊢
    rw [Nat.sub_mul, Nat.mul_assoc]
    omega
  unfold cutK; omega
section
variable {c : Nat → Nat} {S : List Nat} {i : Nat}
theorem huf_nest (hS : S.Nodup) (hi : 1 ≤ i) (hk : S.length ≤ 2 ^ i) : Nest c S i (cutK S.length) := nest c S hS i _ (huf_enough c S hi hk)
theorem huf_out (hS : S.Nodup) (hi : 1 ≤ i) (hk : S.length ≤ 2 ^ i) {s : Nat} (hs : s ∉ S) : hufL c S i s = 0 := (huf_nest hS hi hk).no s hs
theorem huf_le (hS : S.Nodup) (hi : 1 ≤ i) (hk : S.length ≤ 2 ^ i) {s : Nat} (hs : s ∈ S) : hufL c S i s ≤ i := (huf_nest hS hi hk).le s hs
theorem huf_mono (hS : S.Nodup) (hi : 1 ≤ i) (hk : S.length ≤ 2 ^ i) {s t : Nat} (hs : s ∈ S) (ht : t ∈ S) (h : c t < c s) : hufL c S i s ≤ hufL c S i t := (huf_nest hS hi hk).mono s hs t ht h
theorem huf_kraft (hS : S.Nodup) (hi : 1 ≤ i) (hk : S.length ≤ 2 ^ i) (h2 : 2 ≤ S.length) : sumS S (fun s => 2 ^ (i - hufL c S i s)) = 2 ^ i := by
  have h1 := (huf_nest (c := c) hS hi hk).wide
  have h3 := sum_sub S i (hufL c S i) (fun s hs => huf_le hS hi hk hs)
  have e : cutK S.length = 2 * S.length - 2 := by unfold cutK; omega
  rw [e] at h1
  have h4 : sumS S (fun s => 2 ^ i - 2 ^ (i - occL s ((lev c (leavesP S) i).take (2 * S.length - 2)))) = sumS S (fun s => 2 ^ i - 2 ^ (i - hufL c S i s)) := sumS_congr fun s _ => by unfold hufL; rw [e]
  rw [h4, Nat.sub_mul, Nat.mul_assoc] at h1
  have h5 : 1 * 2 ^ i ≤ S.length * 2 ^ i := Nat.mul_le_mul_right _ (by omega)
  omega
theorem huf_one (hS : S.Nodup) (hi : 1 ≤ i) (h1 : S.length = 1) {s : Nat} (hs : s ∈ S) : hufL c S i s = 1 := by
  have hk : S.length ≤ 2 ^ i := by rw [h1]; exact Nat.one_le_two_pow
  have h2 := (huf_nest (c := c) hS hi hk).wide
  have h3 := huf_le (c := c) hS hi hk hs
  obtain ⟨t, rfl⟩ := List.length_eq_one_iff.1 h1
  rw [List.mem_singleton] at hs
  subst hs
  have e : cutK [s].length = 1 := rfl
  unfold hufL at h3 ⊢
  rw [e] at h2 h3 ⊢
  obtain ⟨o, ho⟩ : ∃ o, occL s ((lev c (leavesP [s]) i).take 1) = o := ⟨_, rfl⟩
  simp only [sumS, List.map_cons, List.map_nil, List.sum_cons, List.sum_nil] at h2
  rw [ho] at h2 h3 ⊢
  obtain ⟨j, rfl⟩ : ∃ j, i = j + 1 := ⟨i - 1, by omega⟩
  have h4 : (2 : Nat) ^ (j + 1 - o) ≤ 2 ^ (j + 1) := Nat.pow_le_pow_right (by omega) (by omega)
  have h5 : (2 : Nat) ^ (j + 1 - o) = 2 ^ j := by rw [Nat.pow_succ] at h2 h4; omega
  have h6 := (Nat.pow_right_inj (by omega : 1 < 2)).1 h5
  omega
theorem two_terms {f : Nat → Nat} (h2 : 2 ≤ S.length) (hS : S.Nodup) (hp : ∀ s ∈ S, 1 ≤ f s) {s : Nat} (hs : s ∈ S) : f s + 1 ≤ sumS S f := by
  obtain ⟨A, B, rfl⟩ := List.append_of_mem hs
  rw [sumS_append, sumS_cons]
  rw [List.length_append, List.length_cons] at h2
  cases A with
  | nil =>
    cases B with
    | nil => simp at h2
    | cons b B => rw [sumS_cons]; have := hp b (by simp); omega
  | cons a A => rw [sumS_cons]; have := hp a (by simp); omega
theorem huf_ge (hS : S.Nodup) (hi : 1 ≤ i) (hk : S.length ≤ 2 ^ i) {s : Nat} (hs : s ∈ S) : 1 ≤ hufL c S i s := by
  by_cases h2 : 2 ≤ S.length
  · have h3 := two_terms (f := fun s => 2 ^ (i - hufL c S i s)) h2 hS (fun s _ => Nat.one_le_two_pow) hs
    rw [huf_kraft hS hi hk h2] at h3
    refine Nat.one_le_iff_ne_zero.2 fun h0 => ?_
    simp only [h0] at h3
    simp at h3
    omega
  · have : S.length = 1 := by
      have := List.length_pos_of_mem hs
      omega
    rw [huf_one hS hi this hs]
    exact Nat.le_refl _
/-- No lengths within the limit that fit give a smaller sum. -/
theorem huf_least (hS : S.Nodup) (hi : 1 ≤ i) (hk : S.length ≤ 2 ^ i) (m : Nat → Nat) (hm : ∀ s ∈ S, 1 ≤ m s ∧ m s ≤ i) (hK : sumS S (fun s => 2 ^ (i - m s)) ≤ 2 ^ i) : sumS S (fun s => c s * hufL c S i s) ≤ sumS S (fun s => c s * m s) := by
  by_cases h2 : 2 ≤ S.length
  · have h3 := sum_sub S i m fun s hs => (hm s hs).2
    have e : cutK S.length = 2 * S.length - 2 := by unfold cutK; omega
    have h4 := (least c S i (2 * S.length - 2) m (fun s hs => (hm s hs).2) (by
      rw [Nat.sub_mul, Nat.mul_assoc]
      have h5 : 1 * 2 ^ i ≤ S.length * 2 ^ i := Nat.mul_le_mul_right _ (by omega)
      omega)).2
    rw [← e] at h4
    rw [occL_sum_wt c S hS _ fun s hs => huf_out hS hi hk hs] at h4
    exact h4
  · refine sumS_le fun s hs => Nat.mul_le_mul_left _ ?_
    have : S.length = 1 := by
      have := List.length_pos_of_mem hs
      omega
    rw [huf_one hS hi this hs]
    exact (hm s hs).1
/-- A longer limit. -/
theorem huf_longer {j : Nat} (hS : S.Nodup) (hi : 1 ≤ i) (hij : i ≤ j) (hk : S.length ≤ 2 ^ i) : sumS S (fun s => c s * hufL c S j s) ≤ sumS S (fun s => c s * hufL c S i s) := by
  have hkj : S.length ≤ 2 ^ j := Nat.le_trans hk (Nat.pow_le_pow_right (by omega) hij)
  refine huf_least hS (by omega) hkj _ (fun s hs => ⟨huf_ge hS hi hk hs, Nat.le_trans (huf_le hS hi hk hs) hij⟩) ?_
  have e : ∀ s ∈ S, 2 ^ (j - hufL c S i s) = 2 ^ (j - i) * 2 ^ (i - hufL c S i s) := fun s hs => by
    rw [← Nat.pow_add]
    congr 1
    have := huf_le (c := c) hS hi hk hs
    omega
  rw [sumS_congr e, sumS_mul]
  have h3 : (2 : Nat) ^ j = 2 ^ (j - i) * 2 ^ i := by rw [← Nat.pow_add]; congr 1; omega
  rw [h3]
  refine Nat.mul_le_mul_left _ ?_
  by_cases h2 : 2 ≤ S.length
  · rw [huf_kraft hS hi hk h2]; exact Nat.le_refl _
  · by_cases h1 : S.length = 1
    · obtain ⟨t, rfl⟩ := List.length_eq_one_iff.1 h1
      simp only [sumS, List.map_cons, List.map_nil, List.sum_cons, List.sum_nil, Nat.add_zero]
      exact Nat.pow_le_pow_right (by omega) (by omega)
    · have : S = [] := List.length_eq_zero_iff.1 (by omega)
      subst this
      simp [sumS]
/-- Lengths below the shorter limit stay the least. -/
theorem huf_stay {j : Nat} (hS : S.Nodup) (hi : 1 ≤ i) (hij : i ≤ j) (hk : S.length ≤ 2 ^ i) (hl : ∀ s ∈ S, hufL c S j s ≤ i) : sumS S (fun s => c s * hufL c S i s) ≤ sumS S (fun s => c s * hufL c S j s) := by
  have hkj : S.length ≤ 2 ^ j := Nat.le_trans hk (Nat.pow_le_pow_right (by omega) hij)
  refine huf_least hS hi hk _ (fun s hs => ⟨huf_ge hS (by omega) hkj hs, hl s hs⟩) ?_
  by_cases h2 : 2 ≤ S.length
  · have h3 := huf_kraft (c := c) hS (by omega : 1 ≤ j) hkj h2
    have e : ∀ s ∈ S, 2 ^ (j - hufL c S j s) = 2 ^ (j - i) * 2 ^ (i - hufL c S j s) := fun s hs => by
      rw [← Nat.pow_add]
      congr 1
      have := hl s hs
      omega
    rw [sumS_congr e, sumS_mul] at h3
    have h4 : (2 : Nat) ^ j = 2 ^ (j - i) * 2 ^ i := by rw [← Nat.pow_add]; congr 1; omega
    rw [h4] at h3
    exact Nat.le_of_eq (Nat.eq_of_mul_eq_mul_left (Nat.two_pow_pos _) h3)
  · by_cases h1 : S.length = 1
    · obtain ⟨t, rfl⟩ := List.length_eq_one_iff.1 h1
      simp only [sumS, List.map_cons, List.map_nil, List.sum_cons, List.sum_nil, Nat.add_zero]
      exact Nat.pow_le_pow_right (by omega) (by omega)
    · have : S = [] := List.length_eq_zero_iff.1 (by omega)
      subst this
      simp [sumS]
end
end Go.Proofs.Yteennnhinfnahaa
