/-
  THE PLAIN MATHEMATICS of package corpus: the way down to a node, told by walks along the parents.
-/
import Derived.Test.YtfcnihmfmbmmjaaGreatQdE
namespace Go.Proofs.YtfcnihmfmbmmjaaGreat
open Go.Lib

theorem above_at (path : List Int) (p : Int) : aboveN path p = 0 ∨ ∃ k, path[k]? = some p ∧ aboveN path p = k + 1 := by
  unfold aboveN
  cases h : path.findIdx? (fun k => decide (k = p)) with
  | none => exact .inl rfl
  | some i =>
    obtain ⟨h1, h2, _⟩ := List.findIdx?_eq_some_iff_getElem.1 h
    refine .inr ⟨i, ?_, rfl⟩
    rw [List.getElem?_eq_getElem h1]
    simpa using h2
theorem above_zero {path : List Int} {p : Int} (h : aboveN path p = 0) : p ∉ path := by
  unfold aboveN at h
  cases hf : path.findIdx? (fun k => decide (k = p)) with
  | none =>
    rw [List.findIdx?_eq_none_iff] at hf
    intro hm
    have := hf p hm
    simp at this
  | some i => rw [hf] at h; cases h
theorem path_succ {l : List Nd} {i : Nat} {x : Nd} (h : l[i]? = some x) : pathAt l (i + 1) = (pathAt l i).take (aboveN (pathAt l i) x.parent) ++ [(i : Int)] := by rw [pathAt, h]
theorem path_idx (l : List Nd) : ∀ i t (a : Int), i ≤ l.length → (pathAt l i)[t]? = some a → pathAt l (a.toNat + 1) = (pathAt l i).take (t + 1)
  | 0, t, a, _, h => by simp [pathAt] at h
  | i + 1, t, a, hi, h => by
    obtain ⟨x, hx⟩ : ∃ x, l[i]? = some x := ⟨_, List.getElem?_eq_getElem (by omega)⟩
    have ih := path_idx l i
    rw [path_succ hx] at h ⊢
    obtain ⟨m, hm⟩ : ∃ m, aboveN (pathAt l i) x.parent = m := ⟨_, rfl⟩
    have hml := above_le (pathAt l i) x.parent
    rw [hm] at h hml ⊢
    have hl : ((pathAt l i).take m).length = m := by rw [List.length_take]; omega
    rcases Nat.lt_trichotomy t m with ht | ht | ht
    · rw [List.getElem?_append_left (by omega), List.getElem?_take, if_pos ht] at h
      rw [ih t a (by omega) h, List.take_append_of_le_length (by omega), List.take_take, Nat.min_eq_left (by omega)]
    · subst ht
      rw [List.getElem?_append_right (by omega), hl, Nat.sub_self] at h
      simp only [List.getElem?_cons_zero, Option.some.injEq] at h
      subst h
      rw [show ((i : Int)).toNat = i from by omega, path_succ hx, hm, List.take_of_length_le (l := (pathAt l i).take t ++ [(i : Int)]) (by rw [List.length_append, hl]; simp)]
    · rw [List.getElem?_eq_none (by rw [List.length_append, hl]; simp; omega)] at h
      cases h
theorem path_len {l : List Nd} {i : Nat} (h : 0 < i) (hi : i ≤ l.length) : ∃ L, (pathAt l i).length = L + 1 ∧ (pathAt l i)[L]? = some ((i : Int) - 1) := by
  obtain ⟨j, rfl⟩ : ∃ j, i = j + 1 := ⟨i - 1, by omega⟩
  obtain ⟨x, hx⟩ : ∃ x, l[j]? = some x := ⟨_, List.getElem?_eq_getElem (by omega)⟩
  rw [path_succ hx]
  refine ⟨((pathAt l j).take (aboveN (pathAt l j) x.parent)).length, by simp, ?_⟩
  rw [List.getElem?_append_right (Nat.le_refl _), Nat.sub_self]
  simp
theorem path_keep {l : List Nd} : ∀ (i s m : Nat) (a : Int), i ≤ l.length → (pathAt l i)[m]? = some a → a < (s : Int) → s ≤ i → (pathAt l s)[m]? = some a
  | 0, s, m, a, _, h, _, hs => by
    obtain rfl : s = 0 := by omega
    exact h
  | i + 1, s, m, a, hi, h, ha, hs => by
    by_cases e : s = i + 1
    · subst e; exact h
    · obtain ⟨x, hx⟩ : ∃ x, l[i]? = some x := ⟨_, List.getElem?_eq_getElem (by omega)⟩
      rw [path_succ hx] at h
      by_cases hm : m < ((pathAt l i).take (aboveN (pathAt l i) x.parent)).length
      · rw [List.getElem?_append_left hm] at h
        rw [List.length_take] at hm
        rw [List.getElem?_take, if_pos (by omega)] at h
        exact path_keep i s m a (by omega) h ha (by omega)
      · rw [List.getElem?_append_right (by omega)] at h
        have : a = (i : Int) := by
          have h2 := List.mem_of_getElem? h
          simpa using h2
        omega
/-- The parents before i are proper: each is none, or stands on the way down. -/
def ParOk (l : List Nd) (i : Nat) : Prop := ∀ j y, j < i → l[j]? = some y → aboveN (pathAt l j) y.parent = 0 → y.parent = -1
theorem par_of {l : List Nd} {i t : Nat} {a : Int} {y : Nd} (H : ParOk l i) (hi : i ≤ l.length) (ha : (pathAt l i)[t]? = some a) (hy : l[a.toNat]? = some y) : (t = 0 → y.parent = -1) ∧ (∀ u, t = u + 1 → (pathAt l i)[u]? = some y.parent) := by
  obtain ⟨h1, h2⟩ := (pathAt_range l i).1 a (List.mem_of_getElem? ha)
  have h3 := path_idx l i t a hi ha
  rw [path_succ hy] at h3
  have hlt : t < (pathAt l i).length := (List.getElem?_eq_some_iff.1 ha).1
  have hml := above_le (pathAt l a.toNat) y.parent
  have hlen := congrArg List.length h3
  rw [List.length_append, List.length_take, List.length_take, Nat.min_eq_left hml, Nat.min_eq_left (by omega)] at hlen
  simp only [List.length_singleton] at hlen
  refine ⟨fun h0 => H a.toNat y (by omega) hy (by omega), fun u hu => ?_⟩
  rcases above_at (pathAt l a.toNat) y.parent with h0 | ⟨k, hk, hk1⟩
  · omega
  · obtain rfl : k = u := by omega
    have h4 := congrArg (fun z : List Int => z[k]?) h3
    rw [List.getElem?_append_left (by rw [List.length_take]; omega), List.getElem?_take, if_pos (by omega), List.getElem?_take, if_pos (by omega), hk] at h4
    exact h4.symm
theorem par_lt {l : List Nd} {i j : Nat} {y : Nd} (H : ParOk l i) (hj : j < i) (hy : l[j]? = some y) : -1 ≤ y.parent ∧ y.parent < (j : Int) := by
  rcases above_at (pathAt l j) y.parent with h0 | ⟨k, hk, _⟩
  · have := H j y hj hy h0; omega
  · have := (pathAt_range l j).1 _ (List.mem_of_getElem? hk); omega
/-- Behind a node of the way, nobody has its parent, until the way ends. -/
theorem no_sib {l : List Nd} {i m s : Nat} {a : Int} {y : Nd} (hi : i ≤ l.length) (ha : (pathAt l i)[m]? = some a) (has : a < (s : Int)) (hs : s < i) (hy : l[s]? = some y) : a ≤ y.parent := by
  have h1 := path_keep i s m a hi ha has (by omega)
  have h2 := path_keep i (s + 1) m a hi ha (by omega) (by omega)
  rw [path_succ hy] at h2
  have hml := above_le (pathAt l s) y.parent
  have hm : m < aboveN (pathAt l s) y.parent := by
    rcases Nat.lt_or_ge m (aboveN (pathAt l s) y.parent) with h | h
    · exact h
    · rw [List.getElem?_append_right (by rw [List.length_take]; omega)] at h2
      have h3 := List.mem_of_getElem? h2
      simp only [List.mem_singleton] at h3
      omega
  rcases above_at (pathAt l s) y.parent with h0 | ⟨k, hk, hk1⟩
  · omega
  · have h4 := path_idx l s k y.parent (by omega) hk
    have h5 : (pathAt l (y.parent.toNat + 1))[m]? = some a := by rw [h4, List.getElem?_take, if_pos (by omega)]; exact h1
    have h6 := (pathAt_range l (y.parent.toNat + 1)).1 a (List.mem_of_getElem? h5)
    have h7 := (pathAt_range l s).1 _ (List.mem_of_getElem? hk)
    omega
/-- The preceding sibling: what follows the parent on the way. -/
theorem sib_some {l : List Nd} {i : Nat} {p s0 : Int} (H : ParOk l i) (hi : i ≤ l.length) (hp : aboveN (pathAt l i) p = 0 → p = -1) (hs : (pathAt l i)[aboveN (pathAt l i) p]? = some s0) :
    (∃ y, l[s0.toNat]? = some y ∧ y.parent = p) ∧ 0 ≤ s0 ∧ s0 < (i : Int) ∧ ∀ (u : Nat) (y : Nd), s0 < (u : Int) → u < i → l[u]? = some y → y.parent ≠ p := by
  obtain ⟨h1, h2⟩ := (pathAt_range l i).1 s0 (List.mem_of_getElem? hs)
  obtain ⟨y, hy⟩ : ∃ y, l[s0.toNat]? = some y := ⟨_, List.getElem?_eq_getElem (by omega)⟩
  have hpar := par_of H hi hs hy
  have hpp : y.parent = p := by
    rcases above_at (pathAt l i) p with h0 | ⟨k, hk, hk1⟩
    · rw [hp h0]; exact hpar.1 h0
    · have := hpar.2 k hk1
      rw [hk] at this
      exact (Option.some.inj this).symm
  have hlt := (par_lt H (by omega) hy).2
  refine ⟨⟨y, hy, hpp⟩, h1, h2, fun u z hu1 hu2 hz he => ?_⟩
  have := no_sib hi hs hu1 hu2 hz
  omega
theorem sib_none {l : List Nd} {i : Nat} {p : Int} (H : ParOk l i) (hi : i ≤ l.length) (hs : (pathAt l i).length ≤ aboveN (pathAt l i) p) : ∀ u y, u < i → l[u]? = some y → y.parent ≠ p := by
  intro u y hu hy he
  obtain ⟨L, hL1, hL2⟩ := path_len (l := l) (i := i) (by omega) hi
  rcases above_at (pathAt l i) p with h0 | ⟨k, hk, hk1⟩
  · omega
  · have := (List.getElem?_eq_some_iff.1 hk).1
    obtain rfl : k = L := by omega
    rw [hk] at hL2
    have h1 := Option.some.inj hL2
    have h2 := (par_lt H hu hy).2
    omega
/-- The way up from the node before i, step by step. -/
def UpAt (l : List Nd) (i : Nat) (p k : Int) (t : Nat) : Prop := (t = 0 → k = -1) ∧ (∀ u, t = u + 1 → (pathAt l i)[u]? = some k) ∧ t ≤ (pathAt l i).length ∧ ∀ (u : Nat) (a : Int), t ≤ u → (pathAt l i)[u]? = some a → a ≠ p
theorem up_start {l : List Nd} {i : Nat} {p : Int} (hi : i ≤ l.length) : UpAt l i p ((i : Int) - 1) (pathAt l i).length := by
  by_cases h : i = 0
  · subst h
    exact ⟨fun _ => rfl, fun u hu => by simp [pathAt] at hu, Nat.le_refl _, fun u a _ ha => by simp [pathAt] at ha⟩
  · obtain ⟨L, hL1, hL2⟩ := path_len (l := l) (by omega : 0 < i) hi
    exact ⟨fun h0 => by omega, fun u hu => by obtain rfl : u = L := by omega
                                              exact hL2, Nat.le_refl _, fun u a h1 h2 => by have := (List.getElem?_eq_some_iff.1 h2).1; omega⟩
theorem up_step {l : List Nd} {i : Nat} {p k : Int} {t : Nat} {y : Nd} (H : ParOk l i) (hi : i ≤ l.length) (h : UpAt l i p k t) (h0 : 0 ≤ k) (hne : k ≠ p) (hy : l[k.toNat]? = some y) : 0 < t ∧ UpAt l i p y.parent (t - 1) := by
  obtain ⟨h1, h2, h3, h4⟩ := h
  have ht : 0 < t := by
    rcases Nat.eq_zero_or_pos t with e | e
    · have := h1 e; omega
    · exact e
  obtain ⟨u, rfl⟩ : ∃ u, t = u + 1 := ⟨t - 1, by omega⟩
  have hk := h2 u rfl
  have hpar := par_of H hi hk hy
  refine ⟨ht, fun e => hpar.1 (by omega), fun v hv => hpar.2 v (by omega), by omega, fun v a hv ha => ?_⟩
  by_cases e : v = u
  · subst e
    rw [hk] at ha
    cases ha
    exact hne
  · exact h4 v a (by omega) ha
theorem up_range {l : List Nd} {i : Nat} {p k : Int} {t : Nat} (h : UpAt l i p k t) : -1 ≤ k ∧ k < (i : Int) := by
  obtain ⟨h1, h2, _, _⟩ := h
  rcases Nat.eq_zero_or_pos t with e | e
  · have := h1 e; omega
  · have := (pathAt_range l i).1 k (List.mem_of_getElem? (h2 (t - 1) (by omega)))
    omega
theorem up_end_none {l : List Nd} {i : Nat} {p k : Int} {t : Nat} (h : UpAt l i p k t) (hk : k < 0) : aboveN (pathAt l i) p = 0 := by
  obtain ⟨h1, h2, h3, h4⟩ := h
  have ht : t = 0 := by
    rcases Nat.eq_zero_or_pos t with e | e
    · exact e
    · have := (pathAt_range l i).1 k (List.mem_of_getElem? (h2 (t - 1) (by omega)))
      omega
  rcases above_at (pathAt l i) p with h0 | ⟨m, hm, _⟩
  · exact h0
  · exact absurd rfl (h4 m p (by omega) hm)
theorem up_end_some {l : List Nd} {i : Nat} {p k : Int} {t : Nat} (h : UpAt l i p k t) (hk : 0 ≤ k) (he : k = p) : 0 < aboveN (pathAt l i) p := by
  obtain ⟨h1, h2, h3, h4⟩ := h
  rcases Nat.eq_zero_or_pos (aboveN (pathAt l i) p) with e | e
  · have ht : 0 < t := by
      rcases Nat.eq_zero_or_pos t with e | e
      · have := h1 e; omega
      · exact e
    exact absurd (he ▸ List.mem_of_getElem? (h2 (t - 1) (by omega))) (above_zero e)
  · exact e
/-- The depth of a node: the length of the way to it. -/
def depN (l : List Nd) (i : Nat) : Nat := (pathAt l (i + 1)).length
theorem dep_of {l : List Nd} {i : Nat} {x : Nd} (hx : l[i]? = some x) : depN l i = aboveN (pathAt l i) x.parent + 1 := by
  unfold depN
  rw [path_succ hx, List.length_append, List.length_take, Nat.min_eq_left (above_le _ _)]
  rfl
theorem dep_par {l : List Nd} {i : Nat} {p : Int} (hi : i ≤ l.length) (h : 0 < aboveN (pathAt l i) p) : depN l p.toNat = aboveN (pathAt l i) p := by
  rcases above_at (pathAt l i) p with h0 | ⟨k, hk, hk1⟩
  · omega
  · unfold depN
    have := (List.getElem?_eq_some_iff.1 hk).1
    rw [path_idx l i k p hi hk, List.length_take, Nat.min_eq_left (by omega), hk1]
theorem sib_found {l : List Nd} {i q : Nat} {p : Int} {y : Nd} (H : ParOk l i) (hi : i ≤ l.length) (hp : aboveN (pathAt l i) p = 0 → p = -1) (hq : q < i) (hy : l[q]? = some y) (he : y.parent = p) (hn : ∀ (u : Nat) (z : Nd), q < u → u < i → l[u]? = some z → z.parent ≠ p) :
    aboveN (pathAt l i) p < (pathAt l i).length ∧ ndAt l ((pathAt l i).getD (aboveN (pathAt l i) p) 0) = y := by
  by_cases h : aboveN (pathAt l i) p < (pathAt l i).length
  · obtain ⟨s0, hs0⟩ : ∃ s, (pathAt l i)[aboveN (pathAt l i) p]? = some s := ⟨_, List.getElem?_eq_getElem h⟩
    obtain ⟨⟨z, hz, hzp⟩, h1, h2, h3⟩ := sib_some H hi hp hs0
    have e : s0.toNat = q := by
      rcases Nat.lt_trichotomy s0.toNat q with e | e | e
      · exact absurd he (h3 q y (by omega) hq hy)
      · exact e
      · exact absurd hzp (hn s0.toNat z e (by omega) hz)
    refine ⟨h, ?_⟩
    rw [List.getD_eq_getElem?_getD, hs0, Option.getD_some]
    unfold ndAt
    rw [e, List.getD_eq_getElem?_getD, hy, Option.getD_some]
  · exact absurd he (sib_none H hi (by omega) q y hq hy)
theorem sib_missing {l : List Nd} {i : Nat} {p : Int} (H : ParOk l i) (hi : i ≤ l.length) (hp : aboveN (pathAt l i) p = 0 → p = -1) (hn : ∀ (u : Nat) (z : Nd), u < i → l[u]? = some z → z.parent ≠ p) : ¬ aboveN (pathAt l i) p < (pathAt l i).length := by
  intro h
  obtain ⟨s0, hs0⟩ : ∃ s, (pathAt l i)[aboveN (pathAt l i) p]? = some s := ⟨_, List.getElem?_eq_getElem h⟩
  obtain ⟨⟨z, hz, hzp⟩, h1, h2, h3⟩ := sib_some H hi hp hs0
  exact hn s0.toNat z (by omega) hz hzp
theorem ndAt_of {l : List Nd} {p : Int} {y : Nd} (h : l[p.toNat]? = some y) : ndAt l p = y := by
  unfold ndAt
  rw [List.getD_eq_getElem?_getD, h, Option.getD_some]
theorem par_ok_of {c : Cor} {i : Nat} (h : ∀ j, j < i → nodeE c j = 0) : ParOk c.nodes i := by
  intro j y hj hy h0
  have h1 := h j hj
  unfold nodeE at h1
  rw [hy] at h1
  simp only at h1
  by_cases a1 : nameB y.label = false
  · rw [if_pos a1] at h1; cases h1
  · rw [if_neg a1] at h1
    by_cases a2 : within c y.b y.e = false
    · rw [if_pos a2] at h1; cases h1
    · rw [if_neg a2] at h1
      unfold nodeP at h1
      by_cases a3 : aboveN (pathAt c.nodes j) y.parent = 0 ∧ y.parent ≠ -1
      · rw [if_pos a3] at h1; cases h1
      · exact Classical.byContradiction fun h2 => a3 ⟨h0, h2⟩
end Go.Proofs.YtfcnihmfmbmmjaaGreat
