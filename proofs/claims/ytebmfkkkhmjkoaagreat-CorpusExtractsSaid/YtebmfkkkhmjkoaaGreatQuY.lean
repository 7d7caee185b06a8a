/-
  THE PLAIN MATHEMATICS of package corpus: the way down to a node, told by walks along the parents.
  WALKS over the reference of corpus: Nodes.
-/
import Derived.Test.YtebmfkkkhmjkoaaGreatQdY
import Derived.Test.YtebmfkkkhmjkoaaGreatQuA
import Derived.Test.YtebmfkkkhmjkoaaGreatQgZ
import Derived.Deep.RegionHeld3
import Derived.Deep.DrawnRows
namespace Go.Proofs.YtebmfkkkhmjkoaaGreat
open Go.Lib

theorem above_at (path : List Int) (p : Int) : aboveN path p = 0 ∨ ∃ k, path[k]? = some p ∧ aboveN path p = k + 1 := by
 unfold aboveN
 cases h : path.findIdx? (fun k => decide (k = p)) with
 | none => exact .inl rfl
 | some i =>
   obtain ⟨h1, h2, _⟩ := List.findIdx?_eq_some_iff_getElem.1 h
   refine .inr ⟨i, ?_, rfl⟩
   rw [List.getElem?_eq_getElem h1]
   simpa using h2
theorem above_zero {path : List Int} {p : Int} (h : aboveN path p = 0) : p ∉ path := by
 unfold aboveN at h
 cases hf : path.findIdx? (fun k => decide (k = p)) with
 | none =>
   rw [List.findIdx?_eq_none_iff] at hf
   intro hm
   have := hf p hm
   simp at this
 | some i => rw [hf] at h; cases h
theorem path_succ {l : List Nd} {i : Nat} {x : Nd} (h : l[i]? = some x) : pathAt l (i + 1) = (pathAt l i).take (aboveN (pathAt l i) x.parent) ++ [(i : Int)] := by rw [pathAt, h]
theorem path_idx (l : List Nd) : ∀ i t (a : Int), i ≤ l.length → (pathAt l i)[t]? = some a → pathAt l (a.toNat + 1) = (pathAt l i).take (t + 1)
 | 0, t, a, _, h => by simp [pathAt] at h
 | i + 1, t, a, hi, h => by
   obtain ⟨x, hx⟩ : ∃ x, l[i]? = some x := ⟨_, List.getElem?_eq_getElem (by omega)⟩
   have ih := path_idx l i
   rw [path_succ hx] at h ⊢
   obtain ⟨m, hm⟩ : ∃ m, aboveN (pathAt l i) x.parent = m := ⟨_, rfl⟩
   have hml := above_le (pathAt l i) x.parent
   rw [hm] at h hml ⊢
   have hl : ((pathAt l i).take m).length = m := by rw [List.length_take]; omega
   rcases Nat.lt_trichotomy t m with ht | ht | ht
   · rw [List.getElem?_append_left (by omega), List.getElem?_take, if_pos ht] at h
     rw [ih t a (by omega) h, List.take_append_of_le_length (by omega), List.take_take, Nat.min_eq_left (by omega)]
   ·
    subst ht
    rw [List.getElem?_append_right (by omega), hl, Nat.sub_self] at h
    simp only [List.getElem?_cons_zero, Option.some.injEq] at h
    subst h
    rw [show ((i : Int)).toNat = i from by omega, path_succ hx, hm, List.take_of_length_le (l := (pathAt l i).take t ++ [(i : Int)]) (by rw [List.length_append, hl]; simp)]
   rw [List.getElem?_eq_none (by rw [List.length_append, hl]; simp; omega)] at h
   cases h
theorem path_len {l : List Nd} {i : Nat} (h : 0 < i) (hi : i ≤ l.length) : ∃ L, (pathAt l i).length = L + 1 ∧ (pathAt l i)[L]? = some ((i : Int) - 1) := by
 obtain ⟨j, rfl⟩ : ∃ j, i = j + 1 := ⟨i - 1, by omega⟩
 obtain ⟨x, hx⟩ : ∃ x, l[j]? = some x := ⟨_, List.getElem?_eq_getElem (by omega)⟩
 rw [path_succ hx]
 refine ⟨((pathAt l j).take (aboveN (pathAt l j) x.parent)).length, by simp, ?_⟩
 rw [List.getElem?_append_right (Nat.le_refl _), Nat.sub_self]
 simp
theorem path_keep {l : List Nd} : ∀ (i s m : Nat) (a : Int), i ≤ l.length → (pathAt l i)[m]? = some a → a < (s : Int) → s ≤ i → (pathAt l s)[m]? = some a
 | 0, s, m, a, _, h, _, hs => by
   obtain rfl : s = 0 := by omega
   exact h
 | i + 1, s, m, a, hi, h, ha, hs => by
   by_cases e : s = i + 1
   · subst e; exact h
   obtain ⟨x, hx⟩ : ∃ x, l[i]? = some x := ⟨_, List.getElem?_eq_getElem (by omega)⟩
   rw [path_succ hx] at h
   by_cases hm : m < ((pathAt l i).take (aboveN (pathAt l i) x.parent)).length
   ·
    rw [List.getElem?_append_left hm] at h
    rw [List.length_take] at hm
    rw [List.getElem?_take, if_pos (by omega)] at h
    exact path_keep i s m a (by omega) h ha (by omega)
   rw [List.getElem?_append_right (by omega)] at h
   have : a = (i : Int) := by
    have h2 := List.mem_of_getElem? h
    simpa using h2
   omega
/-- The parents before i are proper: each is none, or stands on the way down. -/
def ParOk (l : List Nd) (i : Nat) : Prop := ∀ j y, j < i → l[j]? = some y → aboveN (pathAt l j) y.parent = 0 → y.parent = -1
theorem par_of {l : List Nd} {i t : Nat} {a : Int} {y : Nd} (H : ParOk l i) (hi : i ≤ l.length) (ha : (pathAt l i)[t]? = some a) (hy : l[a.toNat]? = some y) : (t = 0 → y.parent = -1) ∧ (∀ u, t = u + 1 → (pathAt l i)[u]? = some y.parent) := by
 obtain ⟨h1, h2⟩ := (pathAt_range l i).1 a (List.mem_of_getElem? ha)
 have h3 := path_idx l i t a hi ha
 rw [path_succ hy] at h3
 have hlt : t < (pathAt l i).length := (List.getElem?_eq_some_iff.1 ha).1
 have hml := above_le (pathAt l a.toNat) y.parent
 have hlen := congrArg List.length h3
 rw [List.length_append, List.length_take, List.length_take, Nat.min_eq_left hml, Nat.min_eq_left (by omega)] at hlen
 simp only [List.length_singleton] at hlen
 refine ⟨fun h0 => H a.toNat y (by omega) hy (by omega), fun u hu => ?_⟩
 rcases above_at (pathAt l a.toNat) y.parent with h0 | ⟨k, hk, hk1⟩
 · omega
 obtain rfl : k = u := by omega
 have h4 := congrArg (fun z : List Int => z[k]?) h3
 rw [List.getElem?_append_left (by rw [List.length_take]; omega), List.getElem?_take, if_pos (by omega), List.getElem?_take, if_pos (by omega), hk] at h4
 exact h4.symm
theorem par_lt {l : List Nd} {i j : Nat} {y : Nd} (H : ParOk l i) (hj : j < i) (hy : l[j]? = some y) : -1 ≤ y.parent ∧ y.parent < (j : Int) := by
 rcases above_at (pathAt l j) y.parent with h0 | ⟨k, hk, _⟩
 · have := H j y hj hy h0; omega
 have := (pathAt_range l j).1 _ (List.mem_of_getElem? hk); omega
/-- Behind a node of the way, nobody has its parent, until the way ends. -/
theorem no_sib {l : List Nd} {i m s : Nat} {a : Int} {y : Nd} (hi : i ≤ l.length) (ha : (pathAt l i)[m]? = some a) (has : a < (s : Int)) (hs : s < i) (hy : l[s]? = some y) : a ≤ y.parent := by
 have h1 := path_keep i s m a hi ha has (by omega)
 have h2 := path_keep i (s + 1) m a hi ha (by omega) (by omega)
 rw [path_succ hy] at h2
 have hml := above_le (pathAt l s) y.parent
 have hm : m < aboveN (pathAt l s) y.parent := by
  rcases Nat.lt_or_ge m (aboveN (pathAt l s) y.parent) with h | h
  · exact h
  rw [List.getElem?_append_right (by rw [List.length_take]; omega)] at h2
  have h3 := List.mem_of_getElem? h2
  simp only [List.mem_singleton] at h3
  omega
 rcases above_at (pathAt l s) y.parent with h0 | ⟨k, hk, hk1⟩
 · omega
 have h4 := path_idx l s k y.parent (by omega) hk
 have h5 : (pathAt l (y.parent.toNat + 1))[m]? = some a := by rw [h4, List.getElem?_take, if_pos (by omega)]; exact h1
 have h6 := (pathAt_range l (y.parent.toNat + 1)).1 a (List.mem_of_getElem? h5)
 have h7 := (pathAt_range l s).1 _ (List.mem_of_getElem? hk)
 omega
/-- The preceding sibling: what follows the parent on the way. -/
theorem sib_some {l : List Nd} {i : Nat} {p s0 : Int} (H : ParOk l i) (hi : i ≤ l.length) (hp : aboveN (pathAt l i) p = 0 → p = -1) (hs : (pathAt l i)[aboveN (pathAt l i) p]? = some s0) :
 (∃ y, l[s0.toNat]? = some y ∧ y.parent = p) ∧ 0 ≤ s0 ∧ s0 < (i : Int) ∧ ∀ (u : Nat) (y : Nd), s0 < (u : Int) → u < i → l[u]? = some y → y.parent ≠ p := by
 obtain ⟨h1, h2⟩ := (pathAt_range l i).1 s0 (List.mem_of_getElem? hs)
 obtain ⟨y, hy⟩ : ∃ y, l[s0.toNat]? = some y := ⟨_, List.getElem?_eq_getElem (by omega)⟩
 have hpar := par_of H hi hs hy
 have hpp : y.parent = p := by
  rcases above_at (pathAt l i) p with h0 | ⟨k, hk, hk1⟩
  · rw [hp h0]; exact hpar.1 h0
  have := hpar.2 k hk1
  rw [hk] at this
  exact (Option.some.inj this).symm
 have hlt := (par_lt H (by omega) hy).2
 refine ⟨⟨y, hy, hpp⟩, h1, h2, fun u z hu1 hu2 hz he => ?_⟩
 have := no_sib hi hs hu1 hu2 hz
 omega
theorem sib_none {l : List Nd} {i : Nat} {p : Int} (H : ParOk l i) (hi : i ≤ l.length) (hs : (pathAt l i).length ≤ aboveN (pathAt l i) p) : ∀ u y, u < i → l[u]? = some y → y.parent ≠ p := by
 intro u y hu hy he
 obtain ⟨L, hL1, hL2⟩ := path_len (l := l) (i := i) (by omega) hi
 rcases above_at (pathAt l i) p with h0 | ⟨k, hk, hk1⟩
 · omega
 have := (List.getElem?_eq_some_iff.1 hk).1
 obtain rfl : k = L := by omega
 rw [hk] at hL2
 have h1 := Option.some.inj hL2
 have h2 := (par_lt H hu hy).2
 omega
/-- The way up from the node before i, step by step. -/
def UpAt (l : List Nd) (i : Nat) (p k : Int) (t : Nat) : Prop := (t = 0 → k = -1) ∧ (∀ u, t = u + 1 → (pathAt l i)[u]? = some k) ∧ t ≤ (pathAt l i).length ∧ ∀ (u : Nat) (a : Int), t ≤ u → (pathAt l i)[u]? = some a → a ≠ p
theorem up_start {l : List Nd} {i : Nat} {p : Int} (hi : i ≤ l.length) : UpAt l i p ((i : Int) - 1) (pathAt l i).length := by
 by_cases h : i = 0
 · subst h
   exact ⟨fun _ => rfl, fun u hu => by simp [pathAt] at hu, Nat.le_refl _, fun u a _ ha => by simp [pathAt] at ha⟩
 obtain ⟨L, hL1, hL2⟩ := path_len (l := l) (by omega : 0 < i) hi
 exact ⟨fun h0 => by omega, fun u hu => by (obtain rfl : u = L := by omega); exact hL2, Nat.le_refl _, fun u a h1 h2 => by have := (List.getElem?_eq_some_iff.1 h2).1; omega⟩
theorem up_step {l : List Nd} {i : Nat} {p k : Int} {t : Nat} {y : Nd} (H : ParOk l i) (hi : i ≤ l.length) (h : UpAt l i p k t) (h0 : 0 ≤ k) (hne : k ≠ p) (hy : l[k.toNat]? = some y) : 0 < t ∧ UpAt l i p y.parent (t - 1) := by
 obtain ⟨h1, h2, h3, h4⟩ := h
 have ht : 0 < t := by
  rcases Nat.eq_zero_or_pos t with e | e
  · have := h1 e; omega
  exact e
 obtain ⟨u, rfl⟩ : ∃ u, t = u + 1 := ⟨t - 1, by omega⟩
 have hk := h2 u rfl
 have hpar := par_of H hi hk hy
 refine ⟨ht, fun e => hpar.1 (by omega), fun v hv => hpar.2 v (by omega), by omega, fun v a hv ha => ?_⟩
 by_cases e : v = u
 ·
  subst e
  rw [hk] at ha
  cases ha
  exact hne
 exact h4 v a (by omega) ha
theorem up_range {l : List Nd} {i : Nat} {p k : Int} {t : Nat} (h : UpAt l i p k t) : -1 ≤ k ∧ k < (i : Int) := by
 obtain ⟨h1, h2, _, _⟩ := h
 rcases Nat.eq_zero_or_pos t with e | e
 · have := h1 e; omega
 have := (pathAt_range l i).1 k (List.mem_of_getElem? (h2 (t - 1) (by omega)))
 omega
theorem up_end_none {l : List Nd} {i : Nat} {p k : Int} {t : Nat} (h : UpAt l i p k t) (hk : k < 0) : aboveN (pathAt l i) p = 0 := by
 obtain ⟨h1, h2, h3, h4⟩ := h
 have ht : t = 0 := by
  rcases Nat.eq_zero_or_pos t with e | e
  · exact e
  have := (pathAt_range l i).1 k (List.mem_of_getElem? (h2 (t - 1) (by omega)))
  omega
 rcases above_at (pathAt l i) p with h0 | ⟨m, hm, _⟩
 · exact h0
 exact absurd rfl (h4 m p (by omega) hm)
theorem up_end_some {l : List Nd} {i : Nat} {p k : Int} {t : Nat} (h : UpAt l i p k t) (hk : 0 ≤ k) (he : k = p) : 0 < aboveN (pathAt l i) p := by
 obtain ⟨h1, h2, h3, h4⟩ := h
 rcases Nat.eq_zero_or_pos (aboveN (pathAt l i) p) with e | e
 ·
  have ht : 0 < t := by
   rcases Nat.eq_zero_or_pos t with e | e
   · have := h1 e; omega
   exact e
  exact absurd (he ▸ List.mem_of_getElem? (h2 (t - 1) (by omega))) (above_zero e)
 exact e
/-- The depth of a node: the length of the way to it. -/
def depN (l : List Nd) (i : Nat) : Nat := (pathAt l (i + 1)).length
theorem dep_of {l : List Nd} {i : Nat} {x : Nd} (hx : l[i]? = some x) : depN l i = aboveN (pathAt l i) x.parent + 1 := by
 unfold depN
 rw [path_succ hx, List.length_append, List.length_take, Nat.min_eq_left (above_le _ _)]
 rfl
theorem dep_par {l : List Nd} {i : Nat} {p : Int} (hi : i ≤ l.length) (h : 0 < aboveN (pathAt l i) p) : depN l p.toNat = aboveN (pathAt l i) p := by
 rcases above_at (pathAt l i) p with h0 | ⟨k, hk, hk1⟩
 · omega
 unfold depN
 have := (List.getElem?_eq_some_iff.1 hk).1
 rw [path_idx l i k p hi hk, List.length_take, Nat.min_eq_left (by omega), hk1]
theorem sib_found {l : List Nd} {i q : Nat} {p : Int} {y : Nd} (H : ParOk l i) (hi : i ≤ l.length) (hp : aboveN (pathAt l i) p = 0 → p = -1) (hq : q < i) (hy : l[q]? = some y) (he : y.parent = p) (hn : ∀ (u : Nat) (z : Nd), q < u → u < i → l[u]? = some z → z.parent ≠ p) :
 aboveN (pathAt l i) p < (pathAt l i).length ∧ ndAt l ((pathAt l i).getD (aboveN (pathAt l i) p) 0) = y := by
 by_cases h : aboveN (pathAt l i) p < (pathAt l i).length
 ·
  obtain ⟨s0, hs0⟩ : ∃ s, (pathAt l i)[aboveN (pathAt l i) p]? = some s := ⟨_, List.getElem?_eq_getElem h⟩
  obtain ⟨⟨z, hz, hzp⟩, h1, h2, h3⟩ := sib_some H hi hp hs0
  have e : s0.toNat = q := by
   rcases Nat.lt_trichotomy s0.toNat q with e | e | e
   · exact absurd he (h3 q y (by omega) hq hy)
   · exact e
   exact absurd hzp (hn s0.toNat z e (by omega) hz)
  refine ⟨h, ?_⟩
  rw [List.getD_eq_getElem?_getD, hs0, Option.getD_some]
  unfold ndAt
  rw [e, List.getD_eq_getElem?_getD, hy, Option.getD_some]
 exact absurd he (sib_none H hi (by omega) q y hq hy)
theorem sib_missing {l : List Nd} {i : Nat} {p : Int} (H : ParOk l i) (hi : i ≤ l.length) (hp : aboveN (pathAt l i) p = 0 → p = -1) (hn : ∀ (u : Nat) (z : Nd), u < i → l[u]? = some z → z.parent ≠ p) : ¬ aboveN (pathAt l i) p < (pathAt l i).length := by
 intro h
 obtain ⟨s0, hs0⟩ : ∃ s, (pathAt l i)[aboveN (pathAt l i) p]? = some s := ⟨_, List.getElem?_eq_getElem h⟩
 obtain ⟨⟨z, hz, hzp⟩, h1, h2, h3⟩ := sib_some H hi hp hs0
 exact hn s0.toNat z (by omega) hz hzp
theorem ndAt_of {l : List Nd} {p : Int} {y : Nd} (h : l[p.toNat]? = some y) : ndAt l p = y := by
 unfold ndAt
 rw [List.getD_eq_getElem?_getD, h, Option.getD_some]
theorem par_ok_of {c : Cor} {i : Nat} (h : ∀ j, j < i → nodeE c j = 0) : ParOk c.nodes i := by
 intro j y hj hy h0
 have h1 := h j hj
 unfold nodeE at h1
 rw [hy] at h1
 simp only at h1
 by_cases a1 : nameB y.label = false
 · rw [if_pos a1] at h1; cases h1
 rw [if_neg a1] at h1
 by_cases a2 : within c y.b y.e = false
 · rw [if_pos a2] at h1; cases h1
 rw [if_neg a2] at h1
 unfold nodeP at h1
 by_cases a3 : aboveN (pathAt c.nodes j) y.parent = 0 ∧ y.parent ≠ -1
 · rw [if_pos a3] at h1; cases h1
 exact Classical.byContradiction fun h2 => a3 ⟨h0, h2⟩
end Go.Proofs.YtebmfkkkhmjkoaaGreat
namespace Go.Proofs.YtebmfkkkhmjkoaaGreat
open Go.RowKit Go.Shelf Go.Lib
set_option linter.unusedVariables false
attribute [local go_sem ↓] Go.wp_at_zero Go.wp_at_succ

theorem keepN {W W' : World} {a : Addr} {v : Value} (h : W.cell? a = some v) (hb : Below W.heap.size W W') : W'.cell? a = some v := by
 have hlt : a.block < W.heap.size := by
  rcases Nat.lt_or_ge a.block W.heap.size with h' | h'
  · exact h'
  simp [World.cell?, Array.getElem?_eq_none h'] at h
 exact (hb.cell hlt).trans h
theorem getD_set_self {l : List Nat} {i n : Nat} (h : i < l.length) : (l.set i n).getD i 0 = n := by
 rw [List.getD_eq_getElem?_getD, List.getElem?_set_self h]
 rfl
theorem getD_set_other {l : List Nat} {i j n : Nat} (h : ¬ j = i) : (l.set i n).getD j 0 = l.getD j 0 := by
 rw [List.getD_eq_getElem?_getD, List.getElem?_set_ne (fun e => h e.symm), ← List.getD_eq_getElem?_getD]
set_option maxRecDepth 100000 in
set_option maxHeartbeats 32000000 in
theorem refNodes_any {w : World} (s : Sv) (c : Cor) (v : Value) (hv : Rows 4 ENd w v c.nodes) (ht : Rows 4 EEx w s.vx c.texts) (hl : c.nodes.length ≤ maxLen) (hlt : c.texts.length ≤ maxLen) (hs : ∀ t ∈ c.nodes, t.label.length ≤ maxLen) :
 Calls Tryz.prog 88 #[v, .agg s.arr] w fun e w' => e = .returned (two (partE (nodesE c) (nodeE c) c.nodes.length)) ∧ Below w.heap.size w w' := by
 have hwi := fun b e W (h : Below w.heap.size w W) => refWithin_any (w := W) s (c := c) (ht.below stays_ex h) hlt b e
 have hae : nodesE c = if 2048 < c.nodes.length then 2 else 0 := rfl
 have hat := fun k x (h : c.nodes[k]? = some x) => show nodeE c k = (if nameB x.label = false then 4 else if within c x.b x.e = false then 8 else
  if aboveN (pathAt c.nodes k) x.parent = 0 ∧ x.parent ≠ -1 then 6
  else if 0 < aboveN (pathAt c.nodes k) x.parent ∧ ¬ ((ndAt c.nodes x.parent).b ≤ x.b ∧ x.e ≤ (ndAt c.nodes x.parent).e) then 8
  else if aboveN (pathAt c.nodes k) x.parent < (pathAt c.nodes k).length ∧ x.b < (ndAt c.nodes ((pathAt c.nodes k).getD (aboveN (pathAt c.nodes k) x.parent) 0)).e then 8
  else if 40 < aboveN (pathAt c.nodes k) x.parent + 1 then 2 else 0) by unfold nodeE; rw [h]; rfl
 have hpo := fun i (h : ∀ j, j < i → nodeE c j = 0) => par_ok_of h
 obtain ⟨l, hlc⟩ : ∃ l, c.nodes = l := ⟨_, rfl⟩
 obtain ⟨f, hf⟩ : ∃ f, nodeE c = f := ⟨_, rfl⟩
 obtain ⟨g, hg⟩ : ∃ g, nodesE c = g := ⟨_, rfl⟩
 obtain ⟨wi, hwie⟩ : ∃ e, within c = e := ⟨_, rfl⟩
 obtain ⟨A, cap1, hvt, hct⟩ := ht.form
 obtain ⟨nt, hnt⟩ : ∃ n, c.texts.length = n := ⟨_, rfl⟩
 rw [hnt] at hvt
 simp only [hlc] at hv hl hs hae hat hpo ⊢
 rw [hwie] at hat
 simp only [hwie] at hwi
 simp only [hf] at hat hpo ⊢
 rw [hg] at hae ⊢
 clear hlc hf hg hwie ht hlt hct hnt c
 obtain ⟨A0, cap, rfl, hc⟩ := hv.form
 obtain ⟨va, vt, vx, vr, vn, vh, vl⟩ := s
 simp only at hvt
 subst hvt
 simp only [Sv.arr] at hwi ⊢
 obtain ⟨n, hn⟩ : ∃ n, l.length = n := ⟨_, rfl⟩
 obtain ⟨p, hp⟩ : ∃ p, partE g f l.length = p := ⟨_, rfl⟩
 rw [hp]
 rw [hn] at hp hae hc hl hv ⊢
 unfold maxLen at hl
 obtain ⟨N0, hN0⟩ : ∃ N, w.heap.size = N := ⟨_, rfl⟩
 obtain ⟨X, hX⟩ : ∃ X, w.alloc (.cells #[va, vt, .slice A nt cap1, vr, vn, vh, vl] 30) = X := ⟨_, rfl⟩
 have hbX : Below w.heap.size w X := by rw [← hX]; exact below_box w _
 have hXs : X.heap.size = N0 + 1 := by rw [← hX, alloc_sz, hN0]
 have x1 : X.heap[N0]? = some (.cells #[va, vt, .slice A nt cap1, vr, vn, vh, vl] 30 (0, 0)) := by rw [← hX, ← hN0]; exact block_new w _
 have HV := Lib.hid (fun W (h : Below X.heap.size X W) => hv.below stays_nd (hbX.trans (h.mono hbX.size)))
 have HK := Lib.hid (fun W (h : Below X.heap.size X W) => block_below x1 h (Array.getElem?_eq_some_iff.1 x1).1)
 have HWI := Lib.hid (fun b e W (h : Below X.heap.size X W) => hwi b e W (hbX.trans (h.mono hbX.size)))
 have HN := Lib.hid hn
 have HS := Lib.hid hs
 have HAT := Lib.hid hat
 have HPK := Lib.hid hpo
 have HX := Lib.hid hX
 have HXS := Lib.hid hXs
 have HN0 := Lib.hid hN0
 have HBX := Lib.hid hbX
 clear hv hn hs hat hX hXs hN0 hbX x1 hwi hpo
 by_cases h8 : 2048 < n
 ·
  rw [if_pos h8] at hae
  subst hae
  rw [part_whole (by decide)] at hp
  subst hp
  have h8i : (2048 : Int) < (n : Int) := by omega
  go_enter Tryz.func88, Tryz.ntmps88
  go_wp2_with fail
  go_ret2
  exact ⟨rfl, HX.out ▸ HBX.out⟩
 rw [if_neg h8] at hae
 subst hae
 rw [part_scan] at hp
 have h8i : ¬ (2048 : Int) < (n : Int) := by omega
 have HP0 : Hid (p = scanE f n 0) := Lib.hid hp.symm
 obtain ⟨i1, hi1, hy0, hy1, hy2⟩ := info_parts' Tryz.infoInt2
 have hmk2 : ∀ W : World, (Instr.makeSlice 27 (.int .i64 n) (.int .i64 n)).run Tryz.prog W = .ok (.slice (some ⟨W.heap.size, 0, none⟩) n n) (W.alloc (.cells (natRow (List.replicate n 0)) 3)) := fun W => by
  have := run_make (P := Tryz.prog) W 27 3 i1 _ Tryz.underlying27 hi1 hy0 .i64 .i64 n n (by omega) (by omega) (by rw [hy2]; omega) (by omega)
  rw [Int.toNat_natCast, hy1, Nat.mul_one] at this
  rw [← made_nat]
  exact this
 obtain ⟨X2, hX2⟩ : ∃ X2, X.alloc (.cells (natRow (List.replicate n 0)) 3) = X2 := ⟨_, rfl⟩
 have hbX2 : Below X.heap.size X X2 := by rw [← hX2]; exact below_box X _
 have hD0 : X2.heap[N0 + 1]? = some (.cells (natRow (List.replicate n 0)) 3 (0, 0)) := by
  have := block_new X (.cells (natRow (List.replicate n 0)) 3)
  rw [HXS.out, hX2] at this
  exact this
 have HD0 := Lib.hid hD0
 have HBX2 := Lib.hid hbX2
 rw [← HX.out] at hX2
 have HX2 := Lib.hid hX2
 clear hp hi1 hy0 hy1 hy2 hD0 hbX2 hX2
 go_enter Tryz.func88, Tryz.ntmps88
 go_wp2_with fail
 rw [HX2.out, HN0.out]
 clear hmk2
 go_loopw [20] (fun i wr => ∃ (k : Nat) (ds : List Nat), k ≤ n ∧ i = .int .i64 k ∧ Hid (p = scanE f n k) ∧ Hid (∀ j, j < k → f j = 0) ∧ Hid (ds.length = n ∧ ∀ j, ds.getD j 0 = if j < k then depN l j else 0) ∧ Below X.heap.size X wr ∧ Hid (wr.heap[N0 + 1]? = some (.cells (natRow ds) 3 (0, 0)))) (fun i _ => n - (Go.RowKit.intOf i).toNat)
 case atStart => exact ⟨0, List.replicate n 0, Nat.zero_le _, rfl, HP0, Lib.hid (fun j h => by omega), Lib.hid ⟨by simp, fun j => by rw [List.getD_eq_getElem?_getD]; by_cases h : j < n <;> simp [h]⟩, HBX2.out, HD0⟩
 clear HP0 HX2 HBX2 HD0
 obtain ⟨k, ds, hk, rfl, hp, HZ, HDS0, hb, HDW0⟩ := hrel
 by_cases hlt : k < n
 ·
  obtain ⟨x, hx⟩ : ∃ x, l[k]? = some x := ⟨_, List.getElem?_eq_getElem (by rw [HN.out]; exact hlt)⟩
  obtain ⟨bk, off, rfl, hbl, hj⟩ := at_nd (HV.out wr hb) (by rw [HN.out]; omega)
  obtain ⟨u0, u1, u2, u3⟩ := hj k x hx
  have hfk := HAT.out k x hx
  have hsx := HS.out x (List.mem_of_getElem? hx)
  have hdk := dep_of hx
  have hsc := hp.out
  rw [scanE_step hlt] at hsc
  obtain ⟨P, hP⟩ : ∃ s : ByteArray, (⟨x.label.toArray⟩ : ByteArray) = s := ⟨_, rfl⟩
  have hPl : P.data.toList = x.label := by rw [← hP]
  have hvn := fun W => refName_any P (by rw [Lib.size_eq, hPl]; exact hsx) W
  rw [hPl] at hvn
  rw [hP] at u0
  obtain ⟨a, ha⟩ : ∃ a, nameB x.label = a := ⟨_, rfl⟩
  obtain ⟨xb, hxb⟩ : ∃ z, x.b = z := ⟨_, rfl⟩
  obtain ⟨xe, hxe⟩ : ∃ z, x.e = z := ⟨_, rfl⟩
  obtain ⟨pp, hpp⟩ : ∃ z, x.parent = z := ⟨_, rfl⟩
  rw [ha] at hvn hfk
  rw [hxb, hxe, hpp] at hfk
  rw [hpp] at hdk
  rw [hxb] at u1
  rw [hxe] at u2
  rw [hpp] at u3
  obtain ⟨N1, hN1⟩ : ∃ N, wr.heap.size = N := ⟨_, rfl⟩
  have q1' := block_new wr (.cells #[.string P, .int .i64 xb, .int .i64 xe, .int .i64 pp] 56)
  have d0 : (wr.alloc (.cells #[.string P, .int .i64 xb, .int .i64 xe, .int .i64 pp] 56)).cell? ⟨wr.heap.size, 0, none⟩ = some (.string P) := cell_of q1' rfl
  have d1 : (wr.alloc (.cells #[.string P, .int .i64 xb, .int .i64 xe, .int .i64 pp] 56)).cell? ⟨wr.heap.size, 1, none⟩ = some (.int .i64 xb) := cell_of q1' rfl
  have d2 : (wr.alloc (.cells #[.string P, .int .i64 xb, .int .i64 xe, .int .i64 pp] 56)).cell? ⟨wr.heap.size, 2, none⟩ = some (.int .i64 xe) := cell_of q1' rfl
  rw [hN1] at q1'
  obtain ⟨X1, hX1⟩ : ∃ X1, wr.alloc (.cells #[.string P, .int .i64 xb, .int .i64 xe, .int .i64 pp] 56) = X1 := ⟨_, rfl⟩
  have hbX1 : Below X.heap.size X X1 := by rw [← hX1]; exact hb.trans ((below_box wr _).mono hb.size)
  have hd1 : X1.heap[N0 + 1]? = some (.cells (natRow ds) 3 (0, 0)) := by rw [← hX1]; exact block_alloc _ HDW0.out
  rw [hX1] at q1'
  have hkk := HK.out X1 hbX1
  rw [← hX1] at hkk
  have c0 : (wr.alloc (.cells #[.string P, .int .i64 xb, .int .i64 xe, .int .i64 pp] 56)).cell? ⟨N0, 0, none⟩ = some va := cell_of hkk rfl
  have c1 : (wr.alloc (.cells #[.string P, .int .i64 xb, .int .i64 xe, .int .i64 pp] 56)).cell? ⟨N0, 1, none⟩ = some vt := cell_of hkk rfl
  have c2 : (wr.alloc (.cells #[.string P, .int .i64 xb, .int .i64 xe, .int .i64 pp] 56)).cell? ⟨N0, 2, none⟩ = some (.slice A nt cap1) := cell_of hkk rfl
  have c3 : (wr.alloc (.cells #[.string P, .int .i64 xb, .int .i64 xe, .int .i64 pp] 56)).cell? ⟨N0, 3, none⟩ = some vr := cell_of hkk rfl
  have c4 : (wr.alloc (.cells #[.string P, .int .i64 xb, .int .i64 xe, .int .i64 pp] 56)).cell? ⟨N0, 4, none⟩ = some vn := cell_of hkk rfl
  have c5 : (wr.alloc (.cells #[.string P, .int .i64 xb, .int .i64 xe, .int .i64 pp] 56)).cell? ⟨N0, 5, none⟩ = some vh := cell_of hkk rfl
  have c6 : (wr.alloc (.cells #[.string P, .int .i64 xb, .int .i64 xe, .int .i64 pp] 56)).cell? ⟨N0, 6, none⟩ = some vl := cell_of hkk rfl
  have hwi := HWI.out xb xe X1 hbX1
  obtain ⟨wv, hwv⟩ : ∃ z, wi xb xe = z := ⟨_, rfl⟩
  rw [hwv] at hwi hfk
  have HWV := Lib.hid hwi
  have HVN := Lib.hid hvn
  have HBX1 := Lib.hid hbX1
  have HX1 := Lib.hid hX1
  have HN1 := Lib.hid hN1
  have HE1 := Lib.hid q1'
  have HD1 := Lib.hid hd1
  have HXX := Lib.hid hx
  have HDK := Lib.hid hdk
  have HNE := Lib.hid (show N1 ≠ N0 + 1 by rw [← hN1]; intro e; have := (Array.getElem?_eq_some_iff.1 HDW0.out).1; omega)
  have k0 : (0 : Int) ≤ (k : Int) := by omega
  have kn : (k : Int) < (n : Int) := by omega
  have hkw : IntKind.i64.wrap ((k : Int) - 1) = (k : Int) - 1 := by rw [IntKind.wrap_i64]; omega
  clear hb hj hx hP hPl hvn ha hN1 q1' hbX1 hp hbl hsx hkk hwi hwv hd1 hdk hxb hxe hpp HDW0
  cases a with
  | false =>
    rw [if_pos rfl] at hfk
    rw [hfk, if_neg (by decide)] at hsc
    subst hsc
    clear hfk hX1
    go_wp2_with fail
    refine (HVN.out _).mono ?_
    rintro e w1 ⟨rfl, rfl⟩
    clear c0 c1 c2 c3 c4 c5 c6
    go_wp2_with fail
    go_ret2
    exact ⟨rfl, HX1.out ▸ (HBX.out.trans (HBX1.out.mono HBX.out.size))⟩
  | true =>
    rw [if_neg (by decide)] at hfk
    obtain ⟨wo, hwo⟩ : ∃ wo, wo = wr := ⟨_, rfl⟩
    subst hwo
    clear hX1
    go_wp2_with fail
    refine (HVN.out _).mono ?_
    rintro e w1 ⟨rfl, rfl⟩
    go_wp2_with fail
    rw [HX1.out, HN1.out]
    refine HWV.out.mono ?_
    rintro e w2 ⟨rfl, hb2⟩
    have HB2 := Lib.hid (HBX1.out.trans (hb2.mono HBX1.out.size))
    have HE2 := Lib.hid (block_below HE1.out hb2 (Array.getElem?_eq_some_iff.1 HE1.out).1)
    have HD2 := Lib.hid (block_below HD1.out hb2 (Array.getElem?_eq_some_iff.1 HD1.out).1)
    clear hb2 c0 c1 c2 c3 c4 c5 c6 d0 d1 d2 u0 u1 u2 u3
    cases wv with
    | false =>
      rw [if_pos rfl] at hfk
      rw [hfk, if_neg (by decide)] at hsc
      subst hsc
      clear hfk
      go_wp2_with fail
      go_ret2
      exact ⟨rfl, HBX.out.trans (HB2.out.mono HBX.out.size)⟩
    | true =>
      rw [if_neg (by decide)] at hfk
      have HPO := Lib.hid (HPK.out k HZ.out)
      have HFK := Lib.hid hfk
      have HSC := Lib.hid hsc
      have HUP := Lib.hid (up_start (l := l) (i := k) (p := pp) (by rw [HN.out]; omega))
      clear hfk hsc
      go_wp2_with fail
      go_loopg [9] ((pathAt l k).length) (fun gg v wi => ∃ (kk : Int) (t : Nat), v = .int .i64 kk ∧ t ≤ gg ∧ Hid (UpAt l k pp kk t) ∧ Below w2.heap.size w2 wi)
      case atStart => exact ⟨(k : Int) - 1, _, rfl, Nat.le_refl _, HUP, Below.refl _ _⟩
      clear HUP
      obtain ⟨kk, t, rfl, hgg, HU, hb⟩ := hrel
      have HBI := Lib.hid hb
      have HBW := Lib.hid (HB2.out.trans (hb.mono HB2.out.size))
      have HE3 := Lib.hid (block_below HE2.out hb (Array.getElem?_eq_some_iff.1 HE2.out).1)
      have HD3 := Lib.hid (block_below HD2.out hb (Array.getElem?_eq_some_iff.1 HD2.out).1)
      have ex1 : wr.cell? ⟨N1, 1, none⟩ = some (.int .i64 xb) := cell_of HE3.out rfl
      have ex2 : wr.cell? ⟨N1, 2, none⟩ = some (.int .i64 xe) := cell_of HE3.out rfl
      have ex3 : wr.cell? ⟨N1, 3, none⟩ = some (.int .i64 pp) := cell_of HE3.out rfl
      clear hb
      by_cases hneg : kk < 0
      ·
       have hav := up_end_none HU.out hneg
       have hge : ¬ (0 : Int) ≤ kk := by omega
       by_cases hm1 : pp = -1
       ·
        have hpg : ¬ (0 : Int) ≤ pp := by omega
        obtain ⟨av, hav'⟩ : ∃ av, aboveN (pathAt l k) pp = av := ⟨_, rfl⟩
        have HFK2 : Hid (f k = if aboveN (pathAt l k) pp < (pathAt l k).length ∧ xb < (ndAt l ((pathAt l k).getD (aboveN (pathAt l k) pp) 0)).e then 8 else if 40 < av + 1 then 2 else 0) := Lib.hid (by rw [← hav', HFK.out, if_neg (fun h => h.2 hm1), if_neg (fun h => by have := h.1; omega)])
        have HAB := Lib.hid (show av ≤ k by rw [← hav']; exact Nat.le_trans (above_le _ _) (pathAt_range l k).2)
        have HPP := Lib.hid (fun (_ : aboveN (pathAt l k) pp = 0) => hm1)
        have hm1b : (pp != (-1 : Int)) = false := by simp [hm1]
        have HDS : Hid (ds.length = n ∧ ds.getD k 0 = av ∧ ∀ j, ¬ j = k → ds.getD j 0 = if j < k then depN l j else 0) := Lib.hid ⟨HDS0.out.1, by rw [HDS0.out.2, if_neg (Nat.lt_irrefl _)]; omega, fun j _ => HDS0.out.2 j⟩
        have hdk2 := HDK.out
        rw [hav'] at hdk2
        replace HDK := Lib.hid hdk2
        replace HFK := HFK2
        have HB4 := HBW
        have HD4 := HD3
        have HE4 := HE3
        obtain ⟨w4, hw4⟩ : ∃ w4, w4 = wr := ⟨_, rfl⟩
        subst hw4
        clear hm1 hav hav' hdk2 HFK2 HBI HBW HD3 HE3
        have hsw : IntKind.i64.wrap ((k : Int) - 1) = (k : Int) - 1 := by rw [IntKind.wrap_i64]; omega
        go_wp2_with fail
        go_loopw [11] (fun v wi => ∃ sv : Int, v = .int .i64 sv ∧ -1 ≤ sv ∧ sv < (k : Int) ∧ Hid (∀ (u : Nat) (z : Nd), sv < (u : Int) → u < k → l[u]? = some z → z.parent ≠ pp) ∧ Below w4.heap.size w4 wi) (fun v _ => (Go.RowKit.intOf v + 1).toNat)
        case atStart => exact ⟨(k : Int) - 1, rfl, by omega, by omega, Lib.hid (fun u z h1 h2 => by omega), Below.refl _ _⟩
        obtain ⟨sv, rfl, hs1, hs2, hs, hb⟩ := hrel
        have HBW := Lib.hid (HB4.out.trans (hb.mono HB4.out.size))
        have HDW := Lib.hid (block_below HD4.out hb (Array.getElem?_eq_some_iff.1 HD4.out).1)
        have HEW := Lib.hid (block_below HE4.out hb (Array.getElem?_eq_some_iff.1 HE4.out).1)
        by_cases hneg : sv < 0
        ·
         have hmiss := sib_missing HPO.out (by rw [HN.out]; omega) HPP.out (fun u z hu hz => hs.out u z (by omega) hu hz)
         have hn3 : ¬ (aboveN (pathAt l k) pp < (pathAt l k).length ∧ xb < (ndAt l ((pathAt l k).getD (aboveN (pathAt l k) pp) 0)).e) := fun h => hmiss h.1
         have hge : ¬ (0 : Int) ≤ sv := by omega
         have HN3 := Lib.hid hn3
         clear hb hs hmiss hn3
         have hD := HDW.out
         have hab := HAB.out
         have hwa : IntKind.i64.wrap ((av : Int) + 1) = (av : Int) + 1 := by rw [IntKind.wrap_i64]; omega
         have kd : wr.cell? ⟨N0 + 1, k, none⟩ = some (.int .i64 (av : Int)) := by
          have := cell_of hD (natRow_get (l := ds) (i := k) (by rw [HDS.out.1]; exact hlt))
          rw [HDS.out.2.1] at this
          exact this
         have fd : wr.frozen? ⟨N0 + 1, k, none⟩ = false := frozen_of hD
         have hs2 := set_of (i := k) hD (.int .i64 ((av + 1 : Nat) : Int))
         rw [natRow_set] at hs2
         have kd2 : (wr.setCell ⟨N0 + 1, k, none⟩ (.int .i64 ((av : Int) + 1))).cell? ⟨N0 + 1, k, none⟩ = some (.int .i64 ((av : Int) + 1)) := by
          have := cell_of hs2 (natRow_get (l := ds.set k (av + 1)) (i := k) (by rw [List.length_set, HDS.out.1]; exact hlt))
          rw [getD_set_self (by rw [HDS.out.1]; exact hlt)] at this
          exact this
         have HDN := Lib.hid hs2
         have HBN : Hid (Below X.heap.size X (wr.setCell ⟨N0 + 1, k, none⟩ (.int .i64 ((av : Int) + 1)))) := Lib.hid (HBW.out.setCell (by have := HXS.out; show X.heap.size ≤ N0 + 1; omega) _)
         clear hD hs2
         by_cases h40 : 40 < av + 1
         ·
          have h2 : f k = 2 := by rw [HFK.out, if_neg HN3.out, if_pos h40]
          have hsc := HSC.out
          rw [h2, if_neg (by decide)] at hsc
          subst hsc
          have h40i : (40 : Int) < (av : Int) + 1 := by omega
          clear h2
          go_wp2_with fail
          go_ret2
          exact ⟨rfl, HBX.out.trans (HBN.out.mono HBX.out.size)⟩
         have h0 : f k = 0 := by rw [HFK.out, if_neg HN3.out, if_neg h40]
         have hsc := HSC.out
         rw [h0, if_pos rfl] at hsc
         have HSC2 := Lib.hid hsc
         have h40i : ¬ (40 : Int) < (av : Int) + 1 := by omega
         have hz' : Hid (∀ j, j < k + 1 → f j = 0) := Lib.hid fun j hj => by
          by_cases e : j = k
          · rw [e]; exact h0
          exact HZ.out j (by omega)
         have hds' : Hid ((ds.set k (av + 1)).length = n ∧ ∀ j, (ds.set k (av + 1)).getD j 0 = if j < k + 1 then depN l j else 0) := Lib.hid ⟨by rw [List.length_set]; exact HDS.out.1, fun j => by
          by_cases e : j = k
          · subst e
            rw [getD_set_self (by rw [HDS.out.1]; exact hlt), if_pos (Nat.lt_succ_self _), HDK.out]
          rw [getD_set_other (fun h => e h), HDS.out.2.2 j e]
          by_cases e2 : j < k
          · rw [if_pos e2, if_pos (by omega)]
          rw [if_neg e2, if_neg (by omega)]⟩
         clear h0 hsc
         go_wp2_with fail
         exact ⟨⟨k + 1, ds.set k (av + 1), by omega, by go_num, HSC2, hz', hds', HBN.out, HDN⟩, by simp only [Go.RowKit.intOf]; omega⟩
        obtain ⟨r, rfl⟩ : ∃ r : Nat, sv = (r : Int) := ⟨sv.toNat, by omega⟩
        obtain ⟨y, hy⟩ : ∃ y, l[r]? = some y := ⟨_, List.getElem?_eq_getElem (by rw [HN.out]; omega)⟩
        obtain ⟨b3, o3, he3, -, hj3⟩ := at_nd (HV.out wr HBW.out) (by rw [HN.out]; omega)
        cases he3
        obtain ⟨y0, y1, y2, y3⟩ := hj3 r y hy
        have ex1 : wr.cell? ⟨N1, 1, none⟩ = some (.int .i64 xb) := cell_of HEW.out rfl
        have ex3 : wr.cell? ⟨N1, 3, none⟩ = some (.int .i64 pp) := cell_of HEW.out rfl
        obtain ⟨ye, hye⟩ : ∃ z, y.e = z := ⟨_, rfl⟩
        obtain ⟨yp, hyp⟩ : ∃ z, y.parent = z := ⟨_, rfl⟩
        rw [hye] at y2
        rw [hyp] at y3
        have r0 : (0 : Int) ≤ (r : Int) := by omega
        have rn : (r : Int) < (n : Int) := by omega
        have HBI := Lib.hid hb
        have HYY := Lib.hid (And.intro hy (And.intro hye hyp))
        clear hb hj3 hy hye hyp y0 y1
        by_cases hpe : yp = pp
        ·
         have hpe' := hpe.symm
         subst hpe'
         have hfnd := sib_found HPO.out (by rw [HN.out]; omega) HPP.out (by omega) HYY.out.1 HYY.out.2.2 (fun u z h1 h2 => hs.out u z (by omega) h2)
         clear hs
         go_wp2_with fail
         go_quiet (fail)
         obtain ⟨wd, hwd⟩ : ∃ W, wr.drewN nq = W := ⟨_, rfl⟩
         have hbd : Below wr.heap.size wr wd := hwd ▸ below_drewN (Below.refl _ _) nq
         rw [hwd]
         have ex1d := keepN ex1 hbd
         have y2d := keepN y2 hbd
         have HBD := Lib.hid hbd
         clear hwd hbd ex1 ex3 y2 y3
         by_cases hlt2 : xb < ye
         ·
          have h8 : f k = 8 := by rw [HFK.out, if_pos ⟨hfnd.1, by rw [hfnd.2, HYY.out.2.1]; exact hlt2⟩]
          have hsc := HSC.out
          rw [h8, if_neg (by decide)] at hsc
          subst hsc
          clear h8 hfnd
          go_wp2_with fail
          go_quiet (fail)
          go_wp2_with fail
          go_ret2
          exact ⟨rfl, HBX.out.trans ((below_drewN (HBW.out.trans (HBD.out.mono HBW.out.size)) _).mono HBX.out.size)⟩
         have hn3 : ¬ (aboveN (pathAt l k) pp < (pathAt l k).length ∧ xb < (ndAt l ((pathAt l k).getD (aboveN (pathAt l k) pp) 0)).e) := fun h => hlt2 (by rw [← HYY.out.2.1, ← hfnd.2]; exact h.2)
         have HN3 := Lib.hid hn3
         clear hfnd hn3
         go_wp2_with fail
         go_quiet (fail)
         obtain ⟨wr2, hwr2⟩ : ∃ W, wd.drewN nq = W := ⟨_, rfl⟩
         have hb2 : Below wr.heap.size wr wr2 := hwr2 ▸ below_drewN HBD.out nq
         rw [hwr2]
         have HBW2 := Lib.hid (HBW.out.trans (hb2.mono HBW.out.size))
         have HDW2 := Lib.hid (block_below HDW.out hb2 (Array.getElem?_eq_some_iff.1 HDW.out).1)
         clear hwr2 hb2 ex1d y2d
         have hD := HDW2.out
         have hab := HAB.out
         have hwa : IntKind.i64.wrap ((av : Int) + 1) = (av : Int) + 1 := by rw [IntKind.wrap_i64]; omega
         have kd : wr2.cell? ⟨N0 + 1, k, none⟩ = some (.int .i64 (av : Int)) := by
          have := cell_of hD (natRow_get (l := ds) (i := k) (by rw [HDS.out.1]; exact hlt))
          rw [HDS.out.2.1] at this
          exact this
         have fd : wr2.frozen? ⟨N0 + 1, k, none⟩ = false := frozen_of hD
         have hs2 := set_of (i := k) hD (.int .i64 ((av + 1 : Nat) : Int))
         rw [natRow_set] at hs2
         have kd2 : (wr2.setCell ⟨N0 + 1, k, none⟩ (.int .i64 ((av : Int) + 1))).cell? ⟨N0 + 1, k, none⟩ = some (.int .i64 ((av : Int) + 1)) := by
          have := cell_of hs2 (natRow_get (l := ds.set k (av + 1)) (i := k) (by rw [List.length_set, HDS.out.1]; exact hlt))
          rw [getD_set_self (by rw [HDS.out.1]; exact hlt)] at this
          exact this
         have HDN := Lib.hid hs2
         have HBN : Hid (Below X.heap.size X (wr2.setCell ⟨N0 + 1, k, none⟩ (.int .i64 ((av : Int) + 1)))) := Lib.hid (HBW2.out.setCell (by have := HXS.out; show X.heap.size ≤ N0 + 1; omega) _)
         clear hD hs2
         by_cases h40 : 40 < av + 1
         ·
          have h2 : f k = 2 := by rw [HFK.out, if_neg HN3.out, if_pos h40]
          have hsc := HSC.out
          rw [h2, if_neg (by decide)] at hsc
          subst hsc
          have h40i : (40 : Int) < (av : Int) + 1 := by omega
          clear h2
          go_wp2_with fail
          go_ret2
          exact ⟨rfl, HBX.out.trans (HBN.out.mono HBX.out.size)⟩
         have h0 : f k = 0 := by rw [HFK.out, if_neg HN3.out, if_neg h40]
         have hsc := HSC.out
         rw [h0, if_pos rfl] at hsc
         have HSC2 := Lib.hid hsc
         have h40i : ¬ (40 : Int) < (av : Int) + 1 := by omega
         have hz' : Hid (∀ j, j < k + 1 → f j = 0) := Lib.hid fun j hj => by
          by_cases e : j = k
          · rw [e]; exact h0
          exact HZ.out j (by omega)
         have hds' : Hid ((ds.set k (av + 1)).length = n ∧ ∀ j, (ds.set k (av + 1)).getD j 0 = if j < k + 1 then depN l j else 0) := Lib.hid ⟨by rw [List.length_set]; exact HDS.out.1, fun j => by
          by_cases e : j = k
          · subst e
            rw [getD_set_self (by rw [HDS.out.1]; exact hlt), if_pos (Nat.lt_succ_self _), HDK.out]
          rw [getD_set_other (fun h => e h), HDS.out.2.2 j e]
          by_cases e2 : j < k
          · rw [if_pos e2, if_pos (by omega)]
          rw [if_neg e2, if_neg (by omega)]⟩
         clear h0 hsc
         go_wp2_with fail
         exact ⟨⟨k + 1, ds.set k (av + 1), by omega, by go_num, HSC2, hz', hds', HBN.out, HDN⟩, by simp only [Go.RowKit.intOf]; omega⟩
        have hs' : Hid (∀ (u : Nat) (z : Nd), (r : Int) - 1 < (u : Int) → u < k → l[u]? = some z → z.parent ≠ pp) := Lib.hid fun u z h1 h2 hz => by
         by_cases e : u = r
         ·
          subst e
          rw [HYY.out.1] at hz
          cases hz
          rw [HYY.out.2.2]
          exact hpe
         exact hs.out u z (by omega) h2 hz
        have hrw : IntKind.i64.wrap ((r : Int) - 1) = (r : Int) - 1 := by rw [IntKind.wrap_i64]; omega
        clear hs
        go_wp2_with fail
        go_quiet (fail)
        go_wp2_with fail
        exact ⟨⟨(r : Int) - 1, rfl, by omega, by omega, hs', below_drewN HBI.out _⟩, by simp only [Go.RowKit.intOf]; omega⟩
       have h6 : f k = 6 := by rw [HFK.out, if_pos ⟨hav, hm1⟩]
       have hsc := HSC.out
       rw [h6, if_neg (by decide)] at hsc
       subst hsc
       clear h6 hav
       go_wp2_with fail
       go_ret2
       exact ⟨rfl, HBX.out.trans (HBW.out.mono HBX.out.size)⟩
      obtain ⟨q, rfl⟩ : ∃ q : Nat, kk = (q : Int) := ⟨kk.toNat, by omega⟩
      have hqk := (up_range HU.out).2
      obtain ⟨y, hy⟩ : ∃ y, l[q]? = some y := ⟨_, List.getElem?_eq_getElem (by rw [HN.out]; omega)⟩
      obtain ⟨b3, o3, he3, -, hj3⟩ := at_nd (HV.out wr HBW.out) (by rw [HN.out]; omega)
      cases he3
      obtain ⟨y0, y1, y2, y3⟩ := hj3 q y hy
      have q0 : (0 : Int) ≤ (q : Int) := by omega
      have qn : (q : Int) < (n : Int) := by omega
      by_cases hpe : (q : Int) = pp
      ·
       have hav := up_end_some HU.out (by omega) hpe
       have hqt : pp.toNat = q := by omega
       have hqb : ((q : Int) != pp) = false := by simp [hpe]
       have p0 : (0 : Int) ≤ pp := by omega
       have pn : pp < (n : Int) := by omega
       have pk : pp.toNat < k := by omega
       obtain ⟨Q, hQ⟩ : ∃ s : ByteArray, (⟨y.label.toArray⟩ : ByteArray) = s := ⟨_, rfl⟩
       rw [hQ] at y0
       rw [← hqt] at y0 y1 y2 y3 hy
       have hnd := ndAt_of hy
       have n1 := block_new wr (.cells #[.string Q, .int .i64 y.b, .int .i64 y.e, .int .i64 y.parent] 56)
       have g1 := cell_of (i := 1) n1 rfl
       have g2 := cell_of (i := 2) n1 rfl
       have b1 := block_alloc (.cells #[.string Q, .int .i64 y.b, .int .i64 y.e, .int .i64 y.parent] 56) HE3.out
       have b2 := block_alloc (.cells #[.string Q, .int .i64 y.b, .int .i64 y.e, .int .i64 y.parent] 56) HD3.out
       have e1 := cell_of (i := 1) b1 rfl
       have e2 := cell_of (i := 2) b1 rfl
       have e3 := cell_of (i := 3) b1 rfl
       have kq : (wr.alloc (.cells #[.string Q, .int .i64 y.b, .int .i64 y.e, .int .i64 y.parent] 56)).cell? ⟨N0 + 1, pp.toNat, none⟩ = some (.int .i64 ((depN l pp.toNat : Nat) : Int)) := by
        have := cell_of b2 (natRow_get (l := ds) (i := pp.toNat) (by rw [HDS0.out.1]; omega))
        rw [HDS0.out.2, if_pos pk] at this
        exact this
       have kk0 : (wr.alloc (.cells #[.string Q, .int .i64 y.b, .int .i64 y.e, .int .i64 y.parent] 56)).cell? ⟨N0 + 1, k, none⟩ = some (.int .i64 ((ds.getD k 0 : Nat) : Int)) := cell_of b2 (natRow_get (l := ds) (i := k) (by rw [HDS0.out.1]; omega))
       have fk0 : (wr.alloc (.cells #[.string Q, .int .i64 y.b, .int .i64 y.e, .int .i64 y.parent] 56)).frozen? ⟨N0 + 1, k, none⟩ = false := frozen_of b2
       have hdp := dep_par (l := l) (i := k) (p := pp) (by rw [HN.out]; omega) hav
       obtain ⟨av, hav'⟩ : ∃ av, aboveN (pathAt l k) pp = av := ⟨_, rfl⟩
       rw [hdp, hav'] at kq
       have hb1 : Below X.heap.size X (wr.alloc (.cells #[.string Q, .int .i64 y.b, .int .i64 y.e, .int .i64 y.parent] 56)) := HBW.out.trans ((below_box wr _).mono HBW.out.size)
       have HB1 := Lib.hid hb1
       by_cases ho : y.b ≤ xb ∧ xe ≤ y.e
       ·
        obtain ⟨o1, o2⟩ := ho
        have o1i : ¬ xb < y.b := by omega
        have o2i : ¬ y.e < xe := by omega
        have HFK2 : Hid (f k = if aboveN (pathAt l k) pp < (pathAt l k).length ∧ xb < (ndAt l ((pathAt l k).getD (aboveN (pathAt l k) pp) 0)).e then 8 else if 40 < av + 1 then 2 else 0) := Lib.hid (by rw [← hav', HFK.out, if_neg (fun h => by have := h.1; omega), if_neg (fun h => h.2 (by rw [hnd]; exact ⟨o1, o2⟩))])
        have HAB := Lib.hid (show av ≤ k by rw [← hav']; exact Nat.le_trans (above_le _ _) (pathAt_range l k).2)
        have HPP := Lib.hid (fun (h : aboveN (pathAt l k) pp = 0) => show pp = -1 by omega)
        obtain ⟨w4, hw4⟩ : ∃ w4, (wr.alloc (.cells #[.string Q, .int .i64 y.b, .int .i64 y.e, .int .i64 y.parent] 56)).setCell ⟨N0 + 1, k, none⟩ (.int .i64 (av : Int)) = w4 := ⟨_, rfl⟩
        have hs4 := set_of (i := k) b2 (.int .i64 ((av : Nat) : Int))
        rw [natRow_set, hw4] at hs4
        have HD4 := Lib.hid hs4
        have HE4 := Lib.hid (hw4 ▸ block_other (i := k) (.int .i64 (av : Int)) b1 HNE.out)
        have HB4 : Hid (Below X.heap.size X w4) := Lib.hid (hw4 ▸ hb1.setCell (by have := HXS.out; show X.heap.size ≤ N0 + 1; omega) _)
        have HDS : Hid ((ds.set k av).length = n ∧ (ds.set k av).getD k 0 = av ∧ ∀ j, ¬ j = k → (ds.set k av).getD j 0 = if j < k then depN l j else 0) := Lib.hid ⟨by rw [List.length_set]; exact HDS0.out.1, getD_set_self (by rw [HDS0.out.1]; omega), fun j e => by rw [getD_set_other e]; exact HDS0.out.2 j⟩
        have hdk2 := HDK.out
        rw [hav'] at hdk2
        replace HDK := Lib.hid hdk2
        replace HFK := HFK2
        have HW4 := Lib.hid hw4
        clear hav hav' hqt hpe hy hj3 hnd n1 b1 b2 hdp hb1 hw4 hs4 hdk2 HFK2 hQ HBI HBW HD3 HE3 hqk pk
        have hsw : IntKind.i64.wrap ((k : Int) - 1) = (k : Int) - 1 := by rw [IntKind.wrap_i64]; omega
        go_wp2_with fail
        rw [HW4.out]
        clear y0 y1 y2 y3 g1 g2 e1 e2 e3 kq kk0 fk0
        go_loopw [11] (fun v wi => ∃ sv : Int, v = .int .i64 sv ∧ -1 ≤ sv ∧ sv < (k : Int) ∧ Hid (∀ (u : Nat) (z : Nd), sv < (u : Int) → u < k → l[u]? = some z → z.parent ≠ pp) ∧ Below w4.heap.size w4 wi) (fun v _ => (Go.RowKit.intOf v + 1).toNat)
        case atStart => exact ⟨(k : Int) - 1, rfl, by omega, by omega, Lib.hid (fun u z h1 h2 => by omega), Below.refl _ _⟩
        obtain ⟨sv, rfl, hs1, hs2, hs, hb⟩ := hrel
        have HBW := Lib.hid (HB4.out.trans (hb.mono HB4.out.size))
        have HDW := Lib.hid (block_below HD4.out hb (Array.getElem?_eq_some_iff.1 HD4.out).1)
        have HEW := Lib.hid (block_below HE4.out hb (Array.getElem?_eq_some_iff.1 HE4.out).1)
        by_cases hneg : sv < 0
        ·
         have hmiss := sib_missing HPO.out (by rw [HN.out]; omega) HPP.out (fun u z hu hz => hs.out u z (by omega) hu hz)
         have hn3 : ¬ (aboveN (pathAt l k) pp < (pathAt l k).length ∧ xb < (ndAt l ((pathAt l k).getD (aboveN (pathAt l k) pp) 0)).e) := fun h => hmiss h.1
         have hge : ¬ (0 : Int) ≤ sv := by omega
         have HN3 := Lib.hid hn3
         clear hb hs hmiss hn3
         have hD := HDW.out
         have hab := HAB.out
         have hwa : IntKind.i64.wrap ((av : Int) + 1) = (av : Int) + 1 := by rw [IntKind.wrap_i64]; omega
         have kd : wr.cell? ⟨N0 + 1, k, none⟩ = some (.int .i64 (av : Int)) := by
          have := cell_of hD (natRow_get (l := (ds.set k av)) (i := k) (by rw [HDS.out.1]; exact hlt))
          rw [HDS.out.2.1] at this
          exact this
         have fd : wr.frozen? ⟨N0 + 1, k, none⟩ = false := frozen_of hD
         have hs2 := set_of (i := k) hD (.int .i64 ((av + 1 : Nat) : Int))
         rw [natRow_set] at hs2
         have kd2 : (wr.setCell ⟨N0 + 1, k, none⟩ (.int .i64 ((av : Int) + 1))).cell? ⟨N0 + 1, k, none⟩ = some (.int .i64 ((av : Int) + 1)) := by
          have := cell_of hs2 (natRow_get (l := (ds.set k av).set k (av + 1)) (i := k) (by rw [List.length_set, HDS.out.1]; exact hlt))
          rw [getD_set_self (by rw [HDS.out.1]; exact hlt)] at this
          exact this
         have HDN := Lib.hid hs2
         have HBN : Hid (Below X.heap.size X (wr.setCell ⟨N0 + 1, k, none⟩ (.int .i64 ((av : Int) + 1)))) := Lib.hid (HBW.out.setCell (by have := HXS.out; show X.heap.size ≤ N0 + 1; omega) _)
         clear hD hs2
         by_cases h40 : 40 < av + 1
         ·
          have h2 : f k = 2 := by rw [HFK.out, if_neg HN3.out, if_pos h40]
          have hsc := HSC.out
          rw [h2, if_neg (by decide)] at hsc
          subst hsc
          have h40i : (40 : Int) < (av : Int) + 1 := by omega
          clear h2
          go_wp2_with fail
          go_ret2
          exact ⟨rfl, HBX.out.trans (HBN.out.mono HBX.out.size)⟩
         have h0 : f k = 0 := by rw [HFK.out, if_neg HN3.out, if_neg h40]
         have hsc := HSC.out
         rw [h0, if_pos rfl] at hsc
         have HSC2 := Lib.hid hsc
         have h40i : ¬ (40 : Int) < (av : Int) + 1 := by omega
         have hz' : Hid (∀ j, j < k + 1 → f j = 0) := Lib.hid fun j hj => by
          by_cases e : j = k
          · rw [e]; exact h0
          exact HZ.out j (by omega)
         have hds' : Hid (((ds.set k av).set k (av + 1)).length = n ∧ ∀ j, ((ds.set k av).set k (av + 1)).getD j 0 = if j < k + 1 then depN l j else 0) := Lib.hid ⟨by rw [List.length_set]; exact HDS.out.1, fun j => by
          by_cases e : j = k
          · subst e
            rw [getD_set_self (by rw [HDS.out.1]; exact hlt), if_pos (Nat.lt_succ_self _), HDK.out]
          rw [getD_set_other (fun h => e h), HDS.out.2.2 j e]
          by_cases e2 : j < k
          · rw [if_pos e2, if_pos (by omega)]
          rw [if_neg e2, if_neg (by omega)]⟩
         clear h0 hsc
         go_wp2_with fail
         exact ⟨⟨k + 1, (ds.set k av).set k (av + 1), by omega, by go_num, HSC2, hz', hds', HBN.out, HDN⟩, by simp only [Go.RowKit.intOf]; omega⟩
        obtain ⟨r, rfl⟩ : ∃ r : Nat, sv = (r : Int) := ⟨sv.toNat, by omega⟩
        obtain ⟨y, hy⟩ : ∃ y, l[r]? = some y := ⟨_, List.getElem?_eq_getElem (by rw [HN.out]; omega)⟩
        obtain ⟨b3, o3, he3, -, hj3⟩ := at_nd (HV.out wr HBW.out) (by rw [HN.out]; omega)
        cases he3
        obtain ⟨y0, y1, y2, y3⟩ := hj3 r y hy
        have ex1 : wr.cell? ⟨N1, 1, none⟩ = some (.int .i64 xb) := cell_of HEW.out rfl
        have ex3 : wr.cell? ⟨N1, 3, none⟩ = some (.int .i64 pp) := cell_of HEW.out rfl
        obtain ⟨ye, hye⟩ : ∃ z, y.e = z := ⟨_, rfl⟩
        obtain ⟨yp, hyp⟩ : ∃ z, y.parent = z := ⟨_, rfl⟩
        rw [hye] at y2
        rw [hyp] at y3
        have r0 : (0 : Int) ≤ (r : Int) := by omega
        have rn : (r : Int) < (n : Int) := by omega
        have HBI := Lib.hid hb
        have HYY := Lib.hid (And.intro hy (And.intro hye hyp))
        clear hb hj3 hy hye hyp y0 y1
        by_cases hpe : yp = pp
        ·
         have hpe' := hpe.symm
         subst hpe'
         have hfnd := sib_found HPO.out (by rw [HN.out]; omega) HPP.out (by omega) HYY.out.1 HYY.out.2.2 (fun u z h1 h2 => hs.out u z (by omega) h2)
         clear hs
         go_wp2_with fail
         go_quiet (fail)
         obtain ⟨wd, hwd⟩ : ∃ W, wr.drewN nq = W := ⟨_, rfl⟩
         have hbd : Below wr.heap.size wr wd := hwd ▸ below_drewN (Below.refl _ _) nq
         rw [hwd]
         have ex1d := keepN ex1 hbd
         have y2d := keepN y2 hbd
         have HBD := Lib.hid hbd
         clear hwd hbd ex1 ex3 y2 y3
         by_cases hlt2 : xb < ye
         ·
          have h8 : f k = 8 := by rw [HFK.out, if_pos ⟨hfnd.1, by rw [hfnd.2, HYY.out.2.1]; exact hlt2⟩]
          have hsc := HSC.out
          rw [h8, if_neg (by decide)] at hsc
          subst hsc
          clear h8 hfnd
          go_wp2_with fail
          go_quiet (fail)
          go_wp2_with fail
          go_ret2
          exact ⟨rfl, HBX.out.trans ((below_drewN (HBW.out.trans (HBD.out.mono HBW.out.size)) _).mono HBX.out.size)⟩
         have hn3 : ¬ (aboveN (pathAt l k) pp < (pathAt l k).length ∧ xb < (ndAt l ((pathAt l k).getD (aboveN (pathAt l k) pp) 0)).e) := fun h => hlt2 (by rw [← HYY.out.2.1, ← hfnd.2]; exact h.2)
         have HN3 := Lib.hid hn3
         clear hfnd hn3
         go_wp2_with fail
         go_quiet (fail)
         obtain ⟨wr2, hwr2⟩ : ∃ W, wd.drewN nq = W := ⟨_, rfl⟩
         have hb2 : Below wr.heap.size wr wr2 := hwr2 ▸ below_drewN HBD.out nq
         rw [hwr2]
         have HBW2 := Lib.hid (HBW.out.trans (hb2.mono HBW.out.size))
         have HDW2 := Lib.hid (block_below HDW.out hb2 (Array.getElem?_eq_some_iff.1 HDW.out).1)
         clear hwr2 hb2 ex1d y2d
         have hD := HDW2.out
         have hab := HAB.out
         have hwa : IntKind.i64.wrap ((av : Int) + 1) = (av : Int) + 1 := by rw [IntKind.wrap_i64]; omega
         have kd : wr2.cell? ⟨N0 + 1, k, none⟩ = some (.int .i64 (av : Int)) := by
          have := cell_of hD (natRow_get (l := (ds.set k av)) (i := k) (by rw [HDS.out.1]; exact hlt))
          rw [HDS.out.2.1] at this
          exact this
         have fd : wr2.frozen? ⟨N0 + 1, k, none⟩ = false := frozen_of hD
         have hs2 := set_of (i := k) hD (.int .i64 ((av + 1 : Nat) : Int))
         rw [natRow_set] at hs2
         have kd2 : (wr2.setCell ⟨N0 + 1, k, none⟩ (.int .i64 ((av : Int) + 1))).cell? ⟨N0 + 1, k, none⟩ = some (.int .i64 ((av : Int) + 1)) := by
          have := cell_of hs2 (natRow_get (l := (ds.set k av).set k (av + 1)) (i := k) (by rw [List.length_set, HDS.out.1]; exact hlt))
          rw [getD_set_self (by rw [HDS.out.1]; exact hlt)] at this
          exact this
         have HDN := Lib.hid hs2
         have HBN : Hid (Below X.heap.size X (wr2.setCell ⟨N0 + 1, k, none⟩ (.int .i64 ((av : Int) + 1)))) := Lib.hid (HBW2.out.setCell (by have := HXS.out; show X.heap.size ≤ N0 + 1; omega) _)
         clear hD hs2
         by_cases h40 : 40 < av + 1
         ·
          have h2 : f k = 2 := by rw [HFK.out, if_neg HN3.out, if_pos h40]
          have hsc := HSC.out
          rw [h2, if_neg (by decide)] at hsc
          subst hsc
          have h40i : (40 : Int) < (av : Int) + 1 := by omega
          clear h2
          go_wp2_with fail
          go_ret2
          exact ⟨rfl, HBX.out.trans (HBN.out.mono HBX.out.size)⟩
         have h0 : f k = 0 := by rw [HFK.out, if_neg HN3.out, if_neg h40]
         have hsc := HSC.out
         rw [h0, if_pos rfl] at hsc
         have HSC2 := Lib.hid hsc
         have h40i : ¬ (40 : Int) < (av : Int) + 1 := by omega
         have hz' : Hid (∀ j, j < k + 1 → f j = 0) := Lib.hid fun j hj => by
          by_cases e : j = k
          · rw [e]; exact h0
          exact HZ.out j (by omega)
         have hds' : Hid (((ds.set k av).set k (av + 1)).length = n ∧ ∀ j, ((ds.set k av).set k (av + 1)).getD j 0 = if j < k + 1 then depN l j else 0) := Lib.hid ⟨by rw [List.length_set]; exact HDS.out.1, fun j => by
          by_cases e : j = k
          · subst e
            rw [getD_set_self (by rw [HDS.out.1]; exact hlt), if_pos (Nat.lt_succ_self _), HDK.out]
          rw [getD_set_other (fun h => e h), HDS.out.2.2 j e]
          by_cases e2 : j < k
          · rw [if_pos e2, if_pos (by omega)]
          rw [if_neg e2, if_neg (by omega)]⟩
         clear h0 hsc
         go_wp2_with fail
         exact ⟨⟨k + 1, (ds.set k av).set k (av + 1), by omega, by go_num, HSC2, hz', hds', HBN.out, HDN⟩, by simp only [Go.RowKit.intOf]; omega⟩
        have hs' : Hid (∀ (u : Nat) (z : Nd), (r : Int) - 1 < (u : Int) → u < k → l[u]? = some z → z.parent ≠ pp) := Lib.hid fun u z h1 h2 hz => by
         by_cases e : u = r
         ·
          subst e
          rw [HYY.out.1] at hz
          cases hz
          rw [HYY.out.2.2]
          exact hpe
         exact hs.out u z (by omega) h2 hz
        have hrw : IntKind.i64.wrap ((r : Int) - 1) = (r : Int) - 1 := by rw [IntKind.wrap_i64]; omega
        clear hs
        go_wp2_with fail
        go_quiet (fail)
        go_wp2_with fail
        exact ⟨⟨(r : Int) - 1, rfl, by omega, by omega, hs', below_drewN HBI.out _⟩, by simp only [Go.RowKit.intOf]; omega⟩
       have h8' : f k = 8 := by rw [HFK.out, if_neg (fun h => by have := h.1; omega), if_pos ⟨hav, by rw [hnd]; exact ho⟩]
       have hsc := HSC.out
       rw [h8', if_neg (by decide)] at hsc
       subst hsc
       by_cases o1 : xb < y.b
       ·
        clear hav hav' hqt hpe hy hj3 hnd n1 b1 b2 hdp hb1 hQ h8' ho hqk pk
        go_wp2_with fail
        go_ret2
        exact ⟨rfl, HBX.out.trans (HB1.out.mono HBX.out.size)⟩
       have o2 : y.e < xe := by omega
       clear hav hav' hqt hpe hy hj3 hnd n1 b1 b2 hdp hb1 hQ h8' ho hqk pk
       go_wp2_with fail
       go_ret2
       exact ⟨rfl, HBX.out.trans (HB1.out.mono HBX.out.size)⟩
      have hup := up_step HPO.out (by rw [HN.out]; omega) HU.out (by omega) hpe (by rw [Int.toNat_natCast]; exact hy)
      clear hy hj3 y0 y1 y2
      go_wp2_with fail
      go_roundg (t - 1)
      case measure => omega
      case rel => exact ⟨y.parent, t - 1, rfl, Nat.le_refl _, Lib.hid hup.2, HBI.out⟩
 obtain rfl : k = n := by omega
 have hsc := hp.out
 rw [scanE_end (by omega)] at hsc
 subst hsc
 have HB := Lib.hid hb
 clear hb hp
 go_wp2_with fail
 go_ret2
 exact ⟨rfl, HBX.out.trans (HB.out.mono HBX.out.size)⟩
end Go.Proofs.YtebmfkkkhmjkoaaGreat
