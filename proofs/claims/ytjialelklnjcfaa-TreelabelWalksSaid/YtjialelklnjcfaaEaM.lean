/-
  THE PLAIN MATHEMATICS of package treelabel, of no program: preorder and postorder, what labels tell, parents found again, common ancestors.
-/
import Derived.Test.YtjialelklnjcfaaDaM
namespace Go.Proofs.Ytjialelklnjcfaa
set_option linter.unusedVariables false
/-! PREORDER AND POSTORDER. -/
abbrev Lb := Int × Int × Int
abbrev LS := List Lb × Nat × Nat
def kids (h : List Int) (p : Int) : List Nat := (List.range h.length).filter fun i => decide (h[i]? = some p)
/-- The walk that gives the labels. -/
def wk (h : List Int) : Nat → Int → Nat → LS → LS
  | 0, _, _, s => s
  | f + 1, p, d, s => (kids h p).foldl (fun s (i : Nat) => ((wk h f i (d + 1) (s.1, s.2.1 + 1, s.2.2)).1.set i ((s.2.1 : Int), ((wk h f i (d + 1) (s.1, s.2.1 + 1, s.2.2)).2.2 : Int), (d : Int)), (wk h f i (d + 1) (s.1, s.2.1 + 1, s.2.2)).2.1, (wk h f i (d + 1) (s.1, s.2.1 + 1, s.2.2)).2.2 + 1)) s
def wkStep (h : List Int) (f d : Nat) (s : LS) (i : Nat) : LS := ((wk h f i (d + 1) (s.1, s.2.1 + 1, s.2.2)).1.set i ((s.2.1 : Int), ((wk h f i (d + 1) (s.1, s.2.1 + 1, s.2.2)).2.2 : Int), (d : Int)), (wk h f i (d + 1) (s.1, s.2.1 + 1, s.2.2)).2.1, (wk h f i (d + 1) (s.1, s.2.1 + 1, s.2.2)).2.2 + 1)
theorem wk_succ (h : List Int) (f : Nat) (p : Int) (d : Nat) (s : LS) : wk h (f + 1) p d s = (kids h p).foldl (wkStep h f d) s := rfl
theorem mem_kids {h : List Int} {p : Int} {i : Nat} : i ∈ kids h p ↔ h[i]? = some p := by
  unfold kids
  rw [List.mem_filter, List.mem_range, decide_eq_true_iff]
  constructor
  · exact fun h => h.2
  · intro e; exact ⟨(List.getElem?_eq_some_iff.1 e).1, e⟩
theorem kids_nodup (h : List Int) (p : Int) : (kids h p).Nodup := List.Nodup.sublist List.filter_sublist List.nodup_range
theorem kid_st {h : List Int} {p i : Nat} (hO : Okh h) (e : h[i]? = some (p : Int)) : stN h i = some p := by
  have hi := (List.getElem?_eq_some_iff.1 e).1
  rcases hO.at hi with ⟨h1, _⟩ | ⟨j, h1, h2, h3⟩
  · rw [e] at h1
    have h1 := Option.some.inj h1
    omega
  · rw [e] at h1
    have h1 := Option.some.inj h1
    rw [h3]
    congr 1
    omega
theorem kid_root {h : List Int} {i : Nat} (hO : Okh h) (e : h[i]? = some (-1)) : stN h i = none := by
  have hi := (List.getElem?_eq_some_iff.1 e).1
  rcases hO.at hi with ⟨_, h1⟩ | ⟨j, h1, h2, h3⟩
  · exact h1
  · rw [e] at h1
    have h1 := Option.some.inj h1
    omega
/-- Of two ancestors of one node one is above the other. -/
theorem way_comp {h : List Int} (hO : Okh h) {i x y : Nat} (hx : x ∈ way h i) (hy : y ∈ way h i) : x ∈ way h y ∨ y ∈ way h x := by
  obtain ⟨l, hl, hn⟩ := way_drop hO hx
  obtain ⟨k, hk⟩ := (mem_way hO i x).1 hx
  obtain ⟨m, hm⟩ := (mem_way hO i y).1 hy
  rcases Nat.le_total k m with e | e
  · right
    refine (mem_way hO x y).2 ⟨m - k, ?_⟩
    have := itN_add h k (m - k) i
    rw [show k + (m - k) = m by omega, hm, hk] at this
    exact this.symm
  · left
    refine (mem_way hO y x).2 ⟨k - m, ?_⟩
    have := itN_add h m (k - m) i
    rw [show m + (k - m) = k by omega, hm, hk] at this
    exact this.symm
/-- The parent of a node is on its way, and it is not on the parent's. -/
theorem kid_up {h : List Int} (hO : Okh h) {p k : Nat} (e : stN h k = some p) : p ∈ way h k ∧ k ∉ way h p ∧ k ≠ p := by
  have h1 : p ∈ way h k := by rw [way_step hO e]; exact List.mem_cons_of_mem _ (way_self p)
  have h2 : k ≠ p := fun e2 => by
    subst e2
    have := way_nodup hO k
    rw [way_step hO e, List.nodup_cons] at this
    exact this.1 (way_self k)
  exact ⟨h1, fun h3 => h2 (way_anti hO h3 h1), h2⟩
/-- A proper ancestor is the parent or above it. -/
theorem up_kid {h : List Int} (hO : Okh h) {x k : Nat} (hx : x ∈ way h k) (hne : x ≠ k) : ∃ p, stN h k = some p ∧ x ∈ way h p := by
  cases hs : stN h k with
  | none => rw [way_root hO hs, List.mem_singleton] at hx; exact absurd hx hne
  | some p => rw [way_step hO hs, List.mem_cons] at hx; exact ⟨p, rfl, hx.resolve_left hne⟩
/-- Who lies below some of these nodes, or is one of them. -/
def Dk (h : List Int) (ks : List Nat) (x : Nat) : Prop := ∃ k ∈ ks, k ∈ way h x
theorem dk_kids {h : List Int} (hO : Okh h) {p x : Nat} : Dk h (kids h p) x ↔ p ∈ way h x ∧ x ≠ p := by
  constructor
  · rintro ⟨k, hk, hx⟩
    have hs := kid_st hO (mem_kids.1 hk)
    obtain ⟨h1, h2, h3⟩ := kid_up hO hs
    exact ⟨way_trans hO hx h1, fun e => h2 (e ▸ hx)⟩
  · rintro ⟨hp, hne⟩
    refine way_ind hO (P := fun x => p ∈ way h x → x ≠ p → Dk h (kids h p) x) (fun x ih hp hne => ?_) x hp hne
    obtain ⟨q, hq, hpq⟩ := up_kid hO hp (fun e => hne e.symm)
    by_cases e : q = p
    · subst e
      exact ⟨x, mem_kids.2 (stN_lt hq).2.2, way_self x⟩
    · obtain ⟨k, hk, hkq⟩ := ih q hq hpq e
      exact ⟨k, hk, way_trans hO (by rw [way_step hO hq]; exact List.mem_cons_of_mem _ (way_self q)) hkq⟩
theorem dk_roots {h : List Int} (hO : Okh h) {x : Nat} (hx : x < h.length) : Dk h (kids h (-1)) x := by
  refine way_ind hO (P := fun x => x < h.length → Dk h (kids h (-1)) x) (fun x ih hx => ?_) x hx
  rcases hO.at hx with ⟨h1, _⟩ | ⟨j, h1, h2, h3⟩
  · exact ⟨x, mem_kids.2 h1, way_self x⟩
  · obtain ⟨k, hk, hkq⟩ := ih j h3 h2
    exact ⟨k, hk, way_trans hO (by rw [way_step hO h3]; exact List.mem_cons_of_mem _ (way_self j)) hkq⟩
/-- Different sisters have nothing in common below them. -/
theorem kids_apart {h : List Int} (hO : Okh h) {p : Int} {k k' x : Nat} (hk : h[k]? = some p) (hk' : h[k']? = some p) (hx : k ∈ way h x) (hx' : k' ∈ way h x) : k = k' := by
  have key : ∀ a b : Nat, h[a]? = some p → h[b]? = some p → a ∈ way h b → a = b := fun a b ha hb hab => by
    by_cases e : a = b
    · exact e
    · exfalso
      obtain ⟨q, hq, haq⟩ := up_kid hO hab e
      have hb2 := (stN_lt hq).2.2
      rw [hb] at hb2
      have hpq := Option.some.inj hb2
      subst hpq
      obtain ⟨h1, h2, h3⟩ := kid_up hO (kid_st hO ha)
      exact h2 haq
  rcases way_comp hO hx hx' with e | e
  · exact key k k' hk hk' e
  · exact (key k' k hk' hk e).symm
/-- What a walk over some sisters has made of the labels. -/
structure Inv (h : List Int) (ks : List Nat) (s t : LS) : Prop where
  len : t.1.length = s.1.length
  out : ∀ x, ¬ Dk h ks x → t.1[x]? = s.1[x]?
  ins : ∀ x, x < h.length → Dk h ks x → ∃ u v : Nat, t.1[x]? = some ((u : Int), (v : Int), ((way h x).length : Int) - 1) ∧ s.2.1 ≤ u ∧ u < t.2.1 ∧ s.2.2 ≤ v ∧ v < t.2.2
  up : ∀ x y, x < h.length → y < h.length → Dk h ks x → Dk h ks y → x ≠ y → ∀ a b : Lb, t.1[x]? = some a → t.1[y]? = some b → x ∈ way h y → a.1 < b.1 ∧ b.2.1 < a.2.1
  side : ∀ x y, x < h.length → y < h.length → Dk h ks x → Dk h ks y → x ∉ way h y → y ∉ way h x → ∀ a b : Lb, t.1[x]? = some a → t.1[y]? = some b → (a.1 < b.1 ∧ a.2.1 < b.2.1) ∨ (b.1 < a.1 ∧ b.2.1 < a.2.1)
  pre : s.2.1 ≤ t.2.1
  post : s.2.2 ≤ t.2.2
theorem Inv.nil (h : List Int) (s : LS) : Inv h [] s s :=
  ⟨rfl, fun _ _ => rfl, fun x _ ⟨k, hk, _⟩ => absurd hk (by simp), fun x _ _ _ ⟨k, hk, _⟩ => absurd hk (by simp), fun x _ _ _ ⟨k, hk, _⟩ => absurd hk (by simp), Nat.le_refl _, Nat.le_refl _⟩
theorem dk_snoc {h : List Int} {ks : List Nat} {k x : Nat} : Dk h (ks ++ [k]) x ↔ Dk h ks x ∨ k ∈ way h x := by
  unfold Dk
  simp only [List.mem_append, List.mem_singleton]
  constructor
  · rintro ⟨j, hj | rfl, hx⟩
    · exact .inl ⟨j, hj, hx⟩
    · exact .inr hx
  · rintro (⟨j, hj, hx⟩ | hx)
    · exact ⟨j, .inl hj, hx⟩
    · exact ⟨k, .inr rfl, hx⟩
theorem Inv.snoc {h : List Int} (hO : Okh h) {ks : List Nat} {k f d : Nat} {s t : LS} (hI : Inv h ks s t) (hk : k < h.length) (hd : (way h k).length = d + 1) (hl : s.1.length = h.length)
    (hap : ∀ x, Dk h ks x → k ∉ way h x) (ih : ∀ s, s.1.length = h.length → Inv h (kids h k) s (wk h f k (d + 1) s)) : Inv h (ks ++ [k]) s (wkStep h f d t k) := by
  have hI2 := ih (t.1, t.2.1 + 1, t.2.2) (by show t.1.length = _; rw [hI.len, hl])
  unfold wkStep
  generalize wk h f k (d + 1) (t.1, t.2.1 + 1, t.2.2) = r at hI2 ⊢
  have hrl : r.1.length = h.length := by rw [hI2.len]; show t.1.length = _; rw [hI.len, hl]
  have hp1 : t.2.1 + 1 ≤ r.2.1 := hI2.pre
  have hp2 : t.2.2 ≤ r.2.2 := hI2.post
  have h1 := hI.pre
  have h2 := hI.post
  -- what stands where
  have hat : ∀ x, (r.1.set k ((t.2.1 : Int), (r.2.2 : Int), (d : Int)))[x]? = if x = k then some ((t.2.1 : Int), (r.2.2 : Int), (d : Int)) else r.1[x]? := fun x => by
    rw [List.getElem?_set]
    by_cases e : x = k
    · subst e
      rw [if_pos rfl, if_pos (by omega), if_pos rfl]
    · rw [if_neg (fun h => e h.symm), if_neg e]
  have hold : ∀ x, k ∉ way h x → (r.1.set k ((t.2.1 : Int), (r.2.2 : Int), (d : Int)))[x]? = t.1[x]? := fun x hx => by
    have hxk : x ≠ k := fun e => hx (e ▸ way_self x)
    rw [hat, if_neg hxk, hI2.out x (fun hd => hx (dk_kids hO |>.1 hd).1)]
  have hnew : ∀ x, x ≠ k → (r.1.set k ((t.2.1 : Int), (r.2.2 : Int), (d : Int)))[x]? = r.1[x]? := fun x hx => by rw [hat, if_neg hx]
  have hkk : (r.1.set k ((t.2.1 : Int), (r.2.2 : Int), (d : Int)))[k]? = some ((t.2.1 : Int), (r.2.2 : Int), (d : Int)) := by rw [hat, if_pos rfl]
  have hD2 : ∀ x, x ≠ k → k ∈ way h x → Dk h (kids h k) x := fun x hx hw => (dk_kids hO).2 ⟨hw, hx⟩
  -- the numbers of a node below k, and of one below the others
  have hin : ∀ x, x < h.length → k ∈ way h x → x ≠ k → ∀ a : Lb, (r.1.set k ((t.2.1 : Int), (r.2.2 : Int), (d : Int)))[x]? = some a → (t.2.1 : Int) < a.1 ∧ (t.2.2 : Int) ≤ a.2.1 ∧ a.2.1 < r.2.2 := fun x hx hw hne a ha => by
    rw [hnew x hne] at ha
    obtain ⟨u, v, e, e1, e2, e3, e4⟩ := hI2.ins x hx (hD2 x hne hw)
    rw [e] at ha
    cases ha
    have e1 : t.2.1 + 1 ≤ u := e1
    have e3 : t.2.2 ≤ v := e3
    refine ⟨?_, ?_, ?_⟩ <;> (simp only; omega)
  have hin' : ∀ x, x < h.length → k ∈ way h x → ∀ a : Lb, (r.1.set k ((t.2.1 : Int), (r.2.2 : Int), (d : Int)))[x]? = some a → (t.2.1 : Int) ≤ a.1 ∧ (t.2.2 : Int) ≤ a.2.1 := fun x hx hw a ha => by
    by_cases e : x = k
    · subst e
      rw [hkk] at ha
      cases ha
      constructor <;> (simp only; omega)
    · have := hin x hx hw e a ha
      omega
  have hot : ∀ x, x < h.length → Dk h ks x → ∀ a : Lb, (r.1.set k ((t.2.1 : Int), (r.2.2 : Int), (d : Int)))[x]? = some a → a.1 < t.2.1 ∧ a.2.1 < t.2.2 := fun x hx hd a ha => by
    rw [hold x (hap x hd)] at ha
    obtain ⟨u, v, e, e1, e2, e3, e4⟩ := hI.ins x hx hd
    rw [e] at ha
    cases ha
    constructor <;> (simp only; omega)
  refine ⟨?_, ?_, ?_, ?_, ?_, ?_, ?_⟩
  · show (r.1.set k _).length = _
    rw [List.length_set, hrl, hl]
  · intro x hx
    have hx2 := fun hh => hx (dk_snoc.2 hh)
    show (r.1.set k _)[x]? = _
    rw [hold x (fun hw => hx2 (.inr hw)), hI.out x (fun hd => hx2 (.inl hd))]
  · intro x hx hdx
    show ∃ u v : Nat, (r.1.set k _)[x]? = _ ∧ s.2.1 ≤ u ∧ u < r.2.1 ∧ s.2.2 ≤ v ∧ v < r.2.2 + 1
    by_cases hw : k ∈ way h x
    · by_cases e : x = k
      · subst e
        refine ⟨t.2.1, r.2.2, ?_, by omega, by omega, by omega, by omega⟩
        rw [hkk, hd]
        congr 3
        omega
      · obtain ⟨u, v, e0, e1, e2, e3, e4⟩ := hI2.ins x hx (hD2 x e hw)
        have e1 : t.2.1 + 1 ≤ u := e1
        have e3 : t.2.2 ≤ v := e3
        exact ⟨u, v, by rw [hnew x e]; exact e0, by omega, by omega, by omega, by omega⟩
    · obtain ⟨u, v, e0, e1, e2, e3, e4⟩ := hI.ins x hx ((dk_snoc.1 hdx).resolve_right hw)
      exact ⟨u, v, by rw [hold x hw]; exact e0, by omega, by omega, by omega, by omega⟩
  · intro x y hx hy hdx hdy hne a b ha hb hxy
    have ha : (r.1.set k _)[x]? = some a := ha
    have hb : (r.1.set k _)[y]? = some b := hb
    by_cases hwx : k ∈ way h x
    · have hwy : k ∈ way h y := way_trans hO hxy hwx
      have hyk : y ≠ k := fun e => by
        subst e
        exact hne (way_anti hO hxy hwx)
      by_cases e : x = k
      · subst e
        have h3 := hin y hy hwy hyk b hb
        rw [hkk] at ha
        cases ha
        exact ⟨h3.1, h3.2.2⟩
      · rw [hnew x e] at ha
        rw [hnew y hyk] at hb
        exact hI2.up x y hx hy (hD2 x e hwx) (hD2 y hyk hwy) hne a b ha hb hxy
    · have hdx' := (dk_snoc.1 hdx).resolve_right hwx
      obtain ⟨j, hj, hjx⟩ := hdx'
      have hdy' : Dk h ks y := ⟨j, hj, way_trans hO hxy hjx⟩
      rw [hold x hwx] at ha
      rw [hold y (hap y hdy')] at hb
      exact hI.up x y hx hy ⟨j, hj, hjx⟩ hdy' hne a b ha hb hxy
  · intro x y hx hy hdx hdy hxy hyx a b ha hb
    have ha : (r.1.set k _)[x]? = some a := ha
    have hb : (r.1.set k _)[y]? = some b := hb
    by_cases hwx : k ∈ way h x
    · by_cases hwy : k ∈ way h y
      · have exk : x ≠ k := fun e => hxy (e ▸ hwy)
        have eyk : y ≠ k := fun e => hyx (e ▸ hwx)
        rw [hnew x exk] at ha
        rw [hnew y eyk] at hb
        exact hI2.side x y hx hy (hD2 x exk hwx) (hD2 y eyk hwy) hxy hyx a b ha hb
      · right
        have h3 := hot y hy ((dk_snoc.1 hdy).resolve_right hwy) b hb
        have h4 := hin' x hx hwx a ha
        omega
    · have h3 := hot x hx ((dk_snoc.1 hdx).resolve_right hwx) a ha
      by_cases hwy : k ∈ way h y
      · left
        have h4 := hin' y hy hwy b hb
        omega
      · have hdx' := (dk_snoc.1 hdx).resolve_right hwx
        have hdy' := (dk_snoc.1 hdy).resolve_right hwy
        rw [hold x hwx] at ha
        rw [hold y hwy] at hb
        exact hI.side x y hx hy hdx' hdy' hxy hyx a b ha hb
  · show s.2.1 ≤ r.2.1
    omega
  · show s.2.2 ≤ r.2.2 + 1
    omega
/-- At which depth a walk stands. -/
def AtD (h : List Int) (p : Int) (d : Nat) : Prop := (p = -1 ∧ d = 0) ∨ ∃ q : Nat, p = (q : Int) ∧ q < h.length ∧ (way h q).length = d
theorem AtD.kid {h : List Int} (hO : Okh h) {p : Int} {d k : Nat} (hp : AtD h p d) (hk : h[k]? = some p) : (way h k).length = d + 1 := by
  rcases hp with ⟨rfl, rfl⟩ | ⟨q, rfl, _, hd⟩
  · rw [way_root hO (kid_root hO hk)]; rfl
  · rw [way_step hO (kid_st hO hk), List.length_cons, hd]
theorem fold_inv {h : List Int} (hO : Okh h) {f : Nat} {p : Int} {d : Nat} (hp : AtD h p d) (ih : ∀ k : Nat, h[k]? = some p → ∀ s, s.1.length = h.length → Inv h (kids h k) s (wk h f k (d + 1) s)) (s : LS) (hl : s.1.length = h.length) :
    ∀ ks : List Nat, ks.Nodup → (∀ k ∈ ks, h[k]? = some p) → Inv h ks s (ks.foldl (wkStep h f d) s) := by
  intro ks
  obtain ⟨r, hr⟩ : ∃ r, r = ks.reverse := ⟨_, rfl⟩
  obtain rfl : ks = r.reverse := by rw [hr, List.reverse_reverse]
  clear hr
  induction r with
  | nil => intro _ _; exact Inv.nil h s
  | cons k r ihr =>
    rw [List.reverse_cons]
    intro hd hm
    rw [List.nodup_append] at hd
    have hk := hm k (by simp)
    have hI := ihr hd.1 (fun k hk => hm k (by rw [List.mem_append]; exact .inl hk))
    rw [List.foldl_append]
    refine Inv.snoc hO hI (List.getElem?_eq_some_iff.1 hk).1 (hp.kid hO hk) hl (fun x hx hw => ?_) (ih k hk)
    obtain ⟨j, hj, hjx⟩ := hx
    have e := kids_apart hO (hm j (by rw [List.mem_append]; exact .inl hj)) hk hjx hw
    exact hd.2.2 j hj k (by simp) e
theorem wk_inv {h : List Int} (hO : Okh h) : ∀ (f : Nat) (p : Int) (d : Nat), f + d = h.length + 1 → AtD h p d → ∀ s : LS, s.1.length = h.length → Inv h (kids h p) s (wk h f p d s)
  | 0, p, d, hf, hp, s, hl => by
    have : kids h p = [] := by
      rw [List.eq_nil_iff_forall_not_mem]
      intro k hk
      have hk := mem_kids.1 hk
      have h1 := hp.kid hO hk
      have h2 := way_len hO (List.getElem?_eq_some_iff.1 hk).1
      omega
    rw [this]
    exact Inv.nil h s
  | f + 1, p, d, hf, hp, s, hl => by
    rw [wk_succ]
    refine fold_inv hO hp (fun k hk s hs => wk_inv hO f k (d + 1) (by omega) (.inr ⟨k, rfl, (List.getElem?_eq_some_iff.1 hk).1, hp.kid hO hk⟩) s hs) s hl _ (kids_nodup h p) (fun k hk => mem_kids.1 hk)
def lab0 (n : Nat) : List Lb := List.replicate n (0, 0, 0)
/-- The labels of a forest. -/
def labH (h : List Int) : List Lb := (wk h (h.length + 1) (-1) 0 (lab0 h.length, 0, 0)).1
/-- Labels that tell a forest. -/
structure LabOf (h : List Int) (l : List Lb) : Prop where
  len : l.length = h.length
  dep : ∀ (x : Nat) (a : Lb), l[x]? = some a → a.2.2 = ((way h x).length : Int) - 1
  nat : ∀ (x : Nat) (a : Lb), l[x]? = some a → 0 ≤ a.1 ∧ 0 ≤ a.2.1
  up : ∀ (x y : Nat) (a b : Lb), x ≠ y → l[x]? = some a → l[y]? = some b → x ∈ way h y → a.1 < b.1 ∧ b.2.1 < a.2.1
  side : ∀ (x y : Nat) (a b : Lb), l[x]? = some a → l[y]? = some b → x ∉ way h y → y ∉ way h x → (a.1 < b.1 ∧ a.2.1 < b.2.1) ∨ (b.1 < a.1 ∧ b.2.1 < a.2.1)
theorem labH_of {h : List Int} (hO : Okh h) : LabOf h (labH h) := by
  have hI := wk_inv hO (h.length + 1) (-1) 0 (by omega) (.inl ⟨rfl, rfl⟩) (lab0 h.length, 0, 0) (by simp [lab0])
  have hl : (labH h).length = h.length := by
    have := hI.len
    simpa [lab0, labH] using this
  have hlt : ∀ x (a : Lb), (labH h)[x]? = some a → x < h.length := fun x a ha => by rw [← hl]; exact (List.getElem?_eq_some_iff.1 ha).1
  refine ⟨hl, fun x a ha => ?_, fun x a ha => ?_, fun x y a b hne ha hb hxy => ?_, fun x y a b ha hb h1 h2 => ?_⟩
  · obtain ⟨u, v, e, _⟩ := hI.ins x (hlt x a ha) (dk_roots hO (hlt x a ha))
    have e : (labH h)[x]? = _ := e
    rw [e] at ha
    cases ha
    rfl
  · obtain ⟨u, v, e, _⟩ := hI.ins x (hlt x a ha) (dk_roots hO (hlt x a ha))
    have e : (labH h)[x]? = _ := e
    rw [e] at ha
    cases ha
    constructor <;> (simp only; omega)
  · exact hI.up x y (hlt x a ha) (hlt y b hb) (dk_roots hO (hlt x a ha)) (dk_roots hO (hlt y b hb)) hne a b ha hb hxy
  · exact hI.side x y (hlt x a ha) (hlt y b hb) (dk_roots hO (hlt x a ha)) (dk_roots hO (hlt y b hb)) h1 h2 a b ha hb
/-! WHAT LABELS TELL. -/
def domL (a b : Lb) : Bool := decide (a.1 < b.1) && decide (b.2.1 < a.2.1)
def precL (a b : Lb) : Bool := decide (a.1 < b.1) && decide (a.2.1 < b.2.1)
theorem domL_iff {a b : Lb} : domL a b = true ↔ a.1 < b.1 ∧ b.2.1 < a.2.1 := by simp [domL]
theorem precL_iff {a b : Lb} : precL a b = true ↔ a.1 < b.1 ∧ a.2.1 < b.2.1 := by simp [precL]
theorem LabOf.dom {h : List Int} (hO : Okh h) {l : List Lb} (hL : LabOf h l) {x y : Nat} {a b : Lb} (ha : l[x]? = some a) (hb : l[y]? = some b) : domL a b = true ↔ x ≠ y ∧ x ∈ way h y := by
  rw [domL_iff]
  constructor
  · intro hd
    have hne : x ≠ y := fun e => by subst e; rw [ha] at hb; cases hb; omega
    refine ⟨hne, Decidable.byContradiction fun hw => ?_⟩
    by_cases hw2 : y ∈ way h x
    · have := hL.up y x b a (fun e => hne e.symm) hb ha hw2
      omega
    · have := hL.side x y a b ha hb hw hw2
      omega
  · rintro ⟨hne, hw⟩
    exact hL.up x y a b hne ha hb hw
theorem LabOf.prec {h : List Int} (hO : Okh h) {l : List Lb} (hL : LabOf h l) {x y : Nat} {a b : Lb} (ha : l[x]? = some a) (hb : l[y]? = some b) (hw : x ∉ way h y) (hw2 : y ∉ way h x) : (precL a b = true ∧ precL b a = false) ∨ (precL a b = false ∧ precL b a = true) := by
  simp only [← Bool.not_eq_true, precL_iff]
  have := hL.side x y a b ha hb hw hw2
  omega
theorem LabOf.noprec {h : List Int} (hO : Okh h) {l : List Lb} (hL : LabOf h l) {x y : Nat} {a b : Lb} (ha : l[x]? = some a) (hb : l[y]? = some b) (hw : x ∈ way h y) : precL a b = false ∧ precL b a = false := by
  simp only [← Bool.not_eq_true, precL_iff]
  by_cases hne : x = y
  · subst hne; rw [ha] at hb; cases hb; omega
  · have := hL.up x y a b hne ha hb hw
    omega
theorem LabOf.ne {h : List Int} {l : List Lb} (hL : LabOf h l) {x y : Nat} {a b : Lb} (hne : x ≠ y) (ha : l[x]? = some a) (hb : l[y]? = some b) : a.1 ≠ b.1 := by
  by_cases hw : x ∈ way h y
  · have := hL.up x y a b hne ha hb hw; omega
  · by_cases hw2 : y ∈ way h x
    · have := hL.up y x b a (fun e => hne e.symm) hb ha hw2; omega
    · have := hL.side x y a b ha hb hw hw2; omega
theorem LabOf.get {h : List Int} {l : List Lb} (hL : LabOf h l) {x : Nat} (hx : x < h.length) : ∃ a, l[x]? = some a ∧ a.2.2 = ((way h x).length : Int) - 1 :=
  ⟨l[x]'(by rw [hL.len]; exact hx), List.getElem?_eq_getElem _, hL.dep x _ (List.getElem?_eq_getElem _)⟩
/-- A proper ancestor has the shorter way. -/
theorem way_less {h : List Int} (hO : Okh h) {x y : Nat} (hw : x ∈ way h y) (hne : x ≠ y) : (way h x).length < (way h y).length := by
  obtain ⟨l, hl, hn⟩ := way_drop hO hw
  rw [hl, List.length_append]
  cases l with
  | nil =>
    exfalso
    rw [List.nil_append] at hl
    have e1 := way_eq hO y
    have e2 := way_eq hO x
    rw [e1, e2] at hl
    injection hl with h1 h2
    exact hne h1.symm
  | cons => simp <;> omega
/-- The last node that dominates, of the greatest depth: the reference's choice. -/
def bestS (L : List Lb) (x : Lb) (b : Int) (k : Nat) : Int := if domL (L.getD k (0, 0, 0)) x && (decide (b < 0) || decide ((L.getD b.toNat (0, 0, 0)).2.2 < (L.getD k (0, 0, 0)).2.2)) then (k : Int) else b
def bestL (L : List Lb) (x : Lb) : Int := (List.range L.length).foldl (bestS L x) (-1)
def upL (L : List Lb) : List Int := L.map (bestL L)
theorem getD_of {α : Type} {l : List α} {i : Nat} {x d : α} (e : l[i]? = some x) : l.getD i d = x := by rw [List.getD_eq_getElem?_getD, e]; rfl
theorem best_of {h : List Int} (hO : Okh h) {L : List Lb} (hL : LabOf h L) {i : Nat} {a : Lb} (ha : L[i]? = some a) : some (bestL L a) = h[i]? := by
  have hi : i < h.length := by rw [← hL.len]; exact (List.getElem?_eq_some_iff.1 ha).1
  have hpre : ∀ m, m ≤ h.length → ∀ b, b = (List.range m).foldl (bestS L a) (-1) → (b = -1 ∧ ∀ k, k < m → k ≠ i → k ∉ way h i) ∨ ∃ q : Nat, b = (q : Int) ∧ q < m ∧ q ≠ i ∧ q ∈ way h i ∧ ∀ k, k < m → k ≠ i → k ∈ way h i → (way h k).length ≤ (way h q).length := by
    intro m
    induction m with
    | zero => intro _ b hb; exact .inl ⟨hb, fun k hk => absurd hk (by omega)⟩
    | succ m ih =>
      intro hm b hb
      rw [List.range_succ, List.foldl_append, List.foldl_cons, List.foldl_nil] at hb
      have ih := ih (by omega) _ rfl
      generalize (List.range m).foldl (bestS L a) (-1) = b0 at hb ih
      obtain ⟨c, hc, hcd⟩ := hL.get (x := m) (by omega)
      have hdom := hL.dom hO hc ha
      unfold bestS at hb
      rw [getD_of hc] at hb
      by_cases hd : m ≠ i ∧ m ∈ way h i
      · rw [hdom.2 hd, Bool.true_and] at hb
        rcases ih with ⟨rfl, ih⟩ | ⟨q, rfl, hq, hqi, hqw, ih⟩
        · rw [if_pos (by simp)] at hb
          refine .inr ⟨m, hb, by omega, hd.1, hd.2, fun k hk hki hkw => ?_⟩
          by_cases e : k = m
          · subst e; exact Nat.le_refl _
          · exact absurd hkw (ih k (by omega) hki)
        · obtain ⟨c2, hc2, hcd2⟩ := hL.get (x := q) (by omega)
          rw [Int.toNat_natCast, getD_of hc2, hcd, hcd2] at hb
          by_cases hlt : (way h q).length < (way h m).length
          · rw [if_pos (by simp; omega)] at hb
            refine .inr ⟨m, hb, by omega, hd.1, hd.2, fun k hk hki hkw => ?_⟩
            by_cases e : k = m
            · subst e; exact Nat.le_refl _
            · exact Nat.le_trans (ih k (by omega) hki hkw) (by omega)
          · rw [if_neg (by simp; omega)] at hb
            refine .inr ⟨q, hb, by omega, hqi, hqw, fun k hk hki hkw => ?_⟩
            by_cases e : k = m
            · subst e; omega
            · exact ih k (by omega) hki hkw
      · have hf : domL c a = false := by
          rw [← Bool.not_eq_true]
          exact fun e => hd (hdom.1 e)
        rw [hf, Bool.false_and, if_neg (by simp)] at hb
        rcases ih with ⟨rfl, ih⟩ | ⟨q, rfl, hq, hqi, hqw, ih⟩
        · refine .inl ⟨hb, fun k hk hki hkw => ?_⟩
          by_cases e : k = m
          · subst e; exact hd ⟨hki, hkw⟩
          · exact ih k (by omega) hki hkw
        · refine .inr ⟨q, hb, by omega, hqi, hqw, fun k hk hki hkw => ?_⟩
          by_cases e : k = m
          · subst e; exact absurd ⟨hki, hkw⟩ hd
          · exact ih k (by omega) hki hkw
  have hend := hpre h.length (Nat.le_refl _) (bestL L a) (by unfold bestL; rw [hL.len])
  rcases hO.at hi with ⟨h1, h2⟩ | ⟨j, h1, h2, h3⟩
  · rw [h1]
    rcases hend with ⟨e, _⟩ | ⟨q, _, _, hqi, hqw, _⟩
    · rw [e]
    · rw [way_root hO h2, List.mem_singleton] at hqw
      exact absurd hqw hqi
  · rw [h1]
    obtain ⟨k1, k2, k3⟩ := kid_up hO h3
    rcases hend with ⟨_, hh⟩ | ⟨q, e, _, hqi, hqw, hmax⟩
    · exact absurd k1 (hh j h2 (fun e => k3 e.symm))
    · rw [e]
      have h5 := hmax j h2 (fun e => k3 e.symm) k1
      obtain ⟨p, hp, hqp⟩ := up_kid hO hqw hqi
      rw [h3] at hp
      cases hp
      by_cases hqj : q = j
      · rw [hqj]
      · have := way_less hO hqp hqj
        omega
theorem up_of {h : List Int} (hO : Okh h) {L : List Lb} (hL : LabOf h L) : upL L = h := by
  apply List.ext_getElem?
  intro i
  unfold upL
  rw [List.getElem?_map]
  cases hi : L[i]? with
  | none =>
    rw [List.getElem?_eq_none_iff, hL.len] at hi
    rw [List.getElem?_eq_none hi]
    rfl
  | some a =>
    exact best_of hO hL hi
/-- The parents of labels. -/
def parentsL (L : List Lb) : List Int × Int :=
  if 4096 < L.length then ([], 2) else if (checkH (upL L)).2 = 0 ∧ labH (upL L) = L then (upL L, 0) else ([], 9)
def assignH (h : List Int) : List Lb × Int × Int := if (checkH h).2 = 0 then (labH h, 0, 0) else ([], (checkH h).1, (checkH h).2)
theorem okh_check {h : List Int} : (checkH h).2 = 0 ↔ Okh h := by
  rw [← okh_iff]
  unfold okH
  rw [decide_eq_true_iff]
theorem check_zero {h : List Int} (e : (checkH h).2 = 0) : checkH h = (0, 0) := by
  unfold checkH at e ⊢
  split at e
  · cases e
  · split at e
    · cases e
    · split at e
      · cases e
      · rename_i a b c
        rw [if_neg a, if_neg b, if_neg c]
theorem labH_len {h : List Int} (hO : Okh h) : (labH h).length = h.length := (labH_of hO).len
theorem parents_of {h : List Int} (hO : Okh h) : parentsL (labH h) = (h, 0) := by
  have e := up_of hO (labH_of hO)
  unfold parentsL
  rw [labH_len hO, if_neg (by have := hO.len; omega), e, if_pos ⟨okh_check.2 hO, rfl⟩]
theorem parents_ok {L : List Lb} (e : (parentsL L).2 = 0) : Okh (parentsL L).1 ∧ labH (parentsL L).1 = L := by
  unfold parentsL at e ⊢
  by_cases h1 : 4096 < L.length
  · rw [if_pos h1] at e; cases e
  · rw [if_neg h1] at e ⊢
    by_cases h2 : (checkH (upL L)).2 = 0 ∧ labH (upL L) = L
    · rw [if_pos h2]
      exact ⟨okh_check.1 h2.1, h2.2⟩
    · rw [if_neg h2] at e; cases e
theorem parents_no {L : List Lb} (hl : L.length ≤ 4096) (hn : ∀ p, Okh p → labH p ≠ L) : parentsL L = ([], 9) := by
  unfold parentsL
  rw [if_neg (by omega), if_neg]
  rintro ⟨h1, h2⟩
  exact hn _ (okh_check.1 h1) h2
/-- The code's way: nodes in the order of Pre, and for each depth the parent of a node that would follow there. -/
def scanL (L : List Lb) : List Nat → List Int → List Int → Option (List Int)
  | [], ps, _ => some ps
  | i :: r, ps, ab => if (L.getD i (0, 0, 0)).2.2 < 0 ∨ (ab.length : Int) ≤ (L.getD i (0, 0, 0)).2.2 then none
    else scanL L r (ps.set i (ab.getD (L.getD i (0, 0, 0)).2.2.toNat 0)) (ab.take ((L.getD i (0, 0, 0)).2.2.toNat + 1) ++ [(i : Int)])
def aboveL (h : List Int) : Option Nat → List Int
  | none => [-1]
  | some q => -1 :: ((way h q).reverse.map fun (x : Nat) => (x : Int))
theorem scan_ok {h : List Int} (hO : Okh h) {L : List Lb} (hL : LabOf h L) {order : List Nat} (hp : order.Perm (List.range h.length)) (hs : order.Pairwise fun i j => (L.getD i (0, 0, 0)).1 ≤ (L.getD j (0, 0, 0)).1) :
    ∀ (rest done : List Nat) (ps : List Int), order = done ++ rest → ps.length = h.length → (∀ j ∈ done, ps[j]? = h[j]?) → scanL L rest ps (aboveL h done.getLast?) = some h := by
  have hmem : ∀ x, x ∈ order ↔ x < h.length := fun x => by rw [hp.mem_iff, List.mem_range]
  have hnd : order.Nodup := hp.nodup_iff.2 List.nodup_range
  intro rest
  induction rest with
  | nil =>
    intro done ps ho hl hd
    show some ps = some h
    congr 1
    apply List.ext_getElem?
    intro j
    by_cases hj : j < h.length
    · exact hd j (by have := (hmem j).2 hj; rw [ho, List.append_nil] at this; exact this)
    · rw [List.getElem?_eq_none (by omega), List.getElem?_eq_none (by omega)]
  | cons i rest ih =>
    intro done ps ho hl hd
    have hi : i < h.length := (hmem i).1 (by rw [ho]; simp)
    obtain ⟨a, ha, had⟩ := hL.get hi
    have hwl : 0 < (way h i).length := List.length_pos_of_mem (way_self i)
    have hid : i ∉ done := fun hm => by
      rw [ho, List.nodup_append] at hnd
      exact hnd.2.2 i hm i (by simp) rfl
    -- the parent's place, and what lies above it
    have key : ∃ (p : Int) (d : Nat) (ab' : List Int), h[i]? = some p ∧ (way h i).length = d + 1 ∧ (aboveL h done.getLast?)[d]? = some p ∧ (aboveL h done.getLast?).take (d + 1) ++ [(i : Int)] = aboveL h (some i) := by
      rcases hO.at hi with ⟨h1, h2⟩ | ⟨p, h1, h2, h3⟩
      · refine ⟨-1, 0, [], h1, by rw [way_root hO h2]; rfl, ?_, ?_⟩
        · cases done.getLast? <;> rfl
        · show _ = -1 :: ((way h i).reverse.map fun (x : Nat) => (x : Int))
          rw [way_root hO h2]
          cases done.getLast? <;> rfl
      · obtain ⟨k1, k2, k3⟩ := kid_up hO h3
        obtain ⟨b, hb, hbd⟩ := hL.get h2
        have hup := hL.up p i b a (fun e => k3 e.symm) hb ha k1
        -- the parent stands in front
        have hpd : p ∈ done := by
          have hm := (hmem p).2 h2
          rw [ho, List.mem_append, List.mem_cons] at hm
          rcases hm with hm | hm | hm
          · exact hm
          · exact absurd hm.symm k3
          · exfalso
            rw [ho, List.pairwise_append] at hs
            have := (List.pairwise_cons.1 hs.2.1).1 p hm
            rw [getD_of ha, getD_of hb] at this
            omega
        obtain ⟨q, hq⟩ : ∃ q, done.getLast? = some q := by
          cases hg : done.getLast? with
          | none => rw [List.getLast?_eq_none_iff] at hg; subst hg; cases hpd
          | some q => exact ⟨q, rfl⟩
        obtain ⟨dn, rfl⟩ := List.getLast?_eq_some_iff.1 hq
        have hqh : q < h.length := (hmem q).1 (by rw [ho]; simp)
        obtain ⟨c, hc, hcd⟩ := hL.get hqh
        have hpq : p ≠ q → b.1 ≤ c.1 := fun hne => by
          have hs1 := (List.pairwise_append.1 (by rw [ho] at hs; exact hs)).1
          have hpm : p ∈ dn := by
            rw [List.mem_append, List.mem_singleton] at hpd
            exact hpd.resolve_right hne
          have := (List.pairwise_append.1 hs1).2.2 p hpm q (by simp)
          rw [getD_of hb, getD_of hc] at this
          exact this
        have hqi : c.1 ≤ a.1 := by
          have := (List.pairwise_append.1 (by rw [ho] at hs; exact hs)).2.2 q (by simp) i (by simp)
          rw [getD_of ha, getD_of hc] at this
          exact this
        have hqni : q ≠ i := fun e => hid (by rw [← e]; simp)
        have hqi2 := hL.ne hqni hc ha
        have hpw : p ∈ way h q := by
          by_cases e : p = q
          · rw [e]; exact way_self q
          · refine Decidable.byContradiction fun hw => ?_
            have h5 := hpq e
            have h6 := hL.ne e hb hc
            have hqp : q ∉ way h p := fun hw2 => by
              have := hL.up q p c b (fun e2 => e e2.symm) hc hb hw2
              omega
            have h7 := hL.side p q b c hb hc hw hqp
            have hqi3 : q ∉ way h i := fun hw2 => by
              obtain ⟨p', hp', hw3⟩ := up_kid hO hw2 hqni
              rw [h3] at hp'
              cases hp'
              exact hqp hw3
            have hiq : i ∉ way h q := fun hw2 => by
              have := hL.up i q a c (fun e2 => hqni e2.symm) ha hc hw2
              omega
            have h8 := hL.side q i c a hc ha hqi3 hiq
            omega
        obtain ⟨l, hl', hn⟩ := way_drop hO hpw
        have hwi : way h i = i :: way h p := way_step hO h3
        refine ⟨p, (way h p).length, [], h1, by rw [hwi]; rfl, ?_, ?_⟩
        · rw [hq]
          show (-1 :: ((way h q).reverse.map fun (x : Nat) => (x : Int)))[_]? = _
          rw [hl', List.reverse_append, List.map_append]
          have hwp : ∃ r, way h p = p :: r := ⟨_, way_eq hO p⟩
          obtain ⟨r, hr⟩ := hwp
          rw [hr, List.reverse_cons, List.length_cons, List.getElem?_cons_succ, List.getElem?_append_left (by simp), List.getElem?_map, List.getElem?_append_right (by simp)]
          simp
        · rw [hq]
          show (-1 :: ((way h q).reverse.map fun (x : Nat) => (x : Int))).take _ ++ _ = -1 :: ((way h i).reverse.map fun (x : Nat) => (x : Int))
          rw [hl', List.reverse_append, List.map_append, hwi, List.take_succ_cons, List.take_append_of_le_length (by simp), List.take_of_length_le (by simp)]
          simp
    obtain ⟨p, d, _, k1, k2, k3, k4⟩ := key
    have hd2 : a.2.2 = (d : Int) := by rw [had, k2]; omega
    have hlt : d < (aboveL h done.getLast?).length := (List.getElem?_eq_some_iff.1 k3).1
    show (if (L.getD i (0, 0, 0)).2.2 < 0 ∨ _ then none else _) = _
    rw [getD_of ha, hd2, if_neg (by omega), Int.toNat_natCast, getD_of k3, k4]
    have hgl : (done ++ [i]).getLast? = some i := by simp
    have := ih (done ++ [i]) (ps.set i p) (by rw [ho]; simp) (by rw [List.length_set]; exact hl) (fun j hj => ?_)
    · rw [hgl] at this
      exact this
    · rw [List.getElem?_set]
      by_cases e : i = j
      · subst e
        rw [if_pos rfl, if_pos (by omega), k1]
      · rw [if_neg e]
        rw [List.mem_append, List.mem_singleton] at hj
        exact hd j (hj.resolve_right (fun e2 => e e2.symm))
theorem rebuild_ok {h : List Int} (hO : Okh h) {L : List Lb} (hL : LabOf h L) {order : List Nat} (hp : order.Perm (List.range h.length)) (hs : order.Pairwise fun i j => (L.getD i (0, 0, 0)).1 ≤ (L.getD j (0, 0, 0)).1) :
    scanL L order (List.replicate h.length 0) [-1] = some h := scan_ok hO hL hp hs order [] _ rfl (by simp) (fun j hj => absurd hj (by simp))
/-! SISTERS ONE BY ONE. -/
def kidsF (h : List Int) (p : Int) (j : Nat) : List Nat := (List.range' j (h.length - j)).filter fun i => decide (h[i]? = some p)
def headZ : List Nat → Int
  | [] => -1
  | i :: _ => (i : Int)
theorem kidsF_zero (h : List Int) (p : Int) : kidsF h p 0 = kids h p := by
  unfold kidsF kids
  rw [List.range_eq_range', Nat.sub_zero]
theorem kidsF_end (h : List Int) (p : Int) {j : Nat} (hj : h.length ≤ j) : kidsF h p j = [] := by
  unfold kidsF
  rw [show h.length - j = 0 by omega]
  rfl
theorem kidsF_cons {h : List Int} {p : Int} {j : Nat} (e : h[j]? = some p) : kidsF h p j = j :: kidsF h p (j + 1) := by
  have hj := (List.getElem?_eq_some_iff.1 e).1
  unfold kidsF
  rw [show h.length - j = (h.length - (j + 1)) + 1 by omega, List.range'_succ, List.filter_cons, if_pos (by simpa using e)]
theorem kidsF_skip {h : List Int} {p : Int} {j : Nat} (e : h[j]? ≠ some p) : kidsF h p j = kidsF h p (j + 1) := by
  by_cases hj : j < h.length
  · unfold kidsF
    rw [show h.length - j = (h.length - (j + 1)) + 1 by omega, List.range'_succ, List.filter_cons, if_neg (by simpa using e)]
  · rw [kidsF_end h p (by omega), kidsF_end h p (by omega)]
theorem kidsF_next {h : List Int} {p : Int} : ∀ (m j : Nat), h.length - j = m → ∀ (x : Nat) (rest : List Nat), kidsF h p j = x :: rest → h[x]? = some p ∧ x < h.length ∧ rest = kidsF h p (x + 1)
  | 0, j, hm, x, rest, e => by rw [kidsF_end h p (by omega)] at e; cases e
  | m + 1, j, hm, x, rest, e => by
    by_cases hj : h[j]? = some p
    · rw [kidsF_cons hj] at e
      injection e with e1 e2
      subst e1
      exact ⟨hj, by omega, e2.symm⟩
    · rw [kidsF_skip hj] at e
      exact kidsF_next m (j + 1) (by omega) x rest e
theorem kidsF_at {h : List Int} {p : Int} {j x : Nat} {rest : List Nat} (e : kidsF h p j = x :: rest) : h[x]? = some p ∧ x < h.length ∧ rest = kidsF h p (x + 1) := kidsF_next _ j rfl x rest e
theorem headZ_range {h : List Int} {p : Int} {j : Nat} : -1 ≤ headZ (kidsF h p j) ∧ headZ (kidsF h p j) < h.length := by
  cases hk : kidsF h p j with
  | nil => simp only [headZ]; omega
  | cons x r =>
    have := (kidsF_at hk).2.1
    simp only [headZ]; omega
/-- The lists first and next when the nodes from i on have been taken. -/
def firstL (h : List Int) (i : Nat) : List Int := (List.range (h.length + 1)).map fun (q : Nat) => headZ (kidsF h ((q : Int) - 1) i)
def nextL (h : List Int) (i : Nat) : List Int := (List.range h.length).map fun (x : Nat) => if i ≤ x then headZ (kidsF h (h.getD x 0) (x + 1)) else 0
theorem firstL_len (h : List Int) (i : Nat) : (firstL h i).length = h.length + 1 := by simp [firstL]
theorem nextL_len (h : List Int) (i : Nat) : (nextL h i).length = h.length := by simp [nextL]
theorem firstL_get {h : List Int} {i q : Nat} (hq : q < h.length + 1) : (firstL h i)[q]? = some (headZ (kidsF h ((q : Int) - 1) i)) := by
  unfold firstL
  rw [List.getElem?_map, List.getElem?_range hq]
  rfl
theorem nextL_get {h : List Int} {x : Nat} (hx : x < h.length) {i : Nat} (hi : i ≤ x) {p : Int} (hp : h[x]? = some p) : (nextL h i)[x]? = some (headZ (kidsF h p (x + 1))) := by
  unfold nextL
  rw [List.getElem?_map, List.getElem?_range hx]
  simp only [Option.map_some]
  rw [if_pos hi, List.getD_eq_getElem?_getD, hp]
  rfl
theorem firstL_start (h : List Int) : firstL h h.length = List.replicate (h.length + 1) (-1) := by
  unfold firstL
  apply List.ext_getElem?
  intro q
  rw [List.getElem?_map, List.getElem?_replicate]
  by_cases hq : q < h.length + 1
  · rw [List.getElem?_range hq, if_pos hq, Option.map_some, kidsF_end h _ (Nat.le_refl _)]
    rfl
  · rw [List.getElem?_eq_none (by simp; omega), if_neg hq]
    rfl
theorem nextL_start (h : List Int) : nextL h h.length = List.replicate h.length 0 := by
  unfold nextL
  apply List.ext_getElem?
  intro q
  rw [List.getElem?_map, List.getElem?_replicate]
  by_cases hq : q < h.length
  · rw [List.getElem?_range hq, if_pos hq, Option.map_some, if_neg (by omega)]
  · rw [List.getElem?_eq_none (by simp; omega), if_neg hq]
    rfl
theorem firstL_step {h : List Int} {i : Nat} {p : Int} (hp : h[i]? = some p) (h1 : -1 ≤ p) : firstL h i = (firstL h (i + 1)).set (p + 1).toNat (i : Int) := by
  apply List.ext_getElem?
  intro q
  rw [List.getElem?_set]
  by_cases hq : q < h.length + 1
  · rw [firstL_get hq, firstL_get hq, firstL_len]
    by_cases e : (p + 1).toNat = q
    · rw [if_pos e, if_pos (by omega), kidsF_cons (by rw [hp]; congr 1; omega)]
      rfl
    · rw [if_neg e, kidsF_skip]
      intro e2
      rw [hp] at e2
      have := Option.some.inj e2
      omega
  · rw [List.getElem?_eq_none (by rw [firstL_len]; omega), firstL_len, List.getElem?_eq_none (by rw [firstL_len]; omega)]
    split
    · rw [if_neg (by omega)]
    · rfl
theorem nextL_step {h : List Int} {i : Nat} {p : Int} (hp : h[i]? = some p) : nextL h i = (nextL h (i + 1)).set i (headZ (kidsF h p (i + 1))) := by
  have hi := (List.getElem?_eq_some_iff.1 hp).1
  apply List.ext_getElem?
  intro x
  rw [List.getElem?_set, nextL_len]
  by_cases e : i = x
  · subst e
    rw [if_pos rfl, if_pos hi, nextL_get hi (Nat.le_refl _) hp]
  · rw [if_neg e]
    unfold nextL
    rw [List.getElem?_map, List.getElem?_map]
    by_cases hx : x < h.length
    · rw [List.getElem?_range hx, Option.map_some, Option.map_some]
      by_cases hix : i ≤ x
      · rw [if_pos hix, if_pos (by omega)]
      · rw [if_neg hix, if_neg (by omega)]
    · rw [List.getElem?_eq_none (by simp; omega)]
      rfl
/-- A walk below a node lets that node's label alone. -/
theorem wk_set {h : List Int} (hO : Okh h) {i : Nat} (u : Lb) : ∀ (f k d : Nat) (s : LS), (k ∉ way h i ∨ k = i) → wk h f k d (s.1.set i u, s.2) = ((wk h f k d s).1.set i u, (wk h f k d s).2)
  | 0, k, d, s, _ => rfl
  | f + 1, k, d, s, hk => by
    rw [wk_succ, wk_succ]
    have hks : ∀ c ∈ kids h k, c ≠ i ∧ c ∉ way h i := fun c hc => by
      obtain ⟨h1, h2, h3⟩ := kid_up hO (kid_st hO (mem_kids.1 hc))
      have hn : c ∉ way h i := fun hw => by
        rcases hk with hk | rfl
        · exact hk (way_trans hO hw h1)
        · exact h2 hw
      exact ⟨fun e => hn (e ▸ way_self c), hn⟩
    generalize kids h k = ks at hks
    induction ks generalizing s with
    | nil => rfl
    | cons c ks ih =>
      rw [List.foldl_cons, List.foldl_cons]
      have hc := hks c List.mem_cons_self
      have h1 := wk_set hO u f c (d + 1) (s.1, s.2.1 + 1, s.2.2) (.inl hc.2)
      have e : wkStep h f d (s.1.set i u, s.2) c = ((wkStep h f d s c).1.set i u, (wkStep h f d s c).2) := by
        unfold wkStep
        simp only at h1 ⊢
        rw [h1]
        simp only
        rw [List.set_comm _ _ hc.1]
      rw [e]
      exact ih _ (fun c' hc' => hks c' (List.mem_cons_of_mem _ hc'))
theorem wk_keep {h : List Int} (hO : Okh h) {k f d : Nat} (s : LS) (hf : f + d = h.length + 1) (hk : k < h.length) (hd : (way h k).length = d) (hl : s.1.length = h.length) : (wk h f k d s).1[k]? = s.1[k]? := by
  refine (wk_inv hO f k d hf (.inr ⟨k, rfl, hk, hd⟩) s hl).out k fun hD => ?_
  exact ((dk_kids hO).1 hD).2 rfl
theorem wk_len {h : List Int} (hO : Okh h) {p : Int} {f d : Nat} (s : LS) (hf : f + d = h.length + 1) (hp : AtD h p d) (hl : s.1.length = h.length) : (wk h f p d s).1.length = h.length := by
  rw [(wk_inv hO f p d hf hp s hl).len, hl]
/-- One node of the reference's walk: Pre and Depth ahead, Post behind. -/
theorem wk_ref {h : List Int} (hO : Okh h) {k f d : Nat} (s : LS) (o : Lb) (hf : f + (d + 1) = h.length + 1) (hk : k < h.length) (hd : (way h k).length = d + 1) (hl : s.1.length = h.length) :
    ∃ t : LS, wk h f k (d + 1) (s.1.set k ((s.2.1 : Int), o.2.1, (d : Int)), s.2.1 + 1, s.2.2) = t ∧ t.1.length = h.length ∧ t.1[k]? = some ((s.2.1 : Int), o.2.1, (d : Int)) ∧ wkStep h f d s k = (t.1.set k ((s.2.1 : Int), (t.2.2 : Int), (d : Int)), t.2.1, t.2.2 + 1) := by
  have h1 := wk_set hO ((s.2.1 : Int), o.2.1, (d : Int)) f k (d + 1) (s.1, s.2.1 + 1, s.2.2) (.inr rfl)
  simp only at h1
  refine ⟨_, rfl, ?_, ?_, ?_⟩
  · exact wk_len hO _ hf (.inr ⟨k, rfl, hk, hd⟩) (by simp [hl])
  · rw [wk_keep hO _ hf hk hd (by simp [hl])]
    simp only
    rw [List.getElem?_set_self (by omega)]
  · rw [h1]
    simp only
    unfold wkStep
    rw [List.set_set]
/-- The numbers stay small. -/
theorem wk_small {h : List Int} : ∀ (f : Nat) (p : Int) (d : Nat) (s : LS), s.2.1 ≤ (wk h f p d s).2.1 ∧ s.2.2 ≤ (wk h f p d s).2.2 ∧ (wk h f p d s).2.1 + s.2.2 = (wk h f p d s).2.2 + s.2.1
  | 0, p, d, s => ⟨Nat.le_refl _, Nat.le_refl _, Nat.add_comm _ _⟩
  | f + 1, p, d, s => by
    rw [wk_succ]
    generalize kids h p = ks
    induction ks generalizing s with
    | nil => exact ⟨Nat.le_refl _, Nat.le_refl _, Nat.add_comm _ _⟩
    | cons c ks ih =>
      rw [List.foldl_cons]
      have h1 := ih (wkStep h f d s c)
      have h2 := wk_small (h := h) f c (d + 1) (s.1, s.2.1 + 1, s.2.2)
      have e1 : (wkStep h f d s c).2.1 = (wk h f c (d + 1) (s.1, s.2.1 + 1, s.2.2)).2.1 := rfl
      have e2 : (wkStep h f d s c).2.2 = (wk h f c (d + 1) (s.1, s.2.1 + 1, s.2.2)).2.2 + 1 := rfl
      simp only at h2
      omega
/-! As many numbers as nodes. -/
def dkB (h : List Int) (ks : List Nat) (x : Nat) : Bool := ks.any fun k => decide (k ∈ way h x)
theorem dkB_iff {h : List Int} {ks : List Nat} {x : Nat} : dkB h ks x = true ↔ Dk h ks x := by
  unfold dkB Dk
  rw [List.any_eq_true]
  simp
def cntB (h : List Int) (ks : List Nat) : Nat := (List.range h.length).countP (dkB h ks)
theorem countP_two {α : Type} {p q r : α → Bool} : ∀ l : List α, (∀ x ∈ l, (p x = (q x || r x)) ∧ ¬ (q x = true ∧ r x = true)) → l.countP p = l.countP q + l.countP r
  | [], _ => rfl
  | a :: l, h => by
    have h1 := h a List.mem_cons_self
    have h2 := countP_two l (fun x hx => h x (List.mem_cons_of_mem _ hx))
    rw [List.countP_cons, List.countP_cons, List.countP_cons, h2, h1.1]
    cases hq : q a <;> cases hr : r a
    · simp
    · simp; omega
    · simp; omega
    · exact absurd ⟨hq, hr⟩ h1.2
theorem cntB_cons {h : List Int} (hO : Okh h) {p : Int} {k : Nat} {ks : List Nat} (hk : h[k]? = some p) (hks : ∀ j ∈ ks, h[j]? = some p) (hn : k ∉ ks) : cntB h ks + cntB h (kids h k) + 1 = cntB h (k :: ks) := by
  have hkl := (List.getElem?_eq_some_iff.1 hk).1
  have hno : ∀ x, k ∈ way h x → ¬ Dk h ks x := fun x hx ⟨j, hj, hjx⟩ => hn (kids_apart hO hk (hks j hj) hx hjx ▸ hj)
  have h2 : (List.range h.length).countP (fun x => dkB h ks x || dkB h (kids h k) x) = cntB h ks + cntB h (kids h k) :=
    countP_two _ fun x _ => ⟨rfl, fun ⟨h1, h3⟩ => hno x ((dk_kids hO).1 (dkB_iff.1 h3)).1 (dkB_iff.1 h1)⟩
  rw [← h2]
  refine countP_less (a := k) List.nodup_range (List.mem_range.2 hkl) ?_ ?_ ?_
  · rw [dkB_iff]
    exact ⟨k, List.mem_cons_self, way_self k⟩
  · rw [← Bool.not_eq_true, Bool.or_eq_true, dkB_iff, dkB_iff]
    rintro (e | e)
    · exact hno k (way_self k) e
    · exact ((dk_kids hO).1 e).2 rfl
  · intro x hx
    rw [Bool.eq_iff_iff, Bool.or_eq_true, dkB_iff, dkB_iff, dkB_iff, dk_kids hO]
    constructor
    · rintro ⟨j, hj, hjx⟩
      rcases List.mem_cons.1 hj with rfl | hj
      · exact .inr ⟨hjx, hx⟩
      · exact .inl ⟨j, hj, hjx⟩
    · rintro (⟨j, hj, hjx⟩ | ⟨e, _⟩)
      · exact ⟨j, List.mem_cons_of_mem _ hj, hjx⟩
      · exact ⟨k, List.mem_cons_self, e⟩
theorem wk_cnt {h : List Int} (hO : Okh h) : ∀ (f : Nat) (p : Int) (d : Nat) (s : LS), (wk h f p d s).2.1 ≤ s.2.1 + cntB h (kids h p)
  | 0, p, d, s => Nat.le_add_right _ _
  | f + 1, p, d, s => by
    rw [wk_succ]
    have hks : ∀ k ∈ kids h p, h[k]? = some p := fun k hk => mem_kids.1 hk
    have hnd := kids_nodup h p
    generalize kids h p = ks at hks hnd
    induction ks generalizing s with
    | nil => exact Nat.le_add_right _ _
    | cons c ks ih =>
      rw [List.nodup_cons] at hnd
      rw [List.foldl_cons]
      have h1 := ih (wkStep h f d s c) (fun k hk => hks k (List.mem_cons_of_mem _ hk)) hnd.2
      have h2 := wk_cnt hO f c (d + 1) (s.1, s.2.1 + 1, s.2.2)
      have h3 := cntB_cons hO (hks c List.mem_cons_self) (fun k hk => hks k (List.mem_cons_of_mem _ hk)) hnd.1
      have e1 : (wkStep h f d s c).2.1 = (wk h f c (d + 1) (s.1, s.2.1 + 1, s.2.2)).2.1 := rfl
      simp only at h2
      omega
theorem cntB_le (h : List Int) (ks : List Nat) : cntB h ks ≤ h.length := by
  have := List.countP_le_length (p := dkB h ks) (l := List.range h.length)
  rw [List.length_range] at this
  exact this
theorem fold_small {h : List Int} {f d : Nat} : ∀ (ks : List Nat) (s : LS), s.2.1 ≤ (ks.foldl (wkStep h f d) s).2.1 ∧ s.2.2 ≤ (ks.foldl (wkStep h f d) s).2.2
  | [], s => ⟨Nat.le_refl _, Nat.le_refl _⟩
  | c :: ks, s => by
    rw [List.foldl_cons]
    have h1 := fold_small (h := h) (f := f) (d := d) ks (wkStep h f d s c)
    have h2 := wk_small (h := h) f c (d + 1) (s.1, s.2.1 + 1, s.2.2)
    have e1 : (wkStep h f d s c).2.1 = (wk h f c (d + 1) (s.1, s.2.1 + 1, s.2.2)).2.1 := rfl
    have e2 : (wkStep h f d s c).2.2 = (wk h f c (d + 1) (s.1, s.2.1 + 1, s.2.2)).2.2 + 1 := rfl
    simp only at h2
    omega
/-! COMMON ANCESTORS. -/
def comH (h : List Int) (i j : Nat) : Int := match (way h i).find? (fun x => decide (x ∈ way h j)) with | none => -1 | some x => (x : Int)
theorem comH_some {h : List Int} (hO : Okh h) {i j : Nat} {c : Nat} : comH h i j = (c : Int) ↔ c ∈ way h i ∧ c ∈ way h j ∧ ∀ x, x ∈ way h i → x ∈ way h j → x ∈ way h c := by
  unfold comH
  cases hf : (way h i).find? (fun x => decide (x ∈ way h j)) with
  | none =>
    rw [List.find?_eq_none] at hf
    simp only
    constructor
    · intro e; omega
    · rintro ⟨h1, h2, _⟩
      exact absurd (decide_eq_true h2) (hf c h1)
  | some x =>
    obtain ⟨hx, l, r, hl, hn⟩ := List.find?_eq_some_iff_append.1 hf
    have hx := of_decide_eq_true hx
    have hxm : x ∈ way h i := by rw [hl]; simp
    have hall : ∀ y, y ∈ way h i → y ∈ way h j → y ∈ way h x := fun y h1 h2 => by
      have hk : (way h i)[l.length]? = some x := by
        rw [hl, List.getElem?_append_right (Nat.le_refl _), Nat.sub_self]; rfl
      have hd := way_at hO hk
      rw [hl, List.drop_left] at hd
      rw [← hd]
      rw [hl, List.mem_append] at h1
      rcases h1 with h1 | h1
      · have := hn y h1
        simp [h2] at this
      · exact h1
    simp only
    constructor
    · intro e
      obtain rfl : x = c := by omega
      exact ⟨hxm, hx, hall⟩
    · rintro ⟨h1, h2, h3⟩
      congr 1
      exact way_anti hO (h3 x hxm hx) (hall c h1 h2)
theorem comH_none {h : List Int} {i j : Nat} : comH h i j = -1 ↔ ∀ x, x ∈ way h i → x ∉ way h j := by
  unfold comH
  cases hf : (way h i).find? (fun x => decide (x ∈ way h j)) with
  | none =>
    rw [List.find?_eq_none] at hf
    simp only [true_iff]
    intro x hx hx2
    exact hf x hx (decide_eq_true hx2)
  | some x =>
    obtain ⟨hx, l, r, hl, hn⟩ := List.find?_eq_some_iff_append.1 hf
    have hx := of_decide_eq_true hx
    simp only
    constructor
    · intro e; omega
    · intro e
      exact absurd hx (e x (by rw [hl]; simp))
theorem comH_cases (h : List Int) (i j : Nat) : comH h i j = -1 ∨ ∃ c : Nat, comH h i j = (c : Int) := by
  unfold comH
  cases (way h i).find? (fun x => decide (x ∈ way h j)) with
  | none => exact .inl rfl
  | some x => exact .inr ⟨x, rfl⟩
theorem comH_comm {h : List Int} (hO : Okh h) (i j : Nat) : comH h i j = comH h j i := by
  rcases comH_cases h i j with e | ⟨c, e⟩
  · rw [e]
    symm
    rw [comH_none] at e ⊢
    exact fun x h1 h2 => e x h2 h1
  · rw [e]
    symm
    rw [comH_some hO] at e ⊢
    exact ⟨e.2.1, e.1, fun x h1 h2 => e.2.2 x h2 h1⟩
def commonL (L : List Lb) (i j : Int) : Int := if (parentsL L).2 = 0 ∧ (0 ≤ i ∧ i < L.length) ∧ (0 ≤ j ∧ j < L.length) then comH (parentsL L).1 i.toNat j.toNat else -1
def sistersL (L : List Lb) (i j : Int) : Bool := decide ((parentsL L).2 = 0) && (decide (0 ≤ i ∧ i < L.length) && decide (0 ≤ j ∧ j < L.length)) && decide (i ≠ j) && decide ((parentsL L).1.getD i.toNat 0 = (parentsL L).1.getD j.toNat 0)
theorem find_way {h : List Int} (hO : Okh h) {i j : Nat} : comH h i j = if i ∈ way h j then (i : Int) else match stN h i with | none => -1 | some p => comH h p j := by
  unfold comH
  rw [way_eq hO i, List.find?_cons]
  by_cases hi : i ∈ way h j
  · rw [decide_eq_true hi, if_pos hi]
  · rw [decide_eq_false hi, if_neg hi]
    cases stN h i <;> rfl
end Go.Proofs.Ytjialelklnjcfaa
