/-
  THE PLAIN MATHEMATICS of package corpus: cycles of heads.
-/
import Derived.Test.YtglafkonpbcegaaGreatQaM
namespace Go.Proofs.YtglafkonpbcegaaGreat
open Go.Lib

/-- One step by heads, from one token to another. -/
def stN (h : List Int) (i : Nat) : Option Nat := match h[i]? with
  | none => none
  | some x => if 0 ≤ x ∧ x < h.length then some x.toNat else none
def itN (h : List Int) : Nat → Nat → Option Nat
  | 0, i => some i
  | k + 1, i => (stN h i).bind (itN h k)
theorem stN_lt {h : List Int} {i j : Nat} (e : stN h i = some j) : i < h.length ∧ j < h.length ∧ h[i]? = some (j : Int) := by
  unfold stN at e
  cases hx : h[i]? with
  | none => rw [hx] at e; cases e
  | some x =>
    rw [hx] at e
    simp only at e
    by_cases hr : 0 ≤ x ∧ x < h.length
    · rw [if_pos hr] at e
      injection e with e
      subst e
      refine ⟨(List.getElem?_eq_some_iff.1 hx).1, by omega, ?_⟩
      rw [Int.toNat_of_nonneg hr.1]
    · rw [if_neg hr] at e; cases e
theorem stN_of {h : List Int} {i j : Nat} (e : h[i]? = some (j : Int)) (hj : j < h.length) : stN h i = some j := by
  unfold stN
  rw [e]
  simp only
  rw [if_pos (by omega), Int.toNat_natCast]
theorem stN_none {h : List Int} {i : Nat} {x : Int} (e : h[i]? = some x) (hx : ¬ (0 ≤ x ∧ x < h.length)) : stN h i = none := by
  unfold stN
  rw [e]
  simp only
  rw [if_neg hx]
theorem itN_add (h : List Int) : ∀ (a b i : Nat), itN h (a + b) i = (itN h a i).bind (itN h b)
  | 0, b, i => by rw [Nat.zero_add]; rfl
  | a + 1, b, i => by
    rw [Nat.succ_add]
    show (stN h i).bind (itN h (a + b)) = ((stN h i).bind (itN h a)).bind (itN h b)
    cases stN h i with
    | none => rfl
    | some j => exact itN_add h a b j
theorem itN_one (h : List Int) (i : Nat) : itN h 1 i = stN h i := by
  show (stN h i).bind (itN h 0) = stN h i
  cases stN h i <;> rfl
theorem itN_snoc {h : List Int} {k i t : Nat} (e : itN h k i = some t) : itN h (k + 1) i = stN h t := by
  rw [itN_add, e, ← itN_one]
  rfl
theorem iterH_eq (h : List Int) : ∀ (k i : Nat), iterH h k (i : Int) = (itN h k i).map (fun (n : Nat) => (n : Int))
  | 0, i => rfl
  | k + 1, i => by
    have hs : stepH h (i : Int) = (stN h i).map (fun (n : Nat) => (n : Int)) := by
      unfold stepH stN
      rw [Int.toNat_natCast]
      cases h[i]? with
      | none => rfl
      | some x =>
        simp only
        by_cases hr : 0 ≤ x ∧ x < h.length
        · rw [if_pos hr, if_pos hr]
          simp only [Option.map_some]
          rw [Int.toNat_of_nonneg hr.1]
        · rw [if_neg hr, if_neg hr]; rfl
    show (stepH h (i : Int)).bind (iterH h k) = ((stN h i).bind (itN h k)).map _
    rw [hs]
    cases stN h i with
    | none => rfl
    | some j => exact iterH_eq h k j
def cycP (h : List Int) (i : Nat) : Prop := ∃ k, 0 < k ∧ itN h k i = some i
theorem itN_lt {h : List Int} : ∀ {k i j : Nat}, 0 < k → itN h k i = some j → i < h.length ∧ j < h.length
  | k + 1, i, j, _, e => by
    have e : (stN h i).bind (itN h k) = some j := e
    cases hs : stN h i with
    | none => rw [hs] at e; cases e
    | some t =>
      rw [hs] at e
      obtain ⟨h1, h2, _⟩ := stN_lt hs
      refine ⟨h1, ?_⟩
      by_cases hk : k = 0
      · subst hk
        have e : some t = some j := e
        injection e with e
        omega
      · exact (itN_lt (k := k) (by omega) e).2
theorem nodup_le : ∀ (n : Nat) (l : List Nat), l.Nodup → (∀ x ∈ l, x < n) → l.length ≤ n
  | 0, l, _, h => by
    cases l with
    | nil => exact Nat.le_refl _
    | cons a r => exact absurd (h a (List.mem_cons_self)) (by omega)
  | n + 1, l, hd, h => by
    have h1 := nodup_le n (l.erase n) (hd.erase n) (fun x hx => by
      have h2 := (hd.mem_erase_iff).1 hx
      have := h x h2.2
      have := h2.1
      omega)
    by_cases hn : n ∈ l
    · rw [List.length_erase_of_mem hn] at h1; omega
    · rw [List.erase_of_not_mem hn] at h1; omega
/-- A way that returns, returns within as many steps as there are tokens. -/
theorem cyc_small {h : List Int} {i : Nat} (hc : cycP h i) : ∃ k, 0 < k ∧ k ≤ h.length ∧ itN h k i = some i := by
  have key : ∀ m k, k ≤ m → 0 < k → itN h k i = some i → ∃ k, 0 < k ∧ k ≤ h.length ∧ itN h k i = some i := by
    intro m
    induction m with
    | zero => intro k h1 h2; omega
    | succ m ih =>
      intro k hk h0 he
      by_cases hsm : ∃ j, 0 < j ∧ j < k ∧ itN h j i = some i
      · obtain ⟨j, h1, h2, h3⟩ := hsm
        exact ih j (by omega) h1 h3
      · refine ⟨k, h0, ?_, he⟩
        -- the first k places are apart
        have hall : ∀ j, j < k → ∃ t, itN h j i = some t := fun j hj => by
          have e := itN_add h j (k - j) i
          rw [show j + (k - j) = k by omega, he] at e
          cases ht : itN h j i with
          | none => rw [ht] at e; cases e
          | some t => exact ⟨t, rfl⟩
        let f := fun j => (itN h j i).getD 0
        have hf : ∀ j, j < k → itN h j i = some (f j) := fun j hj => by
          obtain ⟨t, ht⟩ := hall j hj
          show itN h j i = some ((itN h j i).getD 0)
          rw [ht]; rfl
        have hinj : ∀ a b, a < b → b < k → f a ≠ f b := fun a b hab hb e => by
          refine hsm ⟨k - b + a, by omega, by omega, ?_⟩
          have e1 := itN_add h b (k - b) i
          rw [show b + (k - b) = k by omega, he, hf b hb] at e1
          rw [show k - b + a = a + (k - b) by omega, itN_add, hf a (by omega), e]
          exact e1.symm
        have hnd : ((List.range k).map f).Nodup := by
          refine List.pairwise_iff_getElem.2 fun a b ha hb hab => ?_
          simp at ha hb
          simpa using hinj a b hab hb
        have hlt : ∀ x ∈ (List.range k).map f, x < h.length := fun x hx => by
          obtain ⟨j, hj, rfl⟩ := List.mem_map.1 hx
          have hj := List.mem_range.1 hj
          by_cases hj0 : j = 0
          · subst hj0
            have e1 := hf 0 h0
            have e1 : some i = some (f 0) := e1
            injection e1 with e1
            have := (itN_lt h0 he).1
            omega
          · exact (itN_lt (by omega) (hf j hj)).2
        have := nodup_le h.length _ hnd hlt
        simpa using this
  obtain ⟨k, h0, he⟩ := hc
  exact key k k (Nat.le_refl _) h0 he
theorem cyc_iff (h : List Int) (i : Nat) : cyc h (i : Int) = true ↔ cycP h i := by
  unfold cyc
  rw [List.any_eq_true]
  constructor
  · rintro ⟨k, _, hk⟩
    have hk := of_decide_eq_true hk
    rw [iterH_eq] at hk
    refine ⟨k + 1, by omega, ?_⟩
    cases hx : itN h (k + 1) i with
    | none => rw [hx] at hk; cases hk
    | some t =>
      rw [hx] at hk
      simp at hk
      rw [show t = i by omega]
  · intro hc
    obtain ⟨k, h1, h2, h3⟩ := cyc_small hc
    refine ⟨k - 1, List.mem_range.2 (by omega), decide_eq_true ?_⟩
    rw [show k - 1 + 1 = k by omega, iterH_eq, h3]
    rfl
/-- From a place of a cycle the way goes on for ever, and comes back from everywhere. -/
theorem cyc_back {h : List Int} {i k : Nat} (h0 : 0 < k) (he : itN h k i = some i) : ∀ m, itN h (k * m) i = some i
  | 0 => rfl
  | m + 1 => by rw [Nat.mul_succ, itN_add, cyc_back h0 he m]; exact he
theorem cyc_total {h : List Int} {i : Nat} (hc : cycP h i) (m : Nat) : ∃ t, itN h m i = some t ∧ ∃ q, itN h q t = some i := by
  obtain ⟨k, h0, he⟩ := hc
  have hb := cyc_back h0 he m
  have hm : m ≤ k * m := Nat.le_mul_of_pos_left m h0
  have e := itN_add h m (k * m - m) i
  rw [show m + (k * m - m) = k * m by omega, hb] at e
  cases ht : itN h m i with
  | none => rw [ht] at e; cases e
  | some t => rw [ht] at e; exact ⟨t, rfl, _, e.symm⟩
theorem cyc_on {h : List Int} {i m t : Nat} (hc : cycP h i) (ht : itN h m i = some t) : cycP h t := by
  obtain ⟨k, h0, he⟩ := hc
  refine ⟨k, h0, ?_⟩
  have e1 := itN_add h m k i
  have e2 := itN_add h k m i
  rw [he] at e2
  rw [show k + m = m + k by omega] at e2
  rw [ht] at e1
  exact e1.symm.trans (e2.trans ht)

/-- Between two walks: those with a number below have been come to; what is told of them is right. -/
structure CInv (h : List Int) (s : Nat) (ws : List Nat) (cy : List Bool) : Prop where
  wl : ws.length = h.length
  cl : cy.length = h.length
  le : ∀ i, ws.getD i 0 ≤ s
  done : ∀ i, i < s → i < h.length → ws.getD i 0 ≠ 0
  closed : ∀ i j, ws.getD i 0 ≠ 0 → stN h i = some j → ws.getD j 0 ≠ 0
  told : ∀ i, i < h.length → ws.getD i 0 ≠ 0 → (cy.getD i false = true ↔ cycP h i)
  wait : ∀ i, ws.getD i 0 = 0 → cy.getD i false = false
/-- In the walk from s: p tokens have been come to; a is where the way goes on. -/
structure WInv (h : List Int) (s : Nat) (ws ws' : List Nat) (p : Nat) (a : Int) : Prop where
  len : ws'.length = h.length
  at_ : (p = 0 ∧ a = (s : Int)) ∨ (0 < p ∧ ∃ t, itN h (p - 1) s = some t ∧ h[t]? = some a)
  vis : ∀ j, j < p → ∃ t, itN h j s = some t ∧ t < h.length ∧ ws'.getD t 0 = s + 1 ∧ ws.getD t 0 = 0
  new : ∀ i, ws'.getD i 0 = s + 1 → ∃ j, j < p ∧ itN h j s = some i
  old : ∀ i, ws'.getD i 0 ≠ s + 1 → ws'.getD i 0 = ws.getD i 0
theorem WInv.here {h : List Int} {s p i : Nat} {ws ws' : List Nat} (hI : WInv h s ws ws' p (i : Int)) (hi : i < h.length) : itN h p s = some i := by
  rcases hI.at_ with ⟨rfl, e⟩ | ⟨h0, t, ht, e⟩
  · have : i = s := by omega
    rw [this]; rfl
  · obtain ⟨q, rfl⟩ : ∃ q, p = q + 1 := ⟨p - 1, by omega⟩
    rw [Nat.add_sub_cancel] at ht
    rw [itN_snoc ht]
    exact stN_of e hi
theorem WInv.out {h : List Int} {s p : Nat} {a : Int} {ws ws' : List Nat} (hI : WInv h s ws ws' p a) (hs : s < h.length) (ha : ¬ (0 ≤ a ∧ a < h.length)) : 0 < p ∧ itN h p s = none := by
  rcases hI.at_ with ⟨rfl, e⟩ | ⟨h0, t, ht, e⟩
  · exact absurd ⟨by omega, by omega⟩ ha
  · refine ⟨h0, ?_⟩
    obtain ⟨q, rfl⟩ : ∃ q, p = q + 1 := ⟨p - 1, by omega⟩
    rw [Nat.add_sub_cancel] at ht
    rw [itN_snoc ht]
    exact stN_none e ha
theorem getD_set {α : Type} (l : List α) (i : Nat) (x d : α) (hi : i < l.length) (j : Nat) : (l.set i x).getD j d = if j = i then x else l.getD j d := by
  rw [List.getD_eq_getElem?_getD, List.getD_eq_getElem?_getD, List.getElem?_set]
  by_cases e : i = j
  · subst e; simp [hi]
  · rw [if_neg e, if_neg (fun h => e h.symm)]
theorem WInv.start {h : List Int} {s : Nat} {ws : List Nat} (hl : ws.length = h.length) (hle : ∀ i, ws.getD i 0 ≤ s) : WInv h s ws ws 0 (s : Int) :=
  ⟨hl, .inl ⟨rfl, rfl⟩, fun j hj => absurd hj (by omega), fun i hi => by have := hle i; omega, fun i _ => rfl⟩
theorem WInv.step {h : List Int} {s p i : Nat} {a : Int} {ws ws' : List Nat} (hI : WInv h s ws ws' p (i : Int)) (hi : i < h.length) (h0 : ws'.getD i 0 = 0) (ha : h[i]? = some a) : WInv h s ws (ws'.set i (s + 1)) (p + 1) a := by
  have hh := hI.here hi
  have hi' : i < ws'.length := by rw [hI.len]; exact hi
  refine ⟨by rw [List.length_set]; exact hI.len, .inr ⟨by omega, i, by rw [Nat.add_sub_cancel]; exact hh, ha⟩, fun j hj => ?_, fun k hk => ?_, fun k hk => ?_⟩
  · by_cases e : j = p
    · subst e
      refine ⟨i, hh, hi, by rw [getD_set _ _ _ _ hi', if_pos rfl], ?_⟩
      rw [← hI.old i (by omega)]
      exact h0
    · obtain ⟨t, h1, h2, h3, h4⟩ := hI.vis j (by omega)
      refine ⟨t, h1, h2, ?_, h4⟩
      rw [getD_set _ _ _ _ hi']
      split
      · rfl
      · exact h3
  · rw [getD_set _ _ _ _ hi'] at hk
    by_cases e : k = i
    · subst e
      exact ⟨p, by omega, hh⟩
    · rw [if_neg e] at hk
      obtain ⟨j, h1, h2⟩ := hI.new k hk
      exact ⟨j, by omega, h2⟩
  · rw [getD_set _ _ _ _ hi'] at hk ⊢
    by_cases e : k = i
    · rw [if_pos e] at hk; exact absurd rfl hk
    · rw [if_neg e] at hk ⊢
      exact hI.old k hk
/-- The walk has come out, or to one of an elder walk: none of its tokens is on a cycle. -/
theorem CInv.over {h : List Int} {s p : Nat} {a : Int} {ws ws' : List Nat} {cy : List Bool} (hC : CInv h s ws cy) (hI : WInv h s ws ws' p a) (hs : s < h.length)
    (ha : ¬ (0 ≤ a ∧ a < h.length) ∨ ∃ i : Nat, a = (i : Int) ∧ i < h.length ∧ ws'.getD i 0 ≠ 0 ∧ ws'.getD i 0 ≠ s + 1) : CInv h (s + 1) ws' cy := by
  -- what an elder walk has come to, it goes on to
  have hgo : ∀ m x y, ws.getD x 0 ≠ 0 → itN h m x = some y → ws.getD y 0 ≠ 0 := by
    intro m
    induction m with
    | zero => intro x y hx e; have e : some x = some y := e; injection e with e; rw [← e]; exact hx
    | succ m ih =>
      intro x y hx e
      have e : (stN h x).bind (itN h m) = some y := e
      cases ht : stN h x with
      | none => rw [ht] at e; cases e
      | some t => rw [ht] at e; exact ih t y (hC.closed x t hx ht) e
  have hnot : ∀ j t, j < p → itN h j s = some t → ws.getD t 0 = 0 → ¬ cycP h t := by
    intro j t hj ht hw hc
    obtain ⟨y, hy, q, hq⟩ := cyc_total hc (p - j)
    have e := itN_add h j (p - j) s
    rw [show j + (p - j) = p by omega, ht] at e
    have e : itN h p s = itN h (p - j) t := e
    rw [hy] at e
    rcases ha with ha | ⟨i, rfl, hi, hi0, hi1⟩
    · rw [(hI.out hs ha).2] at e; cases e
    · rw [hI.here hi] at e
      injection e with e
      subst e
      rw [hI.old i hi1] at hi0
      exact hgo q i t hi0 hq hw
  have hcase : ∀ i, ws'.getD i 0 ≠ 0 → (ws.getD i 0 ≠ 0 ∧ ws'.getD i 0 ≠ s + 1) ∨ ∃ j, j < p ∧ itN h j s = some i ∧ ws.getD i 0 = 0 := fun i hi => by
    by_cases e : ws'.getD i 0 = s + 1
    · obtain ⟨j, h1, h2⟩ := hI.new i e
      obtain ⟨t, h3, _, _, h4⟩ := hI.vis j h1
      rw [h2] at h3
      injection h3 with h3
      subst h3
      exact .inr ⟨j, h1, h2, h4⟩
    · exact .inl ⟨by rw [← hI.old i e]; exact hi, e⟩
  have hkeep : ∀ i, ws.getD i 0 ≠ 0 → ws'.getD i 0 ≠ 0 := fun i hi => by
    by_cases e : ws'.getD i 0 = s + 1
    · omega
    · rw [hI.old i e]; exact hi
  refine ⟨hI.len, hC.cl, fun i => ?_, fun i h1 h2 => ?_, fun i j hi hst => ?_, fun i hil hi => ?_, fun i hi => ?_⟩
  · by_cases e : ws'.getD i 0 = s + 1
    · omega
    · rw [hI.old i e]; have := hC.le i; omega
  · by_cases e : i = s
    · subst e
      by_cases hp : p = 0
      · rcases hI.at_ with ⟨_, e⟩ | ⟨h0, _⟩
        · rcases ha with ha | ⟨k, hk, hkl, hk0, _⟩
          · exact absurd ⟨by omega, by omega⟩ ha
          · have : k = i := by omega
            rw [← this]; exact hk0
        · omega
      · obtain ⟨t, h3, _, h4, _⟩ := hI.vis 0 (by omega)
        have h3 : some i = some t := h3
        injection h3 with h3
        rw [h3, h4]; omega
    · exact hkeep i (hC.done i (by omega) h2)
  · rcases hcase i hi with ⟨h1, _⟩ | ⟨k, hk, hit, _⟩
    · exact hkeep j (hC.closed i j h1 hst)
    · have hn := itN_snoc hit
      rw [hst] at hn
      by_cases e : k + 1 = p
      · rcases ha with ha | ⟨t, rfl, htl, ht0, _⟩
        · rw [e, (hI.out hs ha).2] at hn; cases hn
        · rw [e, hI.here htl] at hn
          injection hn with hn
          rw [← hn]; exact ht0
      · obtain ⟨t, h3, _, h4, _⟩ := hI.vis (k + 1) (by omega)
        rw [hn] at h3
        injection h3 with h3
        rw [h3, h4]; omega
  · rcases hcase i hi with ⟨h1, _⟩ | ⟨k, hk, hit, h0⟩
    · exact hC.told i hil h1
    · have := hnot k i hk hit h0
      rw [hC.wait i h0]
      exact Iff.intro (fun e => nomatch e) (fun e => absurd e this)
  · refine hC.wait i ?_
    by_cases e : ws'.getD i 0 = s + 1
    · omega
    · rw [← hI.old i e]; exact hi
/-- In the round of marking: q tokens of the cycle through a0 are marked. -/
structure MInv (h : List Int) (cy cy' : List Bool) (a0 q a : Nat) : Prop where
  len : cy'.length = h.length
  here : itN h q a0 = some a
  marked : ∀ i, cy'.getD i false = true ↔ (cy.getD i false = true ∨ ∃ j, j < q ∧ itN h j a0 = some i)
theorem MInv.start {h : List Int} {cy : List Bool} (hl : cy.length = h.length) (a0 : Nat) : MInv h cy cy a0 0 a0 := by
  refine ⟨hl, rfl, fun i => ⟨fun e => .inl e, fun e => ?_⟩⟩
  rcases e with e | ⟨j, hj, _⟩
  · exact e
  · omega
theorem MInv.step {h : List Int} {cy cy' : List Bool} {a0 q a b : Nat} (hM : MInv h cy cy' a0 q a) (ha : a < h.length) (hb : stN h a = some b) : MInv h cy (cy'.set a true) a0 (q + 1) b := by
  have ha' : a < cy'.length := by rw [hM.len]; exact ha
  refine ⟨by rw [List.length_set]; exact hM.len, by rw [itN_snoc hM.here]; exact hb, fun i => ?_⟩
  rw [getD_set _ _ _ _ ha']
  by_cases e : i = a
  · rw [if_pos e]
    exact ⟨fun _ => .inr ⟨q, by omega, by rw [e]; exact hM.here⟩, fun _ => rfl⟩
  · rw [if_neg e, hM.marked i]
    constructor
    · rintro (h1 | ⟨j, h1, h2⟩)
      · exact .inl h1
      · exact .inr ⟨j, by omega, h2⟩
    · rintro (h1 | ⟨j, h1, h2⟩)
      · exact .inl h1
      · by_cases ej : j = q
        · subst ej
          rw [hM.here] at h2
          injection h2 with h2
          exact absurd h2.symm e
        · exact .inr ⟨j, by omega, h2⟩
/-- The walk has come back to one of its own tokens: the cycle through it is marked. -/
theorem CInv.round {h : List Int} {s p a0 q a : Nat} {ws ws' : List Nat} {cy cy' : List Bool} (hC : CInv h s ws cy) (hI : WInv h s ws ws' p (a0 : Int)) (hs : s < h.length) (ha0 : a0 < h.length) (hw : ws'.getD a0 0 = s + 1)
    (hM : MInv h cy cy' a0 q a) (ht : cy'.getD a false = true) : CInv h (s + 1) ws' cy' := by
  obtain ⟨j0, hj0, hit0⟩ := hI.new a0 hw
  have hp := hI.here ha0
  have hcyc : cycP h a0 := ⟨p - j0, by omega, by
    have e := itN_add h j0 (p - j0) s
    rw [show j0 + (p - j0) = p by omega, hp, hit0] at e
    exact e.symm⟩
  -- all that the way from a0 comes to, the walk has come to
  have horb : ∀ m y, itN h m a0 = some y → ∃ j, j < p ∧ itN h j s = some y := by
    intro m
    induction m with
    | zero => intro y e; have e : some a0 = some y := e; injection e with e; rw [← e]; exact ⟨j0, hj0, hit0⟩
    | succ m ih =>
      intro y e
      obtain ⟨t, ht', _⟩ := cyc_total hcyc m
      obtain ⟨j, hj, hjt⟩ := ih t ht'
      rw [itN_snoc ht'] at e
      by_cases ej : j + 1 = p
      · have := itN_snoc hjt
        rw [ej, hp] at this
        rw [← this] at e
        injection e with e
        rw [← e]; exact ⟨j0, hj0, hit0⟩
      · exact ⟨j + 1, by omega, by rw [itN_snoc hjt]; exact e⟩
  have hzero : ∀ m y, itN h m a0 = some y → ws.getD y 0 = 0 ∧ ws'.getD y 0 = s + 1 := fun m y e => by
    obtain ⟨j, hj, hjy⟩ := horb m y e
    obtain ⟨t, h1, _, h3, h4⟩ := hI.vis j hj
    rw [hjy] at h1
    injection h1 with h1
    subst h1
    exact ⟨h4, h3⟩
  -- the marked ones are all of the cycle
  have hq : ∃ j, j < q ∧ itN h j a0 = some a := by
    rcases (hM.marked a).1 ht with h1 | h1
    · have := hC.wait a (hzero q a hM.here).1
      rw [this] at h1; cases h1
    · exact h1
  obtain ⟨j1, hj1, hja⟩ := hq
  have hall : ∀ m y, itN h m a0 = some y → ∃ j, j < q ∧ itN h j a0 = some y := by
    intro m
    induction m with
    | zero => intro y e; exact ⟨0, by omega, e⟩
    | succ m ih =>
      intro y e
      obtain ⟨t, ht', _⟩ := cyc_total hcyc m
      obtain ⟨j, hj, hjt⟩ := ih t ht'
      rw [itN_snoc ht'] at e
      by_cases ej : j + 1 = q
      · have h1 := itN_snoc hjt
        rw [ej, hM.here, e] at h1
        injection h1 with h1
        exact ⟨j1, hj1, by rw [hja, h1]⟩
      · exact ⟨j + 1, by omega, by rw [itN_snoc hjt]; exact e⟩
  have hcase : ∀ i, ws'.getD i 0 ≠ 0 → ws.getD i 0 ≠ 0 ∨ ∃ j, j < p ∧ itN h j s = some i ∧ ws.getD i 0 = 0 := fun i hi => by
    by_cases e : ws'.getD i 0 = s + 1
    · obtain ⟨j, h1, h2⟩ := hI.new i e
      obtain ⟨t, h3, _, _, h4⟩ := hI.vis j h1
      rw [h2] at h3
      injection h3 with h3
      subst h3
      exact .inr ⟨j, h1, h2, h4⟩
    · exact .inl (by rw [← hI.old i e]; exact hi)
  have hkeep : ∀ i, ws.getD i 0 ≠ 0 → ws'.getD i 0 ≠ 0 := fun i hi => by
    by_cases e : ws'.getD i 0 = s + 1
    · omega
    · rw [hI.old i e]; exact hi
  refine ⟨hI.len, hM.len, fun i => ?_, fun i h1 h2 => ?_, fun i j hi hst => ?_, fun i hil hi => ?_, fun i hi => ?_⟩
  · by_cases e : ws'.getD i 0 = s + 1
    · omega
    · rw [hI.old i e]; have := hC.le i; omega
  · by_cases e : i = s
    · subst e
      obtain ⟨t, h3, _, h4, _⟩ := hI.vis 0 (by omega)
      have h3 : some i = some t := h3
      injection h3 with h3
      rw [h3, h4]; omega
    · exact hkeep i (hC.done i (by omega) h2)
  · rcases hcase i hi with h1 | ⟨k, hk, hit, _⟩
    · exact hkeep j (hC.closed i j h1 hst)
    · have hn := itN_snoc hit
      rw [hst] at hn
      by_cases e : k + 1 = p
      · rw [e, hp] at hn
        injection hn with hn
        rw [← hn, hw]; omega
      · obtain ⟨t, h3, _, h4, _⟩ := hI.vis (k + 1) (by omega)
        rw [hn] at h3
        injection h3 with h3
        rw [h3, h4]; omega
  · rcases hcase i hi with h1 | ⟨k, hk, hit, h0⟩
    · rw [hM.marked i, ← hC.told i hil h1]
      refine ⟨fun e => ?_, fun e => .inl e⟩
      rcases e with e | ⟨j, _, hj⟩
      · exact e
      · exact absurd (hzero j i hj).1 h1
    · rw [hM.marked i]
      constructor
      · rintro (e | ⟨j, _, hj⟩)
        · rw [hC.wait i h0] at e; cases e
        · exact cyc_on hcyc hj
      · intro hc
        obtain ⟨t, ht1, q2, hq2⟩ := cyc_total hc (p - k)
        have e := itN_add h k (p - k) s
        rw [show k + (p - k) = p by omega, hp, hit] at e
        have e : some a0 = itN h (p - k) i := e
        rw [← e] at ht1
        injection ht1 with ht1
        rw [← ht1] at hq2
        exact .inr (hall q2 i hq2)
  · have h0 : ws.getD i 0 = 0 := by
      by_cases e : ws'.getD i 0 = s + 1
      · omega
      · rw [← hI.old i e]; exact hi
    rw [← Bool.not_eq_true, hM.marked i]
    rintro (e | ⟨j, _, hj⟩)
    · rw [hC.wait i h0] at e; cases e
    · have := (hzero j i hj).2; omega
theorem CInv.start (h : List Int) : CInv h 0 (List.replicate h.length 0) (List.replicate h.length false) := by
  have hz : ∀ i, (List.replicate h.length 0).getD i 0 = 0 := fun i => by
    rw [List.getD_eq_getElem?_getD, List.getElem?_replicate]; split <;> rfl
  have hf : ∀ i, (List.replicate h.length false).getD i false = false := fun i => by
    rw [List.getD_eq_getElem?_getD, List.getElem?_replicate]; split <;> rfl
  exact ⟨by simp, by simp, fun i => by rw [hz]; exact Nat.le_refl _, fun i h1 => by omega, fun i j h1 => absurd (hz i) h1, fun i _ h1 => absurd (hz i) h1, fun i _ => hf i⟩
/-- Behind the last walk all is told. -/
theorem CInv.fin {h : List Int} {ws : List Nat} {cy : List Bool} (hC : CInv h h.length ws cy) : cy = (List.range h.length).map fun (i : Nat) => cyc h (i : Int) := by
  refine List.ext_getElem (by simp [hC.cl]) fun i h1 h2 => ?_
  have hi : i < h.length := by rw [← hC.cl]; exact h1
  have := hC.told i hi (hC.done i hi hi)
  rw [List.getD_eq_getElem?_getD, List.getElem?_eq_getElem h1] at this
  simp only [Option.getD_some] at this
  rw [List.getElem_map, List.getElem_range, Bool.eq_iff_iff, this, cyc_iff]
/-- How many are left. -/
theorem count_set {α : Type} (p : α → Bool) (x : α) (hx : p x = false) : ∀ (l : List α) (i : Nat) (y : α), l[i]? = some y → p y = true → (l.set i x).countP p + 1 = l.countP p
  | [], i, y, h, _ => by simp at h
  | a :: l, 0, y, h, hy => by
    simp at h
    subst h
    simp [List.set, hx, hy]
  | a :: l, i + 1, y, h, hy => by
    have ih := count_set p x hx l i y (by simpa using h) hy
    simp only [List.set, List.countP_cons]
    omega
end Go.Proofs.YtglafkonpbcegaaGreat
