/-
  THE PLAIN MATHEMATICS of package corpus: cycles of heads.
  WALKS over package corpus: cycles.
  WALKS over package corpus: the validator: heads and relations.
  WALKS over package corpus: the validator: one head.
-/
import Derived.Test.YtmjmidgfdjcbfaaGreatDoorQaM
import Derived.Test.YtmjmidgfdjcbfaaGreatDoorQcZ
import Derived.Test.YtmjmidgfdjcbfaaGreatDoorQkP
import Derived.Deep.RegionHeld3
import Derived.Deep.DrawnRows
namespace Go.Proofs.YtmjmidgfdjcbfaaGreatDoor
open Go.Lib

/-- One step by heads, from one token to another. -/
def stN (h : List Int) (i : Nat) : Option Nat := match h[i]? with
  | none => none
  | some x => if 0 ≤ x ∧ x < h.length then some x.toNat else none
def itN (h : List Int) : Nat → Nat → Option Nat
  | 0, i => some i
  | k + 1, i => (stN h i).bind (itN h k)
theorem stN_lt {h : List Int} {i j : Nat} (e : stN h i = some j) : i < h.length ∧ j < h.length ∧ h[i]? = some (j : Int) := by
  unfold stN at e
  cases hx : h[i]? with
  | none => rw [hx] at e; cases e
  | some x =>
    rw [hx] at e
    simp only at e
    by_cases hr : 0 ≤ x ∧ x < h.length
    · rw [if_pos hr] at e
      injection e with e
      subst e
      refine ⟨(List.getElem?_eq_some_iff.1 hx).1, by omega, ?_⟩
      rw [Int.toNat_of_nonneg hr.1]
    · rw [if_neg hr] at e; cases e
theorem stN_of {h : List Int} {i j : Nat} (e : h[i]? = some (j : Int)) (hj : j < h.length) : stN h i = some j := by
  unfold stN
  rw [e]
  simp only
  rw [if_pos (by omega), Int.toNat_natCast]
theorem stN_none {h : List Int} {i : Nat} {x : Int} (e : h[i]? = some x) (hx : ¬ (0 ≤ x ∧ x < h.length)) : stN h i = none := by
  unfold stN
  rw [e]
  simp only
  rw [if_neg hx]
theorem itN_add (h : List Int) : ∀ (a b i : Nat), itN h (a + b) i = (itN h a i).bind (itN h b)
  | 0, b, i => by rw [Nat.zero_add]; rfl
  | a + 1, b, i => by
    rw [Nat.succ_add]
    show (stN h i).bind (itN h (a + b)) = ((stN h i).bind (itN h a)).bind (itN h b)
    cases stN h i with
    | none => rfl
    | some j => exact itN_add h a b j
theorem itN_one (h : List Int) (i : Nat) : itN h 1 i = stN h i := by
  show (stN h i).bind (itN h 0) = stN h i
  cases stN h i <;> rfl
theorem itN_snoc {h : List Int} {k i t : Nat} (e : itN h k i = some t) : itN h (k + 1) i = stN h t := by
  rw [itN_add, e, ← itN_one]
  rfl
theorem iterH_eq (h : List Int) : ∀ (k i : Nat), iterH h k (i : Int) = (itN h k i).map (fun (n : Nat) => (n : Int))
  | 0, i => rfl
  | k + 1, i => by
    have hs : stepH h (i : Int) = (stN h i).map (fun (n : Nat) => (n : Int)) := by
      unfold stepH stN
      rw [Int.toNat_natCast]
      cases h[i]? with
      | none => rfl
      | some x =>
        simp only
        by_cases hr : 0 ≤ x ∧ x < h.length
        · rw [if_pos hr, if_pos hr]
          simp only [Option.map_some]
          rw [Int.toNat_of_nonneg hr.1]
        · rw [if_neg hr, if_neg hr]; rfl
    show (stepH h (i : Int)).bind (iterH h k) = ((stN h i).bind (itN h k)).map _
    rw [hs]
    cases stN h i with
    | none => rfl
    | some j => exact iterH_eq h k j
def cycP (h : List Int) (i : Nat) : Prop := ∃ k, 0 < k ∧ itN h k i = some i
theorem itN_lt {h : List Int} : ∀ {k i j : Nat}, 0 < k → itN h k i = some j → i < h.length ∧ j < h.length
  | k + 1, i, j, _, e => by
    have e : (stN h i).bind (itN h k) = some j := e
    cases hs : stN h i with
    | none => rw [hs] at e; cases e
    | some t =>
      rw [hs] at e
      obtain ⟨h1, h2, _⟩ := stN_lt hs
      refine ⟨h1, ?_⟩
      by_cases hk : k = 0
      · subst hk
        have e : some t = some j := e
        injection e with e
        omega
      · exact (itN_lt (k := k) (by omega) e).2
theorem nodup_le : ∀ (n : Nat) (l : List Nat), l.Nodup → (∀ x ∈ l, x < n) → l.length ≤ n
  | 0, l, _, h => by
    cases l with
    | nil => exact Nat.le_refl _
    | cons a r => exact absurd (h a (List.mem_cons_self)) (by omega)
  | n + 1, l, hd, h => by
    have h1 := nodup_le n (l.erase n) (hd.erase n) (fun x hx => by
      have h2 := (hd.mem_erase_iff).1 hx
      have := h x h2.2
      have := h2.1
      omega)
    by_cases hn : n ∈ l
    · rw [List.length_erase_of_mem hn] at h1; omega
    · rw [List.erase_of_not_mem hn] at h1; omega
/-- A way that returns, returns within as many steps as there are tokens. -/
theorem cyc_small {h : List Int} {i : Nat} (hc : cycP h i) : ∃ k, 0 < k ∧ k ≤ h.length ∧ itN h k i = some i := by
  have key : ∀ m k, k ≤ m → 0 < k → itN h k i = some i → ∃ k, 0 < k ∧ k ≤ h.length ∧ itN h k i = some i := by
    intro m
    induction m with
    | zero => intro k h1 h2; omega
    | succ m ih =>
      intro k hk h0 he
      by_cases hsm : ∃ j, 0 < j ∧ j < k ∧ itN h j i = some i
      · obtain ⟨j, h1, h2, h3⟩ := hsm
        exact ih j (by omega) h1 h3
      · refine ⟨k, h0, ?_, he⟩
        -- the first k places are apart
        have hall : ∀ j, j < k → ∃ t, itN h j i = some t := fun j hj => by
          have e := itN_add h j (k - j) i
          rw [show j + (k - j) = k by omega, he] at e
          cases ht : itN h j i with
          | none => rw [ht] at e; cases e
          | some t => exact ⟨t, rfl⟩
        let f := fun j => (itN h j i).getD 0
        have hf : ∀ j, j < k → itN h j i = some (f j) := fun j hj => by
          obtain ⟨t, ht⟩ := hall j hj
          show itN h j i = some ((itN h j i).getD 0)
          rw [ht]; rfl
        have hinj : ∀ a b, a < b → b < k → f a ≠ f b := fun a b hab hb e => by
          refine hsm ⟨k - b + a, by omega, by omega, ?_⟩
          have e1 := itN_add h b (k - b) i
          rw [show b + (k - b) = k by omega, he, hf b hb] at e1
          rw [show k - b + a = a + (k - b) by omega, itN_add, hf a (by omega), e]
          exact e1.symm
        have hnd : ((List.range k).map f).Nodup := by
          refine List.pairwise_iff_getElem.2 fun a b ha hb hab => ?_
          simp at ha hb
          simpa using hinj a b hab hb
        have hlt : ∀ x ∈ (List.range k).map f, x < h.length := fun x hx => by
          obtain ⟨j, hj, rfl⟩ := List.mem_map.1 hx
          have hj := List.mem_range.1 hj
          by_cases hj0 : j = 0
          · subst hj0
            have e1 := hf 0 h0
            have e1 : some i = some (f 0) := e1
            injection e1 with e1
            have := (itN_lt h0 he).1
            omega
          · exact (itN_lt (by omega) (hf j hj)).2
        have := nodup_le h.length _ hnd hlt
        simpa using this
  obtain ⟨k, h0, he⟩ := hc
  exact key k k (Nat.le_refl _) h0 he
theorem cyc_iff (h : List Int) (i : Nat) : cyc h (i : Int) = true ↔ cycP h i := by
  unfold cyc
  rw [List.any_eq_true]
  constructor
  · rintro ⟨k, _, hk⟩
    have hk := of_decide_eq_true hk
    rw [iterH_eq] at hk
    refine ⟨k + 1, by omega, ?_⟩
    cases hx : itN h (k + 1) i with
    | none => rw [hx] at hk; cases hk
    | some t =>
      rw [hx] at hk
      simp at hk
      rw [show t = i by omega]
  · intro hc
    obtain ⟨k, h1, h2, h3⟩ := cyc_small hc
    refine ⟨k - 1, List.mem_range.2 (by omega), decide_eq_true ?_⟩
    rw [show k - 1 + 1 = k by omega, iterH_eq, h3]
    rfl
/-- From a place of a cycle the way goes on for ever, and comes back from everywhere. -/
theorem cyc_back {h : List Int} {i k : Nat} (h0 : 0 < k) (he : itN h k i = some i) : ∀ m, itN h (k * m) i = some i
  | 0 => rfl
  | m + 1 => by rw [Nat.mul_succ, itN_add, cyc_back h0 he m]; exact he
theorem cyc_total {h : List Int} {i : Nat} (hc : cycP h i) (m : Nat) : ∃ t, itN h m i = some t ∧ ∃ q, itN h q t = some i := by
  obtain ⟨k, h0, he⟩ := hc
  have hb := cyc_back h0 he m
  have hm : m ≤ k * m := Nat.le_mul_of_pos_left m h0
  have e := itN_add h m (k * m - m) i
  rw [show m + (k * m - m) = k * m by omega, hb] at e
  cases ht : itN h m i with
  | none => rw [ht] at e; cases e
  | some t => rw [ht] at e; exact ⟨t, rfl, _, e.symm⟩
theorem cyc_on {h : List Int} {i m t : Nat} (hc : cycP h i) (ht : itN h m i = some t) : cycP h t := by
  obtain ⟨k, h0, he⟩ := hc
  refine ⟨k, h0, ?_⟩
  have e1 := itN_add h m k i
  have e2 := itN_add h k m i
  rw [he] at e2
  rw [show k + m = m + k by omega] at e2
  rw [ht] at e1
  exact e1.symm.trans (e2.trans ht)

/-- Between two walks: those with a number below have been come to; what is told of them is right. -/
structure CInv (h : List Int) (s : Nat) (ws : List Nat) (cy : List Bool) : Prop where
  wl : ws.length = h.length
  cl : cy.length = h.length
  le : ∀ i, ws.getD i 0 ≤ s
  done : ∀ i, i < s → i < h.length → ws.getD i 0 ≠ 0
  closed : ∀ i j, ws.getD i 0 ≠ 0 → stN h i = some j → ws.getD j 0 ≠ 0
  told : ∀ i, i < h.length → ws.getD i 0 ≠ 0 → (cy.getD i false = true ↔ cycP h i)
  wait : ∀ i, ws.getD i 0 = 0 → cy.getD i false = false
/-- In the walk from s: p tokens have been come to; a is where the way goes on. -/
structure WInv (h : List Int) (s : Nat) (ws ws' : List Nat) (p : Nat) (a : Int) : Prop where
  len : ws'.length = h.length
  at_ : (p = 0 ∧ a = (s : Int)) ∨ (0 < p ∧ ∃ t, itN h (p - 1) s = some t ∧ h[t]? = some a)
  vis : ∀ j, j < p → ∃ t, itN h j s = some t ∧ t < h.length ∧ ws'.getD t 0 = s + 1 ∧ ws.getD t 0 = 0
  new : ∀ i, ws'.getD i 0 = s + 1 → ∃ j, j < p ∧ itN h j s = some i
  old : ∀ i, ws'.getD i 0 ≠ s + 1 → ws'.getD i 0 = ws.getD i 0
theorem WInv.here {h : List Int} {s p i : Nat} {ws ws' : List Nat} (hI : WInv h s ws ws' p (i : Int)) (hi : i < h.length) : itN h p s = some i := by
  rcases hI.at_ with ⟨rfl, e⟩ | ⟨h0, t, ht, e⟩
  · have : i = s := by omega
    rw [this]; rfl
  · obtain ⟨q, rfl⟩ : ∃ q, p = q + 1 := ⟨p - 1, by omega⟩
    rw [Nat.add_sub_cancel] at ht
    rw [itN_snoc ht]
    exact stN_of e hi
theorem WInv.out {h : List Int} {s p : Nat} {a : Int} {ws ws' : List Nat} (hI : WInv h s ws ws' p a) (hs : s < h.length) (ha : ¬ (0 ≤ a ∧ a < h.length)) : 0 < p ∧ itN h p s = none := by
  rcases hI.at_ with ⟨rfl, e⟩ | ⟨h0, t, ht, e⟩
  · exact absurd ⟨by omega, by omega⟩ ha
  · refine ⟨h0, ?_⟩
    obtain ⟨q, rfl⟩ : ∃ q, p = q + 1 := ⟨p - 1, by omega⟩
    rw [Nat.add_sub_cancel] at ht
    rw [itN_snoc ht]
    exact stN_none e ha
theorem getD_set {α : Type} (l : List α) (i : Nat) (x d : α) (hi : i < l.length) (j : Nat) : (l.set i x).getD j d = if j = i then x else l.getD j d := by
  rw [List.getD_eq_getElem?_getD, List.getD_eq_getElem?_getD, List.getElem?_set]
  by_cases e : i = j
  · subst e; simp [hi]
  · rw [if_neg e, if_neg (fun h => e h.symm)]
theorem WInv.start {h : List Int} {s : Nat} {ws : List Nat} (hl : ws.length = h.length) (hle : ∀ i, ws.getD i 0 ≤ s) : WInv h s ws ws 0 (s : Int) :=
  ⟨hl, .inl ⟨rfl, rfl⟩, fun j hj => absurd hj (by omega), fun i hi => by have := hle i; omega, fun i _ => rfl⟩
theorem WInv.step {h : List Int} {s p i : Nat} {a : Int} {ws ws' : List Nat} (hI : WInv h s ws ws' p (i : Int)) (hi : i < h.length) (h0 : ws'.getD i 0 = 0) (ha : h[i]? = some a) : WInv h s ws (ws'.set i (s + 1)) (p + 1) a := by
  have hh := hI.here hi
  have hi' : i < ws'.length := by rw [hI.len]; exact hi
  refine ⟨by rw [List.length_set]; exact hI.len, .inr ⟨by omega, i, by rw [Nat.add_sub_cancel]; exact hh, ha⟩, fun j hj => ?_, fun k hk => ?_, fun k hk => ?_⟩
  · by_cases e : j = p
    · subst e
      refine ⟨i, hh, hi, by rw [getD_set _ _ _ _ hi', if_pos rfl], ?_⟩
      rw [← hI.old i (by omega)]
      exact h0
    · obtain ⟨t, h1, h2, h3, h4⟩ := hI.vis j (by omega)
      refine ⟨t, h1, h2, ?_, h4⟩
      rw [getD_set _ _ _ _ hi']
      split
      · rfl
      · exact h3
  · rw [getD_set _ _ _ _ hi'] at hk
    by_cases e : k = i
    · subst e
      exact ⟨p, by omega, hh⟩
    · rw [if_neg e] at hk
      obtain ⟨j, h1, h2⟩ := hI.new k hk
      exact ⟨j, by omega, h2⟩
  · rw [getD_set _ _ _ _ hi'] at hk ⊢
    by_cases e : k = i
    · rw [if_pos e] at hk; exact absurd rfl hk
    · rw [if_neg e] at hk ⊢
      exact hI.old k hk
/-- The walk has come out, or to one of an elder walk: none of its tokens is on a cycle. -/
theorem CInv.over {h : List Int} {s p : Nat} {a : Int} {ws ws' : List Nat} {cy : List Bool} (hC : CInv h s ws cy) (hI : WInv h s ws ws' p a) (hs : s < h.length)
    (ha : ¬ (0 ≤ a ∧ a < h.length) ∨ ∃ i : Nat, a = (i : Int) ∧ i < h.length ∧ ws'.getD i 0 ≠ 0 ∧ ws'.getD i 0 ≠ s + 1) : CInv h (s + 1) ws' cy := by
  -- what an elder walk has come to, it goes on to
  have hgo : ∀ m x y, ws.getD x 0 ≠ 0 → itN h m x = some y → ws.getD y 0 ≠ 0 := by
    intro m
    induction m with
    | zero => intro x y hx e; have e : some x = some y := e; injection e with e; rw [← e]; exact hx
    | succ m ih =>
      intro x y hx e
      have e : (stN h x).bind (itN h m) = some y := e
      cases ht : stN h x with
      | none => rw [ht] at e; cases e
      | some t => rw [ht] at e; exact ih t y (hC.closed x t hx ht) e
  have hnot : ∀ j t, j < p → itN h j s = some t → ws.getD t 0 = 0 → ¬ cycP h t := by
    intro j t hj ht hw hc
    obtain ⟨y, hy, q, hq⟩ := cyc_total hc (p - j)
    have e := itN_add h j (p - j) s
    rw [show j + (p - j) = p by omega, ht] at e
    have e : itN h p s = itN h (p - j) t := e
    rw [hy] at e
    rcases ha with ha | ⟨i, rfl, hi, hi0, hi1⟩
    · rw [(hI.out hs ha).2] at e; cases e
    · rw [hI.here hi] at e
      injection e with e
      subst e
      rw [hI.old i hi1] at hi0
      exact hgo q i t hi0 hq hw
  have hcase : ∀ i, ws'.getD i 0 ≠ 0 → (ws.getD i 0 ≠ 0 ∧ ws'.getD i 0 ≠ s + 1) ∨ ∃ j, j < p ∧ itN h j s = some i ∧ ws.getD i 0 = 0 := fun i hi => by
    by_cases e : ws'.getD i 0 = s + 1
    · obtain ⟨j, h1, h2⟩ := hI.new i e
      obtain ⟨t, h3, _, _, h4⟩ := hI.vis j h1
      rw [h2] at h3
      injection h3 with h3
      subst h3
      exact .inr ⟨j, h1, h2, h4⟩
    · exact .inl ⟨by rw [← hI.old i e]; exact hi, e⟩
  have hkeep : ∀ i, ws.getD i 0 ≠ 0 → ws'.getD i 0 ≠ 0 := fun i hi => by
    by_cases e : ws'.getD i 0 = s + 1
    · omega
    · rw [hI.old i e]; exact hi
  refine ⟨hI.len, hC.cl, fun i => ?_, fun i h1 h2 => ?_, fun i j hi hst => ?_, fun i hil hi => ?_, fun i hi => ?_⟩
  · by_cases e : ws'.getD i 0 = s + 1
    · omega
    · rw [hI.old i e]; have := hC.le i; omega
  · by_cases e : i = s
    · subst e
      by_cases hp : p = 0
      · rcases hI.at_ with ⟨_, e⟩ | ⟨h0, _⟩
        · rcases ha with ha | ⟨k, hk, hkl, hk0, _⟩
          · exact absurd ⟨by omega, by omega⟩ ha
          · have : k = i := by omega
            rw [← this]; exact hk0
        · omega
      · obtain ⟨t, h3, _, h4, _⟩ := hI.vis 0 (by omega)
        have h3 : some i = some t := h3
        injection h3 with h3
        rw [h3, h4]; omega
    · exact hkeep i (hC.done i (by omega) h2)
  · rcases hcase i hi with ⟨h1, _⟩ | ⟨k, hk, hit, _⟩
    · exact hkeep j (hC.closed i j h1 hst)
    · have hn := itN_snoc hit
      rw [hst] at hn
      by_cases e : k + 1 = p
      · rcases ha with ha | ⟨t, rfl, htl, ht0, _⟩
        · rw [e, (hI.out hs ha).2] at hn; cases hn
        · rw [e, hI.here htl] at hn
          injection hn with hn
          rw [← hn]; exact ht0
      · obtain ⟨t, h3, _, h4, _⟩ := hI.vis (k + 1) (by omega)
        rw [hn] at h3
        injection h3 with h3
        rw [h3, h4]; omega
  · rcases hcase i hi with ⟨h1, _⟩ | ⟨k, hk, hit, h0⟩
    · exact hC.told i hil h1
    · have := hnot k i hk hit h0
      rw [hC.wait i h0]
      exact Iff.intro (fun e => nomatch e) (fun e => absurd e this)
  · refine hC.wait i ?_
    by_cases e : ws'.getD i 0 = s + 1
    · omega
    · rw [← hI.old i e]; exact hi
/-- In the round of marking: q tokens of the cycle through a0 are marked. -/
structure MInv (h : List Int) (cy cy' : List Bool) (a0 q a : Nat) : Prop where
  len : cy'.length = h.length
  here : itN h q a0 = some a
  marked : ∀ i, cy'.getD i false = true ↔ (cy.getD i false = true ∨ ∃ j, j < q ∧ itN h j a0 = some i)
theorem MInv.start {h : List Int} {cy : List Bool} (hl : cy.length = h.length) (a0 : Nat) : MInv h cy cy a0 0 a0 := by
  refine ⟨hl, rfl, fun i => ⟨fun e => .inl e, fun e => ?_⟩⟩
  rcases e with e | ⟨j, hj, _⟩
  · exact e
  · omega
theorem MInv.step {h : List Int} {cy cy' : List Bool} {a0 q a b : Nat} (hM : MInv h cy cy' a0 q a) (ha : a < h.length) (hb : stN h a = some b) : MInv h cy (cy'.set a true) a0 (q + 1) b := by
  have ha' : a < cy'.length := by rw [hM.len]; exact ha
  refine ⟨by rw [List.length_set]; exact hM.len, by rw [itN_snoc hM.here]; exact hb, fun i => ?_⟩
  rw [getD_set _ _ _ _ ha']
  by_cases e : i = a
  · rw [if_pos e]
    exact ⟨fun _ => .inr ⟨q, by omega, by rw [e]; exact hM.here⟩, fun _ => rfl⟩
  · rw [if_neg e, hM.marked i]
    constructor
    · rintro (h1 | ⟨j, h1, h2⟩)
      · exact .inl h1
      · exact .inr ⟨j, by omega, h2⟩
    · rintro (h1 | ⟨j, h1, h2⟩)
      · exact .inl h1
      · by_cases ej : j = q
        · subst ej
          rw [hM.here] at h2
          injection h2 with h2
          exact absurd h2.symm e
        · exact .inr ⟨j, by omega, h2⟩
/-- The walk has come back to one of its own tokens: the cycle through it is marked. -/
theorem CInv.round {h : List Int} {s p a0 q a : Nat} {ws ws' : List Nat} {cy cy' : List Bool} (hC : CInv h s ws cy) (hI : WInv h s ws ws' p (a0 : Int)) (hs : s < h.length) (ha0 : a0 < h.length) (hw : ws'.getD a0 0 = s + 1)
    (hM : MInv h cy cy' a0 q a) (ht : cy'.getD a false = true) : CInv h (s + 1) ws' cy' := by
  obtain ⟨j0, hj0, hit0⟩ := hI.new a0 hw
  have hp := hI.here ha0
  have hcyc : cycP h a0 := ⟨p - j0, by omega, by
    have e := itN_add h j0 (p - j0) s
    rw [show j0 + (p - j0) = p by omega, hp, hit0] at e
    exact e.symm⟩
  -- all that the way from a0 comes to, the walk has come to
  have horb : ∀ m y, itN h m a0 = some y → ∃ j, j < p ∧ itN h j s = some y := by
    intro m
    induction m with
    | zero => intro y e; have e : some a0 = some y := e; injection e with e; rw [← e]; exact ⟨j0, hj0, hit0⟩
    | succ m ih =>
      intro y e
      obtain ⟨t, ht', _⟩ := cyc_total hcyc m
      obtain ⟨j, hj, hjt⟩ := ih t ht'
      rw [itN_snoc ht'] at e
      by_cases ej : j + 1 = p
      · have := itN_snoc hjt
        rw [ej, hp] at this
        rw [← this] at e
        injection e with e
        rw [← e]; exact ⟨j0, hj0, hit0⟩
      · exact ⟨j + 1, by omega, by rw [itN_snoc hjt]; exact e⟩
  have hzero : ∀ m y, itN h m a0 = some y → ws.getD y 0 = 0 ∧ ws'.getD y 0 = s + 1 := fun m y e => by
    obtain ⟨j, hj, hjy⟩ := horb m y e
    obtain ⟨t, h1, _, h3, h4⟩ := hI.vis j hj
    rw [hjy] at h1
    injection h1 with h1
    subst h1
    exact ⟨h4, h3⟩
  -- the marked ones are all of the cycle
  have hq : ∃ j, j < q ∧ itN h j a0 = some a := by
    rcases (hM.marked a).1 ht with h1 | h1
    · have := hC.wait a (hzero q a hM.here).1
      rw [this] at h1; cases h1
    · exact h1
  obtain ⟨j1, hj1, hja⟩ := hq
  have hall : ∀ m y, itN h m a0 = some y → ∃ j, j < q ∧ itN h j a0 = some y := by
    intro m
    induction m with
    | zero => intro y e; exact ⟨0, by omega, e⟩
    | succ m ih =>
      intro y e
      obtain ⟨t, ht', _⟩ := cyc_total hcyc m
      obtain ⟨j, hj, hjt⟩ := ih t ht'
      rw [itN_snoc ht'] at e
      by_cases ej : j + 1 = q
      · have h1 := itN_snoc hjt
        rw [ej, hM.here, e] at h1
        injection h1 with h1
        exact ⟨j1, hj1, by rw [hja, h1]⟩
      · exact ⟨j + 1, by omega, by rw [itN_snoc hjt]; exact e⟩
  have hcase : ∀ i, ws'.getD i 0 ≠ 0 → ws.getD i 0 ≠ 0 ∨ ∃ j, j < p ∧ itN h j s = some i ∧ ws.getD i 0 = 0 := fun i hi => by
    by_cases e : ws'.getD i 0 = s + 1
    · obtain ⟨j, h1, h2⟩ := hI.new i e
      obtain ⟨t, h3, _, _, h4⟩ := hI.vis j h1
      rw [h2] at h3
      injection h3 with h3
      subst h3
      exact .inr ⟨j, h1, h2, h4⟩
    · exact .inl (by rw [← hI.old i e]; exact hi)
  have hkeep : ∀ i, ws.getD i 0 ≠ 0 → ws'.getD i 0 ≠ 0 := fun i hi => by
    by_cases e : ws'.getD i 0 = s + 1
    · omega
    · rw [hI.old i e]; exact hi
  refine ⟨hI.len, hM.len, fun i => ?_, fun i h1 h2 => ?_, fun i j hi hst => ?_, fun i hil hi => ?_, fun i hi => ?_⟩
  · by_cases e : ws'.getD i 0 = s + 1
    · omega
    · rw [hI.old i e]; have := hC.le i; omega
  · by_cases e : i = s
    · subst e
      obtain ⟨t, h3, _, h4, _⟩ := hI.vis 0 (by omega)
      have h3 : some i = some t := h3
      injection h3 with h3
      rw [h3, h4]; omega
    · exact hkeep i (hC.done i (by omega) h2)
  · rcases hcase i hi with h1 | ⟨k, hk, hit, _⟩
    · exact hkeep j (hC.closed i j h1 hst)
    · have hn := itN_snoc hit
      rw [hst] at hn
      by_cases e : k + 1 = p
      · rw [e, hp] at hn
        injection hn with hn
        rw [← hn, hw]; omega
      · obtain ⟨t, h3, _, h4, _⟩ := hI.vis (k + 1) (by omega)
        rw [hn] at h3
        injection h3 with h3
        rw [h3, h4]; omega
  · rcases hcase i hi with h1 | ⟨k, hk, hit, h0⟩
    · rw [hM.marked i, ← hC.told i hil h1]
      refine ⟨fun e => ?_, fun e => .inl e⟩
      rcases e with e | ⟨j, _, hj⟩
      · exact e
      · exact absurd (hzero j i hj).1 h1
    · rw [hM.marked i]
      constructor
      · rintro (e | ⟨j, _, hj⟩)
        · rw [hC.wait i h0] at e; cases e
        · exact cyc_on hcyc hj
      · intro hc
        obtain ⟨t, ht1, q2, hq2⟩ := cyc_total hc (p - k)
        have e := itN_add h k (p - k) s
        rw [show k + (p - k) = p by omega, hp, hit] at e
        have e : some a0 = itN h (p - k) i := e
        rw [← e] at ht1
        injection ht1 with ht1
        rw [← ht1] at hq2
        exact .inr (hall q2 i hq2)
  · have h0 : ws.getD i 0 = 0 := by
      by_cases e : ws'.getD i 0 = s + 1
      · omega
      · rw [← hI.old i e]; exact hi
    rw [← Bool.not_eq_true, hM.marked i]
    rintro (e | ⟨j, _, hj⟩)
    · rw [hC.wait i h0] at e; cases e
    · have := (hzero j i hj).2; omega
theorem CInv.start (h : List Int) : CInv h 0 (List.replicate h.length 0) (List.replicate h.length false) := by
  have hz : ∀ i, (List.replicate h.length 0).getD i 0 = 0 := fun i => by
    rw [List.getD_eq_getElem?_getD, List.getElem?_replicate]; split <;> rfl
  have hf : ∀ i, (List.replicate h.length false).getD i false = false := fun i => by
    rw [List.getD_eq_getElem?_getD, List.getElem?_replicate]; split <;> rfl
  exact ⟨by simp, by simp, fun i => by rw [hz]; exact Nat.le_refl _, fun i h1 => by omega, fun i j h1 => absurd (hz i) h1, fun i _ h1 => absurd (hz i) h1, fun i _ => hf i⟩
/-- Behind the last walk all is told. -/
theorem CInv.fin {h : List Int} {ws : List Nat} {cy : List Bool} (hC : CInv h h.length ws cy) : cy = (List.range h.length).map fun (i : Nat) => cyc h (i : Int) := by
  refine List.ext_getElem (by simp [hC.cl]) fun i h1 h2 => ?_
  have hi : i < h.length := by rw [← hC.cl]; exact h1
  have := hC.told i hi (hC.done i hi hi)
  rw [List.getD_eq_getElem?_getD, List.getElem?_eq_getElem h1] at this
  simp only [Option.getD_some] at this
  rw [List.getElem_map, List.getElem_range, Bool.eq_iff_iff, this, cyc_iff]
/-- How many are left. -/
theorem count_set {α : Type} (p : α → Bool) (x : α) (hx : p x = false) : ∀ (l : List α) (i : Nat) (y : α), l[i]? = some y → p y = true → (l.set i x).countP p + 1 = l.countP p
  | [], i, y, h, _ => by simp at h
  | a :: l, 0, y, h, hy => by
    simp at h
    subst h
    simp [List.set, hx, hy]
  | a :: l, i + 1, y, h, hy => by
    have ih := count_set p x hx l i y (by simpa using h) hy
    simp only [List.set, List.countP_cons]
    omega
end Go.Proofs.YtmjmidgfdjcbfaaGreatDoor
namespace Go.Proofs.YtmjmidgfdjcbfaaGreatDoor
open Go.RowKit Go.Shelf Go.Lib
set_option linter.unusedVariables false

def boolRow (l : List Bool) : Array Value := (l.map Value.bool).toArray
def natRow (l : List Nat) : Array Value := (l.map fun (n : Nat) => Value.int .i64 (n : Int)).toArray
theorem boolRow_get {l : List Bool} {i : Nat} (h : i < l.length) : (boolRow l)[i]? = some (.bool (l.getD i false)) := by
  simp [boolRow, h]
theorem natRow_get {l : List Nat} {i : Nat} (h : i < l.length) : (natRow l)[i]? = some (.int .i64 ((l.getD i 0 : Nat) : Int)) := by
  simp [natRow, h]
theorem boolRow_set (l : List Bool) (i : Nat) (b : Bool) : (boolRow l).setIfInBounds i (.bool b) = boolRow (l.set i b) := by
  simp [boolRow, List.map_set]
theorem natRow_set (l : List Nat) (i : Nat) (n : Nat) : (natRow l).setIfInBounds i (.int .i64 (n : Int)) = natRow (l.set i n) := by
  simp [natRow, List.map_set]
theorem made_bool (n : Nat) : madeCells #[.bool false] n = boolRow (List.replicate n false) := by
  apply Array.ext'
  simp [madeCells, boolRow, List.map_replicate]
  apply List.ext_getElem?
  intro i
  by_cases h : i < n
  · simp [h, Nat.mod_one]
  · simp [h]
theorem made_nat (n : Nat) : madeCells #[.int .i64 0] n = natRow (List.replicate n 0) := by
  apply Array.ext'
  simp [madeCells, natRow, List.map_replicate]
  apply List.ext_getElem?
  intro i
  by_cases h : i < n
  · simp [h, Nat.mod_one]
  · simp [h]
theorem Tryz.infoBool : (Tryz.prog.info? 4).map (fun i => (i.zero, i.size, i.bytes)) = some (some (.bool false), 1, 1) := by kernel_rfl
theorem Tryz.infoInt2 : (Tryz.prog.info? 3).map (fun i => (i.zero, i.size, i.bytes)) = some (some (.int .i64 0), 1, 8) := by kernel_rfl

set_option maxHeartbeats 1000000 in
theorem isToken_any (a : Int) (A : Option Addr) (n cap B : Nat) (W : World) (hB : W.cell? ⟨B, 0, none⟩ = some (.slice A n cap)) :
    Calls Tryz.prog 93 (#[.int .i64 a] ++ #[.pointer (some ⟨B, 0, none⟩)]) W fun e w' => e = .returned (.bool (decide (0 ≤ a) && decide (a < (n : Int)))) ∧ w' = W := by
  by_cases h : 0 ≤ a
  · have hd : decide (0 ≤ a) = true := by simp [h]
    rw [hd, Bool.true_and]
    go_enter Tryz.func93, Tryz.ntmps93
    go_wp2_with fail
    go_ret
    exact ⟨rfl, rfl⟩
  · have hd : decide (0 ≤ a) = false := by simp; omega
    rw [hd, Bool.false_and]
    go_enter Tryz.func93, Tryz.ntmps93
    go_wp2_with fail
    go_ret
    exact ⟨rfl, rfl⟩
theorem WInv.cyc {h : List Int} {s p a0 : Nat} {ws ws' : List Nat} (hI : WInv h s ws ws' p (a0 : Int)) (ha0 : a0 < h.length) (hw : ws'.getD a0 0 = s + 1) : cycP h a0 := by
  obtain ⟨j0, hj0, hit0⟩ := hI.new a0 hw
  have hp := hI.here ha0
  refine ⟨p - j0, by omega, ?_⟩
  have e := itN_add h j0 (p - j0) s
  rw [show j0 + (p - j0) = p by omega, hp, hit0] at e
  exact e.symm
theorem MInv.on {h : List Int} {cy cy' : List Bool} {a0 q a : Nat} (hM : MInv h cy cy' a0 q a) (hc : cycP h a0) : a < h.length ∧ ∃ b : Nat, stN h a = some b ∧ h[a]? = some (b : Int) ∧ b < h.length := by
  obtain ⟨t, ht, _⟩ := cyc_total hc (q + 1)
  rw [itN_snoc hM.here] at ht
  obtain ⟨h1, h2, h3⟩ := stN_lt ht
  exact ⟨h1, t, ht, h3, h2⟩
theorem getD_count {α : Type} [BEq α] {l : List α} {i : Nat} {d : α} (hi : i < l.length) : l[i]? = some (l.getD i d) := by simp [hi]
theorem hv_lt {w : World} {bk off n cap : Nat} {h : List Int} (hV : ∀ W, Below w.heap.size w W → Rows 1 EInt W (.slice (some ⟨bk, off, none⟩) n cap) h) (W : World) (hb : Below w.heap.size w W) (h0 : 0 < h.length) : bk < w.heap.size := by
  obtain ⟨b, o, e, hl, _⟩ := (hV w (Below.refl _ _)).at' h0
  cases e
  exact hl
/-- The three blocks of cycles. -/
structure CSt (w W : World) (N : Nat) (hv : Value) (ws : List Nat) (cy : List Bool) : Prop where
  below : Below w.heap.size w W
  hd : W.heap[N]? = some (.cells #[hv] 22 (0, 0))
  c : W.heap[N + 1]? = some (.cells (boolRow cy) 4 (0, 0))
  wk : W.heap[N + 2]? = some (.cells (natRow ws) 3 (0, 0))
theorem CSt.setW {w W : World} {N : Nat} {hv : Value} {ws : List Nat} {cy : List Bool} (h : CSt w W N hv ws cy) (hN : w.heap.size = N) (i n : Nat) : CSt w (W.setCell ⟨N + 2, i, none⟩ (.int .i64 (n : Int))) N hv (ws.set i n) cy :=
  ⟨h.below.trans ⟨rfl, rfl, rfl, by simp [World.setCell], fun k hk => Below.heap_setCell _ _ _ k (by show k ≠ N + 2; omega)⟩, block_other _ h.hd (by omega), block_other _ h.c (by omega), by rw [← natRow_set]; exact set_of h.wk _⟩
theorem CSt.setC {w W : World} {N : Nat} {hv : Value} {ws : List Nat} {cy : List Bool} (h : CSt w W N hv ws cy) (hN : w.heap.size = N) (i : Nat) (b : Bool) : CSt w (W.setCell ⟨N + 1, i, none⟩ (.bool b)) N hv ws (cy.set i b) :=
  ⟨h.below.trans ⟨rfl, rfl, rfl, by simp [World.setCell], fun k hk => Below.heap_setCell _ _ _ k (by show k ≠ N + 1; omega)⟩, block_other _ h.hd (by omega), by rw [← boolRow_set]; exact set_of h.c _, block_other _ h.wk (by omega)⟩

set_option maxRecDepth 100000 in
set_option maxHeartbeats 16000000 in
theorem cycles_any {w : World} {v : Value} {h : List Int} (hv : Rows 1 EInt w v h) (hl : h.length ≤ 1000000) :
    Calls Tryz.prog 67 #[v] w fun e w' => (∃ A cap, e = .returned (.slice A h.length cap) ∧ h.length ≤ cap ∧ (0 < h.length → ∃ b, A = some ⟨b, 0, none⟩ ∧ w.heap.size ≤ b ∧ w'.heap[b]? = some (.cells (boolRow ((List.range h.length).map fun (i : Nat) => cyc h (i : Int))) 4 (0, 0)))) ∧ Below w.heap.size w w' := by
  obtain ⟨A, cap, rfl, hc⟩ := hv.form
  obtain ⟨n, hn⟩ : ∃ n, h.length = n := ⟨_, rfl⟩
  have HV := Lib.hid (fun W (hb : Below w.heap.size w W) => hv.below stays_int hb)
  rw [hn] at hc hl HV ⊢
  have HN := Lib.hid hn
  obtain ⟨i0, hi0, hz0, hz1, hz2⟩ := info_parts' Tryz.infoBool
  obtain ⟨i1, hi1, hy0, hy1, hy2⟩ := info_parts' Tryz.infoInt2
  have hmk1 : ∀ W : World, (Instr.makeSlice 43 (.int .i64 n) (.int .i64 n)).run Tryz.prog W = .ok (.slice (some ⟨W.heap.size, 0, none⟩) n n) (W.alloc (.cells (boolRow (List.replicate n false)) 4)) := fun W => by
    have := run_make (P := Tryz.prog) W 43 4 i0 _ Tryz.underlying43 hi0 hz0 .i64 .i64 n n (by omega) (by omega) (by rw [hz2]; omega) (by omega)
    rw [Int.toNat_natCast, hz1, Nat.mul_one] at this
    rw [← made_bool]
    exact this
  have hmk2 : ∀ W : World, (Instr.makeSlice 22 (.int .i64 n) (.int .i64 n)).run Tryz.prog W = .ok (.slice (some ⟨W.heap.size, 0, none⟩) n n) (W.alloc (.cells (natRow (List.replicate n 0)) 3)) := fun W => by
    have := run_make (P := Tryz.prog) W 22 3 i1 _ Tryz.underlying22 hi1 hy0 .i64 .i64 n n (by omega) (by omega) (by rw [hy2]; omega) (by omega)
    rw [Int.toNat_natCast, hy1, Nat.mul_one] at this
    rw [← made_nat]
    exact this
  have hz3 : (Value.bool false).cells = #[Value.bool false] := rfl
  obtain ⟨N, hN⟩ : ∃ N, w.heap.size = N := ⟨_, rfl⟩
  obtain ⟨W0, hW0⟩ : ∃ W0, ((w.alloc (.cells #[.slice A n cap] 22)).alloc (.cells (boolRow (List.replicate n false)) 4)).alloc (.cells (natRow (List.replicate n 0)) 3) = W0 := ⟨_, rfl⟩
  have hst0 : CSt w W0 N (.slice A n cap) (List.replicate n 0) (List.replicate n false) := by
    have b1 := block_new w (.cells #[.slice A n cap] 22)
    have b2 := block_new (w.alloc (.cells #[.slice A n cap] 22)) (.cells (boolRow (List.replicate n false)) 4)
    have b3 := block_new ((w.alloc (.cells #[.slice A n cap] 22)).alloc (.cells (boolRow (List.replicate n false)) 4)) (.cells (natRow (List.replicate n 0)) 3)
    rw [alloc_sz] at b2
    rw [alloc_sz, alloc_sz] at b3
    rw [hN] at b1 b2 b3
    rw [← hW0]
    exact ⟨((below_box w _).trans ((below_box _ _).mono (by simp))).trans ((below_box _ _).mono (by simp <;> omega)), block_alloc _ (block_alloc _ b1), block_alloc _ b2, b3⟩
  have hc0 := CInv.start h
  rw [hn] at hc0
  have HST0 := Lib.hid hst0
  have HC0 := Lib.hid hc0
  have HW0 := Lib.hid hW0
  have HNN := Lib.hid hN
  have HSTEP := Lib.hid (fun (i : Nat) (hi : i < n) => show ∃ a, h[i]? = some a from ⟨_, List.getElem?_eq_getElem (by omega)⟩)
  have hcell : ∀ (W : World), Below w.heap.size w W → 0 < n → ∃ bk off, A = some ⟨bk, off, none⟩ ∧ ∀ (j : Nat) (x : Int), h[j]? = some x → W.cell? ⟨bk, off + j, none⟩ = some (.int .i64 x) := fun W hb h0 => by
    obtain ⟨bk, off, h1, _, h2⟩ := at_int (HV.out W hb) (by rw [HN.out]; exact h0)
    exact ⟨bk, off, h1, h2⟩
  have HCELL := Lib.hid hcell
  clear hn hv hst0 hc0 hW0 hN hcell
  go_enter Tryz.func67, Tryz.ntmps67
  go_wp2_with fail
  rw [HW0.out, HNN.out]
  try rw [show N + 1 + 1 = N + 2 from rfl]
  have hN := HNN.out
  go_loopw [18] (fun sv wr => ∃ (s : Nat) (ws : List Nat) (cy : List Bool), s ≤ n ∧ sv = .int .i64 s ∧ Hid (CInv h s ws cy) ∧ Hid (CSt w wr N (.slice A n cap) ws cy)) (fun sv _ => n - (Go.RowKit.intOf sv).toNat)
  case atStart => exact ⟨0, _, _, Nat.zero_le _, rfl, HC0, HST0⟩
  case round =>
    clear HC0 HST0 HW0 hmk1 hmk2
    obtain ⟨s, ws, cy, hsn, rfl, HC, HS⟩ := hrel
    by_cases hlt : s < n
    · obtain ⟨bk, off, rfl, hcel⟩ := HCELL.out wr HS.out.below (by omega)
      clear hcel
      have hlti : (s : Int) < (n : Int) := by omega
      have hs64 : IntKind.i64.wrap ((s : Int) + 1) = (s : Int) + 1 := by rw [IntKind.wrap_i64]; omega
      go_wp2_with fail
      obtain ⟨wo, rfl⟩ : ∃ wo, wo = wr := ⟨_, rfl⟩
      go_loopg [8] ((ws.countP (· == 0)) + 1) (fun gg av wr => ∃ (p : Nat) (a : Int) (ws' : List Nat), av = .int .i64 a ∧ ws'.countP (· == 0) ≤ gg ∧ Hid (WInv h s ws ws' p a) ∧ Hid (CSt w wr N (.slice (some ⟨bk, off, none⟩) n cap) ws' cy))
      case atStart => exact ⟨0, s, ws, rfl, by omega, Lib.hid (WInv.start HC.out.wl HC.out.le), HS⟩
      case round =>
        obtain ⟨p, a, ws', rfl, hgg, HI, HSS⟩ := hrel
        have h0c : wr.cell? ⟨N, 0, none⟩ = some (.slice (some ⟨bk, off, none⟩) n cap) := cell_of HSS.out.hd rfl
        have HT := Lib.hid (isToken_any a (some ⟨bk, off, none⟩) n cap N wr h0c)
        by_cases hr : 0 ≤ a ∧ a < n
        · obtain ⟨i, rfl⟩ : ∃ i : Nat, a = (i : Int) := ⟨a.toNat, by omega⟩
          have hin : i < n := by omega
          have htok : (decide (0 ≤ (i : Int)) && decide ((i : Int) < (n : Int))) = true := by simp [hin]
          rw [htok] at HT
          clear htok
          have hwl : ws'.length = n := by rw [HI.out.len, HN.out]
          have kw : wr.cell? ⟨N + 2, i, none⟩ = some (.int .i64 ((ws'.getD i 0 : Nat) : Int)) := cell_of HSS.out.wk (natRow_get (by omega))
          have fw : wr.frozen? ⟨N + 2, i, none⟩ = false := frozen_of HSS.out.wk
          obtain ⟨a2, ha2⟩ := HSTEP.out i hin
          obtain ⟨_, _, he, hcel⟩ := HCELL.out wr HSS.out.below (by omega)
          cases he
          have kh := hcel i a2 ha2
          obtain ⟨u, hu⟩ : ∃ u, ws'.getD i 0 = u := ⟨_, rfl⟩
          rw [hu] at kw
          have hii : (i : Int) < (n : Int) := by omega
          have HU := Lib.hid hu
          have HA2 := Lib.hid ha2
          have HWL := Lib.hid hwl
          clear hu hcel ha2 hr hwl
          by_cases hu0 : u = 0
          · subst hu0
            have hbN : bk < N := by
              have h1 := hv_lt HV.out wr HSS.out.below (by rw [HN.out]; omega)
              rw [HNN.out] at h1
              exact h1
            have kh2 : (wr.setCell ⟨N + 2, i, none⟩ (.int .i64 ((s : Int) + 1))).cell? ⟨bk, off + i, none⟩ = some (.int .i64 a2) := (World.cell?_of_block (Below.heap_setCell wr ⟨N + 2, i, none⟩ _ bk (by show bk ≠ N + 2; omega))).trans kh
            have h0c2 : (wr.setCell ⟨N + 2, i, none⟩ (.int .i64 ((s : Int) + 1))).cell? ⟨N, 0, none⟩ = some (.slice (some ⟨bk, off, none⟩) n cap) := (World.cell?_of_block (Below.heap_setCell wr ⟨N + 2, i, none⟩ _ N (by show N ≠ N + 2; omega))).trans h0c
            clear hbN
            go_wp2_with fail
            refine HT.out.mono ?_
            rintro e w1 ⟨rfl, rfl⟩
            go_wp2_with fail
            go_roundg ((ws'.set i (s + 1)).countP (· == 0))
            case measure =>
              have := count_set (· == 0) (s + 1) (by simp) ws' i 0 (by rw [getD_count (d := 0) (by rw [HWL.out]; exact hin), HU.out]) (by simp)
              omega
            case rel =>
              exact ⟨p + 1, a2, ws'.set i (s + 1), rfl, Nat.le_refl _, Lib.hid (HI.out.step (by rw [HN.out]; exact hin) HU.out HA2.out), Lib.hid (HSS.out.setW HNN.out i (s + 1))⟩
          · have hu1 : ((u : Int) == 0) = false := by simp [hu0]
            have hN2 := HU.out
            clear kh
            by_cases hus : u = s + 1
            · subst hus
              have e2 : (((s + 1 : Nat) : Int)) = (s : Int) + 1 := by omega
              rw [e2] at kw hu1
              clear e2 hN2
              go_wp2_with fail
              refine HT.out.mono ?_
              rintro e w1 ⟨rfl, rfl⟩
              go_wp2_with fail
              refine HT.out.mono ?_
              rintro e w1 ⟨rfl, rfl⟩
              go_wp2_with fail
              have HCY := Lib.hid (HI.out.cyc (by rw [HN.out]; exact hin) HU.out)
              clear kw fw h0c
              obtain ⟨wo2, rfl⟩ : ∃ wo2, wo2 = w1 := ⟨_, rfl⟩
              go_loopg [8] (cy.countP (· == false) + 1) (fun gg av wr => ∃ (q a : Nat) (cy' : List Bool), av = .int .i64 a ∧ cy'.countP (· == false) ≤ gg ∧ Hid (MInv h cy cy' i q a) ∧ Hid (CSt w wr N (.slice (some ⟨bk, off, none⟩) n cap) ws' cy'))
              case atStart => exact ⟨0, i, cy, rfl, by omega, Lib.hid (MInv.start HC.out.cl i), HSS⟩
              case round =>
                obtain ⟨q, a, cy', rfl, hgg2, HM, HS3⟩ := hrel
                obtain ⟨hal, b, hsb, hab, hbl⟩ := HM.out.on HCY.out
                rw [HN.out] at hal hbl
                have hcl : cy'.length = n := by rw [HM.out.len, HN.out]
                have kc : wr.cell? ⟨N + 1, a, none⟩ = some (.bool (cy'.getD a false)) := cell_of HS3.out.c (boolRow_get (by omega))
                have fc : wr.frozen? ⟨N + 1, a, none⟩ = false := frozen_of HS3.out.c
                have hai : (a : Int) < (n : Int) := by omega
                obtain ⟨t, ht⟩ : ∃ t, cy'.getD a false = t := ⟨_, rfl⟩
                rw [ht] at kc
                have HTT := Lib.hid ht
                have HSB := Lib.hid hsb
                have HCL := Lib.hid hcl
                have HAL := Lib.hid hal
                cases t with
                | false =>
                  obtain ⟨_, _, he, hcel⟩ := HCELL.out wr HS3.out.below (by omega)
                  cases he
                  have kh := hcel a b hab
                  have hbN : bk < N := by
                    have h1 := hv_lt HV.out wr HS3.out.below (by rw [HN.out]; omega)
                    rw [HNN.out] at h1
                    exact h1
                  have kh2 : (wr.setCell ⟨N + 1, a, none⟩ (.bool true)).cell? ⟨bk, off + a, none⟩ = some (.int .i64 (b : Int)) := (World.cell?_of_block (Below.heap_setCell wr ⟨N + 1, a, none⟩ _ bk (by show bk ≠ N + 1; omega))).trans kh
                  have h0c2 : (wr.setCell ⟨N + 1, a, none⟩ (.bool true)).cell? ⟨N, 0, none⟩ = some (.slice (some ⟨bk, off, none⟩) n cap) := (World.cell?_of_block (Below.heap_setCell wr ⟨N + 1, a, none⟩ _ N (by show N ≠ N + 1; omega))).trans (cell_of HS3.out.hd rfl)
                  clear hbN hcel kh hab ht hsb hcl hal hbl
                  go_wp2_with fail
                  go_roundg ((cy'.set a true).countP (· == false))
                  case measure =>
                    have := count_set (· == false) true (by simp) cy' a false (by rw [getD_count (d := false) (by rw [HCL.out]; exact HAL.out), HTT.out]) (by simp)
                    omega
                  case rel =>
                    exact ⟨q + 1, b, cy'.set a true, rfl, Nat.le_refl _, Lib.hid (HM.out.step (by rw [HN.out]; exact HAL.out) HSB.out), Lib.hid (HS3.out.setC HNN.out a true)⟩
                | true =>
                  have HNEXT := Lib.hid (HC.out.round HI.out (by rw [HN.out]; exact hlt) (by rw [HN.out]; exact hin) HU.out HM.out HTT.out)
                  clear hab ht hsb hcl hal hbl
                  go_wp2_with fail
                  exact ⟨⟨s + 1, ws', cy', by omega, by go_num, HNEXT, HS3⟩, by simp only [Go.RowKit.intOf]; omega⟩
            · have HNEXT := Lib.hid (HC.out.over HI.out (by rw [HN.out]; exact hlt) (.inr ⟨i, rfl, by rw [HN.out]; exact hin, by rw [HU.out]; exact hu0, by rw [HU.out]; exact hus⟩))
              have hus1 : ((u : Int) != (s : Int) + 1) = true := by simp; omega
              clear hus hN2
              go_wp2_with fail
              refine HT.out.mono ?_
              rintro e w1 ⟨rfl, rfl⟩
              go_wp2_with fail
              refine HT.out.mono ?_
              rintro e w1 ⟨rfl, rfl⟩
              go_wp2_with fail
              exact ⟨⟨s + 1, ws', cy, by omega, by go_num, HNEXT, HSS⟩, by simp only [Go.RowKit.intOf]; omega⟩
        · have htok : (decide (0 ≤ a) && decide (a < (n : Int))) = false := by
            rw [Bool.and_eq_false_iff]
            by_cases h0 : 0 ≤ a
            · right; simp; omega
            · left; simp; omega
          rw [htok] at HT
          have HNEXT := Lib.hid (HC.out.over HI.out (by rw [HN.out]; exact hlt) (.inl (by rw [HN.out]; exact hr)))
          clear htok hr
          go_wp2_with fail
          refine HT.out.mono ?_
          rintro e w1 ⟨rfl, rfl⟩
          go_wp2_with fail
          refine HT.out.mono ?_
          rintro e w1 ⟨rfl, rfl⟩
          go_wp2_with fail
          exact ⟨⟨s + 1, ws', cy, by omega, by go_num, HNEXT, HSS⟩, by simp only [Go.RowKit.intOf]; omega⟩
    · obtain rfl : s = n := by omega
      have hcy : cy = (List.range s).map fun (i : Nat) => cyc h (i : Int) := by
        have hc := HC.out
        rw [← HN.out] at hc
        have := hc.fin
        rw [HN.out] at this
        exact this
      have HCY := Lib.hid hcy
      clear hcy
      go_wp2_with fail
      go_ret
      refine ⟨⟨_, _, rfl, Nat.le_refl _, fun _ => ⟨_, rfl, ?_, ?_⟩⟩, HS.out.below⟩
      · rw [HNN.out]; omega
      · rw [← HCY.out]; exact HS.out.c
end Go.Proofs.YtmjmidgfdjcbfaaGreatDoor
namespace Go.Proofs.YtmjmidgfdjcbfaaGreatDoor
open Go.RowKit Go.Shelf Go.Lib
set_option linter.unusedVariables false

set_option maxHeartbeats 400000 in
theorem headless1_any (x : Int) (W : World) : Calls Tryz.prog 91 (#[.int .i64 x] ++ #[]) W fun e w' => e = .returned (.bool (!decide (x = -1))) ∧ Below W.heap.size W w' := by
  have hq : (!decide (x = -1)) = (x != -1) := by rw [Bool.eq_iff_iff]; simp
  rw [hq]
  clear hq
  go_enter Tryz.func91, Tryz.ntmps91
  go_wp2_with fail
  go_ret
  exact ⟨rfl, Below.refl _ _⟩
theorem str_empty (x : Bs) : ((⟨x.toArray⟩ : ByteArray).toList == ([] : List UInt8)) = decide (x = []) := by
  rw [Lib.toList_data, Bool.eq_iff_iff]
  simp

set_option maxHeartbeats 400000 in
theorem headless2_any (x : Bs) (W : World) : Calls Tryz.prog 92 (#[.string ⟨x.toArray⟩] ++ #[]) W fun e w' => e = .returned (.bool (!decide (x = []))) ∧ Below W.heap.size W w' := by
  have he := str_empty x
  rw [← he]
  obtain ⟨P, hP⟩ : ∃ s : ByteArray, (⟨x.toArray⟩ : ByteArray) = s := ⟨_, rfl⟩
  rw [hP]
  obtain ⟨q, hq⟩ : ∃ q, (P.toList == ([] : List UInt8)) = q := ⟨_, rfl⟩
  have hne : (P.toList != ([] : List UInt8)) = !q := by rw [← hq]; rfl
  rw [hq]
  clear he hP
  go_enter Tryz.func92, Tryz.ntmps92
  go_wp2_with fail
  go_ret
  exact ⟨by rw [← hq]; rfl, Below.refl _ _⟩
theorem all_any {α : Type} (p : α → Bool) (l : List α) : (!(l.any fun x => !p x)) = l.all p := by
  induction l with
  | nil => rfl
  | cons a l ih => rw [List.any_cons, List.all_cons, ← ih]; cases p a <;> simp

set_option maxRecDepth 100000 in
set_option maxHeartbeats 2000000 in
theorem headless_any {w : World} (s : Sv) {h : List Int} {r : Fs} (hh : Rows 1 EInt w s.vh h) (hr : Rows 1 EStr w s.vl r) (hl : h.length ≤ maxLen) (hl2 : r.length ≤ maxLen) :
    Calls Tryz.prog 66 #[.agg s.arr] w fun e w' => e = .returned (.bool (bare h r)) ∧ Below w.heap.size w w' := by
  have h1 := fun W (hb : Below w.heap.size w W) => containsFunc_int stays_int (hh.below stays_int hb) hl 91 #[] (enters_of Tryz.func91 (by kernel_rfl) rfl) (fun x => !decide (x = -1)) (by
    intro W' x u0 _ _ hE
    have hE : [u0] = [.int .i64 x] := hE
    cases hE
    exact headless1_any x W')
  have h2 := fun W (hb : Below w.heap.size w W) => containsFunc_str stays_str (hr.below stays_str hb) hl2 92 #[] (enters_of Tryz.func92 (by kernel_rfl) rfl) (fun x => !decide (x = [])) (by
    intro W' x u0 _ _ hE
    have hE : [u0] = [.string ⟨x.toArray⟩] := hE
    cases hE
    exact headless2_any x W')
  have hb : bare h r = ((!(h.any fun x => !decide (x = -1))) && !(r.any fun x => !decide (x = []))) := by
    unfold bare
    rw [all_any (fun x => decide (x = -1)) h, all_any (fun x => decide (x = [])) r]
  obtain ⟨q1, hq1⟩ : ∃ q, (h.any fun x => !decide (x = -1)) = q := ⟨_, rfl⟩
  obtain ⟨q2, hq2⟩ : ∃ q, (r.any fun x => !decide (x = [])) = q := ⟨_, rfl⟩
  rw [hq1, hq2] at hb
  simp only [hq1] at h1
  simp only [hq2] at h2
  rw [hb]
  obtain ⟨A, cap, hvh, -⟩ := hh.form
  obtain ⟨A2, cap2, hvl, -⟩ := hr.form
  obtain ⟨va, vt, vx, vr, vn, vh, vl⟩ := s
  simp only at hvh hvl h1 h2
  subst hvh hvl
  obtain ⟨n1, hn1⟩ : ∃ n, h.length = n := ⟨_, rfl⟩
  obtain ⟨n2, hn2⟩ : ∃ n, r.length = n := ⟨_, rfl⟩
  simp only [hn1] at h1
  simp only [hn2] at h2
  simp only [Sv.arr, hn1, hn2]
  obtain ⟨X, hX⟩ : ∃ X, w.alloc (.cells #[va, vt, vx, vr, vn, .slice A n1 cap, .slice A2 n2 cap2] 35) = X := ⟨_, rfl⟩
  have hbX : Below w.heap.size w X := by rw [← hX]; exact below_box w _
  obtain ⟨N0, hN0⟩ : ∃ N0, w.heap.size = N0 := ⟨_, rfl⟩
  have hR : X.heap[N0]? = some (.cells #[va, vt, vx, vr, vn, .slice A n1 cap, .slice A2 n2 cap2] 35 (0, 0)) := by rw [← hX, ← hN0]; exact block_new w _
  have g5 : X.cell? ⟨N0, 5, none⟩ = some (.slice A n1 cap) := cell_of hR rfl
  have HR := Lib.hid hR
  have HX := Lib.hid hX
  have HN0 := Lib.hid hN0
  have HBX := Lib.hid hbX
  have H1 := Lib.hid (h1 X hbX)
  have H2 := Lib.hid h2
  clear h1 h2 hq1 hq2 hb hX hbX hN0 hR hh hr hn1 hn2 hl hl2
  cases q1 with
  | true =>
    go_enter Tryz.func66, Tryz.ntmps66
    go_wp2_with fail
    rw [HX.out, HN0.out]
    go_wp2_with fail
    refine H1.out.mono ?_
    rintro e w1 ⟨rfl, hb1⟩
    have HB1 := Lib.hid (HBX.out.trans (hb1.mono HBX.out.size))
    clear hb1
    go_wp2_with fail
    go_ret
    exact ⟨rfl, HN0.out ▸ HB1.out⟩
  | false =>
    go_enter Tryz.func66, Tryz.ntmps66
    go_wp2_with fail
    rw [HX.out, HN0.out]
    go_wp2_with fail
    refine H1.out.mono ?_
    rintro e w1 ⟨rfl, hb1⟩
    have HB1 := Lib.hid (HBX.out.trans (hb1.mono HBX.out.size))
    have g6 : w1.cell? ⟨N0, 6, none⟩ = some (.slice A2 n2 cap2) := cell_of (block_below HR.out hb1 (Array.getElem?_eq_some_iff.1 HR.out).1) rfl
    clear hb1 g5
    go_wp2_with fail
    refine (H2.out _ HB1.out).mono ?_
    rintro e w2 ⟨rfl, hb2⟩
    have HB2 := Lib.hid (HB1.out.trans (hb2.mono HB1.out.size))
    clear hb2
    go_wp2_with fail
    go_ret
    exact ⟨rfl, HN0.out ▸ HB2.out⟩
/-- The marks of the cyclic tokens in memory. -/
def CycAt (W : World) (base : Nat) (yv : Value) (l : List Bool) : Prop := ∃ A cap, yv = .slice A l.length cap ∧ l.length ≤ cap ∧ (0 < l.length → ∃ b, A = some ⟨b, 0, none⟩ ∧ base ≤ b ∧ W.heap[b]? = some (.cells (boolRow l) 4 (0, 0)))
theorem CycAt.below {W W' : World} {base : Nat} {yv : Value} {l : List Bool} (h : CycAt W base yv l) (hb : Below W.heap.size W W') : CycAt W' base yv l := by
  obtain ⟨A, cap, h1, h2, h3⟩ := h
  refine ⟨A, cap, h1, h2, fun h0 => ?_⟩
  obtain ⟨b, e1, e2, e3⟩ := h3 h0
  exact ⟨b, e1, e2, block_below e3 hb (Array.getElem?_eq_some_iff.1 e3).1⟩
def cycL (h : List Int) : List Bool := (List.range h.length).map fun (i : Nat) => cyc h (i : Int)
theorem cycL_len (h : List Int) : (cycL h).length = h.length := by simp [cycL]
theorem heads_end {W w5 : World} {B N n cc z : Nat} {s : Sv} {o p y : Value} {cA : Option Addr} {L : List Bool} (hV : VAt w5 B s o p y) (hB : Below W.heap.size W w5) (hl : B < W.heap.size) (hz : N ≤ z) (hL : L.length = n) (hcl : n ≤ cc)
    (hcb : 0 < n → ∃ b, cA = some ⟨b, 0, none⟩ ∧ z ≤ b ∧ w5.heap[b]? = some (.cells (boolRow L) 4 (0, 0))) (hN : W.heap.size = N) :
    Below B W (w5.setCell ⟨B, 9, none⟩ (.slice cA n cc)) ∧ KeepP W (w5.setCell ⟨B, 9, none⟩ (.slice cA n cc)) ∧ VAt (w5.setCell ⟨B, 9, none⟩ (.slice cA n cc)) B s o p (.slice cA n cc) ∧ CycAt (w5.setCell ⟨B, 9, none⟩ (.slice cA n cc)) (B + 1) (.slice cA n cc) L := by
  refine ⟨(hB.mono (by omega)).trans ⟨rfl, rfl, rfl, by simp [World.setCell], fun k hk => Below.heap_setCell _ _ _ k (by show k ≠ B; omega)⟩, (keep_below hB).trans (keep_set hV), set_of hV _, cA, cc, by rw [hL], by rw [hL]; exact hcl, fun h0 => ?_⟩
  obtain ⟨b, e1, e2, e3⟩ := hcb (by omega)
  exact ⟨b, e1, by omega, block_other _ e3 (by omega)⟩
/-- What the check of the heads as a whole answers and leaves behind. -/
def HdsV (c : Cor) (s : Sv) (o p : Value) (B : Nat) (W : World) (r : Ending) (w' : World) : Prop :=
  r = .returned (.int .i64 (headsE c : Nat)) ∧ Below B W w' ∧ KeepP W w' ∧ (headsE c = 0 → ∃ yv, VAt w' B s o p yv ∧ CycAt w' (B + 1) yv (cycL c.heads))

set_option maxRecDepth 100000 in
set_option maxHeartbeats 4000000 in
theorem vHeads {c : Cor} {s : Sv} {o p y : Value} {B : Nat} {W : World} (hV : VAt W B s o p y) (h : CorAt W s c) (hl1 : c.heads.length ≤ maxLen) (hl2 : c.rels.length ≤ maxLen) (hl3 : c.toks.length ≤ 1000000) :
    Calls Tryz.prog 29 #[.pointer (some ⟨B, 0, none⟩)] W (HdsV c s o p B W) := by
  obtain ⟨c0, c1, c2, c3, c4, c5, c6, -, -, c9⟩ := hV.c
  have hBl := hV.lt
  have hhl := fun W' (hb : Below W.heap.size W W') => headless_any s (h.h.below stays_int hb) (h.l.below stays_str hb) hl1 hl2
  have hcy := fun (h6 : c.heads.length ≤ 1000000) W' (hb : Below W.heap.size W W') => cycles_any (h.h.below stays_int hb) h6
  obtain ⟨A, cap, hvh, -⟩ := h.h.form
  obtain ⟨A2, cap2, hvl, -⟩ := h.l.form
  obtain ⟨A3, cap3, hvt, -⟩ := h.t.form
  obtain ⟨Aa, ca, hva, -⟩ := h.a.form
  obtain ⟨Ax, cx, hvx, -⟩ := h.x.form
  obtain ⟨Ar, cr, hvr, -⟩ := h.r.form
  obtain ⟨An, cn, hvn, -⟩ := h.n.form
  have HVW := Lib.hid (fun W' (hb : Below W.heap.size W W') => hV.below hb)
  obtain ⟨va, vt, vx, vr, vn, vh, vl⟩ := s
  simp only at hvh hvl hvt hva hvx hvr hvn c0 c1 c2 c3 c4 c5 c6
  subst hvh hvl hvt hva hvx hvr hvn
  have hE : headsE c = if c.heads.length ≠ c.rels.length then 15 else if c.heads.length ≠ 0 ∧ c.heads.length ≠ c.toks.length then 15 else if c.heads.length ≠ 0 ∧ bare c.heads c.rels then 14 else 0 := rfl
  obtain ⟨r0, hr0⟩ : ∃ r0, headsE c = r0 := ⟨_, rfl⟩
  rw [hr0] at hE
  obtain ⟨bb, hbb⟩ : ∃ bb, bare c.heads c.rels = bb := ⟨_, rfl⟩
  rw [hbb] at hE
  simp only [hbb, Sv.arr] at hhl
  have hlen := cycL_len c.heads
  obtain ⟨L, hL⟩ : ∃ L, cycL c.heads = L := ⟨_, rfl⟩
  have hL' : ((List.range c.heads.length).map fun (i : Nat) => cyc c.heads (i : Int)) = L := hL
  simp only [hL'] at hcy
  have hgoal : HdsV c ⟨.slice Aa c.attrs.length ca, .slice A3 c.toks.length cap3, .slice Ax c.texts.length cx, .slice Ar c.regs.length cr, .slice An c.nodes.length cn, .slice A c.heads.length cap, .slice A2 c.rels.length cap2⟩ o p B W = fun r w' => r = .returned (.int .i64 (r0 : Nat)) ∧ Below B W w' ∧ KeepP W w' ∧ (r0 = 0 → ∃ yv, VAt w' B ⟨.slice Aa c.attrs.length ca, .slice A3 c.toks.length cap3, .slice Ax c.texts.length cx, .slice Ar c.regs.length cr, .slice An c.nodes.length cn, .slice A c.heads.length cap, .slice A2 c.rels.length cap2⟩ o p yv ∧ CycAt w' (B + 1) yv L) := by
    funext r w'
    unfold HdsV
    rw [hr0, hL]
  rw [hgoal]
  rw [hL] at hlen
  obtain ⟨n1, hn1⟩ : ∃ n, c.heads.length = n := ⟨_, rfl⟩
  obtain ⟨n2, hn2⟩ : ∃ n, c.rels.length = n := ⟨_, rfl⟩
  obtain ⟨n3, hn3⟩ : ∃ n, c.toks.length = n := ⟨_, rfl⟩
  obtain ⟨n4, hn4⟩ : ∃ n, c.attrs.length = n := ⟨_, rfl⟩
  obtain ⟨n5, hn5⟩ : ∃ n, c.texts.length = n := ⟨_, rfl⟩
  obtain ⟨n6, hn6⟩ : ∃ n, c.regs.length = n := ⟨_, rfl⟩
  obtain ⟨n7, hn7⟩ : ∃ n, c.nodes.length = n := ⟨_, rfl⟩
  simp only [hn1, hn2, hn3, hn4, hn5, hn6, hn7] at *
  obtain ⟨X, hX⟩ : ∃ X, W.alloc (.cells #[.slice Aa n4 ca, .slice A3 n3 cap3, .slice Ax n5 cx, .slice Ar n6 cr, .slice An n7 cn, .slice A n1 cap, .slice A2 n2 cap2] 35) = X := ⟨_, rfl⟩
  have hbX : Below W.heap.size W X := by rw [← hX]; exact below_box W _
  obtain ⟨N0, hN0⟩ : ∃ N0, W.heap.size = N0 := ⟨_, rfl⟩
  have hR : X.heap[N0]? = some (.cells #[.slice Aa n4 ca, .slice A3 n3 cap3, .slice Ax n5 cx, .slice Ar n6 cr, .slice An n7 cn, .slice A n1 cap, .slice A2 n2 cap2] 35 (0, 0)) := by rw [← hX, ← hN0]; exact block_new W _
  have g0 : X.cell? ⟨N0, 0, none⟩ = some (.slice Aa n4 ca) := cell_of hR rfl
  have g1 : X.cell? ⟨N0, 1, none⟩ = some (.slice A3 n3 cap3) := cell_of hR rfl
  have g2 : X.cell? ⟨N0, 2, none⟩ = some (.slice Ax n5 cx) := cell_of hR rfl
  have g3 : X.cell? ⟨N0, 3, none⟩ = some (.slice Ar n6 cr) := cell_of hR rfl
  have g4 : X.cell? ⟨N0, 4, none⟩ = some (.slice An n7 cn) := cell_of hR rfl
  have g5 : X.cell? ⟨N0, 5, none⟩ = some (.slice A n1 cap) := cell_of hR rfl
  have g6 : X.cell? ⟨N0, 6, none⟩ = some (.slice A2 n2 cap2) := cell_of hR rfl
  have HR := Lib.hid hR
  have HX := Lib.hid hX
  have HN0 := Lib.hid hN0
  have HBX := Lib.hid hbX
  have HHL := Lib.hid hhl
  have HCY := Lib.hid hcy
  have HE := Lib.hid hE
  have HBL := Lib.hid hBl
  have HLEN := Lib.hid hlen
  clear hhl hcy hE hX hbX hN0 hR h hV hgoal hL hL' hr0 hbb hn1 hn2 hn3 hn4 hn5 hn6 hn7 hlen c9 hBl
  have hfin : ∀ w4 : World, Below W.heap.size W w4 → r0 = 0 → True := fun _ _ _ => trivial
  clear hfin
  by_cases h1 : n1 = n2
  · subst h1
    by_cases h2 : n1 = 0
    · subst h2
      have HH : Hid (r0 = 0) := Lib.hid (by rw [HE.out]; simp)
      go_enter Tryz.func29, Tryz.ntmps29
      go_wp2_with fail
      rw [HX.out, HN0.out]
      clear c0 c1 c2 c3 c4 c5 c6
      go_wp2_with fail
      refine (HCY.out (by omega) X HBX.out).mono ?_
      rintro e w5 ⟨⟨cA, cc, rfl, hcl, hcb⟩, hb5⟩
      have hB5 := HBX.out.trans (hb5.mono HBX.out.size)
      have hV5 := HVW.out w5 hB5
      have e9 : w5.cell? ⟨B, 9, none⟩ = some y := cell_of hV5 rfl
      have f9 : w5.frozen? ⟨B, 9, none⟩ = false := frozen_of hV5
      have HF := Lib.hid (heads_end hV5 hB5 HBL.out HBX.out.size HLEN.out hcl hcb rfl)
      clear hb5 hB5 hV5 hcb
      go_wp2_with fail
      go_ret
      exact ⟨by rw [HH.out]; rfl, HF.out.1, HF.out.2.1, fun _ => ⟨_, HF.out.2.2⟩⟩
    · have h2i : (0 : Int) < (n1 : Int) := by omega
      by_cases h3 : n1 = n3
      · subst h3
        cases bb with
        | true =>
          have HH : Hid (r0 = 14) := Lib.hid (by rw [HE.out]; simp [h2])
          clear h2
          go_enter Tryz.func29, Tryz.ntmps29
          go_wp2_with fail
          rw [HX.out, HN0.out]
          clear c0 c1 c2 c3 c4 c5 c6
          go_wp2_with fail
          refine (HHL.out X HBX.out).mono ?_
          rintro e w4 ⟨rfl, hb4⟩
          have HB4 := Lib.hid (HBX.out.trans (hb4.mono HBX.out.size))
          clear hb4
          go_wp2_with fail
          go_ret
          exact ⟨by rw [HH.out]; rfl, HB4.out.mono (by have := HN0.out; have := HBL.out; omega), keep_below HB4.out, fun h => by rw [HH.out] at h; cases h⟩
        | false =>
          have HH : Hid (r0 = 0) := Lib.hid (by rw [HE.out]; simp)
          clear h2
          go_enter Tryz.func29, Tryz.ntmps29
          go_wp2_with fail
          rw [HX.out, HN0.out]
          clear c0 c1 c2 c3 c4 c5 c6
          go_wp2_with fail
          refine (HHL.out X HBX.out).mono ?_
          rintro e w4 ⟨rfl, hb4⟩
          have HB4 := Lib.hid (HBX.out.trans (hb4.mono HBX.out.size))
          have g5 : w4.cell? ⟨N0, 5, none⟩ = some (.slice A n1 cap) := cell_of (block_below HR.out hb4 (Array.getElem?_eq_some_iff.1 HR.out).1) rfl
          clear hb4 g0 g1 g2 g3 g4 g6
          go_wp2_with fail
          refine (HCY.out (by omega) w4 HB4.out).mono ?_
          rintro e w5 ⟨⟨cA, cc, rfl, hcl, hcb⟩, hb5⟩
          have hB5 := HB4.out.trans (hb5.mono HB4.out.size)
          have hV5 := HVW.out w5 hB5
          have e9 : w5.cell? ⟨B, 9, none⟩ = some y := cell_of hV5 rfl
          have f9 : w5.frozen? ⟨B, 9, none⟩ = false := frozen_of hV5
          have HF := Lib.hid (heads_end hV5 hB5 HBL.out HB4.out.size HLEN.out hcl hcb rfl)
          clear hb5 hB5 hV5 hcb
          go_wp2_with fail
          go_ret
          exact ⟨by rw [HH.out]; rfl, HF.out.1, HF.out.2.1, fun _ => ⟨_, HF.out.2.2⟩⟩
      · have HH : Hid (r0 = 15) := Lib.hid (by rw [HE.out]; simp [h2, h3])
        have h3i : ((n1 : Int) != (n3 : Int)) = true := by simp; omega
        clear h3 h2
        go_enter Tryz.func29, Tryz.ntmps29
        go_wp2_with fail
        rw [HX.out, HN0.out]
        clear c0 c1 c2 c3 c4 c5 c6
        go_wp2_with fail
        go_ret
        exact ⟨by rw [HH.out]; rfl, HBX.out.mono (by have := HN0.out; have := HBL.out; omega), keep_below HBX.out, fun h => by rw [HH.out] at h; cases h⟩
  · have HH : Hid (r0 = 15) := Lib.hid (by rw [HE.out, if_pos h1])
    have h1i : ((n1 : Int) != (n2 : Int)) = true := by simp; omega
    clear h1
    go_enter Tryz.func29, Tryz.ntmps29
    go_wp2_with fail
    rw [HX.out, HN0.out]
    clear c0 c1 c2 c3 c4 c5 c6
    go_wp2_with fail
    go_ret
    exact ⟨by rw [HH.out]; rfl, HBX.out.mono (by have := HN0.out; have := HBL.out; omega), keep_below HBX.out, fun h => by rw [HH.out] at h; cases h⟩
end Go.Proofs.YtmjmidgfdjcbfaaGreatDoor
namespace Go.Proofs.YtmjmidgfdjcbfaaGreatDoor
open Go.RowKit Go.Shelf Go.Lib
set_option linter.unusedVariables false

set_option maxRecDepth 100000 in
set_option maxHeartbeats 8000000 in
theorem vHead {c : Cor} {s : Sv} {o p yv : Value} {B : Nat} {W : World} (hV : VAt W B s o p yv) (h : CorAt W s c) (hl2 : c.texts.length ≤ maxLen) (hl1 : c.heads.length ≤ 1000000) (hlr : c.rels.length = c.heads.length)
    (hs : ∀ r ∈ c.rels, r.length ≤ maxLen) (i : Nat) (hi : i < c.heads.length) (base : Nat) (hcy : CycAt W base yv (cycL c.heads)) :
    Calls Tryz.prog 30 #[.pointer (some ⟨B, 0, none⟩), .int .i64 (i : Int)] W fun r w' => r = .returned (.int .i64 (headE c i : Nat)) ∧ Below W.heap.size W w' := by
  obtain ⟨c0, c1, c2, c3, c4, c5, c6, -, -, c9⟩ := hV.c
  have hBl := hV.lt
  obtain ⟨x, hx⟩ : ∃ x, c.heads[i]? = some x := ⟨_, List.getElem?_eq_getElem hi⟩
  obtain ⟨rl, hrl⟩ : ∃ rl, c.rels[i]? = some rl := ⟨_, List.getElem?_eq_getElem (by omega)⟩
  have hae : headE c i = if x ≠ -1 ∧ textAt c x ≠ textAt c i then 8 else if rl ≠ [] ∧ nameB rl = false then 4 else if cyc c.heads i then 12 else 0 := by unfold headE; rw [hx, hrl]
  rw [hae]
  have hta := fun W' (hb : Below W.heap.size W W') pos => textAt_any s (h.x.below stays_ex hb) hl2 pos
  have htx : ∀ pos, findZ (fun t : Ex => decide (t.b ≤ pos) && decide (pos < t.e)) c.texts = textAt c pos := fun _ => rfl
  simp only [htx] at hta
  have hcl := cycL_len c.heads
  have hcg : (cycL c.heads).getD i false = cyc c.heads i := by
    unfold cycL
    rw [List.getD_eq_getElem?_getD, List.getElem?_map, List.getElem?_range hi]
    rfl
  obtain ⟨cA, cc, hyv, hcc, hcb⟩ := hcy
  obtain ⟨cb, hcA, -, hcblk⟩ := hcb (by rw [hcl]; omega)
  subst hcA
  have kc : W.cell? ⟨cb, i, none⟩ = some (.bool (cyc c.heads i)) := by rw [← hcg]; exact cell_of hcblk (boolRow_get (by rw [hcl]; exact hi))
  have hcbl := (Array.getElem?_eq_some_iff.1 hcblk).1
  rw [hcl] at hyv hcc
  subst hyv
  obtain ⟨A, cap, hvh, hc1⟩ := h.h.form
  obtain ⟨A2, cap2, hvl, hc2⟩ := h.l.form
  obtain ⟨Ax, cx, hvx, -⟩ := h.x.form
  obtain ⟨Aa, ca, hva, -⟩ := h.a.form
  obtain ⟨At, ct, hvt, -⟩ := h.t.form
  obtain ⟨Ar, cr, hvr, -⟩ := h.r.form
  obtain ⟨An, cn, hvn, -⟩ := h.n.form
  have hrh := h.h
  have hrr := h.l
  rw [hvh] at hrh
  rw [hvl] at hrr
  obtain ⟨b1, o1, rfl, -, hj1⟩ := at_int hrh (by omega)
  obtain ⟨b2, o2, rfl, -, hj2⟩ := at_str hrr (by omega)
  have k1 := hj1 i x hx
  have k2 := hj2 i rl hrl
  obtain ⟨P, hP⟩ : ∃ s : ByteArray, (⟨rl.toArray⟩ : ByteArray) = s := ⟨_, rfl⟩
  have hPl : P.data.toList = rl := by rw [← hP]
  have hvn1 := fun W => validName_any P (by rw [Lib.size_eq, hPl]; exact hs rl (List.mem_of_getElem? hrl)) W
  rw [hPl] at hvn1
  have hemp := str_empty rl
  rw [hP] at k2 hemp
  obtain ⟨em, hem⟩ : ∃ em, decide (rl = []) = em := ⟨_, rfl⟩
  rw [hem] at hemp
  have hemp2 : (P.toList != ([] : List UInt8)) = !em := by rw [← hemp]; rfl
  obtain ⟨a, ha⟩ : ∃ a, nameB rl = a := ⟨_, rfl⟩
  obtain ⟨cv, hcv⟩ : ∃ cv, cyc c.heads i = cv := ⟨_, rfl⟩
  rw [hcv] at kc
  rw [ha] at hvn1
  have hcond2 : (if rl ≠ [] ∧ nameB rl = false then (4 : Nat) else if cyc c.heads i then 12 else 0) = if (!em && !a) = true then 4 else if cv then 12 else 0 := by
    rw [hcv, ha]
    have : (rl ≠ [] ∧ a = false) ↔ (!em && !a) = true := by rw [← hem]; simp
    by_cases hh : rl ≠ [] ∧ a = false
    · rw [if_pos hh, if_pos (this.1 hh)]
    · rw [if_neg hh, if_neg (fun e => hh (this.2 e))]
  obtain ⟨r2, hr2⟩ : ∃ r2, (if rl ≠ [] ∧ nameB rl = false then (4 : Nat) else if cyc c.heads i then 12 else 0) = r2 := ⟨_, rfl⟩
  rw [hr2] at hcond2 ⊢
  obtain ⟨t1, ht1⟩ : ∃ t, textAt c x = t := ⟨_, rfl⟩
  obtain ⟨t2, ht2⟩ : ∃ t, textAt c (i : Int) = t := ⟨_, rfl⟩
  have hta1 := fun W' hb => hta W' hb x
  have hta2 := fun W' hb => hta W' hb (i : Int)
  rw [ht1] at hta1 ⊢
  rw [ht2] at hta2 ⊢
  obtain ⟨va, vt, vx, vr, vn, vh, vl⟩ := s
  simp only at hvh hvl hvx hva hvt hvr hvn c0 c1 c2 c3 c4 c5 c6
  subst hvh hvl hvx hva hvt hvr hvn
  simp only [Sv.arr] at hta1 hta2
  obtain ⟨n1, hn1⟩ : ∃ n, c.heads.length = n := ⟨_, rfl⟩
  obtain ⟨n3, hn3⟩ : ∃ n, c.toks.length = n := ⟨_, rfl⟩
  obtain ⟨n4, hn4⟩ : ∃ n, c.attrs.length = n := ⟨_, rfl⟩
  obtain ⟨n5, hn5⟩ : ∃ n, c.texts.length = n := ⟨_, rfl⟩
  obtain ⟨n6, hn6⟩ : ∃ n, c.regs.length = n := ⟨_, rfl⟩
  obtain ⟨n7, hn7⟩ : ∃ n, c.nodes.length = n := ⟨_, rfl⟩
  rw [hlr] at c6
  simp only [hlr, hn1, hn3, hn4, hn5, hn6, hn7] at c0 c1 c2 c3 c4 c5 c6 c9 hta1 hta2 hcc hc1 hc2 hi
  have hlt : (i : Int) < (n1 : Int) := by omega
  have HC := Lib.hid (fun W' (hb : Below W.heap.size W W') => And.intro ((hb.cell (p := ⟨B, 0, none⟩) hBl).trans c0) (And.intro ((hb.cell (p := ⟨B, 1, none⟩) hBl).trans c1) (And.intro ((hb.cell (p := ⟨B, 2, none⟩) hBl).trans c2) (And.intro ((hb.cell (p := ⟨B, 3, none⟩) hBl).trans c3) (And.intro ((hb.cell (p := ⟨B, 4, none⟩) hBl).trans c4) (And.intro ((hb.cell (p := ⟨B, 5, none⟩) hBl).trans c5) ((hb.cell (p := ⟨B, 6, none⟩) hBl).trans c6)))))))
  have HC9 := Lib.hid (fun W' (hb : Below W.heap.size W W') => And.intro ((hb.cell (p := ⟨B, 9, none⟩) hBl).trans c9) ((hb.cell (p := ⟨cb, i, none⟩) hcbl).trans kc))
  have HT1 := Lib.hid hta1
  have HT2 := Lib.hid hta2
  have HVN := Lib.hid hvn1
  have HR2 := Lib.hid hcond2
  clear hae hta htx hcl hcg hcb hcblk hcbl h hV hrh hrr hj1 hj2 hP hPl hvn1 hem ha hcv hcond2 hr2 hta1 hta2 ht1 ht2 hn1 hn3 hn4 hn5 hn6 hn7 hx hrl hlr hs hl2 hcc hc1 hc2 hBl
  have hW0 := Lib.hid (Below.refl W.heap.size W)
  by_cases hx1 : x = -1
  · subst hx1
    have hr0 : Hid ((if ((-1 : Int) ≠ -1 ∧ t1 ≠ t2) then 8 else r2) = r2) := Lib.hid (by rw [if_neg (fun h => h.1 rfl)])
    rw [hr0.out]
    go_enter Tryz.func30, Tryz.ntmps30
    go_wp2_with fail
    go_quiet (fail)
    obtain ⟨w2, hw2⟩ : ∃ w2, W.drewN nq = w2 := ⟨_, rfl⟩
    have HB2 := Lib.hid (show Below W.heap.size W w2 from hw2 ▸ below_drewN hW0.out _)
    rw [hw2]
    clear hw2 c0 c1 c2 c3 c4 c5 c6 k1 k2 kc c9
    go_wp2_with fail
    go_quiet (fail)
    obtain ⟨w4, hw4⟩ : ∃ w4, w2.drewN nq = w4 := ⟨_, rfl⟩
    have HB4 := Lib.hid (show Below W.heap.size W w4 from hw4 ▸ below_drewN HB2.out _)
    rw [hw4]
    clear hw4
    obtain ⟨c9, kc⟩ := HC9.out w4 HB4.out
    cases em with
    | true =>
      have HRR : Hid (r2 = if cv then 12 else 0) := Lib.hid (by rw [HR2.out]; simp)
      cases cv with
      | true =>
        go_wp2_with fail
        go_ret
        exact ⟨by rw [HRR.out]; rfl, HB4.out⟩
      | false =>
        go_wp2_with fail
        go_ret
        exact ⟨by rw [HRR.out]; rfl, HB4.out⟩
    | false =>
      cases a with
      | false =>
        have HRR : Hid (r2 = 4) := Lib.hid (by rw [HR2.out]; rfl)
        go_wp2_with fail
        refine (HVN.out _).mono ?_
        rintro e w5 ⟨rfl, rfl⟩
        go_wp2_with fail
        go_ret
        exact ⟨by rw [HRR.out]; rfl, HB4.out⟩
      | true =>
        have HRR : Hid (r2 = if cv then 12 else 0) := Lib.hid (by rw [HR2.out]; simp)
        cases cv with
        | true =>
          go_wp2_with fail
          refine (HVN.out _).mono ?_
          rintro e w5 ⟨rfl, rfl⟩
          go_wp2_with fail
          go_ret
          exact ⟨by rw [HRR.out]; rfl, HB4.out⟩
        | false =>
          go_wp2_with fail
          refine (HVN.out _).mono ?_
          rintro e w5 ⟨rfl, rfl⟩
          go_wp2_with fail
          go_ret
          exact ⟨by rw [HRR.out]; rfl, HB4.out⟩
  · have hx2 : (x != -1) = true := by simp [hx1]
    obtain ⟨q, hq⟩ : ∃ q, (t1 != t2) = q := ⟨_, rfl⟩
    have hr0 : Hid ((if (x ≠ -1 ∧ t1 ≠ t2) then 8 else r2) = if q then 8 else r2) := Lib.hid (by
      by_cases e : t1 = t2
      · rw [if_neg (fun h => h.2 e), if_neg (by rw [← hq]; simp [e])]
      · rw [if_pos ⟨hx1, e⟩, if_pos (by rw [← hq]; simp [e])])
    rw [hr0.out]
    obtain ⟨r1, hr1⟩ : ∃ r1, (if q then 8 else r2) = r1 := ⟨_, rfl⟩
    rw [hr1]
    have HQ := Lib.hid hr1
    clear hr0 hx1 hr1
    go_enter Tryz.func30, Tryz.ntmps30
    go_wp2_with fail
    go_quiet (fail)
    obtain ⟨w2, hw2⟩ : ∃ w2, W.drewN nq = w2 := ⟨_, rfl⟩
    have HB2 := Lib.hid (show Below W.heap.size W w2 from hw2 ▸ below_drewN hW0.out _)
    rw [hw2]
    clear hw2 c0 c1 c2 c3 c4 c5 c6 k1 k2 kc c9
    obtain ⟨c0, c1, c2, c3, c4, c5, c6⟩ := HC.out w2 HB2.out
    have HBD : Hid (Below W.heap.size W w2.drew) := Lib.hid HB2.out.drew
    go_wp2_with fail
    go_region_held3 (fun w' => w'.cell? ⟨B, 0, none⟩ = some (.slice Aa n4 ca) ∧ w'.cell? ⟨B, 1, none⟩ = some (.slice At n3 ct) ∧ w'.cell? ⟨B, 2, none⟩ = some (.slice Ax n5 cx) ∧ w'.cell? ⟨B, 3, none⟩ = some (.slice Ar n6 cr) ∧ w'.cell? ⟨B, 4, none⟩ = some (.slice An n7 cn) ∧ w'.cell? ⟨B, 5, none⟩ = some (.slice (some ⟨b1, o1, none⟩) n1 cap) ∧ w'.cell? ⟨B, 6, none⟩ = some (.slice (some ⟨b2, o2, none⟩) n1 cap2))
      (first
        | go_keep
        | (exact HC.out _ ((HBD.out.trans (hb3.mono HBD.out.size)).trans (hb4.mono (HBD.out.trans (hb3.mono HBD.out.size)).size)))
        | (exact HC.out _ (HBD.out.trans (hb3.mono HBD.out.size)))
        | fail)
      ((first
        | (go_at_call 68; (with_reducible refine (HT1.out _ HBD.out).mono ?_); rintro e w3 ⟨rfl, hb3⟩)
        | (go_at_call 68; (with_reducible refine (HT2.out _ (HBD.out.trans (hb3.mono HBD.out.size))).mono ?_); rintro e w4 ⟨rfl, hb4⟩)
        | fail))
    have HB4 := Lib.hid ((HBD.out.trans (hb3.mono HBD.out.size)).trans (hb4.mono (HBD.out.trans (hb3.mono HBD.out.size)).size))
    clear hb3 hb4 c0 c1 c2 c3 c4 c5 c6
    cases q with
    | true =>
      have HR1 : Hid (r1 = 8) := Lib.hid (by rw [← HQ.out]; rfl)
      go_wp2_with fail
      go_ret
      exact ⟨by rw [HR1.out]; rfl, HB4.out⟩
    | false =>
      have HR1 : Hid (r1 = r2) := Lib.hid (by rw [← HQ.out]; rfl)
      obtain ⟨c9, kc⟩ := HC9.out w4 HB4.out
      cases em with
      | true =>
        have HRR : Hid (r2 = if cv then 12 else 0) := Lib.hid (by rw [HR2.out]; simp)
        cases cv with
        | true =>
          go_wp2_with fail
          go_ret
          exact ⟨by rw [HR1.out, HRR.out]; rfl, HB4.out⟩
        | false =>
          go_wp2_with fail
          go_ret
          exact ⟨by rw [HR1.out, HRR.out]; rfl, HB4.out⟩
      | false =>
        cases a with
        | false =>
          have HRR : Hid (r2 = 4) := Lib.hid (by rw [HR2.out]; rfl)
          go_wp2_with fail
          refine (HVN.out _).mono ?_
          rintro e w5 ⟨rfl, rfl⟩
          go_wp2_with fail
          go_ret
          exact ⟨by rw [HR1.out, HRR.out]; rfl, HB4.out⟩
        | true =>
          have HRR : Hid (r2 = if cv then 12 else 0) := Lib.hid (by rw [HR2.out]; simp)
          cases cv with
          | true =>
            go_wp2_with fail
            refine (HVN.out _).mono ?_
            rintro e w5 ⟨rfl, rfl⟩
            go_wp2_with fail
            go_ret
            exact ⟨by rw [HR1.out, HRR.out]; rfl, HB4.out⟩
          | false =>
            go_wp2_with fail
            refine (HVN.out _).mono ?_
            rintro e w5 ⟨rfl, rfl⟩
            go_wp2_with fail
            go_ret
            exact ⟨by rw [HR1.out, HRR.out]; rfl, HB4.out⟩
end Go.Proofs.YtmjmidgfdjcbfaaGreatDoor
