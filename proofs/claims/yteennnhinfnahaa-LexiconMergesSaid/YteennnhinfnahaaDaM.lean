/-
  THE PLAIN MATHEMATICS of package depend, of no program: cycles, the removal of tokens without dependents, ways, what connects two tokens, projective heads.
-/
import Derived.Test.YteennnhinfnahaaProg
namespace Go.Proofs.Yteennnhinfnahaa

/-- The first place at which p holds, or -1. -/
def findZ {α : Type} (p : α → Bool) (l : List α) : Int := match l.findIdx? p with | none => -1 | some i => (i : Int)
/-- One step by heads, from one token to another. -/
def stN (h : List Int) (i : Nat) : Option Nat := match h[i]? with
  | none => none
  | some x => if 0 ≤ x ∧ x < h.length then some x.toNat else none
def itN (h : List Int) : Nat → Nat → Option Nat
  | 0, i => some i
  | k + 1, i => (stN h i).bind (itN h k)
theorem stN_lt {h : List Int} {i j : Nat} (e : stN h i = some j) : i < h.length ∧ j < h.length ∧ h[i]? = some (j : Int) := by
  unfold stN at e
  cases hx : h[i]? with
  | none => rw [hx] at e; cases e
  | some x =>
    rw [hx] at e
    simp only at e
    by_cases hr : 0 ≤ x ∧ x < h.length
    · rw [if_pos hr] at e
      injection e with e
      subst e
      refine ⟨(List.getElem?_eq_some_iff.1 hx).1, by omega, ?_⟩
      rw [Int.toNat_of_nonneg hr.1]
    · rw [if_neg hr] at e; cases e
theorem stN_of {h : List Int} {i j : Nat} (e : h[i]? = some (j : Int)) (hj : j < h.length) : stN h i = some j := by
  unfold stN
  rw [e]
  simp only
  rw [if_pos (by omega), Int.toNat_natCast]
theorem stN_none {h : List Int} {i : Nat} {x : Int} (e : h[i]? = some x) (hx : ¬ (0 ≤ x ∧ x < h.length)) : stN h i = none := by
  unfold stN
  rw [e]
  simp only
  rw [if_neg hx]
theorem itN_add (h : List Int) : ∀ (a b i : Nat), itN h (a + b) i = (itN h a i).bind (itN h b)
  | 0, b, i => by rw [Nat.zero_add]; rfl
  | a + 1, b, i => by
    rw [Nat.succ_add]
    show (stN h i).bind (itN h (a + b)) = ((stN h i).bind (itN h a)).bind (itN h b)
    cases stN h i with
    | none => rfl
    | some j => exact itN_add h a b j
theorem itN_one (h : List Int) (i : Nat) : itN h 1 i = stN h i := by
  show (stN h i).bind (itN h 0) = stN h i
  cases stN h i <;> rfl
theorem itN_snoc {h : List Int} {k i t : Nat} (e : itN h k i = some t) : itN h (k + 1) i = stN h t := by
  rw [itN_add, e, ← itN_one]
  rfl
def cycP (h : List Int) (i : Nat) : Prop := ∃ k, 0 < k ∧ itN h k i = some i
theorem itN_lt {h : List Int} : ∀ {k i j : Nat}, 0 < k → itN h k i = some j → i < h.length ∧ j < h.length
  | k + 1, i, j, _, e => by
    have e : (stN h i).bind (itN h k) = some j := e
    cases hs : stN h i with
    | none => rw [hs] at e; cases e
    | some t =>
      rw [hs] at e
      obtain ⟨h1, h2, _⟩ := stN_lt hs
      refine ⟨h1, ?_⟩
      by_cases hk : k = 0
      · subst hk
        have e : some t = some j := e
        injection e with e
        omega
      · exact (itN_lt (k := k) (by omega) e).2
theorem nodup_le : ∀ (n : Nat) (l : List Nat), l.Nodup → (∀ x ∈ l, x < n) → l.length ≤ n
  | 0, l, _, h => by
    cases l with
    | nil => exact Nat.le_refl _
    | cons a r => exact absurd (h a (List.mem_cons_self)) (by omega)
  | n + 1, l, hd, h => by
    have h1 := nodup_le n (l.erase n) (hd.erase n) (fun x hx => by
      have h2 := (hd.mem_erase_iff).1 hx
      have := h x h2.2
      have := h2.1
      omega)
    by_cases hn : n ∈ l
    · rw [List.length_erase_of_mem hn] at h1; omega
    · rw [List.erase_of_not_mem hn] at h1; omega
/-- A way that returns, returns within as many steps as there are tokens. -/
theorem cyc_small {h : List Int} {i : Nat} (hc : cycP h i) : ∃ k, 0 < k ∧ k ≤ h.length ∧ itN h k i = some i := by
  have key : ∀ m k, k ≤ m → 0 < k → itN h k i = some i → ∃ k, 0 < k ∧ k ≤ h.length ∧ itN h k i = some i := by
    intro m
    induction m with
    | zero => intro k h1 h2; omega
    | succ m ih =>
      intro k hk h0 he
      by_cases hsm : ∃ j, 0 < j ∧ j < k ∧ itN h j i = some i
      · obtain ⟨j, h1, h2, h3⟩ := hsm
        exact ih j (by omega) h1 h3
      · refine ⟨k, h0, ?_, he⟩
        -- the first k places are apart
        have hall : ∀ j, j < k → ∃ t, itN h j i = some t := fun j hj => by
          have e := itN_add h j (k - j) i
          rw [show j + (k - j) = k by omega, he] at e
          cases ht : itN h j i with
          | none => rw [ht] at e; cases e
          | some t => exact ⟨t, rfl⟩
        let f := fun j => (itN h j i).getD 0
        have hf : ∀ j, j < k → itN h j i = some (f j) := fun j hj => by
          obtain ⟨t, ht⟩ := hall j hj
          show itN h j i = some ((itN h j i).getD 0)
          rw [ht]; rfl
        have hinj : ∀ a b, a < b → b < k → f a ≠ f b := fun a b hab hb e => by
          refine hsm ⟨k - b + a, by omega, by omega, ?_⟩
          have e1 := itN_add h b (k - b) i
          rw [show b + (k - b) = k by omega, he, hf b hb] at e1
          rw [show k - b + a = a + (k - b) by omega, itN_add, hf a (by omega), e]
          exact e1.symm
        have hnd : ((List.range k).map f).Nodup := by
          refine List.pairwise_iff_getElem.2 fun a b ha hb hab => ?_
          simp at ha hb
          simpa using hinj a b hab hb
        have hlt : ∀ x ∈ (List.range k).map f, x < h.length := fun x hx => by
          obtain ⟨j, hj, rfl⟩ := List.mem_map.1 hx
          have hj := List.mem_range.1 hj
          by_cases hj0 : j = 0
          · subst hj0
            have e1 := hf 0 h0
            have e1 : some i = some (f 0) := e1
            injection e1 with e1
            have := (itN_lt h0 he).1
            omega
          · exact (itN_lt (by omega) (hf j hj)).2
        have := nodup_le h.length _ hnd hlt
        simpa using this
  obtain ⟨k, h0, he⟩ := hc
  exact key k k (Nat.le_refl _) h0 he
/-- From a place of a cycle the way goes on for ever, and comes back from everywhere. -/
theorem cyc_back {h : List Int} {i k : Nat} (h0 : 0 < k) (he : itN h k i = some i) : ∀ m, itN h (k * m) i = some i
  | 0 => rfl
  | m + 1 => by rw [Nat.mul_succ, itN_add, cyc_back h0 he m]; exact he
theorem cyc_total {h : List Int} {i : Nat} (hc : cycP h i) (m : Nat) : ∃ t, itN h m i = some t ∧ ∃ q, itN h q t = some i := by
  obtain ⟨k, h0, he⟩ := hc
  have hb := cyc_back h0 he m
  have hm : m ≤ k * m := Nat.le_mul_of_pos_left m h0
  have e := itN_add h m (k * m - m) i
  rw [show m + (k * m - m) = k * m by omega, hb] at e
  cases ht : itN h m i with
  | none => rw [ht] at e; cases e
  | some t => rw [ht] at e; exact ⟨t, rfl, _, e.symm⟩
theorem cyc_on {h : List Int} {i m t : Nat} (hc : cycP h i) (ht : itN h m i = some t) : cycP h t := by
  obtain ⟨k, h0, he⟩ := hc
  refine ⟨k, h0, ?_⟩
  have e1 := itN_add h m k i
  have e2 := itN_add h k m i
  rw [he] at e2
  rw [show k + m = m + k by omega] at e2
  rw [ht] at e1
  exact e1.symm.trans (e2.trans ht)

/-- Does the way from a token lead back to it? -/
def cyc (h : List Int) (i : Nat) : Bool := (List.range h.length).any fun k => decide (itN h (k + 1) i = some i)
theorem cyc_iff (h : List Int) (i : Nat) : cyc h i = true ↔ cycP h i := by
  unfold cyc
  rw [List.any_eq_true]
  constructor
  · rintro ⟨k, _, hk⟩
    exact ⟨k + 1, by omega, of_decide_eq_true hk⟩
  · intro hc
    obtain ⟨k, h1, h2, h3⟩ := cyc_small hc
    refine ⟨k - 1, List.mem_range.2 (by omega), decide_eq_true ?_⟩
    rw [show k - 1 + 1 = k by omega]
    exact h3
theorem cyc_iff2 (h : List Int) (i : Nat) : cyc h i = true ↔ ∃ k, k < h.length ∧ itN h (k + 1) i = some i := by
  unfold cyc
  rw [List.any_eq_true]
  constructor
  · rintro ⟨k, hk, e⟩
    exact ⟨k, List.mem_range.1 hk, of_decide_eq_true e⟩
  · rintro ⟨k, hk, e⟩
    exact ⟨k, List.mem_range.2 hk, decide_eq_true e⟩
/-- An element that is neither -1 nor an index. -/
def outH (n : Nat) (x : Int) : Bool := !(decide (x = -1) || (decide (0 ≤ x) && decide (x < n)))
theorem outH_false {n : Nat} {x : Int} : outH n x = false ↔ x = -1 ∨ (0 ≤ x ∧ x < n) := by
  unfold outH
  simp only [Bool.not_eq_false', Bool.or_eq_true, Bool.and_eq_true, decide_eq_true_iff]
def checkH (h : List Int) : Int × Int :=
  if 4096 < h.length then (0, 2)
  else if 0 ≤ findZ (outH h.length) h then (findZ (outH h.length) h, 8)
  else if 0 ≤ findZ (cyc h) (List.range h.length) then (findZ (cyc h) (List.range h.length), 12)
  else (0, 0)
def okH (h : List Int) : Bool := decide ((checkH h).2 = 0)
theorem findZ_neg {α : Type} {p : α → Bool} {l : List α} : findZ p l < 0 ↔ ∀ x ∈ l, p x = false := by
  unfold findZ
  cases hf : l.findIdx? p with
  | none =>
    simp only [List.findIdx?_eq_none_iff] at hf
    constructor
    · intro _ x hx; exact hf x hx
    · intro _; simp
  | some i =>
    rw [List.findIdx?_eq_some_iff_getElem] at hf
    obtain ⟨h1, h2, _⟩ := hf
    constructor
    · intro h; simp only at h; omega
    · intro h
      have := h _ (List.getElem_mem h1)
      rw [this] at h2
      cases h2
theorem okH_iff {h : List Int} : okH h = true ↔ h.length ≤ 4096 ∧ (∀ x ∈ h, x = -1 ∨ (0 ≤ x ∧ x < h.length)) ∧ ∀ i, i < h.length → ¬ cycP h i := by
  unfold okH
  rw [decide_eq_true_iff]
  unfold checkH
  by_cases h1 : 4096 < h.length
  · rw [if_pos h1]
    simp
    omega
  · rw [if_neg h1]
    by_cases h2 : 0 ≤ findZ (outH h.length) h
    · rw [if_pos h2]
      simp only
      constructor
      · intro e; cases e
      · rintro ⟨_, e, _⟩
        have : findZ (outH h.length) h < 0 := findZ_neg.2 fun x hx => outH_false.2 (e x hx)
        omega
    · rw [if_neg h2]
      have h2' : findZ (outH h.length) h < 0 := by omega
      by_cases h3 : 0 ≤ findZ (cyc h) (List.range h.length)
      · rw [if_pos h3]
        simp only
        constructor
        · intro e; cases e
        · rintro ⟨_, _, e⟩
          have : findZ (cyc h) (List.range h.length) < 0 := findZ_neg.2 fun x hx => by
            have := e x (List.mem_range.1 hx)
            rw [← cyc_iff] at this
            simpa using this
          omega
      · rw [if_neg h3]
        have h3' : findZ (cyc h) (List.range h.length) < 0 := by omega
        refine ⟨fun _ => ⟨by omega, fun x hx => outH_false.1 (findZ_neg.1 h2' x hx), fun i hi => ?_⟩, fun _ => rfl⟩
        have := findZ_neg.1 h3' i (List.mem_range.2 hi)
        rw [← cyc_iff, this]
        simp

/-! The removal of tokens without dependents. -/
def cntD (h ds : List Int) (j : Nat) : Nat := (List.range h.length).countP fun k => decide (h[k]? = some (j : Int)) && decide (ds.getD k 0 ≠ -1)
theorem countP_less {l : List Nat} {p q : Nat → Bool} {a : Nat} (hd : l.Nodup) (ha : a ∈ l) (hp : p a = true) (hq : q a = false) (ho : ∀ k, k ≠ a → p k = q k) : l.countP q + 1 = l.countP p := by
  induction l with
  | nil => cases ha
  | cons b l ih =>
    rw [List.nodup_cons] at hd
    rw [List.countP_cons, List.countP_cons]
    by_cases e : b = a
    · subst e
      have : l.countP q = l.countP p := List.countP_congr fun x hx => by
        rw [ho x (fun e => hd.1 (e ▸ hx))]
      rw [hp, hq, this]
      simp
    · rw [ho b e]
      have := ih hd.2 (by rcases List.mem_cons.1 ha with h | h; exact absurd h.symm e; exact h)
      omega
theorem getD_setI (l : List Int) (i : Nat) (x d : Int) (hi : i < l.length) (j : Nat) : (l.set i x).getD j d = if j = i then x else l.getD j d := by
  rw [List.getD_eq_getElem?_getD, List.getElem?_set]
  by_cases h : i = j
  · subst h; simp [hi]
  · rw [if_neg h, if_neg (fun e => h e.symm), List.getD_eq_getElem?_getD]
structure RInv (h ds : List Int) (i : Nat) (at_ : Int) : Prop where
  len : ds.length = h.length
  val : ∀ j, j < h.length → ds.getD j 0 = (cntD h ds j : Int) ∨ (ds.getD j 0 = -1 ∧ cntD h ds j = 0)
  cy : ∀ j, cycP h j → ds.getD j 0 ≠ -1
  low : ∀ j, j < i → ds.getD j 0 = 0 → (j : Int) = at_
theorem RInv.ge {h ds : List Int} {i : Nat} {at_ : Int} (hR : RInv h ds i at_) {j : Nat} (hj : j < h.length) : -1 ≤ ds.getD j 0 ∧ ds.getD j 0 ≤ h.length := by
  have h1 : cntD h ds j ≤ h.length := by
    have := List.countP_le_length (p := fun k => decide (h[k]? = some (j : Int)) && decide (ds.getD k 0 ≠ -1)) (l := List.range h.length)
    rw [List.length_range] at this
    exact this
  rcases hR.val j hj with e | ⟨e, _⟩ <;> omega
theorem cyc_pred {h : List Int} {i : Nat} (hc : cycP h i) : ∃ k, k < h.length ∧ h[k]? = some (i : Int) ∧ cycP h k := by
  obtain ⟨m, h0, he⟩ := hc
  obtain ⟨m, rfl⟩ : ∃ x, m = x + 1 := ⟨m - 1, by omega⟩
  rw [itN_add] at he
  cases hx : itN h m i with
  | none => rw [hx] at he; cases he
  | some t =>
    rw [hx] at he
    have he : itN h 1 t = some i := he
    rw [itN_one] at he
    obtain ⟨h1, h2, h3⟩ := stN_lt he
    exact ⟨t, h1, h3, cyc_on ⟨m + 1, h0, by rw [itN_snoc hx]; exact he⟩ hx⟩
/-- A token of a cycle has a dependent that is not removed. -/
theorem RInv.cyc_pos {h ds : List Int} {i : Nat} {at_ : Int} (hR : RInv h ds i at_) {j : Nat} (hc : cycP h j) : 0 < ds.getD j 0 := by
  obtain ⟨k, h1, h2, h3⟩ := cyc_pred hc
  have hp : 0 < cntD h ds j := by
    unfold cntD
    rw [List.countP_pos_iff]
    exact ⟨k, List.mem_range.2 h1, by rw [Bool.and_eq_true, decide_eq_true_iff, decide_eq_true_iff]; exact ⟨h2, hR.cy k h3⟩⟩
  have hj : j < h.length := by
    obtain ⟨m, h0, he⟩ := hc
    exact (itN_lt h0 he).1
  rcases hR.val j hj with e | ⟨e, _⟩ <;> omega
theorem cntD_set {h ds : List Int} (hl : ds.length = h.length) {a : Nat} (ha : a < h.length) (h0 : ds.getD a 0 ≠ -1) (j : Nat) :
    cntD h (ds.set a (-1)) j + (if h[a]? = some (j : Int) then 1 else 0) = cntD h ds j := by
  unfold cntD
  by_cases e : h[a]? = some (j : Int)
  · rw [if_pos e]
    refine countP_less (a := a) List.nodup_range (List.mem_range.2 ha) ?_ ?_ fun k hk => ?_
    · rw [Bool.and_eq_true, decide_eq_true_iff, decide_eq_true_iff]; exact ⟨e, h0⟩
    · rw [Bool.and_eq_false_iff]
      right
      rw [getD_setI _ _ _ _ (by omega), if_pos rfl]
      decide
    · rw [getD_setI _ _ _ _ (by omega), if_neg hk]
  · rw [if_neg e, Nat.add_zero]
    refine List.countP_congr fun k _ => ?_
    by_cases hk : k = a
    · subst hk
      simp [e]
    · rw [getD_setI _ _ _ _ (by omega), if_neg hk]
theorem cntD_same {h ds ds' : List Int} (hs : ∀ k, (ds'.getD k 0 = -1 ↔ ds.getD k 0 = -1)) (j : Nat) : cntD h ds' j = cntD h ds j := by
  unfold cntD
  refine List.countP_congr fun k _ => ?_
  simp only [ne_eq, Bool.and_eq_true, decide_eq_true_iff]
  rw [hs k]
/-- The removal of a root. -/
theorem RInv.root {h ds : List Int} {i a : Nat} (hR : RInv h ds i (a : Int)) (ha : a < h.length) (h0 : ds.getD a 0 = 0) (hx : h[a]? = some (-1)) : RInv h (ds.set a (-1)) i (-1) := by
  have hc := cntD_set (h := h) hR.len ha (by rw [h0]; decide)
  have hc' : ∀ j, cntD h (ds.set a (-1)) j = cntD h ds j := fun j => by
    have := hc j
    rw [hx, if_neg (by intro e; have := Option.some.inj e; omega)] at this
    omega
  refine ⟨by rw [List.length_set]; exact hR.len, fun j hj => ?_, fun j hj => ?_, fun j hj e => ?_⟩
  · rw [hc', getD_setI _ _ _ _ (by rw [hR.len]; exact ha)]
    by_cases e : j = a
    · subst e
      rw [if_pos rfl]
      refine .inr ⟨rfl, ?_⟩
      rcases hR.val j hj with e | ⟨e, _⟩ <;> omega
    · rw [if_neg e]
      exact hR.val j hj
  · rw [getD_setI _ _ _ _ (by rw [hR.len]; exact ha)]
    by_cases e : j = a
    · subst e
      have := hR.cyc_pos hj
      omega
    · rw [if_neg e]
      exact hR.cy j hj
  · rw [getD_setI _ _ _ _ (by rw [hR.len]; exact ha)] at e
    by_cases e' : j = a
    · rw [if_pos e'] at e; cases e
    · rw [if_neg e'] at e
      have := hR.low j hj e
      omega
/-- The removal of a token with a head. -/
theorem RInv.step {h ds : List Int} {i a b : Nat} (hR : RInv h ds i (a : Int)) (ha : a < h.length) (h0 : ds.getD a 0 = 0) (hx : h[a]? = some (b : Int)) (hb : b < h.length) :
    a ≠ b ∧ 1 ≤ ds.getD b 0 ∧ RInv h ((ds.set a (-1)).set b (ds.getD b 0 - 1)) i (b : Int) := by
  have hc := cntD_set (h := h) hR.len ha (by rw [h0]; decide)
  have hab : a ≠ b := by
    intro e
    subst e
    have : cycP h a := ⟨1, by omega, by rw [itN_one]; exact stN_of hx ha⟩
    have := hR.cyc_pos this
    omega
  have hcb : 1 ≤ cntD h ds b := by
    have := hc b
    rw [if_pos hx] at this
    omega
  have hb1 : ds.getD b 0 = (cntD h ds b : Int) := by
    rcases hR.val b hb with e | ⟨_, e⟩
    · exact e
    · omega
  have hl1 : (ds.set a (-1)).length = h.length := by rw [List.length_set]; exact hR.len
  have hg : ∀ k, ((ds.set a (-1)).set b (ds.getD b 0 - 1)).getD k 0 = if k = b then ds.getD b 0 - 1 else if k = a then -1 else ds.getD k 0 := fun k => by
    rw [getD_setI _ _ _ _ (by omega), getD_setI _ _ _ _ (by rw [hR.len]; exact ha)]
  have hs : ∀ k, (((ds.set a (-1)).set b (ds.getD b 0 - 1)).getD k 0 = -1 ↔ (ds.set a (-1)).getD k 0 = -1) := fun k => by
    rw [hg, getD_setI _ _ _ _ (by rw [hR.len]; exact ha)]
    by_cases e : k = b
    · subst e
      rw [if_pos rfl, if_neg (fun e => hab e.symm)]
      omega
    · rw [if_neg e]
  refine ⟨hab, by omega, by rw [List.length_set]; exact hl1, fun j hj => ?_, fun j hj => ?_, fun j hj e => ?_⟩
  · rw [cntD_same hs, hg]
    have hcj := hc j
    by_cases e : j = b
    · subst e
      rw [if_pos hx] at hcj
      rw [if_pos rfl]
      left; omega
    · rw [if_neg e]
      rw [hx, if_neg (by intro e'; have := Option.some.inj e'; omega)] at hcj
      by_cases e2 : j = a
      · subst e2
        rw [if_pos rfl]
        refine .inr ⟨rfl, ?_⟩
        rcases hR.val j hj with e | ⟨e, _⟩ <;> omega
      · rw [if_neg e2, show cntD h (ds.set a (-1)) j = cntD h ds j by omega]
        exact hR.val j hj
  · rw [hg]
    by_cases e : j = b
    · rw [if_pos e]; omega
    · rw [if_neg e]
      by_cases e2 : j = a
      · subst e2
        have := hR.cyc_pos hj
        omega
      · rw [if_neg e2]
        exact hR.cy j hj
  · rw [hg] at e
    by_cases e1 : j = b
    · omega
    · rw [if_neg e1] at e
      by_cases e2 : j = a
      · rw [if_pos e2] at e; cases e
      · rw [if_neg e2] at e
        have := hR.low j hj e
        omega
/-- One token more is done. -/
theorem RInv.next {h ds : List Int} {i : Nat} {at_ : Int} (hR : RInv h ds (i + 1) at_) (he : at_ = -1 ∨ ∃ a : Nat, at_ = a ∧ ds.getD a 0 ≠ 0) : ∀ j, j < i + 1 → ds.getD j 0 ≠ 0 := by
  intro j hj e
  have := hR.low j hj e
  rcases he with h | ⟨a, h, h2⟩
  · omega
  · obtain rfl : j = a := by omega
    exact h2 e
theorem RInv.begin {h ds : List Int} {i : Nat} {at_ : Int} (hR : RInv h ds i at_) (hz : ∀ j, j < i → ds.getD j 0 ≠ 0) : RInv h ds (i + 1) (i : Int) :=
  ⟨hR.len, hR.val, hR.cy, fun j hj e => by
    by_cases e' : j = i
    · omega
    · exact absurd e (hz j (by omega))⟩
/-- What is left lies on cycles. -/
theorem RInv.fin {h ds : List Int} {i : Nat} {at_ : Int} (hR : RInv h ds i at_) (hz : ∀ j, j < h.length → ds.getD j 0 ≠ 0) : ∀ j, j < h.length → (ds.getD j 0 ≠ -1 ↔ cycP h j) := by
  intro j0 hj0
  refine ⟨fun hne => ?_, fun hc => hR.cy _ hc⟩
  -- each one that is left has a dependent that is left
  have hpred : ∀ j, j < h.length → ds.getD j 0 ≠ -1 → ∃ k, k < h.length ∧ ds.getD k 0 ≠ -1 ∧ stN h k = some j := fun j hj hn => by
    have hp : 0 < cntD h ds j := by
      rcases hR.val j hj with e | ⟨e, _⟩
      · have := hz j hj; omega
      · exact absurd e hn
    unfold cntD at hp
    rw [List.countP_pos_iff] at hp
    obtain ⟨k, hk, e⟩ := hp
    rw [Bool.and_eq_true, decide_eq_true_iff, decide_eq_true_iff] at e
    exact ⟨k, List.mem_range.1 hk, e.2, stN_of e.1 hj⟩
  have hch : ∃ f : Nat → Nat, f 0 = j0 ∧ ∀ m, f m < h.length ∧ stN h (f (m + 1)) = some (f m) := by
    have : ∃ g : {j : Nat // j < h.length ∧ ds.getD j 0 ≠ -1} → {j : Nat // j < h.length ∧ ds.getD j 0 ≠ -1}, ∀ x, stN h (g x).1 = some x.1 := by
      refine ⟨fun x => ⟨(hpred x.1 x.2.1 x.2.2).choose, (hpred x.1 x.2.1 x.2.2).choose_spec.1, (hpred x.1 x.2.1 x.2.2).choose_spec.2.1⟩, fun x => (hpred x.1 x.2.1 x.2.2).choose_spec.2.2⟩
    obtain ⟨g, hg⟩ := this
    refine ⟨fun m => (Nat.rec (motive := fun _ => {j : Nat // j < h.length ∧ ds.getD j 0 ≠ -1}) ⟨j0, hj0, hne⟩ (fun _ x => g x) m).1, rfl, fun m => ⟨(Nat.rec (motive := fun _ => {j : Nat // j < h.length ∧ ds.getD j 0 ≠ -1}) ⟨j0, hj0, hne⟩ (fun _ x => g x) m).2.1, hg _⟩⟩
  obtain ⟨f, f0, hf⟩ := hch
  have hit : ∀ d a, itN h d (f (a + d)) = some (f a) := by
    intro d
    induction d with
    | zero => intro a; rfl
    | succ d ih =>
      intro a
      show (stN h (f (a + d + 1))).bind (itN h d) = some (f a)
      rw [(hf (a + d)).2]
      exact ih a
  have hnd : ¬ ((List.range (h.length + 1)).map f).Nodup := fun hd => by
    have := nodup_le h.length _ hd (fun x hx => by obtain ⟨m, _, rfl⟩ := List.mem_map.1 hx; exact (hf m).1)
    rw [List.length_map, List.length_range] at this
    omega
  have : ∃ a b, a < b ∧ f a = f b := by
    by_cases hex : ∃ a b, a < b ∧ f a = f b
    · exact hex
    · exfalso
      refine hnd (List.pairwise_iff_getElem.2 fun a b ha hb hab => ?_)
      simp at ha hb
      intro e
      simp at e
      exact hex ⟨a, b, hab, e⟩
  obtain ⟨a, b, hab, e⟩ := this
  have hc : cycP h (f a) := ⟨b - a, by omega, by
    have := hit (b - a) a
    rw [show a + (b - a) = b by omega, ← e] at this
    exact this⟩
  have h2 := hit a 0
  rw [Nat.zero_add, f0] at h2
  exact cyc_on hc h2
/-- The numbers of dependents of the first t tokens. -/
def depL (h : List Int) (t : Nat) : List Int := (List.range h.length).map fun (j : Nat) => (((h.take t).countP fun x => decide (x = (j : Int)) : Nat) : Int)
theorem depL_len (h : List Int) (t : Nat) : (depL h t).length = h.length := by simp [depL]
theorem depL_get (h : List Int) (t j : Nat) (hj : j < h.length) : (depL h t)[j]? = some (((h.take t).countP fun x => decide (x = (j : Int)) : Nat) : Int) := by
  simp [depL, hj]
theorem depL_zero (h : List Int) : depL h 0 = List.replicate h.length 0 := by
  refine List.ext_getElem? fun j => ?_
  by_cases hj : j < h.length
  · rw [depL_get h 0 j hj]; simp [hj]
  · rw [List.getElem?_eq_none (by rw [depL_len]; omega), List.getElem?_eq_none (by simp; omega)]
theorem depL_root {h : List Int} {t : Nat} (hx : h[t]? = some (-1)) : depL h (t + 1) = depL h t := by
  refine List.ext_getElem? fun j => ?_
  by_cases hj : j < h.length
  · rw [depL_get h _ j hj, depL_get h _ j hj, List.take_add_one, hx]
    simp only [Option.toList_some, List.countP_append, List.countP_singleton]
    rw [if_neg (by rw [decide_eq_true_iff]; omega)]
    simp
  · rw [List.getElem?_eq_none (by rw [depL_len]; omega), List.getElem?_eq_none (by rw [depL_len]; omega)]
theorem depL_step {h : List Int} {t b : Nat} (hx : h[t]? = some (b : Int)) (hb : b < h.length) : depL h (t + 1) = (depL h t).set b ((depL h t).getD b 0 + 1) := by
  refine List.ext_getElem? fun j => ?_
  rw [List.getElem?_set]
  by_cases hj : j < h.length
  · rw [depL_get h _ j hj, List.take_add_one, hx]
    simp only [Option.toList_some, List.countP_append, List.countP_singleton]
    by_cases e : b = j
    · subst e
      have hbl : b < (depL h t).length := by rw [depL_len]; exact hb
      rw [if_pos (decide_eq_true rfl), if_pos rfl, if_pos hbl, List.getD_eq_getElem?_getD, depL_get h _ b hb]
      simp
    · rw [if_neg e, depL_get h _ j hj, if_neg (by rw [decide_eq_true_iff]; omega)]
      simp
  · rw [List.getElem?_eq_none (by rw [depL_len]; omega), if_neg (by omega), List.getElem?_eq_none (by rw [depL_len]; omega)]
theorem depL_le (h : List Int) (t j : Nat) (hj : j < h.length) : 0 ≤ (depL h t).getD j 0 ∧ (depL h t).getD j 0 ≤ t := by
  rw [List.getD_eq_getElem?_getD, depL_get h t j hj]
  have := List.countP_le_length (p := fun x => decide (x = (j : Int))) (l := h.take t)
  rw [List.length_take] at this
  simp only [Option.getD_some]
  omega
theorem count_range (p : Int → Bool) (h : List Int) : h.countP p = (List.range h.length).countP fun k => p (h.getD k 0) := by
  have : h = (List.range h.length).map fun k => h.getD k 0 := by
    refine List.ext_getElem? fun j => ?_
    by_cases hj : j < h.length
    · simp [hj]
    · rw [List.getElem?_eq_none (by omega), List.getElem?_eq_none (by simp; omega)]
  have h2 := congrArg (List.countP p) this
  rw [h2, List.countP_map]
  rfl
theorem RInv.start (h : List Int) : RInv h (depL h h.length) 0 0 := by
  have h0 : ∀ j, (depL h h.length).getD j 0 ≠ -1 := fun j => by
    by_cases hj : j < h.length
    · have := (depL_le h h.length j hj).1; omega
    · rw [List.getD_eq_getElem?_getD, List.getElem?_eq_none (by rw [depL_len]; omega)]; simp
  refine ⟨depL_len _ _, fun j hj => ?_, fun j _ => h0 j, fun j hj => absurd hj (by omega)⟩
  left
  rw [List.getD_eq_getElem?_getD, depL_get h _ j hj, Option.getD_some]
  congr 1
  rw [List.take_length, count_range]
  unfold cntD
  refine List.countP_congr fun k hk => ?_
  have hk := List.mem_range.1 hk
  simp only [decide_eq_true_iff, Bool.and_eq_true, ne_eq, List.getElem?_eq_getElem hk, Option.some.injEq]
  rw [List.getD_eq_getElem?_getD, List.getElem?_eq_getElem hk, Option.getD_some]
  exact ⟨fun e => ⟨e, h0 k⟩, fun e => e.1⟩
/-- How many are left. -/
def left (ds : List Int) : Nat := ds.countP fun x => decide (x ≠ -1)
theorem count_setI (p : Int → Bool) : ∀ (l : List Int) (i : Nat) (x y : Int), l[i]? = some y → (l.set i x).countP p + (if p y then 1 else 0) = l.countP p + (if p x then 1 else 0)
  | [], i, x, y, h => by simp at h
  | a :: l, 0, x, y, h => by
    simp at h
    subst h
    rw [List.set_cons_zero, List.countP_cons, List.countP_cons]
    omega
  | a :: l, i + 1, x, y, h => by
    rw [List.set_cons_succ, List.countP_cons, List.countP_cons]
    have := count_setI p l i x y (by simpa using h)
    omega
theorem left_root {ds : List Int} {a : Nat} (ha : a < ds.length) (h0 : ds.getD a 0 = 0) : left (ds.set a (-1)) + 1 = left ds := by
  have := count_setI (fun x => decide (x ≠ -1)) ds a (-1) (ds.getD a 0) (by rw [List.getD_eq_getElem?_getD, List.getElem?_eq_getElem ha]; rfl)
  rw [h0] at this
  unfold left
  simpa using this
theorem left_step {ds : List Int} {a b : Nat} (ha : a < ds.length) (hb : b < ds.length) (hab : a ≠ b) (h0 : ds.getD a 0 = 0) (h1 : 1 ≤ ds.getD b 0) : left ((ds.set a (-1)).set b (ds.getD b 0 - 1)) + 1 = left ds := by
  have e1 := left_root ha h0
  have hg : (ds.set a (-1)).getD b 0 = ds.getD b 0 := by rw [getD_setI _ _ _ _ ha, if_neg (fun e => hab e.symm)]
  have := count_setI (fun x => decide (x ≠ -1)) (ds.set a (-1)) b (ds.getD b 0 - 1) (ds.getD b 0) (by rw [← hg, List.getD_eq_getElem?_getD, List.getElem?_eq_getElem (by rw [List.length_set]; exact hb)]; rfl)
  unfold left at *
  rw [if_pos (by rw [decide_eq_true_iff]; omega), if_pos (by rw [decide_eq_true_iff]; omega)] at this
  omega
theorem findZ_congr {α β : Type} {p : α → Bool} {q : β → Bool} {l : List α} {m : List β} (hl : l.length = m.length) (h : ∀ (j : Nat) (x : α) (y : β), l[j]? = some x → m[j]? = some y → p x = q y) : findZ p l = findZ q m := by
  unfold findZ
  have : l.findIdx? p = m.findIdx? q := by
    induction l generalizing m with
    | nil => cases m with
      | nil => rfl
      | cons b m => simp at hl
    | cons a l ih => cases m with
      | nil => simp at hl
      | cons b m =>
        rw [List.findIdx?_cons, List.findIdx?_cons, h 0 a b rfl rfl, ih (m := m) (by simpa using hl) (fun j x y hx hy => h (j + 1) x y (by simpa using hx) (by simpa using hy))]
  rw [this]
theorem RInv.find {h ds : List Int} {i : Nat} {at_ : Int} (hR : RInv h ds i at_) (hz : ∀ j, j < h.length → ds.getD j 0 ≠ 0) : findZ (fun x => decide (x ≠ -1)) ds = findZ (cyc h) (List.range h.length) := by
  refine findZ_congr (by rw [hR.len, List.length_range]) fun j x y hx hy => ?_
  have hj : j < h.length := by rw [← hR.len]; exact (List.getElem?_eq_some_iff.1 hx).1
  have hy' : j = y := by
    rw [List.getElem?_range hj] at hy
    exact Option.some.inj hy
  subst hy'
  have := hR.fin hz j hj
  rw [List.getD_eq_getElem?_getD, hx, Option.getD_some, ← cyc_iff] at this
  rw [Bool.eq_iff_iff, decide_eq_true_iff]
  exact this
/-! Ways. -/
/-- No token's way leads back to it, and heads are roots or indices. -/
structure Okh (h : List Int) : Prop where
  len : h.length ≤ 4096
  inn : ∀ x ∈ h, x = -1 ∨ (0 ≤ x ∧ x < h.length)
  acy : ∀ i, ¬ cycP h i
theorem okh_iff {h : List Int} : okH h = true ↔ Okh h := by
  rw [okH_iff]
  refine ⟨fun ⟨a, b, c⟩ => ⟨a, b, fun i hc => ?_⟩, fun ⟨a, b, c⟩ => ⟨a, b, fun i _ => c i⟩⟩
  obtain ⟨m, h0, he⟩ := hc
  exact c i (itN_lt h0 he).1 ⟨m, h0, he⟩
theorem Okh.at {h : List Int} (hO : Okh h) {i : Nat} (hi : i < h.length) : (h[i]? = some (-1) ∧ stN h i = none) ∨ ∃ j : Nat, h[i]? = some (j : Int) ∧ j < h.length ∧ stN h i = some j := by
  have hm := hO.inn _ (List.getElem_mem hi)
  rcases hm with e | ⟨e1, e2⟩
  · left
    have : h[i]? = some (-1) := by rw [List.getElem?_eq_getElem hi, e]
    exact ⟨this, stN_none this (by omega)⟩
  · right
    obtain ⟨j, hj⟩ : ∃ j : Nat, h[i] = (j : Int) := ⟨h[i].toNat, by omega⟩
    have : h[i]? = some (j : Int) := by rw [List.getElem?_eq_getElem hi, hj]
    exact ⟨j, this, by omega, stN_of this (by omega)⟩
theorem itN_pre {h : List Int} {m k i t : Nat} (e : itN h m i = some t) (hk : k ≤ m) : ∃ s, itN h k i = some s := by
  have e1 := itN_add h k (m - k) i
  rw [show k + (m - k) = m by omega, e] at e1
  cases hs : itN h k i with
  | none => rw [hs] at e1; cases e1
  | some s => exact ⟨s, rfl⟩
/-- Without cycles every way ends. -/
theorem itN_end {h : List Int} (hA : ∀ i, ¬ cycP h i) (i : Nat) : itN h (h.length + 1) i = none := by
  cases ht : itN h (h.length + 1) i with
  | none => rfl
  | some t =>
    exfalso
    let f := fun j => (itN h j i).getD 0
    have hf : ∀ j, j ≤ h.length + 1 → itN h j i = some (f j) := fun j hj => by
      obtain ⟨s, hs⟩ := itN_pre ht hj
      show itN h j i = some ((itN h j i).getD 0)
      rw [hs]; rfl
    have hlt : ∀ j, j ≤ h.length → f j < h.length := fun j hj => by
      have h1 := itN_snoc (hf j (by omega))
      rw [hf (j + 1) (by omega)] at h1
      exact (stN_lt h1.symm).1
    have hnd : ((List.range (h.length + 1)).map f).Nodup := by
      refine List.pairwise_iff_getElem.2 fun a b ha hb hab => ?_
      simp at ha hb
      intro e
      simp at e
      refine hA (f a) ⟨b - a, by omega, ?_⟩
      have e1 := itN_add h a (b - a) i
      rw [show a + (b - a) = b by omega, hf a (by omega), hf b (by omega), ← e] at e1
      exact e1.symm
    have := nodup_le h.length _ hnd (fun x hx => by obtain ⟨m, hm, rfl⟩ := List.mem_map.1 hx; exact hlt m (by have := List.mem_range.1 hm; omega))
    rw [List.length_map, List.length_range] at this
    omega
def wayF (h : List Int) : Nat → Nat → List Nat
  | 0, _ => []
  | f + 1, i => i :: match stN h i with | none => [] | some j => wayF h f j
/-- A token and its ancestors. -/
def way (h : List Int) (i : Nat) : List Nat := wayF h (h.length + 1) i
theorem wayF_more {h : List Int} : ∀ (f i : Nat), itN h f i = none → wayF h (f + 1) i = wayF h f i
  | 0, i, e => by cases e
  | f + 1, i, e => by
    have e : (stN h i).bind (itN h f) = none := e
    show (i :: match stN h i with | none => [] | some j => wayF h (f + 1) j) = (i :: match stN h i with | none => [] | some j => wayF h f j)
    cases hs : stN h i with
    | none => rfl
    | some j =>
      rw [hs] at e
      simp only
      rw [wayF_more f j e]
theorem way_eq {h : List Int} (hO : Okh h) (i : Nat) : way h i = i :: match stN h i with | none => [] | some j => way h j := by
  unfold way
  show (i :: match stN h i with | none => [] | some j => wayF h h.length j) = _
  cases hs : stN h i with
  | none => rfl
  | some j =>
    simp only
    rw [wayF_more]
    have := itN_end hO.acy i
    have this : (stN h i).bind (itN h h.length) = none := this
    rw [hs] at this
    exact this
theorem way_root {h : List Int} (hO : Okh h) {i : Nat} (hs : stN h i = none) : way h i = [i] := by rw [way_eq hO, hs]
theorem way_step {h : List Int} (hO : Okh h) {i j : Nat} (hs : stN h i = some j) : way h i = i :: way h j := by rw [way_eq hO, hs]
/-- Induction along ways. -/
theorem way_ind {h : List Int} (hO : Okh h) {P : Nat → Prop} (hp : ∀ i, (∀ j, stN h i = some j → P j) → P i) (i : Nat) : P i := by
  obtain ⟨m, hm⟩ : ∃ m, (way h i).length = m := ⟨_, rfl⟩
  induction m using Nat.strongRecOn generalizing i with
  | ind m ih =>
    refine hp i fun j hj => ?_
    refine ih (way h j).length ?_ j rfl
    rw [way_step hO hj, List.length_cons] at hm
    omega
theorem mem_way {h : List Int} (hO : Okh h) (i x : Nat) : x ∈ way h i ↔ ∃ k, itN h k i = some x := by
  refine way_ind hO (P := fun i => x ∈ way h i ↔ ∃ k, itN h k i = some x) (fun i ih => ?_) i
  cases hs : stN h i with
  | none =>
    rw [way_root hO hs, List.mem_singleton]
    constructor
    · rintro rfl; exact ⟨0, rfl⟩
    · rintro ⟨k, hk⟩
      cases k with
      | zero => exact (Option.some.inj hk).symm
      | succ k =>
        have hk : (stN h i).bind (itN h k) = some x := hk
        rw [hs] at hk; cases hk
  | some j =>
    rw [way_step hO hs, List.mem_cons, ih j hs]
    constructor
    · rintro (rfl | ⟨k, hk⟩)
      · exact ⟨0, rfl⟩
      · exact ⟨k + 1, by show (stN h i).bind (itN h k) = _; rw [hs]; exact hk⟩
    · rintro ⟨k, hk⟩
      cases k with
      | zero => exact .inl (Option.some.inj hk).symm
      | succ k =>
        have hk : (stN h i).bind (itN h k) = some x := hk
        rw [hs] at hk
        exact .inr ⟨k, hk⟩
theorem way_self {h : List Int} (i : Nat) : i ∈ way h i := by
  unfold way
  exact List.mem_cons_self
theorem way_lt {h : List Int} (hO : Okh h) {i x : Nat} (hi : i < h.length) (hx : x ∈ way h i) : x < h.length := by
  obtain ⟨k, hk⟩ := (mem_way hO i x).1 hx
  cases k with
  | zero =>
    have := Option.some.inj hk
    omega
  | succ k => exact (itN_lt (by omega) hk).2
theorem way_trans {h : List Int} (hO : Okh h) {i x y : Nat} (hx : x ∈ way h i) (hy : y ∈ way h x) : y ∈ way h i := by
  obtain ⟨k, hk⟩ := (mem_way hO i x).1 hx
  obtain ⟨m, hm⟩ := (mem_way hO x y).1 hy
  exact (mem_way hO i y).2 ⟨k + m, by rw [itN_add, hk]; exact hm⟩
/-- Of two tokens on each other's ways there is but one. -/
theorem way_anti {h : List Int} (hO : Okh h) {x y : Nat} (hx : x ∈ way h y) (hy : y ∈ way h x) : x = y := by
  obtain ⟨k, hk⟩ := (mem_way hO y x).1 hx
  obtain ⟨m, hm⟩ := (mem_way hO x y).1 hy
  by_cases h0 : k + m = 0
  · obtain rfl : k = 0 := by omega
    exact (Option.some.inj hk).symm
  · exact absurd ⟨k + m, by omega, by rw [itN_add, hk]; exact hm⟩ (hO.acy y)
theorem way_nodup {h : List Int} (hO : Okh h) (i : Nat) : (way h i).Nodup := by
  refine way_ind hO (P := fun i => (way h i).Nodup) (fun i ih => ?_) i
  cases hs : stN h i with
  | none => rw [way_root hO hs]; exact List.pairwise_singleton _ _
  | some j =>
    rw [way_step hO hs, List.nodup_cons]
    refine ⟨fun hi => ?_, ih j hs⟩
    obtain ⟨k, hk⟩ := (mem_way hO j i).1 hi
    exact hO.acy i ⟨k + 1, by omega, by show (stN h i).bind (itN h k) = _; rw [hs]; exact hk⟩
theorem way_len {h : List Int} (hO : Okh h) {i : Nat} (hi : i < h.length) : (way h i).length ≤ h.length := nodup_le _ _ (way_nodup hO i) fun _ hx => way_lt hO hi hx
theorem nodup_inj {l : List Nat} (hd : l.Nodup) {a b : Nat} (ha : a < l.length) (hb : b < l.length) (e : l[a] = l[b]) : a = b := by
  rcases Nat.lt_trichotomy a b with h | h | h
  · exact absurd e (List.pairwise_iff_getElem.1 hd a b ha hb h)
  · exact h
  · exact absurd e.symm (List.pairwise_iff_getElem.1 hd b a hb ha h)
/-- A way from one of its places on is that place's way. -/
theorem way_drop {h : List Int} (hO : Okh h) {i x : Nat} (hx : x ∈ way h i) : ∃ l, way h i = l ++ way h x ∧ x ∉ l := by
  revert hx
  refine way_ind hO (P := fun i => x ∈ way h i → ∃ l, way h i = l ++ way h x ∧ x ∉ l) (fun i ih hx => ?_) i
  by_cases e : x = i
  · subst e; exact ⟨[], rfl, by simp⟩
  · cases hs : stN h i with
    | none =>
      rw [way_root hO hs, List.mem_singleton] at hx
      exact absurd hx e
    | some j =>
      rw [way_step hO hs, List.mem_cons] at hx
      obtain ⟨l, hl, hn⟩ := ih j hs (hx.resolve_left e)
      exact ⟨i :: l, by rw [way_step hO hs, hl]; rfl, by rw [List.mem_cons]; exact fun h => h.elim e hn⟩
theorem way_at {h : List Int} (hO : Okh h) {i k x : Nat} (hx : (way h i)[k]? = some x) : (way h i).drop k = way h x := by
  have hmem := List.mem_of_getElem? hx
  obtain ⟨l, hl, hn⟩ := way_drop hO hmem
  have hd := way_nodup hO i
  have hk : k = l.length := by
    rw [hl] at hx hd
    have h2 : (l ++ way h x)[l.length]? = some x := by
      rw [List.getElem?_append_right (Nat.le_refl _), Nat.sub_self]
      rfl
    obtain ⟨a1, a2⟩ := List.getElem?_eq_some_iff.1 hx
    obtain ⟨b1, b2⟩ := List.getElem?_eq_some_iff.1 h2
    exact nodup_inj hd a1 b1 (a2.trans b2.symm)
  rw [hl, hk, List.drop_left]
/-- The root of a way. -/
def rootH (h : List Int) (i : Nat) : Nat := (way h i).getLastD 0
theorem way_last {h : List Int} (hO : Okh h) {i x : Nat} (hx : x ∈ way h i) : rootH h x = rootH h i := by
  obtain ⟨l, hl, _⟩ := way_drop hO hx
  unfold rootH
  rw [hl]
  have hne : way h x ≠ [] := fun e => by have := way_self (h := h) x; rw [e] at this; cases this
  rw [List.getLastD_eq_getLast?, List.getLastD_eq_getLast?, List.getLast?_append, List.getLast?_eq_some_getLast hne]
  rfl
theorem root_mem {h : List Int} (i : Nat) : rootH h i ∈ way h i := by
  unfold rootH
  have hne : way h i ≠ [] := fun e => by have := way_self (h := h) i; rw [e] at this; cases this
  rw [List.getLastD_eq_getLast?, List.getLast?_eq_some_getLast hne]
  exact List.getLast_mem hne
/-- Ways meet exactly if their roots are one. -/
theorem meet_iff {h : List Int} (hO : Okh h) (a b : Nat) : (∃ x, x ∈ way h a ∧ x ∈ way h b) ↔ rootH h a = rootH h b := by
  constructor
  · rintro ⟨x, h1, h2⟩
    rw [← way_last hO h1, ← way_last hO h2]
  · intro e
    exact ⟨rootH h a, root_mem a, e ▸ root_mem b⟩
/-- The way up to where two ways meet, and down from there. -/
def joinW (X Y : List Nat) : List Nat × Int := match X.findIdx? (fun x => Y.contains x) with
  | none => ([], 11)
  | some i => (X.take (i + 1) ++ (Y.take (Y.idxOf (X.getD i 0))).reverse, 0)
def pathH (h : List Int) (a b : Int) : List Nat × Int :=
  if okH h = true ∧ (0 ≤ a ∧ a < h.length) ∧ (0 ≤ b ∧ b < h.length) then joinW (way h a.toNat) (way h b.toNat) else ([], 1)
def depthH (h : List Int) (i : Int) : Int := if okH h = true ∧ (0 ≤ i ∧ i < h.length) then (way h i.toNat).length - 1 else -1
theorem joinW_none {h : List Int} (hO : Okh h) {a b : Nat} (e : rootH h a ≠ rootH h b) : joinW (way h a) (way h b) = ([], 11) := by
  unfold joinW
  have : (way h a).findIdx? (fun x => (way h b).contains x) = none := by
    rw [List.findIdx?_eq_none_iff]
    intro x hx
    have : ¬ (∃ x, x ∈ way h a ∧ x ∈ way h b) := fun h' => e ((meet_iff hO a b).1 h')
    simp
    exact fun h' => this ⟨x, hx, h'⟩
  rw [this]
theorem joinW_some {X Y : List Nat} {i k x : Nat} (hi : X[i]? = some x) (hk : Y[k]? = some x) (hlow : ∀ (j y : Nat), j < i → X[j]? = some y → y ∉ Y) (hk2 : ∀ (j : Nat), j < k → Y[j]? ≠ some x) : joinW X Y = (X.take (i + 1) ++ (Y.take k).reverse, 0) := by
  unfold joinW
  have h1 : X.findIdx? (fun x => Y.contains x) = some i := by
    rw [List.findIdx?_eq_some_iff_getElem]
    obtain ⟨hl, he⟩ := List.getElem?_eq_some_iff.1 hi
    refine ⟨hl, ?_, fun j hj => ?_⟩
    · rw [he, List.contains_iff_mem]
      exact List.mem_of_getElem? hk
    · simp
      exact hlow j _ hj (List.getElem?_eq_getElem (by omega))
  have h2 : X.getD i 0 = x := by rw [List.getD_eq_getElem?_getD, hi]; rfl
  have h3 : Y.idxOf x = k := by
    have hm : x ∈ Y := List.mem_of_getElem? hk
    have hl := List.idxOf_lt_length_of_mem hm
    have hg : Y[Y.idxOf x]? = some x := by rw [List.getElem?_eq_getElem hl, List.getElem_idxOf hl]
    rcases Nat.lt_trichotomy (Y.idxOf x) k with h | h | h
    · exact absurd hg (hk2 _ h)
    · exact h
    · exfalso
      obtain ⟨hkl, hke⟩ := List.getElem?_eq_some_iff.1 hk
      have := List.not_of_lt_findIdx (p := (· == x)) (xs := Y) (i := k) h
      simp [hke] at this
  rw [h1]
  simp only
  rw [h2, h3]
theorem way_next {h : List Int} (hO : Okh h) {i k x y : Nat} (hx : (way h i)[k]? = some x) (hy : (way h i)[k + 1]? = some y) : stN h x = some y := by
  have h1 := way_at hO hx
  have h2 : ((way h i).drop k)[1]? = some y := by rw [List.getElem?_drop]; exact hy
  rw [h1] at h2
  cases hs : stN h x with
  | none => rw [way_root hO hs] at h2; cases h2
  | some z =>
    rw [way_step hO hs] at h2
    have h3 : (way h z)[0]? = some y := h2
    have h4 : (way h z)[0]? = some z := by unfold way; rfl
    rw [h4] at h3
    exact h3
/-- Where two ways meet. -/
theorem meet_at {h : List Int} (hO : Okh h) {a b : Nat} (e : rootH h a = rootH h b) : ∃ i k c, (way h a)[i]? = some c ∧ (way h b)[k]? = some c ∧ (∀ j y : Nat, j < i → (way h a)[j]? = some y → y ∉ way h b) ∧ (∀ j y : Nat, j < k → (way h b)[j]? = some y → y ∉ way h a) := by
  obtain ⟨x, hx1, hx2⟩ := (meet_iff hO a b).2 e
  cases hf : (way h a).findIdx? (fun x => (way h b).contains x) with
  | none =>
    rw [List.findIdx?_eq_none_iff] at hf
    have := hf x hx1
    simp at this
    exact absurd hx2 this
  | some i =>
    rw [List.findIdx?_eq_some_iff_getElem] at hf
    obtain ⟨hl, h1, h2⟩ := hf
    have hcb : (way h a)[i] ∈ way h b := List.contains_iff_mem.1 h1
    obtain ⟨k, hk⟩ := List.getElem?_of_mem hcb
    refine ⟨i, k, (way h a)[i], List.getElem?_eq_getElem hl, hk, fun j y hj hy => ?_, fun j y hj hy hya => ?_⟩
    · have := h2 j hj
      simp at this
      obtain ⟨g1, g2⟩ := List.getElem?_eq_some_iff.1 hy
      rw [← g2]
      exact this
    · obtain ⟨m, hm⟩ := List.getElem?_of_mem hya
      have hmi : i ≤ m := by
        rcases Nat.lt_or_ge m i with h' | h'
        · exfalso
          have := h2 m h'
          simp at this
          obtain ⟨g1, g2⟩ := List.getElem?_eq_some_iff.1 hm
          rw [g2] at this
          exact this (List.mem_of_getElem? hy)
        · exact h'
      have e1 : y ∈ way h (way h a)[i] := by
        rw [← way_at hO (List.getElem?_eq_getElem hl)]
        refine List.mem_of_getElem? (i := m - i) ?_
        rw [List.getElem?_drop, show i + (m - i) = m by omega]
        exact hm
      have e2 : (way h a)[i] ∈ way h y := by
        rw [← way_at hO hy]
        refine List.mem_of_getElem? (i := k - j) ?_
        rw [List.getElem?_drop, show j + (k - j) = k by omega]
        exact hk
      have e3 := way_anti hO e1 e2
      obtain ⟨g1, g2⟩ := List.getElem?_eq_some_iff.1 hy
      obtain ⟨g3, g4⟩ := List.getElem?_eq_some_iff.1 hk
      have := nodup_inj (way_nodup hO b) g1 g3 (by rw [g2, g4, e3])
      omega
/-- What connects two tokens. -/
structure Con (h : List Int) (a b : Nat) (l : List Nat) : Prop where
  first : l[0]? = some a
  last : l[l.length - 1]? = some b
  pos : 0 < l.length
  lt : ∀ x ∈ l, x < h.length
  nd : l.Nodup
  arc : ∀ j x y : Nat, l[j]? = some x → l[j + 1]? = some y → h[x]? = some (y : Int) ∨ h[y]? = some (x : Int)
theorem join_get {X Y : List Nat} {i k c : Nat} (hi : X[i]? = some c) (hk : Y[k]? = some c) (j : Nat) : (X.take (i + 1) ++ (Y.take k).reverse)[j]? = if j ≤ i then X[j]? else if j ≤ i + k then Y[k - (j - i)]? else none := by
  have hil := (List.getElem?_eq_some_iff.1 hi).1
  have hkl := (List.getElem?_eq_some_iff.1 hk).1
  have h1 : (X.take (i + 1)).length = i + 1 := by rw [List.length_take]; omega
  have h2 : (Y.take k).length = k := by rw [List.length_take]; omega
  by_cases hj : j ≤ i
  · rw [if_pos hj, List.getElem?_append_left (by omega), List.getElem?_take, if_pos (by omega)]
  · rw [if_neg hj, List.getElem?_append_right (by omega), h1]
    by_cases hj2 : j ≤ i + k
    · rw [if_pos hj2, List.getElem?_reverse (by omega), h2, List.getElem?_take, if_pos (by omega)]
      congr 1
      omega
    · rw [if_neg hj2, List.getElem?_eq_none (by rw [List.length_reverse]; omega)]
theorem connect {h : List Int} (hO : Okh h) {a b : Nat} (ha : a < h.length) (hb : b < h.length) (e : rootH h a = rootH h b) : ∃ l, joinW (way h a) (way h b) = (l, 0) ∧ joinW (way h b) (way h a) = (l.reverse, 0) ∧ Con h a b l := by
  obtain ⟨i, k, c, hi, hk, hX, hY⟩ := meet_at hO e
  have hndX := way_nodup hO a
  have hndY := way_nodup hO b
  have hil := (List.getElem?_eq_some_iff.1 hi)
  have hkl := (List.getElem?_eq_some_iff.1 hk)
  have hXi : ∀ j, j < i → (way h a)[j]? ≠ some c := fun j hj e' => by
    obtain ⟨g1, g2⟩ := List.getElem?_eq_some_iff.1 e'
    have := nodup_inj hndX g1 hil.1 (by rw [g2, hil.2])
    omega
  have hYk : ∀ j, j < k → (way h b)[j]? ≠ some c := fun j hj e' => by
    obtain ⟨g1, g2⟩ := List.getElem?_eq_some_iff.1 e'
    have := nodup_inj hndY g1 hkl.1 (by rw [g2, hkl.2])
    omega
  have h1 := joinW_some hi hk (fun j y hj hy => hX j y hj hy) hYk
  have h2 := joinW_some hk hi (fun j y hj hy => hY j y hj hy) hXi
  have hlen : ((way h a).take (i + 1) ++ ((way h b).take k).reverse).length = i + 1 + k := by
    have g1 := hil.1
    have g2 := hkl.1
    rw [List.length_append, List.length_reverse, List.length_take, List.length_take, Nat.min_eq_left g1, Nat.min_eq_left (Nat.le_of_lt g2)]
  have hg := join_get hi hk
  refine ⟨_, h1, ?_, ?_⟩
  · rw [h2, List.reverse_append, List.reverse_reverse, List.take_add_one, List.take_add_one, hi, hk]
    simp
  · generalize ((way h a).take (i + 1) ++ ((way h b).take k).reverse) = l at *
    have hfst : ∀ t, (way h t)[0]? = some t := fun t => by unfold way; rfl
    refine ⟨?_, ?_, by omega, fun x hx => ?_, ?_, fun j x y hx hy => ?_⟩
    · rw [hg, if_pos (by omega)]; exact hfst a
    · rw [hg, hlen]
      by_cases hk0 : k = 0
      · subst hk0
        rw [if_pos (by omega), show i + 1 + 0 - 1 = i by omega, hi]
        rw [hfst b] at hk
        rw [Option.some.inj hk]
      · rw [if_neg (by omega), if_pos (by omega), show k - (i + 1 + k - 1 - i) = 0 by omega]
        exact hfst b
    · obtain ⟨j, hj⟩ := List.getElem?_of_mem hx
      rw [hg] at hj
      by_cases h3 : j ≤ i
      · rw [if_pos h3] at hj; exact way_lt hO ha (List.mem_of_getElem? hj)
      · rw [if_neg h3] at hj
        by_cases h4 : j ≤ i + k
        · rw [if_pos h4] at hj; exact way_lt hO hb (List.mem_of_getElem? hj)
        · rw [if_neg h4] at hj; cases hj
    · refine List.pairwise_iff_getElem.2 fun p q hp hq hpq e' => ?_
      have ep := List.getElem?_eq_getElem hp
      have eq := List.getElem?_eq_getElem hq
      rw [← e', hg] at eq
      rw [hg] at ep
      generalize l[p] = z at *
      by_cases h3 : q ≤ i
      · rw [if_pos h3] at eq
        rw [if_pos (by omega)] at ep
        obtain ⟨g1, g2⟩ := List.getElem?_eq_some_iff.1 ep
        obtain ⟨g3, g4⟩ := List.getElem?_eq_some_iff.1 eq
        have := nodup_inj hndX g1 g3 (by rw [g2, g4])
        omega
      · rw [if_neg h3, if_pos (by omega)] at eq
        by_cases h4 : p ≤ i
        · rw [if_pos h4] at ep
          exact hY _ _ (by omega) eq (List.mem_of_getElem? ep)
        · rw [if_neg h4, if_pos (by omega)] at ep
          obtain ⟨g1, g2⟩ := List.getElem?_eq_some_iff.1 ep
          obtain ⟨g3, g4⟩ := List.getElem?_eq_some_iff.1 eq
          have := nodup_inj hndY g1 g3 (by rw [g2, g4])
          omega
    · rw [hg] at hx hy
      by_cases h3 : j + 1 ≤ i
      · rw [if_pos (by omega)] at hx
        rw [if_pos h3] at hy
        exact .inl (stN_lt (way_next hO hx hy)).2.2
      · rw [if_neg h3] at hy
        by_cases h4 : j + 1 ≤ i + k
        · rw [if_pos h4] at hy
          have hx' : (way h b)[k - (j + 1 - i) + 1]? = some x := by
            by_cases h5 : j ≤ i
            · rw [if_pos h5] at hx
              obtain rfl : j = i := by omega
              rw [show k - (j + 1 - j) + 1 = k by omega, hk, ← hi, hx]
            · rw [if_neg h5, if_pos (by omega)] at hx
              rw [show k - (j + 1 - i) + 1 = k - (j - i) by omega]
              exact hx
          exact .inr (stN_lt (way_next hO hy hx')).2.2
        · rw [if_neg h4] at hy; cases hy
/-! Projective heads. -/
def Prj (h : List Int) : Prop := ∀ d g k, stN h d = some g → min d g < k → k < max d g → g ∈ way h k
/-- The last token in front of i whose way passes a, and 1 more; or 0. -/
def lastD (h : List Int) : Nat → Nat → Nat
  | 0, _ => 0
  | i + 1, a => if a ∈ way h i then i + 1 else lastD h i a
theorem lastD_zero {h : List Int} {a : Nat} : ∀ {i : Nat}, lastD h i a = 0 ↔ ∀ j, j < i → a ∉ way h j
  | 0 => ⟨fun _ j hj => absurd hj (by omega), fun _ => rfl⟩
  | i + 1 => by
    show (if a ∈ way h i then i + 1 else lastD h i a) = 0 ↔ _
    by_cases e : a ∈ way h i
    · rw [if_pos e]
      exact ⟨fun h => absurd h (by omega), fun h => absurd e (h i (by omega))⟩
    · rw [if_neg e, lastD_zero (i := i)]
      refine ⟨fun hh j hj => ?_, fun hh j hj => hh j (by omega)⟩
      by_cases ej : j = i
      · subst ej; exact e
      · exact hh j (by omega)
theorem lastD_le {h : List Int} {a : Nat} : ∀ {i : Nat}, lastD h i a ≤ i
  | 0 => Nat.le_refl _
  | i + 1 => by
    show (if a ∈ way h i then i + 1 else lastD h i a) ≤ i + 1
    have := lastD_le (h := h) (a := a) (i := i)
    by_cases e : a ∈ way h i
    · rw [if_pos e]; omega
    · rw [if_neg e]; omega
theorem lastD_i {h : List Int} {a i : Nat} : lastD h (i + 1) a = i + 1 ↔ a ∈ way h i := by
  show (if a ∈ way h i then i + 1 else lastD h i a) = i + 1 ↔ _
  by_cases e : a ∈ way h i
  · rw [if_pos e]; simp [e]
  · rw [if_neg e]
    have := lastD_le (h := h) (a := a) (i := i)
    exact ⟨fun h => by omega, fun h => absurd h e⟩
/-- A gap at token i. -/
def gapAt (h : List Int) (i a : Nat) : Bool := decide (lastD h i a ≠ 0) && decide (lastD h i a ≠ i)
def gapB (h : List Int) : Bool := (List.range h.length).any fun i => (way h i).any fun a => gapAt h i a
theorem gapAt_iff {h : List Int} {i a : Nat} : gapAt h i a = true ↔ (∃ j, j < i ∧ a ∈ way h j) ∧ (0 < i ∧ a ∉ way h (i - 1)) := by
  unfold gapAt
  rw [Bool.and_eq_true, decide_eq_true_iff, decide_eq_true_iff]
  have h1 : lastD h i a ≠ 0 ↔ ∃ j, j < i ∧ a ∈ way h j := by
    rw [ne_eq, lastD_zero]
    constructor
    · intro hn
      by_cases hex : ∃ j, j < i ∧ a ∈ way h j
      · exact hex
      · exact absurd (fun j hj hm => hex ⟨j, hj, hm⟩) hn
    · rintro ⟨j, hj, hm⟩ hn
      exact hn j hj hm
  rw [h1]
  constructor
  · rintro ⟨⟨j, hj, hm⟩, hn⟩
    obtain ⟨i, rfl⟩ : ∃ x, i = x + 1 := ⟨i - 1, by omega⟩
    rw [ne_eq, lastD_i] at hn
    exact ⟨⟨j, hj, hm⟩, by omega, hn⟩
  · rintro ⟨⟨j, hj, hm⟩, h0, hn⟩
    obtain ⟨i, rfl⟩ : ∃ x, i = x + 1 := ⟨i - 1, by omega⟩
    rw [ne_eq, lastD_i]
    exact ⟨⟨j, hj, hm⟩, hn⟩
theorem gap_iff {h : List Int} : gapB h = false ↔ ∀ i a, i < h.length → a ∈ way h i → (∃ j, j < i ∧ a ∈ way h j) → a ∈ way h (i - 1) := by
  unfold gapB
  rw [List.any_eq_false]
  constructor
  · intro hh i a hi ha hex
    have h1 := hh i (List.mem_range.2 hi)
    rw [Bool.not_eq_true, List.any_eq_false] at h1
    have h2 := h1 a ha
    rw [gapAt_iff] at h2
    by_cases hm : a ∈ way h (i - 1)
    · exact hm
    · obtain ⟨j, hj, _⟩ := id hex
      exact absurd ⟨hex, by omega, hm⟩ h2
  · intro hh i hi
    rw [Bool.not_eq_true, List.any_eq_false]
    intro a ha
    rw [gapAt_iff]
    rintro ⟨hex, h0, hn⟩
    exact hn (hh i a (List.mem_range.1 hi) ha hex)
/-- Between a token and one on its way there are but tokens whose way passes the latter. -/
theorem prj_down {h : List Int} (hO : Okh h) (hP : Prj h) (a : Nat) (d : Nat) : a ∈ way h d → ∀ k, min d a ≤ k → k ≤ max d a → a ∈ way h k := by
  refine way_ind hO (P := fun d => a ∈ way h d → ∀ k, min d a ≤ k → k ≤ max d a → a ∈ way h k) (fun d ih had k h1 h2 => ?_) d
  by_cases e : a = d
  · subst e
    obtain rfl : k = a := by omega
    exact had
  · cases hs : stN h d with
    | none =>
      rw [way_root hO hs, List.mem_singleton] at had
      exact absurd had e
    | some g =>
      have hag : a ∈ way h g := by
        rw [way_step hO hs, List.mem_cons] at had
        exact had.resolve_left e
      by_cases hk : k = d
      · subst hk; exact had
      · by_cases hb : min d g < k ∧ k < max d g
        · exact way_trans hO (hP d g k hs hb.1 hb.2) hag
        · exact ih g hs hag k (by omega) (by omega)
theorem gap_prj {h : List Int} (hO : Okh h) : gapB h = false ↔ Prj h := by
  rw [gap_iff]
  constructor
  · intro hG
    -- no gap: all tokens between two whose ways pass a pass it
    have hall : ∀ a i, i < h.length → a ∈ way h i → ∀ j, a ∈ way h j → ∀ t, j + t ≤ i → a ∈ way h (i - t) := by
      intro a i hi hai j haj t
      induction t with
      | zero => intro _; exact hai
      | succ t ih =>
        intro ht
        have h1 := ih (by omega)
        have := hG (i - t) a (by omega) h1 ⟨j, by omega, haj⟩
        rw [show i - (t + 1) = i - t - 1 by omega]
        exact this
    intro d g k hs h1 h2
    obtain ⟨hd, hg, _⟩ := stN_lt hs
    have hgd : g ∈ way h d := by rw [way_step hO hs]; exact List.mem_cons_of_mem _ (way_self g)
    have hgg := way_self (h := h) g
    rcases Nat.lt_or_ge d g with hlt | hge
    · have := hall g g hg hgg d hgd (g - k) (by omega)
      rw [show g - (g - k) = k by omega] at this
      exact this
    · have := hall g d hd hgd g hgg (d - k) (by omega)
      rw [show d - (d - k) = k by omega] at this
      exact this
  · intro hP i a hi hai ⟨j, hj, haj⟩
    have h1 := prj_down hO hP a i hai
    have h2 := prj_down hO hP a j haj
    rcases Nat.lt_or_ge a i with h | h
    · exact h1 (i - 1) (by omega) (by omega)
    · exact h2 (i - 1) (by omega) (by omega)
/-- As the document says it. -/
def projH (h : List Int) : Bool := okH h && !gapB h
theorem projH_iff {h : List Int} : projH h = true ↔ Okh h ∧ Prj h := by
  unfold projH
  rw [Bool.and_eq_true, okh_iff]
  constructor
  · rintro ⟨h1, h2⟩; exact ⟨h1, (gap_prj h1).1 (by simpa using h2)⟩
  · rintro ⟨h1, h2⟩; exact ⟨h1, by rw [(gap_prj h1).2 h2]; rfl⟩
/-- No two arcs cross. -/
theorem no_cross {h : List Int} (hO : Okh h) (hP : Prj h) {i hi k g : Nat} (h1 : stN h i = some hi) (h2 : stN h k = some g) : ¬ (min i hi < min k g ∧ min k g < max i hi ∧ max i hi < max k g) := by
  rintro ⟨c1, c2, c3⟩
  have w1 := way_step hO h1
  have w2 := way_step hO h2
  have a1 := hP i hi (min k g) h1 c1 c2
  have a2 := hP k g (max i hi) h2 c2 c3
  have tail : ∀ {x y z : Nat}, stN h x = some y → z ∈ way h x → z ≠ x → z ∈ way h y := fun {x y z} hs hz hn => by
    rw [way_step hO hs, List.mem_cons] at hz
    exact hz.resolve_left hn
  rcases Nat.lt_or_ge g k with hgk | hgk
  · rw [show min k g = g by omega] at a1
    rcases Nat.lt_or_ge i hi with hih | hih
    · rw [show max i hi = hi by omega] at a2
      have := way_anti hO a2 a1
      omega
    · rw [show max i hi = i by omega] at a2
      have := way_anti hO (tail h1 a2 (by omega)) a1
      omega
  · rw [show min k g = k by omega] at a1
    have a3 := tail h2 a1 (by omega)
    rcases Nat.lt_or_ge i hi with hih | hih
    · rw [show max i hi = hi by omega] at a2
      have := way_anti hO a2 a3
      omega
    · rw [show max i hi = i by omega] at a2
      have := way_anti hO (tail h1 a2 (by omega)) a3
      omega
/-- Heads turned around. -/
def turnX (n : Nat) (x : Int) : Int := if 0 ≤ x then (n : Int) - 1 - x else -1
def turnH (h : List Int) : List Int := (h.map (turnX h.length)).reverse
theorem turn_len (h : List Int) : (turnH h).length = h.length := by simp [turnH]
theorem turn_get {h : List Int} {i : Nat} (hi : i < h.length) : (turnH h)[h.length - 1 - i]? = (h[i]?).map (turnX h.length) := by
  unfold turnH
  rw [List.getElem?_reverse (by rw [List.length_map]; omega), List.length_map, List.getElem?_map]
  congr 2
  omega
theorem turn_st {h : List Int} (hO : Okh h) {i : Nat} (hi : i < h.length) : stN (turnH h) (h.length - 1 - i) = (stN h i).map fun j => h.length - 1 - j := by
  have hg := turn_get hi
  rcases hO.at hi with ⟨h1, h2⟩ | ⟨j, h1, h2, h3⟩
  · rw [h2, Option.map_none]
    rw [h1] at hg
    have hg : (turnH h)[h.length - 1 - i]? = some (turnX h.length (-1)) := hg
    rw [show turnX h.length (-1) = -1 from rfl] at hg
    exact stN_none hg (by omega)
  · rw [h3, Option.map_some]
    rw [h1] at hg
    have hg : (turnH h)[h.length - 1 - i]? = some (turnX h.length (j : Int)) := hg
    have : turnX h.length (j : Int) = ((h.length - 1 - j : Nat) : Int) := by unfold turnX; rw [if_pos (by omega)]; omega
    rw [this] at hg
    exact stN_of hg (by rw [turn_len]; omega)
theorem turn_it {h : List Int} (hO : Okh h) : ∀ (m : Nat) {i : Nat}, i < h.length → itN (turnH h) m (h.length - 1 - i) = (itN h m i).map fun j => h.length - 1 - j
  | 0, i, _ => rfl
  | m + 1, i, hi => by
    show (stN (turnH h) (h.length - 1 - i)).bind (itN (turnH h) m) = ((stN h i).bind (itN h m)).map _
    rw [turn_st hO hi]
    cases hs : stN h i with
    | none => rfl
    | some j => exact turn_it hO m (stN_lt hs).2.1
theorem turn_ok {h : List Int} (hO : Okh h) : Okh (turnH h) := by
  refine ⟨by rw [turn_len]; exact hO.len, fun x hx => ?_, fun i hc => ?_⟩
  · unfold turnH at hx
    rw [List.mem_reverse, List.mem_map] at hx
    obtain ⟨y, hy, rfl⟩ := hx
    rw [turn_len]
    unfold turnX
    rcases hO.inn y hy with e | e
    · rw [if_neg (by omega)]; exact .inl rfl
    · rw [if_pos e.1]; right; omega
  · obtain ⟨m, h0, he⟩ := hc
    have hl := (itN_lt h0 he).1
    rw [turn_len] at hl
    have := turn_it hO m (i := h.length - 1 - i) (by omega)
    rw [show h.length - 1 - (h.length - 1 - i) = i by omega, he] at this
    cases hx : itN h m (h.length - 1 - i) with
    | none => rw [hx] at this; cases this
    | some t =>
      rw [hx] at this
      have h1 : i = h.length - 1 - t := Option.some.inj this
      have h2 := (itN_lt h0 hx).2
      exact hO.acy (h.length - 1 - i) ⟨m, h0, by rw [hx]; congr 1; omega⟩
theorem turn_way {h : List Int} (hO : Okh h) {i x : Nat} (hi : i < h.length) (hx : x < h.length) : (h.length - 1 - x) ∈ way (turnH h) (h.length - 1 - i) ↔ x ∈ way h i := by
  rw [mem_way (turn_ok hO), mem_way hO]
  constructor
  · rintro ⟨k, hk⟩
    rw [turn_it hO k hi] at hk
    cases ht : itN h k i with
    | none => rw [ht] at hk; cases hk
    | some t =>
      rw [ht] at hk
      have h1 : h.length - 1 - t = h.length - 1 - x := Option.some.inj hk
      have h2 : t < h.length := by
        cases k with
        | zero => have := Option.some.inj ht; omega
        | succ k => exact (itN_lt (by omega) ht).2
      exact ⟨k, by rw [ht]; congr 1; omega⟩
  · rintro ⟨k, hk⟩
    exact ⟨k, by rw [turn_it hO k hi, hk]; rfl⟩
theorem turn_turn {h : List Int} (hO : Okh h) : turnH (turnH h) = h := by
  unfold turnH
  rw [List.map_reverse, List.reverse_reverse, List.length_reverse, List.length_map, List.map_map]
  refine (List.map_congr_left fun x hx => ?_).trans (List.map_id h)
  show turnX h.length (turnX h.length x) = x
  unfold turnX
  rcases hO.inn x hx with e | e
  · subst e; rfl
  · rw [if_pos e.1, if_pos (by omega)]; omega
theorem turn_prj1 {h : List Int} (hO : Okh h) (hP : Prj h) : Prj (turnH h) := by
  intro d g k hs h1 h2
  obtain ⟨hd, hg, _⟩ := stN_lt hs
  rw [turn_len] at hd hg
  have e := turn_st hO (i := h.length - 1 - d) (by omega)
  rw [show h.length - 1 - (h.length - 1 - d) = d by omega, hs] at e
  cases hx : stN h (h.length - 1 - d) with
  | none => rw [hx] at e; cases e
  | some t =>
    rw [hx] at e
    have e1 : g = h.length - 1 - t := Option.some.inj e
    have e2 := (stN_lt hx).2.1
    have := hP _ _ (h.length - 1 - k) hx (by omega) (by omega)
    have h3 := (turn_way hO (i := h.length - 1 - k) (x := t) (by omega) e2).2 this
    rw [show h.length - 1 - (h.length - 1 - k) = k by omega, ← e1] at h3
    exact h3
theorem turn_proj {h : List Int} (hO : Okh h) : projH (turnH h) = projH h := by
  rw [Bool.eq_iff_iff, projH_iff, projH_iff]
  constructor
  · rintro ⟨_, h2⟩
    refine ⟨hO, ?_⟩
    have := turn_prj1 (turn_ok hO) h2
    rw [turn_turn hO] at this
    exact this
  · rintro ⟨_, h2⟩
    exact ⟨turn_ok hO, turn_prj1 hO h2⟩
/-- What Ends holds in the round of token i, pre done of its way. -/
def endsL (h : List Int) (i : Nat) (pre : List Nat) : List Nat := (List.range h.length).map fun a => if a ∈ pre then i + 1 else lastD h i a
theorem ends_len (h : List Int) (i : Nat) (pre : List Nat) : (endsL h i pre).length = h.length := by simp [endsL]
theorem ends_get {h : List Int} {i : Nat} {pre : List Nat} {a : Nat} (ha : a < h.length) : (endsL h i pre)[a]? = some (if a ∈ pre then i + 1 else lastD h i a) := by
  simp [endsL, ha]
theorem ends_start (h : List Int) : endsL h 0 [] = List.replicate h.length 0 := by
  refine List.ext_getElem? fun j => ?_
  by_cases hj : j < h.length
  · rw [ends_get hj, if_neg (by simp)]; simp [hj, lastD]
  · rw [List.getElem?_eq_none (by rw [ends_len]; omega), List.getElem?_eq_none (by simp; omega)]
theorem ends_set {h : List Int} {i : Nat} {pre : List Nat} {a : Nat} (ha : a < h.length) : (endsL h i pre).set a (i + 1) = endsL h i (pre ++ [a]) := by
  refine List.ext_getElem? fun j => ?_
  rw [List.getElem?_set]
  by_cases hj : j < h.length
  · rw [ends_get hj, ends_get hj, ends_len]
    by_cases e : a = j
    · subst e; simp [hj]
    · rw [if_neg e]
      simp only [List.mem_append, List.mem_singleton]
      have : ¬ j = a := fun e' => e e'.symm
      simp [this]
  · rw [List.getElem?_eq_none (by rw [ends_len]; omega), List.getElem?_eq_none (by rw [ends_len]; omega)]
    by_cases e : a = j
    · omega
    · rw [if_neg e]
theorem ends_next (h : List Int) (i : Nat) : endsL h i (way h i) = endsL h (i + 1) [] := by
  refine List.ext_getElem? fun j => ?_
  by_cases hj : j < h.length
  · rw [ends_get hj, ends_get hj]
    simp [lastD]
  · rw [List.getElem?_eq_none (by rw [ends_len]; omega), List.getElem?_eq_none (by rw [ends_len]; omega)]
end Go.Proofs.Yteennnhinfnahaa
