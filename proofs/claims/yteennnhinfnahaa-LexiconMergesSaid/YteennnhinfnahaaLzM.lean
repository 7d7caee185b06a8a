import Derived.Sort.Lot0
namespace Go.Proofs.Yteennnhinfnahaa
open Go.Sort
set_option linter.unusedVariables false
set_option linter.unusedSimpArgs false
set_option linter.unusedSectionVars false
variable {α : Type} [Inhabited α]
theorem geq {d : Array α} {x y : Nat} (h : x = y) : d[x]! = d[y]! := by rw [h]
/-- What was moved within [a, b). -/
structure Mvd (a b : Nat) (d d' : Array α) : Prop where
  size : d'.size = d.size
  out : ∀ k, k < a ∨ b ≤ k → d'[k]! = d[k]!
  frm : ∀ k, a ≤ k → k < b → ∃ j, a ≤ j ∧ j < b ∧ d'[k]! = d[j]!
  bck : ∀ k, a ≤ k → k < b → ∃ j, a ≤ j ∧ j < b ∧ d[k]! = d'[j]!
theorem Mvd.refl (a b : Nat) (d : Array α) : Mvd a b d d := ⟨rfl, fun _ _ => rfl, fun k h1 h2 => ⟨k, h1, h2, rfl⟩, fun k h1 h2 => ⟨k, h1, h2, rfl⟩⟩
theorem Mvd.trans {a b : Nat} {d e f : Array α} (h : Mvd a b d e) (k : Mvd a b e f) : Mvd a b d f := by
  refine ⟨k.size.trans h.size, fun x hx => (k.out x hx).trans (h.out x hx), fun x h1 h2 => ?_, fun x h1 h2 => ?_⟩
  · obtain ⟨y, y1, y2, e1⟩ := k.frm x h1 h2
    obtain ⟨z, z1, z2, e2⟩ := h.frm y y1 y2
    exact ⟨z, z1, z2, e1.trans e2⟩
  · obtain ⟨y, y1, y2, e1⟩ := h.bck x h1 h2
    obtain ⟨z, z1, z2, e2⟩ := k.bck y y1 y2
    exact ⟨z, z1, z2, e1.trans e2⟩
theorem Mvd.mono {a b a' b' : Nat} {d e : Array α} (h : Mvd a b d e) (ha : a' ≤ a) (hb : b ≤ b') : Mvd a' b' d e := by
  refine ⟨h.size, fun k hk => h.out k (by omega), fun k h1 h2 => ?_, fun k h1 h2 => ?_⟩
  · by_cases c : a ≤ k ∧ k < b
    · obtain ⟨j, j1, j2, e1⟩ := h.frm k c.1 c.2
      exact ⟨j, by omega, by omega, e1⟩
    · exact ⟨k, h1, h2, h.out k (by omega)⟩
  · by_cases c : a ≤ k ∧ k < b
    · obtain ⟨j, j1, j2, e1⟩ := h.bck k c.1 c.2
      exact ⟨j, by omega, by omega, e1⟩
    · exact ⟨k, h1, h2, (h.out k (by omega)).symm⟩
theorem swp_at (d : Array α) {i j : Nat} (hi : i < d.size) (hj : j < d.size) (k : Nat) : (swp d i j)[k]! = if k = i then d[j]! else if k = j then d[i]! else d[k]! := by
  by_cases h1 : k = i
  · subst h1
    rw [if_pos rfl]
    by_cases h2 : k = j
    · subst h2; exact swp_right d k k hi
    · exact swp_left d k j hi h2
  · rw [if_neg h1]
    by_cases h2 : k = j
    · subst h2; rw [if_pos rfl]; exact swp_right d i k hj
    · rw [if_neg h2]; exact swp_other d i j k h1 h2
theorem Mvd.swp {a b i j : Nat} (d : Array α) (h1 : a ≤ i) (h2 : i < b) (h3 : a ≤ j) (h4 : j < b) (hb : b ≤ d.size) : Mvd a b d (swp d i j) := by
  have hi : i < d.size := by omega
  have hj : j < d.size := by omega
  refine ⟨size_swp d i j, fun k hk => swp_other d i j k (by omega) (by omega), fun k k1 k2 => ?_, fun k k1 k2 => ?_⟩
  · rw [swp_at d hi hj]
    split
    · exact ⟨j, h3, h4, rfl⟩
    · split
      · exact ⟨i, h1, h2, rfl⟩
      · exact ⟨k, k1, k2, rfl⟩
  · by_cases e : k = i
    · refine ⟨j, h3, h4, ?_⟩
      rw [swp_at d hi hj]
      split
      · rename_i e2; rw [e, ← e2]
      · rw [if_pos rfl, e]
    · by_cases e2 : k = j
      · refine ⟨i, h1, h2, ?_⟩
        rw [swp_at d hi hj, if_pos rfl, e2]
      · refine ⟨k, k1, k2, ?_⟩
        rw [swp_at d hi hj, if_neg e, if_neg e2]
/-- Two ranges exchanged. -/
def SwR (a b n : Nat) (d d' : Array α) : Prop := d'.size = d.size ∧ ∀ k, d'[k]! = if a ≤ k ∧ k < a + n then d[k + (b - a)]! else if b ≤ k ∧ k < b + n then d[k - (b - a)]! else d[k]!
theorem SwR.zero (a b : Nat) (d : Array α) : SwR a b 0 d d := ⟨rfl, fun k => by rw [if_neg (by omega), if_neg (by omega)]⟩
theorem SwR.step {a b n i : Nat} {d e : Array α} (h : SwR a b i d e) (hab : a + n ≤ b) (hi : i < n) (hb : b + n ≤ d.size) : SwR a b (i + 1) d (swp e (a + i) (b + i)) := by
  obtain ⟨hs, hk⟩ := h
  refine ⟨by rw [size_swp, hs], fun k => ?_⟩
  rw [swp_at e (by omega) (by omega), hk, hk, hk]
  repeat' split
  all_goals first | exact geq (by omega) | (exfalso; omega)
/-- [a, m) and [m, b) rotated. -/
def Rot (a m b : Nat) (d d' : Array α) : Prop := d'.size = d.size ∧ ∀ k, d'[k]! = if a ≤ k ∧ k < a + (b - m) then d[k + (m - a)]! else if a + (b - m) ≤ k ∧ k < b then d[k - (b - m)]! else d[k]!
theorem Rot.left {m i j : Nat} {d e f : Array α} (hi : i ≤ m) (hj : 0 < j) (hij : j < i) (h : SwR (m - i) m j d e) (k : Rot (m - (i - j)) m (m + j) e f) : Rot (m - i) m (m + j) d f := by
  obtain ⟨hs, hk⟩ := h
  obtain ⟨ks, kk⟩ := k
  refine ⟨ks.trans hs, fun x => ?_⟩
  rw [kk, hk, hk, hk]
  repeat' split
  all_goals first | exact geq (by omega) | (exfalso; omega)
theorem Rot.right {m i j : Nat} {d e f : Array α} (hi : i ≤ m) (hi0 : 0 < i) (hij : i < j) (h : SwR (m - i) (m + j - i) i d e) (k : Rot (m - i) m (m + (j - i)) e f) : Rot (m - i) m (m + j) d f := by
  obtain ⟨hs, hk⟩ := h
  obtain ⟨ks, kk⟩ := k
  refine ⟨ks.trans hs, fun x => ?_⟩
  rw [kk, hk, hk, hk]
  repeat' split
  all_goals first | exact geq (by omega) | (exfalso; omega)
theorem Rot.last {m i : Nat} {d e : Array α} (hi : i ≤ m) (h : SwR (m - i) m i d e) : Rot (m - i) m (m + i) d e := by
  obtain ⟨hs, hk⟩ := h
  refine ⟨hs, fun x => ?_⟩
  rw [hk]
  repeat' split
  all_goals first | exact geq (by omega) | (exfalso; omega)
theorem Rot.none {a m b : Nat} {d : Array α} (h : (a = m ∨ m = b) ∧ a ≤ m ∧ m ≤ b) : Rot a m b d d := by
  refine ⟨rfl, fun x => ?_⟩
  repeat' split
  all_goals first | exact geq (by omega) | (exfalso; omega)
theorem Rot.mvd {a m b : Nat} {d e : Array α} (ham : a ≤ m) (hmb : m ≤ b) (h : Rot a m b d e) : Mvd a b d e := by
  obtain ⟨hs, hk⟩ := h
  refine ⟨hs, fun k hk' => by rw [hk, if_neg (by omega), if_neg (by omega)], fun k h1 h2 => ?_, fun k h1 h2 => ?_⟩
  · rw [hk]
    split
    · exact ⟨_, by omega, by omega, rfl⟩
    · split
      · exact ⟨_, by omega, by omega, rfl⟩
      · exact ⟨k, h1, h2, rfl⟩
  · by_cases c : k < m
    · refine ⟨k + (b - m), by omega, by omega, ?_⟩
      rw [hk, if_neg (by omega), if_pos (by omega)]
      exact geq (by omega)
    · refine ⟨k - (m - a), by omega, by omega, ?_⟩
      rw [hk, if_pos (by omega)]
      exact geq (by omega)
/-- One element moved up by exchanges of neighbours. -/
theorem Rot.up {a k : Nat} {d e : Array α} (hak : a ≤ k) (hk : k + 1 < d.size) (h : Rot a (a + 1) (k + 1) d e) : Rot a (a + 1) (k + 2) d (Go.Sort.swp e k (k + 1)) := by
  obtain ⟨hs, hh⟩ := h
  refine ⟨by rw [size_swp, hs], fun x => ?_⟩
  rw [swp_at e (by omega) (by omega), hh, hh, hh]
  repeat' split
  all_goals first | exact geq (by omega) | (exfalso; omega)
/-- One element moved down. -/
theorem Rot.down {m k : Nat} {d e : Array α} (hk : k + 1 ≤ m) (hm : m < d.size) (h : Rot (k + 1) m (m + 1) d e) : Rot k m (m + 1) d (Go.Sort.swp e (k + 1) k) := by
  obtain ⟨hs, hh⟩ := h
  refine ⟨by rw [size_swp, hs], fun x => ?_⟩
  rw [swp_at e (by omega) (by omega), hh, hh, hh]
  repeat' split
  all_goals first | exact geq (by omega) | (exfalso; omega)
/-- The order: less, or not greater and with the smaller number. -/
def Tr (lt : α → α → Bool) (nu : α → Nat) (x y : α) : Prop := lt x y = true ∨ (lt y x = false ∧ nu x < nu y)
section
variable {lt : α → α → Bool} {nu : α → Nat}
theorem swo_asy (O : SWO lt) {x y : α} (h : lt x y = true) : lt y x = false := by
  cases h2 : lt y x with
  | false => rfl
  | true => have := O.trans x y x h h2; rw [O.irrefl] at this; cases this
theorem Tr.trans (O : SWO lt) {x y z : α} (h : Tr lt nu x y) (k : Tr lt nu y z) : Tr lt nu x z := by
  rcases h with h | ⟨h, h'⟩ <;> rcases k with k | ⟨k, k'⟩
  · exact .inl (O.trans _ _ _ h k)
  · left
    cases e : lt x z with
    | true => rfl
    | false => rw [O.ntrans _ _ _ e k] at h; cases h
  · left
    cases e : lt x z with
    | true => rfl
    | false => rw [O.ntrans _ _ _ h e] at k; cases k
  · exact .inr ⟨O.ntrans _ _ _ k h, by omega⟩
theorem Tr.irr (O : SWO lt) (x : α) : ¬ Tr lt nu x x := by
  rintro (h | ⟨_, h⟩)
  · rw [O.irrefl] at h; cases h
  · omega
theorem Tr.asy (O : SWO lt) {x y : α} (h : Tr lt nu x y) : ¬ Tr lt nu y x := fun k => Tr.irr O x (h.trans O k)
theorem tr_old {x y : α} (h : lt y x = false) (hn : nu x < nu y) : Tr lt nu x y := .inr ⟨h, hn⟩
theorem tr_new {x y : α} (h : lt y x = true) : Tr lt nu y x := .inl h
def SoT (lt : α → α → Bool) (nu : α → Nat) (d : Array α) (a b : Nat) : Prop := ∀ i j, a ≤ i → i < j → j < b → Tr lt nu d[i]! d[j]!
def Old (nu : α → Nat) (d : Array α) (a m b : Nat) : Prop := ∀ i j, a ≤ i → i < m → m ≤ j → j < b → nu d[i]! < nu d[j]!
theorem SoT.le (O : SWO lt) {d : Array α} {a b : Nat} (h : SoT lt nu d a b) {i j : Nat} {z : α} (h1 : a ≤ i) (h2 : i ≤ j) (h3 : j < b) (hz : Tr lt nu d[j]! z) : Tr lt nu d[i]! z := by
  by_cases e : i = j
  · rw [e]; exact hz
  · exact (h i j h1 (by omega) h3).trans O hz
theorem SoT.ge (O : SWO lt) {d : Array α} {a b : Nat} (h : SoT lt nu d a b) {i j : Nat} {z : α} (h1 : a ≤ i) (h2 : i ≤ j) (h3 : j < b) (hz : Tr lt nu z d[i]!) : Tr lt nu z d[j]! := by
  by_cases e : i = j
  · rw [← e]; exact hz
  · exact hz.trans O (h i j h1 (by omega) h3)
theorem SoT.sub {d : Array α} {a b a' b' : Nat} (h : SoT lt nu d a b) (ha : a ≤ a') (hb : b' ≤ b) : SoT lt nu d a' b' := fun i j h1 h2 h3 => h i j (by omega) h2 (by omega)
theorem SoT.same {d e : Array α} {a b : Nat} (h : SoT lt nu d a b) (he : ∀ k, a ≤ k → k < b → e[k]! = d[k]!) : SoT lt nu e a b := fun i j h1 h2 h3 => by
  rw [he i h1 (by omega), he j (by omega) h3]; exact h i j h1 h2 h3
/-- What stands behind a rotation in the middle. -/
theorem rot_parts (O : SWO lt) {d e : Array α} {a s m t b : Nat} (h1 : a ≤ s) (h2 : s ≤ m) (h3 : m ≤ t) (h4 : t ≤ b) (hl : SoT lt nu d a m) (hr : SoT lt nu d m b)
    (hR : Rot s m t d e) : SoT lt nu e a s ∧ SoT lt nu e s (s + (t - m)) ∧ SoT lt nu e (s + (t - m)) t ∧ SoT lt nu e t b := by
  obtain ⟨hs, hk⟩ := hR
  refine ⟨?_, ?_, ?_, ?_⟩
  · intro i j i1 i2 i3
    rw [hk, hk, if_neg (by omega), if_neg (by omega), if_neg (by omega), if_neg (by omega)]
    exact hl i j (by omega) i2 (by omega)
  · intro i j i1 i2 i3
    rw [hk, hk, if_pos (by omega), if_pos (by omega)]
    exact hr _ _ (by omega) (by omega) (by omega)
  · intro i j i1 i2 i3
    rw [hk, hk, if_neg (by omega), if_pos (by omega), if_neg (by omega), if_pos (by omega)]
    exact hl _ _ (by omega) (by omega) (by omega)
  · intro i j i1 i2 i3
    rw [hk, hk, if_neg (by omega), if_neg (by omega), if_neg (by omega), if_neg (by omega)]
    exact hr i j (by omega) i2 (by omega)
theorem rot_cross (O : SWO lt) {d e : Array α} {a s m t b : Nat} (h1 : a ≤ s) (h2 : s ≤ m) (h3 : m ≤ t) (h4 : t ≤ b) (hl : SoT lt nu d a m) (hr : SoT lt nu d m b)
    (C1 : ∀ i j, a ≤ i → i < s → t ≤ j → j < b → Tr lt nu d[i]! d[j]!) (C2 : ∀ i j, s ≤ i → i < m → m ≤ j → j < t → Tr lt nu d[j]! d[i]!) (hR : Rot s m t d e) :
    ∀ x y, a ≤ x → x < s + (t - m) → s + (t - m) ≤ y → y < b → Tr lt nu e[x]! e[y]! := by
  obtain ⟨hs, hk⟩ := hR
  intro x y x1 x2 y1 y2
  by_cases cx : x < s <;> by_cases cy : y < t
  · rw [hk x, if_neg (by omega), if_neg (by omega), hk y, if_neg (by omega), if_pos (by omega)]
    exact hl _ _ (by omega) (by omega) (by omega)
  · rw [hk x, if_neg (by omega), if_neg (by omega), hk y, if_neg (by omega), if_neg (by omega)]
    exact C1 _ _ (by omega) (by omega) (by omega) (by omega)
  · rw [hk x, if_pos (by omega), hk y, if_neg (by omega), if_pos (by omega)]
    exact C2 _ _ (by omega) (by omega) (by omega) (by omega)
  · rw [hk x, if_pos (by omega), hk y, if_neg (by omega), if_neg (by omega)]
    exact hr _ _ (by omega) (by omega) (by omega)
theorem rot_old {d e : Array α} {a s m t b : Nat} (h1 : a ≤ s) (h2 : s ≤ m) (h3 : m ≤ t) (h4 : t ≤ b) (ho : Old nu d a m b) (hR : Rot s m t d e) : Old nu e a s (s + (t - m)) ∧ Old nu e (s + (t - m)) t b := by
  obtain ⟨hs, hk⟩ := hR
  constructor
  · intro i j i1 i2 i3 i4
    rw [hk i, if_neg (by omega), if_neg (by omega), hk j, if_pos (by omega)]
    exact ho _ _ (by omega) (by omega) (by omega) (by omega)
  · intro i j i1 i2 i3 i4
    rw [hk i, if_neg (by omega), if_pos (by omega), hk j, if_neg (by omega), if_neg (by omega)]
    exact ho _ _ (by omega) (by omega) (by omega) (by omega)
theorem sot_glue {d e f : Array α} {a m b : Nat} (ham : a ≤ m) (hmb : m ≤ b) (hx : ∀ x y, a ≤ x → x < m → m ≤ y → y < b → Tr lt nu d[x]! d[y]!) (h1 : Mvd a m d e) (h2 : Mvd m b e f)
    (s1 : SoT lt nu e a m) (s2 : SoT lt nu f m b) : SoT lt nu f a b := by
  intro i j i1 i2 i3
  by_cases c1 : j < m
  · rw [h2.out i (by omega), h2.out j (by omega)]
    exact s1 i j i1 i2 c1
  · by_cases c2 : m ≤ i
    · exact s2 i j c2 i2 i3
    · obtain ⟨x, x1, x2, ex⟩ := h1.frm i i1 (by omega)
      obtain ⟨y, y1, y2, ey⟩ := h2.frm j (by omega) i3
      rw [h2.out i (by omega), ex, ey, h1.out y (by omega)]
      exact hx x y x1 x2 y1 y2
/-- What a merge must do. -/
def Mrg (lt : α → α → Bool) (nu : α → Nat) (a b : Nat) (d d' : Array α) : Prop := Mvd a b d d' ∧ SoT lt nu d' a b
/-- A single element on the left. -/
theorem mrg_one_left (O : SWO lt) {d e : Array α} {a i b : Nat} (h1 : a + 1 ≤ i) (h2 : i ≤ b) (hr : SoT lt nu d (a + 1) b) (ho : Old nu d a (a + 1) b)
    (P1 : i = a + 1 ∨ lt d[i - 1]! d[a]! = true) (P2 : i = b ∨ lt d[i]! d[a]! = false) (hR : Rot a (a + 1) i d e) : Mrg lt nu a b d e := by
  have hl : SoT lt nu d a (a + 1) := fun x y _ _ _ => by omega
  have C1 : ∀ x j, a ≤ x → x < a → i ≤ j → j < b → Tr lt nu d[x]! d[j]! := fun x j _ _ _ _ => by omega
  have C2 : ∀ x j, a ≤ x → x < a + 1 → a + 1 ≤ j → j < i → Tr lt nu d[j]! d[x]! := fun x j x1 x2 j1 j2 => by
    have : x = a := by omega
    subst this
    rcases P1 with e | P1
    · omega
    · exact hr.le O j1 (by omega) (by omega) (tr_new P1)
  have hx := rot_cross O (Nat.le_refl a) (Nat.le_succ a) h1 h2 hl hr C1 C2 hR
  obtain ⟨p1, p2, p3, p4⟩ := rot_parts O (Nat.le_refl a) (Nat.le_succ a) h1 h2 hl hr hR
  refine ⟨(hR.mvd (by omega) h1).mono (Nat.le_refl _) h2, sot_glue (m := a + (i - (a + 1))) (by omega) (by omega) hx (Mvd.refl _ _ _) (Mvd.refl _ _ _) p2 ?_⟩
  intro x y x1 x2 y1
  by_cases c : a + (i - (a + 1)) < x
  · exact p4 x y (by omega) x2 y1
  · have : x = i - 1 := by omega
    subst this
    obtain ⟨hs, hk⟩ := hR
    rw [hk (i - 1), if_neg (by omega), if_pos (by omega), hk y, if_neg (by omega), if_neg (by omega), show i - 1 - (i - (a + 1)) = a by omega]
    rcases P2 with e | P2
    · omega
    · exact hr.ge O h1 (by omega) y1 (tr_old P2 (ho a i (by omega) (by omega) (by omega) (by omega)))
/-- A single element on the right. -/
theorem mrg_one_right (O : SWO lt) {d e : Array α} {a i m : Nat} (h1 : a ≤ i) (h2 : i ≤ m) (hl : SoT lt nu d a m) (ho : Old nu d a m (m + 1))
    (P1 : i = a ∨ lt d[m]! d[i - 1]! = false) (P2 : i = m ∨ lt d[m]! d[i]! = true) (hR : Rot i m (m + 1) d e) : Mrg lt nu a (m + 1) d e := by
  have hr : SoT lt nu d m (m + 1) := fun x y _ _ _ => by omega
  have C1 : ∀ x j, a ≤ x → x < i → m + 1 ≤ j → j < m + 1 → Tr lt nu d[x]! d[j]! := fun x j _ _ _ _ => by omega
  have C2 : ∀ x j, i ≤ x → x < m → m ≤ j → j < m + 1 → Tr lt nu d[j]! d[x]! := fun x j x1 x2 j1 j2 => by
    have : j = m := by omega
    subst this
    rcases P2 with e | P2
    · omega
    · exact hl.ge O (by omega) x1 x2 (tr_new P2)
  have hx := rot_cross O h1 h2 (Nat.le_succ m) (Nat.le_refl _) hl hr C1 C2 hR
  obtain ⟨p1, p2, p3, p4⟩ := rot_parts O h1 h2 (Nat.le_succ m) (Nat.le_refl _) hl hr hR
  refine ⟨(hR.mvd h2 (by omega)).mono h1 (Nat.le_refl _), sot_glue (m := i + (m + 1 - m)) (by omega) (by omega) hx (Mvd.refl _ _ _) (Mvd.refl _ _ _) ?_ p3⟩
  intro x y x1 x2 y1
  by_cases c : y < i
  · exact p1 x y x1 x2 c
  · have : y = i := by omega
    subst this
    obtain ⟨hs, hk⟩ := hR
    rw [hk y, if_pos (by omega), hk x, if_neg (by omega), if_neg (by omega), show y + (m - y) = m by omega]
    rcases P1 with e | P1
    · omega
    · exact hl.le O x1 (show x ≤ y - 1 by omega) (by omega) (tr_old P1 (ho (y - 1) m (by omega) (by omega) (by omega) (by omega)))
/-- The two ways of symMerge's search. -/
def SrB (a m b mid s0 r0 : Nat) : Prop := (mid < m ∧ s0 = mid + m - b ∧ r0 = mid) ∨ (m ≤ mid ∧ s0 = a ∧ r0 = m)
theorem mrg_cut (O : SWO lt) {d : Array α} {a m b mid s0 r0 s : Nat} (h1 : a < m) (h2 : m < b) (hmid : mid = (a + b) / 2) (hB : SrB a m b mid s0 r0) (hs0 : s0 ≤ s) (hr0 : s ≤ r0) (hl : SoT lt nu d a m) (hr : SoT lt nu d m b) (ho : Old nu d a m b)
    (P1 : s = s0 ∨ lt d[mid + m - 1 - (s - 1)]! d[s - 1]! = false) (P2 : s = r0 ∨ lt d[mid + m - 1 - s]! d[s]! = true) :
    a ≤ s ∧ s ≤ m ∧ m ≤ mid + m - s ∧ mid + m - s ≤ b ∧ s + (mid + m - s - m) = mid ∧ (∀ i j, a ≤ i → i < s → mid + m - s ≤ j → j < b → Tr lt nu d[i]! d[j]!) ∧ (∀ i j, s ≤ i → i < m → m ≤ j → j < mid + m - s → Tr lt nu d[j]! d[i]!) := by
  have q : a ≤ s ∧ s ≤ m ∧ s ≤ mid ∧ mid + m ≤ b + s := by unfold SrB at hB; omega
  obtain ⟨q1, q2, q3, q4⟩ := q
  refine ⟨q1, q2, by omega, by omega, by omega, fun i j i1 i2 j1 j2 => ?_, fun i j i1 i2 j1 j2 => ?_⟩
  · rcases P1 with e | P1
    · exfalso; unfold SrB at hB; omega
    · rw [show mid + m - 1 - (s - 1) = mid + m - s by omega] at P1
      have t := tr_old (nu := nu) P1 (ho (s - 1) (mid + m - s) (by omega) (by omega) (by omega) (by omega))
      exact hr.ge O (by omega) j1 j2 (hl.le O i1 (show i ≤ s - 1 by omega) (by omega) t)
  · rcases P2 with e | P2
    · exfalso; unfold SrB at hB; omega
    · have t := tr_new (nu := nu) P2
      exact hl.ge O q1 i1 i2 (hr.le O j1 (show j ≤ mid + m - 1 - s by omega) (by omega) t)
/-- The two halves merged, one behind the other. -/
theorem mrg_fin (O : SWO lt) {d e f h : Array α} {a s m t b mid : Nat} (h1 : a ≤ s) (h2 : s ≤ m) (h3 : m ≤ t) (h4 : t ≤ b) (hmid : s + (t - m) = mid) (hl : SoT lt nu d a m) (hr : SoT lt nu d m b)
    (C1 : ∀ i j, a ≤ i → i < s → t ≤ j → j < b → Tr lt nu d[i]! d[j]!) (C2 : ∀ i j, s ≤ i → i < m → m ≤ j → j < t → Tr lt nu d[j]! d[i]!) (hR : Rot s m t d e) (M2 : Mrg lt nu a mid e f) (M3 : Mrg lt nu mid b f h) : Mrg lt nu a b d h := by
  have hx := rot_cross O h1 h2 h3 h4 hl hr C1 C2 hR
  rw [hmid] at hx
  exact ⟨((hR.mvd h2 h3).mono h1 h4).trans ((M2.1.mono (Nat.le_refl _) (by omega)).trans (M3.1.mono (by omega) (Nat.le_refl _))), sot_glue (m := mid) (by omega) (by omega) hx M2.1 M3.1 M2.2 M3.2⟩
theorem mrg_idle {d : Array α} {a s b : Nat} (h : s ≤ a ∨ b ≤ s) (h1 : SoT lt nu d a s) (h2 : SoT lt nu d s b) : Mrg lt nu a b d d := by
  refine ⟨Mvd.refl _ _ _, ?_⟩
  rcases h with h | h
  · exact h2.sub h (Nat.le_refl _)
  · exact h1.sub (Nat.le_refl _) h
theorem Old.same {d e : Array α} {a m b : Nat} (h : Old nu d a m b) (he : ∀ k, a ≤ k → k < b → e[k]! = d[k]!) (hm : a ≤ m ∧ m ≤ b) : Old nu e a m b := fun i j i1 i2 j1 j2 => by
  rw [he i i1 (by omega), he j (by omega) j2]; exact h i j i1 i2 j1 j2
/-- Insertion. -/
structure InsI (lt : α → α → Bool) (nu : α → Nat) (a i j : Nat) (d : Array α) : Prop where
  A : ∀ x y, a ≤ x → x < y → y ≤ i → x ≠ j → y ≠ j → Tr lt nu d[x]! d[y]!
  B : ∀ y, j < y → y ≤ i → Tr lt nu d[j]! d[y]!
  C : ∀ x, a ≤ x → x < j → nu d[x]! < nu d[j]!
theorem ins_inner (O : SWO lt) {a i : Nat} : ∀ (j : Nat) (d : Array α), a ≤ j → j ≤ i → i < d.size → InsI lt nu a i j d → Mvd a (i + 1) d (insInner lt a j d) ∧ SoT lt nu (insInner lt a j d) a (i + 1)
  | 0, d, h1, h2, h3, I => by
    unfold insInner
    refine ⟨Mvd.refl _ _ _, fun x y x1 x2 x3 => ?_⟩
    by_cases e : x = 0
    · subst e; exact I.B y x2 (by omega)
    · exact I.A x y x1 x2 (by omega) e (by omega)
  | j + 1, d, h1, h2, h3, I => by
    unfold insInner
    by_cases c : (decide (j + 1 > a) && lt d[j + 1]! d[j]!) = true
    · rw [if_pos c]
      simp only [Bool.and_eq_true, decide_eq_true_eq] at c
      obtain ⟨c1, c2⟩ := c
      have hj1 : j + 1 < d.size := by omega
      have hj : j < d.size := by omega
      have hI : InsI lt nu a i j (Go.Sort.swp d (j + 1) j) := by
        refine ⟨fun x y x1 x2 x3 x4 x5 => ?_, fun y y1 y2 => ?_, fun x x1 x2 => ?_⟩
        · rw [swp_at d hj1 hj, swp_at d hj1 hj, if_neg x4, if_neg x5]
          split <;> split
          · omega
          · exact I.A j y (by omega) (by omega) x3 (by omega) (by omega)
          · exact I.A x j x1 (by omega) (by omega) (by omega) (by omega)
          · exact I.A x y x1 x2 x3 (by omega) (by omega)
        · rw [swp_at d hj1 hj, swp_at d hj1 hj, if_neg (by omega), if_pos rfl]
          split
          · exact tr_new c2
          · rw [if_neg (by omega)]
            exact I.B y (by omega) y2
        · rw [swp_at d hj1 hj, swp_at d hj1 hj, if_neg (by omega), if_neg (by omega), if_neg (by omega), if_pos rfl]
          exact I.C x x1 (by omega)
      obtain ⟨m1, m2⟩ := ins_inner O j (Go.Sort.swp d (j + 1) j) (by omega) (by omega) (by rw [size_swp]; exact h3) hI
      exact ⟨(Mvd.swp d (by omega) (by omega) (by omega) (by omega) (by omega)).trans m1, m2⟩
    · rw [if_neg c]
      refine ⟨Mvd.refl _ _ _, fun x y x1 x2 x3 => ?_⟩
      by_cases e : x = j + 1
      · subst e; exact I.B y x2 (by omega)
      · by_cases e2 : y = j + 1
        · subst e2
          have c3 : lt d[j + 1]! d[j]! = false := by
            cases e3 : lt d[j + 1]! d[j]! with
            | false => rfl
            | true => exact absurd (by simp [e3]; omega) c
          have t := tr_old (nu := nu) c3 (I.C j (by omega) (by omega))
          by_cases e4 : x = j
          · rw [e4]; exact t
          · exact (I.A x j x1 (by omega) (by omega) (by omega) (by omega)).trans O t
        · exact I.A x y x1 x2 (by omega) e e2
theorem ins_outer (O : SWO lt) {a b : Nat} : ∀ (g i : Nat) (d : Array α), b - i ≤ g → a < i → i ≤ b → b ≤ d.size → SoT lt nu d a i → (∀ x y, a ≤ x → x < y → i ≤ y → y < b → nu d[x]! < nu d[y]!) → Mvd a b d (insOuter lt a b i d) ∧ SoT lt nu (insOuter lt a b i d) a b
  | 0, i, d, hg, h1, h2, h3, hs, hn => by
    have : i = b := by omega
    subst this
    unfold insOuter
    rw [if_neg (by omega)]
    exact ⟨Mvd.refl _ _ _, hs⟩
  | g + 1, i, d, hg, h1, h2, h3, hs, hn => by
    unfold insOuter
    by_cases c : i < b
    · rw [if_pos c]
      have hI : InsI lt nu a i i d := ⟨fun x y x1 x2 x3 x4 x5 => hs x y x1 x2 (by omega), fun y y1 y2 => by omega, fun x x1 x2 => hn x i x1 x2 (Nat.le_refl _) c⟩
      obtain ⟨m1, m2⟩ := ins_inner O i d (by omega) (Nat.le_refl _) (by omega) hI
      obtain ⟨k1, k2⟩ := ins_outer (b := b) O g (i + 1) (insInner lt a i d) (by omega) (by omega) (by omega) (by rw [m1.size]; exact h3) m2 (fun x y x1 x2 y1 y2 => by
        rw [m1.out y (by omega)]
        by_cases e : x < i + 1
        · obtain ⟨z, z1, z2, ez⟩ := m1.frm x x1 e
          rw [ez]
          exact hn z y z1 (by omega) (by omega) y2
        · rw [m1.out x (by omega)]
          exact hn x y x1 x2 (by omega) y2)
      exact ⟨(m1.mono (Nat.le_refl _) (by omega)).trans k1, k2⟩
    · rw [if_neg c]
      have : i = b := by omega
      subst this
      exact ⟨Mvd.refl _ _ _, hs⟩
theorem ins_sort (O : SWO lt) {a b : Nat} {d : Array α} (hab : a ≤ b) (hb : b ≤ d.size) (hn : ∀ x y, a ≤ x → x < y → y < b → nu d[x]! < nu d[y]!) : Mrg lt nu a b d (insertionSort lt d a b) := by
  unfold insertionSort
  by_cases e : a = b
  · subst e
    unfold insOuter
    rw [if_neg (by omega)]
    exact ⟨Mvd.refl _ _ _, fun x y _ _ _ => by omega⟩
  · exact ins_outer O (b - a) (a + 1) d (by omega) (by omega) (by omega) hb (fun x y _ _ _ => by omega) (fun x y x1 x2 _ y2 => hn x y x1 x2 y2)
/-- A block that is sorted and holds its own numbers. -/
def OkB (lt : α → α → Bool) (nu : α → Nat) (d : Array α) (a b : Nat) : Prop := SoT lt nu d a b ∧ ∀ k, a ≤ k → k < b → a ≤ nu d[k]! ∧ nu d[k]! < b
theorem OkB.same {d e : Array α} {a b : Nat} (h : OkB lt nu d a b) (he : ∀ k, a ≤ k → k < b → e[k]! = d[k]!) : OkB lt nu e a b := ⟨h.1.same he, fun k h1 h2 => by rw [he k h1 h2]; exact h.2 k h1 h2⟩
theorem OkB.mrg {d e : Array α} {a m b : Nat} (h : OkB lt nu d a m) (k : OkB lt nu d m b) (ham : a ≤ m) (hmb : m ≤ b) (hM : Mrg lt nu a b d e) : OkB lt nu e a b := ⟨hM.2, fun x x1 x2 => by
  obtain ⟨j, j1, j2, ej⟩ := hM.1.frm x x1 x2
  rw [ej]
  by_cases c : j < m
  · have := h.2 j j1 c; omega
  · have := k.2 j (by omega) j2; omega⟩
theorem OkB.old {d : Array α} {a m b : Nat} (h : OkB lt nu d a m) (k : OkB lt nu d m b) : Old nu d a m b := fun i j i1 i2 j1 j2 => by
  have := h.2 i i1 i2
  have := k.2 j j1 j2
  omega
theorem dvd_eq {s x A : Nat} (h : s ∣ x) (k : s ∣ A) (h1 : A ≤ x) (h2 : x < A + s) : x = A := by
  obtain ⟨u, rfl⟩ := h
  obtain ⟨v, rfl⟩ := k
  have h3 : s * u < s * (v + 1) := by rw [Nat.mul_add, Nat.mul_one]; exact h2
  have h4 := Nat.lt_of_mul_lt_mul_left h3
  have hs : 0 < s := by
    rcases Nat.eq_zero_or_pos s with e | e
    · subst e; omega
    · exact e
  have h5 := Nat.le_of_mul_le_mul_left h1 hs
  rw [show u = v by omega]
theorem dvd_gap {s x A : Nat} (h : s ∣ x) (k : s ∣ A) (h1 : x < A) : x + s ≤ A := by
  obtain ⟨u, rfl⟩ := h
  obtain ⟨v, rfl⟩ := k
  have h2 := Nat.lt_of_mul_lt_mul_left h1
  have := Nat.mul_le_mul_left s (show u + 1 ≤ v by omega)
  rw [Nat.mul_add, Nat.mul_one] at this
  exact this
/-- All blocks of a size are sorted. -/
def AllB (lt : α → α → Bool) (nu : α → Nat) (n s : Nat) (d : Array α) : Prop := ∀ x, s ∣ x → x ≤ n → OkB lt nu d x (min (x + s) n)
/-- Between two insertions. -/
def Ph1 (lt : α → α → Bool) (nu : α → Nat) (n s A : Nat) (d : Array α) : Prop := s ∣ A ∧ A ≤ n ∧ (∀ x, s ∣ x → x < A → OkB lt nu d x (x + s)) ∧ ∀ k, A ≤ k → k < n → nu d[k]! = k
theorem Ph1.step (O : SWO lt) {n s A : Nat} {d : Array α} (h : Ph1 lt nu n s A d) (hs : 0 < s) (hn : n = d.size) (hA : A + s ≤ n) : Ph1 lt nu n s (A + s) (insertionSort lt d A (A + s)) ∧ Mvd 0 n d (insertionSort lt d A (A + s)) := by
  obtain ⟨h1, h2, h3, h4⟩ := h
  have hM := ins_sort (nu := nu) O (a := A) (b := A + s) (d := d) (by omega) (by omega) (fun x y x1 x2 y1 => by rw [h4 x x1 (by omega), h4 y (by omega) (by omega)]; exact x2)
  refine ⟨⟨Nat.dvd_add h1 (Nat.dvd_refl s), hA, fun x hx hlt => ?_, fun k k1 k2 => ?_⟩, hM.1.mono (Nat.zero_le _) hA⟩
  · by_cases c : x < A
    · have := dvd_gap hx h1 c
      exact (h3 x hx c).same fun k k1 k2 => hM.1.out k (by omega)
    · have := dvd_eq hx h1 (by omega) hlt
      subst this
      refine ⟨hM.2, fun k k1 k2 => ?_⟩
      obtain ⟨j, j1, j2, ej⟩ := hM.1.frm k k1 k2
      rw [ej, h4 j j1 (by omega)]
      exact ⟨j1, j2⟩
  · rw [hM.1.out k (by omega)]
    exact h4 k (by omega) k2
theorem Ph1.last (O : SWO lt) {n s A : Nat} {d : Array α} (h : Ph1 lt nu n s A d) (hs : 0 < s) (hn : n = d.size) (hA : n < A + s) : AllB lt nu n s (insertionSort lt d A n) ∧ Mvd 0 n d (insertionSort lt d A n) := by
  obtain ⟨h1, h2, h3, h4⟩ := h
  have hM := ins_sort (nu := nu) O (a := A) (b := n) (d := d) (by omega) (by omega) (fun x y x1 x2 y1 => by rw [h4 x x1 (by omega), h4 y (by omega) (by omega)]; exact x2)
  refine ⟨fun x hx hle => ?_, hM.1.mono (Nat.zero_le _) (Nat.le_refl _)⟩
  by_cases c : x < A
  · have := dvd_gap hx h1 c
    rw [Nat.min_eq_left (by omega)]
    exact (h3 x hx c).same fun k k1 k2 => hM.1.out k (by omega)
  · have := dvd_eq hx h1 (by omega) (by omega)
    subst this
    rw [Nat.min_eq_right (by omega)]
    refine ⟨hM.2, fun k k1 k2 => ?_⟩
    obtain ⟨j, j1, j2, ej⟩ := hM.1.frm k k1 k2
    rw [ej, h4 j j1 (by omega)]
    exact ⟨j1, j2⟩
/-- Between two merges. -/
def Ph2 (lt : α → α → Bool) (nu : α → Nat) (n s A : Nat) (d : Array α) : Prop := 2 * s ∣ A ∧ A ≤ n ∧ (∀ x, 2 * s ∣ x → x < A → OkB lt nu d x (x + 2 * s)) ∧ ∀ x, s ∣ x → A ≤ x → x ≤ n → OkB lt nu d x (min (x + s) n)
theorem Ph2.start {n s : Nat} {d : Array α} (h : AllB lt nu n s d) : Ph2 lt nu n s 0 d := ⟨Nat.dvd_zero _, Nat.zero_le _, fun x _ h0 => by omega, fun x hx _ hn => h x hx hn⟩
theorem dvd_two {s x : Nat} (h : 2 * s ∣ x) : s ∣ x := Nat.dvd_trans ⟨2, by rw [Nat.mul_comm]⟩ h
theorem Ph2.pre {n s A : Nat} {d : Array α} (h : Ph2 lt nu n s A d) (hs : 0 < s) {b : Nat} (hb : (A + 2 * s ≤ n ∧ b = A + 2 * s) ∨ (n < A + 2 * s ∧ A + s < n ∧ b = n)) : OkB lt nu d A (A + s) ∧ OkB lt nu d (A + s) b := by
  obtain ⟨h1, h2, h3, h4⟩ := h
  have hd := dvd_two h1
  have p := h4 A hd (Nat.le_refl _) h2
  have q := h4 (A + s) (Nat.dvd_add hd (Nat.dvd_refl s)) (by omega) (by omega)
  rw [Nat.min_eq_left (by omega)] at p
  rcases hb with ⟨b1, b2⟩ | ⟨b1, b2, b3⟩
  · rw [Nat.min_eq_left (by omega), show A + s + s = b by omega] at q
    exact ⟨p, q⟩
  · rw [Nat.min_eq_right (by omega), ← b3] at q
    exact ⟨p, q⟩
theorem Ph2.step {n s A : Nat} {d e : Array α} (h : Ph2 lt nu n s A d) (hs : 0 < s) (hA : A + 2 * s ≤ n) (hM : Mrg lt nu A (A + 2 * s) d e) : Ph2 lt nu n s (A + 2 * s) e := by
  obtain ⟨p, q⟩ := h.pre hs (.inl ⟨hA, rfl⟩)
  obtain ⟨h1, h2, h3, h4⟩ := h
  refine ⟨Nat.dvd_add h1 (Nat.dvd_refl _), hA, fun x hx hlt => ?_, fun x hx h5 h6 => ?_⟩
  · by_cases c : x < A
    · have := dvd_gap hx h1 c
      exact (h3 x hx c).same fun k k1 k2 => hM.1.out k (by omega)
    · have := dvd_eq hx h1 (by omega) hlt
      subst this
      exact p.mrg q (by omega) (by omega) hM
  · exact (h4 x hx (by omega) h6).same fun k k1 k2 => hM.1.out k (by omega)
theorem Ph2.last {n s A : Nat} {d e : Array α} (h : Ph2 lt nu n s A d) (hs : 0 < s) (hA : n < A + 2 * s) (hM : (A + s < n ∧ Mrg lt nu A n d e) ∨ (n ≤ A + s ∧ e = d)) : AllB lt nu n (2 * s) e := by
  intro x hx hle
  have hpq := fun hc => h.pre hs (b := n) (.inr ⟨hA, hc, rfl⟩)
  obtain ⟨h1, h2, h3, h4⟩ := h
  by_cases c : x < A
  · have := dvd_gap hx h1 c
    rw [Nat.min_eq_left (by omega)]
    rcases hM with ⟨_, hM⟩ | ⟨_, rfl⟩
    · exact (h3 x hx c).same fun k k1 k2 => hM.1.out k (by omega)
    · exact h3 x hx c
  · have := dvd_eq hx h1 (by omega) (by omega)
    subst this
    rw [Nat.min_eq_right (by omega)]
    rcases hM with ⟨h5, hM⟩ | ⟨h5, rfl⟩
    · obtain ⟨p, q⟩ := hpq h5
      exact p.mrg q (by omega) (by omega) hM
    · have := h4 x (dvd_two hx) (Nat.le_refl _) h2
      rw [Nat.min_eq_right (by omega)] at this
      exact this
end
end Go.Proofs.Yteennnhinfnahaa
