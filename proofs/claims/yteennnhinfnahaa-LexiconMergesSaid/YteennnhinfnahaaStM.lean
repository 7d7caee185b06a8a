/-
  PLAIN MATHEMATICS, NO PROGRAM: folding a string unit by unit: its units stay in their places; folding twice changes nothing more.
-/
import Derived.Test.YteennnhinfnahaaVaM
import Derived.Test.YteennnhinfnahaaFoM
namespace Go.Proofs.Yteennnhinfnahaa
open Go.Lib

/-- Is a byte a continuation? -/
def contB (b : UInt8) : Bool := decide (b.toNat / 64 = 2)
/-- The continuations that a list begins with. -/
def runC (r : List UInt8) : List UInt8 := r.takeWhile contB

theorem decodeN_same (n m b0 r0 r1 r2 t0 t1 t2 : Nat) (h1 : (1 < n ∧ r0 / 64 = 2) ↔ (1 < m ∧ t0 / 64 = 2)) (e1 : (1 < n ∧ r0 / 64 = 2) → r0 = t0)
    (h2 : (1 < n ∧ r0 / 64 = 2) → ((2 < n ∧ r1 / 64 = 2) ↔ (2 < m ∧ t1 / 64 = 2))) (e2 : (1 < n ∧ r0 / 64 = 2) → (2 < n ∧ r1 / 64 = 2) → r1 = t1)
    (h3 : (1 < n ∧ r0 / 64 = 2) → (2 < n ∧ r1 / 64 = 2) → ((3 < n ∧ r2 / 64 = 2) ↔ (3 < m ∧ t2 / 64 = 2))) (e3 : (1 < n ∧ r0 / 64 = 2) → (2 < n ∧ r1 / 64 = 2) → (3 < n ∧ r2 / 64 = 2) → r2 = t2) :
    decodeN n b0 r0 r1 r2 = decodeN m b0 t0 t1 t2 := by
  unfold decodeN
  by_cases p1 : 1 < n ∧ r0 / 64 = 2
  · have q1 := h1.1 p1
    obtain rfl := e1 p1
    by_cases p2 : 2 < n ∧ r1 / 64 = 2
    · have q2 := (h2 p1).1 p2
      obtain rfl := e2 p1 p2
      by_cases p3 : 3 < n ∧ r2 / 64 = 2
      · have q3 := (h3 p1 p2).1 p3
        obtain rfl := e3 p1 p2 p3
        simp only [p1, q1, p2, q2, p3, q3, and_true]
      · have q3 : ¬ (3 < m ∧ t2 / 64 = 2) := fun h => p3 ((h3 p1 p2).2 h)
        simp only [p1, q1, p2, q2, p3, q3, and_true, and_false, if_false]
    · have q2 : ¬ (2 < m ∧ t1 / 64 = 2) := fun h => p2 ((h2 p1).2 h)
      simp only [p1, q1, p2, q2, and_true, and_false, false_and, if_false]
  · have q1 : ¬ (1 < m ∧ t0 / 64 = 2) := fun h => p1 (h1.2 h)
    simp only [p1, q1, and_false, false_and, if_false]

theorem runC_get : ∀ (r : List UInt8) (i : Nat), i < (runC r).length → (runC r).getD i 0 = r.getD i 0 ∧ contB (r.getD i 0) = true ∧ i < r.length
  | [], i, h => by simp [runC] at h
  | b :: r, i, h => by
    unfold runC at h ⊢
    rw [List.takeWhile_cons] at h ⊢
    cases hb : contB b with
    | false => rw [hb] at h; simp at h
    | true =>
      rw [hb] at h
      simp only [if_true] at h ⊢
      cases i with
      | zero => simp [hb]
      | succ i =>
        have := runC_get r i (by simpa [runC] using h)
        simpa [runC] using this
theorem runC_stop : ∀ (r : List UInt8), (runC r).length < r.length → contB (r.getD (runC r).length 0) = false
  | [], h => by simp at h
  | b :: r, h => by
    unfold runC at h ⊢
    rw [List.takeWhile_cons] at h ⊢
    cases hb : contB b with
    | false => simp [hb]
    | true =>
      rw [hb] at h
      simp only [if_true] at h ⊢
      have := runC_stop r (by simpa [runC] using h)
      simpa [runC] using this
/-- A decoding looks at no more than the continuations behind the first byte. -/
theorem decodeL_run (b : UInt8) (r : List UInt8) : decodeL (b :: r) = decodeL (b :: runC r) := by
  rw [decodeL_N, decodeL_N (b :: runC r)]
  simp only [List.getD_cons_zero, List.getD_cons_succ, List.length_cons]
  have hc : ∀ i, contB (r.getD i 0) = true ↔ (r.getD i 0).toNat / 64 = 2 := fun i => by unfold contB; rw [decide_eq_true_eq]
  have hle : (runC r).length ≤ r.length := (List.takeWhile_sublist _).length_le
  have key : ∀ i, i ≤ (runC r).length → ((i + 1 < r.length + 1 ∧ (r.getD i 0).toNat / 64 = 2) ↔ (i + 1 < (runC r).length + 1 ∧ ((runC r).getD i 0).toNat / 64 = 2)) ∧ ((i + 1 < r.length + 1 ∧ (r.getD i 0).toNat / 64 = 2) → i + 1 ≤ (runC r).length ∧ (r.getD i 0).toNat = ((runC r).getD i 0).toNat) := by
    intro i hi
    by_cases h : i < (runC r).length
    · obtain ⟨g1, g2, g3⟩ := runC_get r i h
      rw [g1]
      exact ⟨⟨fun ⟨_, h2⟩ => ⟨by omega, h2⟩, fun ⟨_, h2⟩ => ⟨by omega, h2⟩⟩, fun _ => ⟨h, rfl⟩⟩
    · have hi2 : i = (runC r).length := by omega
      have no : ¬ (i + 1 < r.length + 1 ∧ (r.getD i 0).toNat / 64 = 2) := by
        rintro ⟨h1, h2⟩
        have := runC_stop r (by omega)
        rw [← hi2] at this
        rw [(hc i).2 h2] at this
        cases this
      exact ⟨⟨fun h => absurd h no, fun ⟨h1, _⟩ => by omega⟩, fun h => absurd h no⟩
  exact decodeN_same _ _ _ _ _ _ _ _ _ (key 0 (Nat.zero_le _)).1 (fun h => ((key 0 (Nat.zero_le _)).2 h).2)
    (fun h => (key 1 ((key 0 (Nat.zero_le _)).2 h).1).1) (fun h k => ((key 1 ((key 0 (Nat.zero_le _)).2 h).1).2 k).2)
    (fun h k => (key 2 ((key 1 ((key 0 (Nat.zero_le _)).2 h).1).2 k).1).1) (fun h k j => ((key 2 ((key 1 ((key 0 (Nat.zero_le _)).2 h).1).2 k).1).2 j).2)

/-- A valid unit does not begin with a continuation. -/
theorem good_head (l : List UInt8) (hv : ¬ ((decodeL l).1 = 65533 ∧ (decodeL l).2 = 1)) : contB (l.getD 0 0) = false := by
  rw [decodeL_N] at hv
  unfold contB
  rw [decide_eq_false_iff_not]
  rcases decodeN_shape l.length (l.getD 0 0).toNat (l.getD 1 0).toNat (l.getD 2 0).toNat (l.getD 3 0).toNat with ⟨c, e⟩ | ⟨c1, c2, c3, cv, e⟩ | ⟨c1, c2, c3, c4, cv, cs, e⟩ | ⟨c1, c2, c3, c4, c5, cv, cw, e⟩ | e
  · omega
  · omega
  · omega
  · omega
  · rw [e] at hv
    exact absurd ⟨rfl, rfl⟩ hv

/-- Behind a valid unit's own bytes whatever may stand. -/
theorem decodeN_own (n b0 b1 b2 b3 m c1 c2 c3 : Nat) (hv : ¬ decodeN n b0 b1 b2 b3 = (65533, 1)) (hm : (decodeN n b0 b1 b2 b3).2 ≤ m) (h1 : 1 < (decodeN n b0 b1 b2 b3).2 → c1 = b1) (h2 : 2 < (decodeN n b0 b1 b2 b3).2 → c2 = b2) (h3 : 3 < (decodeN n b0 b1 b2 b3).2 → c3 = b3) :
    decodeN m b0 c1 c2 c3 = decodeN n b0 b1 b2 b3 := by
  rcases decodeN_shape n b0 b1 b2 b3 with ⟨c, e⟩ | ⟨d1, d2, d3, dv, e⟩ | ⟨d1, d2, d3, d4, dv, ds, e⟩ | ⟨d1, d2, d3, d4, d5, dv, dw, e⟩ | e
  · rw [e]
    unfold decodeN
    rw [if_pos c]
  · rw [e] at hm h1 h2 h3 ⊢
    simp only at hm h1 h2 h3
    rw [h1 (by omega)]
    unfold decodeN
    rw [if_neg (by omega), if_pos ⟨d1, by omega, d3⟩, if_pos dv]
  · rw [e] at hm h1 h2 h3 ⊢
    simp only at hm h1 h2 h3
    rw [h1 (by omega), h2 (by omega)]
    unfold decodeN
    rw [if_neg (by omega), if_neg (by omega), if_pos ⟨d1, ⟨by omega, d3⟩, by omega, d4⟩, if_pos ⟨dv, by omega⟩]
  · rw [e] at hm h1 h2 h3 ⊢
    simp only at hm h1 h2 h3
    rw [h1 (by omega), h2 (by omega), h3 (by omega)]
    unfold decodeN
    rw [if_neg (by omega), if_neg (by omega), if_neg (by omega), if_pos ⟨d1, ⟨by omega, d3⟩, ⟨by omega, d4⟩, by omega, d5⟩, if_pos ⟨dv, by omega⟩]
  · exact absurd e hv
theorem decodeL_own (l m : List UInt8) (hne : l ≠ []) (hv : ¬ ((decodeL l).1 = 65533 ∧ (decodeL l).2 = 1)) : decodeL (l.take (decodeL l).2 ++ m) = decodeL l := by
  have hp : 0 < l.length := List.length_pos_iff.2 hne
  have hw := decodeL_width l
  have hle := decodeL_le l hne
  obtain ⟨w, hwd⟩ : ∃ w, (decodeL l).2 = w := ⟨_, rfl⟩
  have hv2 : ¬ decodeL l = (65533, 1) := fun e => hv ⟨by rw [e], by rw [e]⟩
  rw [hwd] at hw hle ⊢
  have g : ∀ i, i < w → (l.take w ++ m).getD i 0 = l.getD i 0 := fun i hi => by
    rw [List.getD_eq_getElem?_getD, List.getD_eq_getElem?_getD, List.getElem?_append_left (by rw [List.length_take]; omega), List.getElem?_take, if_pos hi]
  rw [decodeL_N] at hv2
  have hwd2 := hwd
  rw [decodeL_N l] at hwd2
  rw [decodeL_N (l.take w ++ m), decodeL_N l, g 0 (by omega)]
  exact decodeN_own _ _ _ _ _ _ _ _ _ hv2 (by rw [hwd2, List.length_append, List.length_take]; omega) (fun h => by rw [hwd2] at h; rw [g 1 h]) (fun h => by rw [hwd2] at h; rw [g 2 h]) (fun h => by rw [hwd2] at h; rw [g 3 h])

/-- A unit's bytes, of a list whose first byte is at p. -/
def tx (l : List UInt8) (p : Nat) (u : U) : List UInt8 := (l.drop (u.p - p)).take u.w
def pcA (l : List UInt8) (p : Nat) (u : U) : List UInt8 := if badU u then tx l p u else (Utf8.encode (foldC u.c : Nat)).data.toList
def foldA (l : List UInt8) (p : Nat) : List UInt8 := (unitsA l p).flatMap (pcA l p)
theorem foldA_foldL (s : ByteArray) : foldA s.data.toList 0 = foldL s := rfl

theorem unitsA_from (l : List UInt8) (p : Nat) : ∀ u ∈ unitsA l p, p ≤ u.p := fun u hu => (units_fit l p u hu).1
theorem flatMap_congr' {α β : Type} {f g : α → List β} : ∀ (l : List α), (∀ x ∈ l, f x = g x) → l.flatMap f = l.flatMap g
  | [], _ => rfl
  | a :: l, h => by rw [List.flatMap_cons, List.flatMap_cons, h a (by simp), flatMap_congr' l (fun x hx => h x (by simp [hx]))]
theorem tx_drop (l : List UInt8) (p w : Nat) (u : U) (h : p + w ≤ u.p) : tx l p u = tx (l.drop w) (p + w) u := by
  unfold tx
  rw [List.drop_drop]
  have e : w + (u.p - (p + w)) = u.p - p := by omega
  rw [e]
/-- The first unit's piece. -/
def pcH (l : List UInt8) : List UInt8 := if (decodeL l).1 = 65533 ∧ (decodeL l).2 = 1 then l.take (decodeL l).2 else (Utf8.encode (foldC (decodeL l).1 : Nat)).data.toList
theorem foldA_step (l : List UInt8) (p : Nat) (hne : l ≠ []) : foldA l p = pcH l ++ foldA (l.drop (decodeL l).2) (p + (decodeL l).2) := by
  unfold foldA
  rw [unitsA_step l p hne, List.flatMap_cons]
  congr 1
  · unfold pcA pcH tx
    rw [badU_mk]
    simp only [Nat.sub_self, List.drop_zero, decide_eq_true_eq]
  · refine flatMap_congr' _ (fun u hu => ?_)
    have := unitsA_from _ _ u hu
    unfold pcA
    rw [tx_drop l p _ u this]

theorem foldC_fix (c : Nat) : foldC (foldC c) = foldC c := by
  unfold foldC
  repeat' split
  all_goals omega
theorem foldC_bad (c : Nat) : foldC c = 65533 ↔ c = 65533 := by
  unfold foldC
  repeat' split
  all_goals omega

theorem enc_one (k : Nat) (h : k < 128) : (Utf8.encode (k : Int)).data.toList = [UInt8.ofNat k] := by
  rw [encode_bytes k (by omega)]
  unfold encodeRune
  rw [encodeRuneZ_one (by omega) (by omega)]
  simp
theorem enc_two (k : Nat) (h0 : 128 ≤ k) (h : k < 2048) : (Utf8.encode (k : Int)).data.toList = [UInt8.ofNat (192 + k / 64), UInt8.ofNat (128 + k % 64)] := by
  rw [encode_bytes k (by omega)]
  unfold encodeRune
  rw [encodeRuneZ_two (by omega) (by omega)]
  have e1 : (192 + (k : Int) / 64).toNat = 192 + k / 64 := by omega
  have e2 : (128 + (k : Int) % 64).toNat = 128 + k % 64 := by omega
  simp only [List.map_cons, List.map_nil, e1, e2]
theorem dec_one (k : Nat) (h : k < 128) (m : List UInt8) : decodeL ([UInt8.ofNat k] ++ m) = (k, 1) := by
  have : (UInt8.ofNat k).toNat = k := by simp; omega
  rw [decodeL_N]
  simp only [List.cons_append, List.getD_cons_zero, this]
  unfold decodeN
  rw [if_pos h]
theorem dec_two (k : Nat) (h0 : 128 ≤ k) (h : k < 2048) (m : List UInt8) : decodeL ([UInt8.ofNat (192 + k / 64), UInt8.ofNat (128 + k % 64)] ++ m) = (k, 2) := by
  have e1 : (UInt8.ofNat (192 + k / 64)).toNat = 192 + k / 64 := by simp; omega
  have e2 : (UInt8.ofNat (128 + k % 64)).toNat = 128 + k % 64 := by simp; omega
  rw [decodeL_N]
  simp only [List.cons_append, List.getD_cons_zero, List.getD_cons_succ, List.length_cons, e1, e2]
  unfold decodeN
  rw [if_neg (by omega), if_pos ⟨by omega, by omega, by omega⟩, if_pos (by omega)]
  congr 1
  omega

/-- A valid unit's piece: it is a unit of the same length, whatever follows. -/
theorem good_piece (l : List UInt8) (hne : l ≠ []) (hv : ¬ ((decodeL l).1 = 65533 ∧ (decodeL l).2 = 1)) (m : List UInt8) :
    (pcH l).length = (decodeL l).2 ∧ decodeL (pcH l ++ m) = (foldC (decodeL l).1, (decodeL l).2) := by
  have hsc := decodeL_scalar l
  have he := encode_decode l hne hv
  rw [← encode_bytes _ hsc] at he
  have hle := decodeL_le l hne
  have hown := decodeL_own l m hne hv
  unfold pcH
  rw [if_neg hv]
  obtain ⟨c, hc⟩ : ∃ c, (decodeL l).1 = c := ⟨_, rfl⟩
  obtain ⟨w, hw⟩ : ∃ w, (decodeL l).2 = w := ⟨_, rfl⟩
  have hd : decodeL l = (c, w) := by rw [← hc, ← hw]
  rw [hd] at he hown hle ⊢
  simp only at he hown hle ⊢
  by_cases hf : foldC c = c
  · rw [hf, he, hown]
    exact ⟨by rw [List.length_take]; omega, rfl⟩
  · have hlw : (Utf8.encode (c : Int)).data.toList.length = w := by rw [he, List.length_take]; omega
    have hr : (c < 128 ∧ foldC c < 128) ∨ (128 ≤ c ∧ c < 2048 ∧ 128 ≤ foldC c ∧ foldC c < 2048) := by
      unfold foldC at hf ⊢
      split at hf
      · rename_i h1
        rw [if_pos h1]
        omega
      · rename_i h1
        rw [if_neg h1]
        split at hf
        · rename_i h2
          rw [if_pos h2]
          omega
        · exact absurd rfl hf
    rcases hr with ⟨h1, h2⟩ | ⟨h1, h2, h3, h4⟩
    · rw [enc_one c h1] at hlw
      rw [enc_one _ h2, dec_one _ h2]
      simp only [List.length_cons, List.length_nil] at hlw ⊢
      exact ⟨hlw, by rw [← hlw]⟩
    · rw [enc_two c h1 h2] at hlw
      rw [enc_two _ h3 h4, dec_two _ h3 h4]
      simp only [List.length_cons, List.length_nil] at hlw ⊢
      exact ⟨hlw, by rw [← hlw]⟩
theorem getD_app_zero (a b : List UInt8) (h : 0 < a.length) : (a ++ b).getD 0 0 = a.getD 0 0 := by
  rw [List.getD_eq_getElem?_getD, List.getD_eq_getElem?_getD, List.getElem?_append_left h]
theorem runC_head (l : List UInt8) (h : contB (l.getD 0 0) = false) : runC l = [] := by
  cases l with
  | nil => rfl
  | cons b l =>
    simp only [List.getD_cons_zero] at h
    unfold runC
    rw [List.takeWhile_cons, h]
    rfl
/-- An invalid unit is one byte. -/
theorem bad_cons (l : List UInt8) (hne : l ≠ []) (hb : (decodeL l).1 = 65533 ∧ (decodeL l).2 = 1) : ∃ b r, l = b :: r ∧ pcH l = [b] ∧ l.drop (decodeL l).2 = r := by
  cases l with
  | nil => exact absurd rfl hne
  | cons b r =>
    refine ⟨b, r, rfl, ?_, ?_⟩
    · unfold pcH
      rw [if_pos hb, hb.2]
      rfl
    · rw [hb.2]
      rfl
/-- Folding leaves the continuations that a list begins with. -/
theorem run_fold : ∀ (l : List UInt8) (p : Nat), runC (foldA l p) = runC l := by
  refine unitsA_ind ?_ ?_
  · intro p
    simp [foldA, unitsA_nil]
  · intro l p hne ih
    rw [foldA_step l p hne]
    by_cases hb : (decodeL l).1 = 65533 ∧ (decodeL l).2 = 1
    · obtain ⟨b, r, rfl, h1, h2⟩ := bad_cons l hne hb
      rw [h1, h2]
      rw [h2] at ih
      unfold runC at ih ⊢
      rw [List.singleton_append, List.takeWhile_cons, List.takeWhile_cons, ih]
    · have hg := good_piece l hne hb (foldA (l.drop (decodeL l).2) (p + (decodeL l).2))
      have hw := decodeL_width l
      rw [runC_head l (good_head l hb), runC_head]
      refine good_head _ ?_
      rw [hg.2]
      intro h
      exact hb ⟨(foldC_bad _).1 h.1, h.2⟩
/-- The folded list's first unit. -/
theorem fold_first (l : List UInt8) (p : Nat) (hne : l ≠ []) :
    (pcH l).length = (decodeL l).2 ∧ decodeL (foldA l p) = ((if (decodeL l).1 = 65533 ∧ (decodeL l).2 = 1 then (decodeL l).1 else foldC (decodeL l).1), (decodeL l).2) := by
  rw [foldA_step l p hne]
  by_cases hb : (decodeL l).1 = 65533 ∧ (decodeL l).2 = 1
  · rw [if_pos hb]
    obtain ⟨b, r, rfl, h1, h2⟩ := bad_cons l hne hb
    rw [h1, h2]
    refine ⟨by rw [hb.2]; rfl, ?_⟩
    rw [List.singleton_append, decodeL_run, run_fold, ← decodeL_run]
  · rw [if_neg hb]
    exact good_piece l hne hb _
theorem foldA_ne (l : List UInt8) (p : Nat) (hne : l ≠ []) : foldA l p ≠ [] := by
  have hw := decodeL_width l
  have h := (fold_first l p hne).1
  rw [foldA_step l p hne]
  intro e
  have := congrArg List.length e
  rw [List.length_append, h] at this
  simp only [List.length_nil] at this
  omega
theorem foldA_drop (l : List UInt8) (p : Nat) (hne : l ≠ []) : (foldA l p).drop (decodeL l).2 = foldA (l.drop (decodeL l).2) (p + (decodeL l).2) := by
  have h := (fold_first l p hne).1
  rw [foldA_step l p hne, ← h, List.drop_left]
/-- The folded units. -/
def fu (u : U) : U := if badU u then u else ⟨foldC u.c, u.p, u.w⟩
theorem fold_units : ∀ (l : List UInt8) (p : Nat), unitsA (foldA l p) p = (unitsA l p).map fu := by
  refine unitsA_ind ?_ ?_
  · intro p
    simp [foldA, unitsA_nil]
  · intro l p hne ih
    have hf := (fold_first l p hne).2
    rw [unitsA_step l p hne, unitsA_step _ p (foldA_ne l p hne), hf]
    simp only [List.map_cons]
    rw [foldA_drop l p hne, ih]
    congr 1
    unfold fu
    rw [badU_mk]
    by_cases hb : (decodeL l).1 = 65533 ∧ (decodeL l).2 = 1
    · simp only [hb, and_self, if_true, decide_true]
    · simp only [hb, if_false, decide_false, Bool.false_eq_true]
theorem badU_fu (u : U) : badU (fu u) = badU u := by
  unfold fu
  cases h : badU u with
  | true => rw [if_pos rfl]; exact h
  | false =>
    rw [if_neg (by simp)]
    have h2 : badU ⟨u.c, u.p, u.w⟩ = false := h
    rw [badU_mk, decide_eq_false_iff_not] at h2
    rw [badU_mk, decide_eq_false_iff_not]
    intro ⟨a, b⟩
    exact h2 ⟨(foldC_bad _).1 a, b⟩
/-- Folding twice changes nothing more. -/
theorem fold_twice : ∀ (l : List UInt8) (p : Nat), foldA (foldA l p) p = foldA l p := by
  refine unitsA_ind ?_ ?_
  · intro p
    simp [foldA, unitsA_nil]
  · intro l p hne ih
    obtain ⟨h1, hf⟩ := fold_first l p hne
    have hne2 := foldA_ne l p hne
    rw [foldA_step (foldA l p) p hne2, hf]
    simp only
    rw [foldA_drop l p hne, ih]
    have hp : pcH (foldA l p) = pcH l := by
      unfold pcH
      rw [hf]
      simp only
      by_cases hb : (decodeL l).1 = 65533 ∧ (decodeL l).2 = 1
      · rw [if_pos hb, if_pos hb, if_pos hb]
        have hs := foldA_step l p hne
        have : pcH l = l.take (decodeL l).2 := by unfold pcH; rw [if_pos hb]
        rw [hs, List.take_append_of_le_length (by rw [h1]; exact Nat.le_refl _), List.take_of_length_le (by rw [h1]; exact Nat.le_refl _), this]
      · rw [if_neg hb, if_neg hb, if_neg (fun h => hb ⟨(foldC_bad _).1 h.1, h.2⟩), foldC_fix]
    rw [hp, ← foldA_step l p hne]
end Go.Proofs.Yteennnhinfnahaa
