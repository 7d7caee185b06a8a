/-
  PLAIN MATHEMATICS: a value cut between two units, two values joined.
-/
import Derived.Test.YtmjmidgfdjcbfaaGreatDoorGvM
namespace Go.Proofs.YtmjmidgfdjcbfaaGreatDoor
open Go.RowKit Go.Shelf Go.Lib

theorem decodeN_more (n m b0 b1 b2 b3 c1 c2 c3 : Nat) (hn : n ≤ m) (h1 : 1 < n → c1 = b1) (h2 : 2 < n → c2 = b2) (h3 : 3 < n → c3 = b3) (hv : ¬ decodeN n b0 b1 b2 b3 = (65533, 1)) : decodeN m b0 c1 c2 c3 = decodeN n b0 b1 b2 b3 := by
  rcases decodeN_shape n b0 b1 b2 b3 with ⟨c, e⟩ | ⟨d1, d2, d3, dv, e⟩ | ⟨d1, d2, d3, d4, dv, ds, e⟩ | ⟨d1, d2, d3, d4, d5, dv, dw, e⟩ | e
  · rw [e]
    unfold decodeN
    rw [if_pos c]
  · rw [e, h1 d2]
    unfold decodeN
    rw [if_neg (by omega), if_pos ⟨d1, by omega, d3⟩, if_pos dv]
  · rw [e, h1 (by omega), h2 d2]
    unfold decodeN
    rw [if_neg (by omega), if_neg (by omega), if_pos ⟨d1, ⟨by omega, d3⟩, by omega, d4⟩, if_pos ⟨dv, by omega⟩]
  · rw [e, h1 (by omega), h2 (by omega), h3 d2]
    unfold decodeN
    rw [if_neg (by omega), if_neg (by omega), if_neg (by omega), if_pos ⟨d1, ⟨by omega, d3⟩, ⟨by omega, d4⟩, by omega, d5⟩, if_pos ⟨dv, by omega⟩]
  · exact absurd e hv

theorem decodeL_app (l m : List UInt8) (hne : l ≠ []) (hv : ¬ ((decodeL l).1 = 65533 ∧ (decodeL l).2 = 1)) : decodeL (l ++ m) = decodeL l := by
  have hp : 0 < l.length := List.length_pos_iff.2 hne
  rw [decodeL_N] at hv ⊢
  rw [decodeL_N l]
  have g : ∀ i, i < l.length → (l ++ m).getD i 0 = l.getD i 0 := fun i hi => by
    rw [List.getD_eq_getElem?_getD, List.getD_eq_getElem?_getD, List.getElem?_append_left hi]
  rw [g 0 hp]
  refine decodeN_more _ _ _ _ _ _ _ _ _ (by simp) (fun h => by rw [g 1 h]) (fun h => by rw [g 2 h]) (fun h => by rw [g 3 h]) ?_
  intro e
  rw [e] at hv
  exact hv ⟨rfl, rfl⟩

theorem badU_mk (c p w : Nat) : badU ⟨c, p, w⟩ = decide (c = 65533 ∧ w = 1) := by
  unfold badU invB
  congr 1
  simp only [eq_iff_iff, and_congr_left_iff]
  omega
/-- Behind a valid beginning: the units are those of the rest. -/
theorem units_app (m : List UInt8) : ∀ (l : List UInt8) (p : Nat), ((unitsA l p).all fun u => !badU u) = true → unitsA (l ++ m) p = unitsA l p ++ unitsA m (p + l.length) := by
  refine unitsA_ind ?_ ?_
  · intro p _
    simp [unitsA_nil]
  · intro l p hne ih hv
    rw [unitsA_step l p hne, List.all_cons, Bool.and_eq_true, badU_mk] at hv
    have hgood : ¬ ((decodeL l).1 = 65533 ∧ (decodeL l).2 = 1) := by
      have h := hv.1
      rw [Bool.not_eq_true', decide_eq_false_iff_not] at h
      exact h
    have hd := decodeL_app l m hne hgood
    have hle := decodeL_le l hne
    rw [unitsA_step (l ++ m) p (by simp [hne]), unitsA_step l p hne, hd, List.drop_append_of_le_length hle, ih hv.2, List.length_drop]
    simp only [List.cons_append, List.cons.injEq, true_and, List.append_cancel_left_eq]
    congr 1
    omega
theorem all_shift (f : U → Bool) (hf : ∀ c p q w, f ⟨c, p, w⟩ = f ⟨c, q, w⟩) : ∀ (l : List UInt8) (p q : Nat), (unitsA l p).all f = (unitsA l q).all f := by
  refine unitsA_ind (M := fun l p => ∀ q, (unitsA l p).all f = (unitsA l q).all f) ?_ ?_
  · intro p q
    simp [unitsA_nil]
  · intro l p hne ih q
    rw [unitsA_step l p hne, unitsA_step l q hne, List.all_cons, List.all_cons, ih, hf _ p q]
theorem decodeN_less (n m b0 b1 b2 b3 c1 c2 c3 : Nat) (hw : (decodeN n b0 b1 b2 b3).2 ≤ m) (h1 : 1 < m → c1 = b1) (h2 : 2 < m → c2 = b2) (h3 : 3 < m → c3 = b3) (hv : ¬ decodeN n b0 b1 b2 b3 = (65533, 1)) : decodeN m b0 c1 c2 c3 = decodeN n b0 b1 b2 b3 := by
  rcases decodeN_shape n b0 b1 b2 b3 with ⟨c, e⟩ | ⟨d1, d2, d3, dv, e⟩ | ⟨d1, d2, d3, d4, dv, ds, e⟩ | ⟨d1, d2, d3, d4, d5, dv, dw, e⟩ | e
  · rw [e]
    unfold decodeN
    rw [if_pos c]
  · rw [e] at hw
    have hm : 2 ≤ m := hw
    rw [e, h1 (by omega)]
    unfold decodeN
    rw [if_neg (by omega), if_pos ⟨d1, by omega, d3⟩, if_pos dv]
  · rw [e] at hw
    have hm : 3 ≤ m := hw
    rw [e, h1 (by omega), h2 (by omega)]
    unfold decodeN
    rw [if_neg (by omega), if_neg (by omega), if_pos ⟨d1, ⟨by omega, d3⟩, by omega, d4⟩, if_pos ⟨dv, by omega⟩]
  · rw [e] at hw
    have hm : 4 ≤ m := hw
    rw [e, h1 (by omega), h2 (by omega), h3 (by omega)]
    unfold decodeN
    rw [if_neg (by omega), if_neg (by omega), if_neg (by omega), if_pos ⟨d1, ⟨by omega, d3⟩, ⟨by omega, d4⟩, by omega, d5⟩, if_pos ⟨dv, by omega⟩]
  · exact absurd e hv
theorem decodeL_take (l : List UInt8) (hne : l ≠ []) (hv : ¬ ((decodeL l).1 = 65533 ∧ (decodeL l).2 = 1)) : decodeL (l.take (decodeL l).2) = decodeL l := by
  have hle := decodeL_le l hne
  have hwd := decodeL_width l
  obtain ⟨k, hk⟩ : ∃ k, (decodeL l).2 = k := ⟨_, rfl⟩
  have hlen : (l.take k).length = k := by rw [List.length_take]; omega
  have g : ∀ i, i < k → (l.take k).getD i 0 = l.getD i 0 := fun i hi => by
    rw [List.getD_eq_getElem?_getD, List.getD_eq_getElem?_getD, List.getElem?_take, if_pos hi]
  rw [hk, decodeL_N (l.take k), hlen]
  have g0 := g 0 (by omega)
  rw [decodeL_N] at hv hk ⊢
  rw [g0]
  refine decodeN_less _ _ _ _ _ _ _ _ _ (by rw [hk]; exact Nat.le_refl _) (fun h => by rw [g 1 h]) (fun h => by rw [g 2 h]) (fun h => by rw [g 3 h]) ?_
  intro e
  rw [e] at hv
  exact hv ⟨rfl, rfl⟩
theorem valid_any_at (l : List UInt8) (p : Nat) : ((unitsA l p).all fun u => !badU u) = validL l := all_shift _ (fun c p q w => by rw [badU_mk, badU_mk]) l p 0
theorem valid_app (l m : List UInt8) (hl : validL l = true) (hm : validL m = true) : validL (l ++ m) = true := by
  unfold validL at hl
  have h := units_app m l 0 hl
  unfold validL
  rw [h, List.all_append, hl, valid_any_at, hm]
  rfl
theorem units_cut : ∀ (l : List UInt8) (p : Nat), ((unitsA l p).all fun u => !badU u) = true → ∀ u ∈ unitsA l p, p ≤ u.p ∧ u.p - p ≤ l.length ∧ validL (l.take (u.p - p)) = true ∧ validL (l.drop (u.p - p)) = true := by
  refine unitsA_ind (M := fun l p => ((unitsA l p).all fun u => !badU u) = true → ∀ u ∈ unitsA l p, p ≤ u.p ∧ u.p - p ≤ l.length ∧ validL (l.take (u.p - p)) = true ∧ validL (l.drop (u.p - p)) = true) ?_ ?_
  · intro p _ u hu
    rw [unitsA_nil] at hu
    cases hu
  · intro l p hne ih hv u hu
    have hv0 := hv
    rw [valid_any_at] at hv0
    rw [unitsA_step l p hne, List.all_cons, Bool.and_eq_true, badU_mk] at hv
    rw [unitsA_step l p hne] at hu
    have hgood : ¬ ((decodeL l).1 = 65533 ∧ (decodeL l).2 = 1) := by
      have h := hv.1
      rw [Bool.not_eq_true', decide_eq_false_iff_not] at h
      exact h
    have hle := decodeL_le l hne
    have hwd := decodeL_width l
    rcases List.mem_cons.1 hu with rfl | hu
    · refine ⟨Nat.le_refl _, by simp, ?_, ?_⟩
      · rw [Nat.sub_self]; rfl
      · rw [Nat.sub_self]; exact hv0
    · obtain ⟨h1, h2, h3, h4⟩ := ih hv.2 u hu
      rw [List.length_drop] at h2
      have e : u.p - p = (decodeL l).2 + (u.p - (p + (decodeL l).2)) := by omega
      refine ⟨by omega, by omega, ?_, ?_⟩
      · rw [e, List.take_add]
        refine valid_app _ _ ?_ h3
        have hd := decodeL_take l hne hgood
        have hne2 : l.take (decodeL l).2 ≠ [] := by
          intro e
          have := congrArg List.length e
          have h0 : 0 < l.length := List.length_pos_iff.2 hne
          rw [List.length_take, List.length_nil] at this
          omega
        unfold validL
        rw [unitsA_step _ 0 hne2, hd, List.all_cons, badU_mk, List.drop_eq_nil_of_le (by rw [List.length_take]; omega), unitsA_nil]
        simp only [List.all_nil, Bool.and_true, Bool.not_eq_true', decide_eq_false_iff_not]
        exact hgood
      · rw [e, ← List.drop_drop]
        exact h4
theorem valE_zero {l : List UInt8} : valE l = 0 ↔ l.length ≤ 120 ∧ validL l = true ∧ l.any ctlB = false := by
  unfold valE
  by_cases h1 : 120 < l.length
  · rw [if_pos h1]; omega
  · rw [if_neg h1]
    cases h2 : validL l with
    | false => simp
    | true =>
      cases h3 : l.any ctlB with
      | true => simp
      | false => simp; omega
theorem valE_join {l m : List UInt8} (hl : valE l = 0) (hm : valE m = 0) : valE (l ++ m) = if 120 < l.length + m.length then 2 else 0 := by
  obtain ⟨a1, a2, a3⟩ := valE_zero.1 hl
  obtain ⟨b1, b2, b3⟩ := valE_zero.1 hm
  by_cases h : 120 < l.length + m.length
  · unfold valE
    rw [List.length_append, if_pos h, if_pos h]
  · rw [if_neg h]
    exact valE_zero.2 ⟨by rw [List.length_append]; omega, valid_app _ _ a2 b2, by rw [List.any_append, a3, b3]; rfl⟩
theorem valE_cut {l : List UInt8} (hl : valE l = 0) {u : U} (hu : u ∈ unitsA l 0) : u.p ≤ l.length ∧ valE (l.take u.p) = 0 ∧ valE (l.drop u.p) = 0 := by
  obtain ⟨a1, a2, a3⟩ := valE_zero.1 hl
  obtain ⟨_, h2, h3, h4⟩ := units_cut l 0 a2 u hu
  rw [Nat.sub_zero] at h2 h3 h4
  have ha : ∀ k : List UInt8, (∀ x ∈ k, x ∈ l) → k.any ctlB = false := fun k hk => by
    rw [List.any_eq_false] at a3 ⊢
    exact fun x hx => a3 x (hk x hx)
  exact ⟨h2, valE_zero.2 ⟨by rw [List.length_take]; omega, h3, ha _ fun x hx => List.mem_of_mem_take hx⟩, valE_zero.2 ⟨by rw [List.length_drop]; omega, h4, ha _ fun x hx => List.mem_of_mem_drop hx⟩⟩
end Go.Proofs.YtmjmidgfdjcbfaaGreatDoor
