/-
  PLAIN MATHEMATICS, NO PROGRAM: behind a valid beginning the units of a string are those of the rest.
-/
import Derived.Test.YteennnhinfnahaaCpD
namespace Go.Proofs.Yteennnhinfnahaa
open Go.Lib

theorem decodeN_more (n m b0 b1 b2 b3 c1 c2 c3 : Nat) (hn : n ≤ m) (h1 : 1 < n → c1 = b1) (h2 : 2 < n → c2 = b2) (h3 : 3 < n → c3 = b3) (hv : ¬ decodeN n b0 b1 b2 b3 = (65533, 1)) : decodeN m b0 c1 c2 c3 = decodeN n b0 b1 b2 b3 := by
  rcases decodeN_shape n b0 b1 b2 b3 with ⟨c, e⟩ | ⟨d1, d2, d3, dv, e⟩ | ⟨d1, d2, d3, d4, dv, ds, e⟩ | ⟨d1, d2, d3, d4, d5, dv, dw, e⟩ | e
  · rw [e]
    unfold decodeN
    rw [if_pos c]
  · rw [e, h1 d2]
    unfold decodeN
    rw [if_neg (by omega), if_pos ⟨d1, by omega, d3⟩, if_pos dv]
  · rw [e, h1 (by omega), h2 d2]
    unfold decodeN
    rw [if_neg (by omega), if_neg (by omega), if_pos ⟨d1, ⟨by omega, d3⟩, by omega, d4⟩, if_pos ⟨dv, by omega⟩]
  · rw [e, h1 (by omega), h2 (by omega), h3 d2]
    unfold decodeN
    rw [if_neg (by omega), if_neg (by omega), if_neg (by omega), if_pos ⟨d1, ⟨by omega, d3⟩, ⟨by omega, d4⟩, by omega, d5⟩, if_pos ⟨dv, by omega⟩]
  · exact absurd e hv

theorem decodeL_app (l m : List UInt8) (hne : l ≠ []) (hv : ¬ ((decodeL l).1 = 65533 ∧ (decodeL l).2 = 1)) : decodeL (l ++ m) = decodeL l := by
  have hp : 0 < l.length := List.length_pos_iff.2 hne
  rw [decodeL_N] at hv ⊢
  rw [decodeL_N l]
  have g : ∀ i, i < l.length → (l ++ m).getD i 0 = l.getD i 0 := fun i hi => by
    rw [List.getD_eq_getElem?_getD, List.getD_eq_getElem?_getD, List.getElem?_append_left hi]
  rw [g 0 hp]
  refine decodeN_more _ _ _ _ _ _ _ _ _ (by simp) (fun h => by rw [g 1 h]) (fun h => by rw [g 2 h]) (fun h => by rw [g 3 h]) ?_
  intro e
  rw [e] at hv
  exact hv ⟨rfl, rfl⟩

theorem badU_mk (c p w : Nat) : badU ⟨c, p, w⟩ = decide (c = 65533 ∧ w = 1) := by
  unfold badU invB
  congr 1
  simp only [eq_iff_iff, and_congr_left_iff]
  omega
/-- Behind a valid beginning: the units are those of the rest. -/
theorem units_app (m : List UInt8) : ∀ (l : List UInt8) (p : Nat), ((unitsA l p).all fun u => !badU u) = true → unitsA (l ++ m) p = unitsA l p ++ unitsA m (p + l.length) := by
  refine unitsA_ind ?_ ?_
  · intro p _
    simp [unitsA_nil]
  · intro l p hne ih hv
    rw [unitsA_step l p hne, List.all_cons, Bool.and_eq_true, badU_mk] at hv
    have hgood : ¬ ((decodeL l).1 = 65533 ∧ (decodeL l).2 = 1) := by
      have h := hv.1
      rw [Bool.not_eq_true', decide_eq_false_iff_not] at h
      exact h
    have hd := decodeL_app l m hne hgood
    have hle := decodeL_le l hne
    rw [unitsA_step (l ++ m) p (by simp [hne]), unitsA_step l p hne, hd, List.drop_append_of_le_length hle, ih hv.2, List.length_drop]
    simp only [List.cons_append, List.cons.injEq, true_and, List.append_cancel_left_eq]
    congr 1
    omega
theorem all_shift (f : U → Bool) (hf : ∀ c p q w, f ⟨c, p, w⟩ = f ⟨c, q, w⟩) : ∀ (l : List UInt8) (p q : Nat), (unitsA l p).all f = (unitsA l q).all f := by
  refine unitsA_ind (M := fun l p => ∀ q, (unitsA l p).all f = (unitsA l q).all f) ?_ ?_
  · intro p q
    simp [unitsA_nil]
  · intro l p hne ih q
    rw [unitsA_step l p hne, unitsA_step l q hne, List.all_cons, List.all_cons, ih, hf _ p q]
/-- Whether a string is valid, behind a valid beginning. -/
theorem valid_behind (s : ByteArray) (p : Nat) (hv : ((units (s.extract 0 p)).all fun u => !badU u) = true) : ((units (s.extract p s.size)).all fun u => !badU u) = ((units s).all fun u => !badU u) := by
  unfold units at *
  have e1 : (s.extract 0 p).data.toList = s.data.toList.take p := by rw [Lib.extract_data]; simp
  have e2 : (s.extract p s.size).data.toList = s.data.toList.drop p := by
    rw [Lib.extract_data, List.take_of_length_le]
    rw [List.length_drop, ← Lib.size_eq]
    omega
  rw [e1] at hv
  rw [e2]
  have h := units_app (s.data.toList.drop p) (s.data.toList.take p) 0 hv
  rw [List.take_append_drop] at h
  rw [h, List.all_append, hv, Bool.true_and]
  exact all_shift _ (fun c p q w => by rw [badU_mk, badU_mk]) _ _ _
end Go.Proofs.Yteennnhinfnahaa
