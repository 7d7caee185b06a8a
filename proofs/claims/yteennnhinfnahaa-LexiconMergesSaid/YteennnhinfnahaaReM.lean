/-
  PLAIN MATHEMATICS, NO PROGRAM: valid strings joined: units, pieces, reversed and folded forms.
-/
import Derived.Test.YteennnhinfnahaaStM
namespace Go.Proofs.Yteennnhinfnahaa
open Go.Lib

theorem txt_tx (s : ByteArray) (u : U) : txt s u = tx s.data.toList 0 u := rfl
/-- The units' bytes, one by one. -/
def pieces (l : List UInt8) : List (List UInt8) := (unitsA l 0).map (tx l 0)
theorem flatMap_rev {α β : Type} (f : α → List β) (l : List α) : l.reverse.flatMap f = (l.map f).reverse.flatten := by
  rw [List.flatMap_def, List.map_reverse]
theorem revL_pieces (s : ByteArray) : revL s = (pieces s.data.toList).reverse.flatten := flatMap_rev (txt s) (units s)

theorem tx_left (a b : List UInt8) (u : U) (h : u.p + u.w ≤ a.length) : tx (a ++ b) 0 u = tx a 0 u := by
  unfold tx
  rw [Nat.sub_zero, List.drop_append_of_le_length (by omega), List.take_append_of_le_length (by rw [List.length_drop]; omega)]
theorem tx_right (a b : List UInt8) (u : U) (h : a.length ≤ u.p) : tx (a ++ b) 0 u = tx b a.length u := by
  unfold tx
  rw [Nat.sub_zero, List.drop_append, List.drop_eq_nil_of_le h, List.nil_append]
theorem tx_shift (l : List UInt8) (d : Nat) (u : U) : tx l d { c := u.c, p := u.p + d, w := u.w } = tx l 0 u := by
  unfold tx
  simp
theorem fit_left (l : List UInt8) (u : U) (hu : u ∈ unitsA l 0) : u.p + u.w ≤ l.length := by
  have := (units_fit l 0 u hu).2.1
  omega
theorem units_join (a b : List UInt8) (hv : ((unitsA a 0).all fun u => !badU u) = true) : unitsA (a ++ b) 0 = unitsA a 0 ++ unitsA b a.length := by
  have := units_app b a 0 hv
  rw [Nat.zero_add] at this
  exact this
theorem units_shift1 (d : Nat) : ∀ (l : List UInt8) (p : Nat), unitsA l (p + d) = (unitsA l p).map fun u => { c := u.c, p := u.p + d, w := u.w } := by
  refine unitsA_ind ?_ ?_
  · intro p; rfl
  · intro l p hne ih
    rw [unitsA_step l p hne, unitsA_step l (p + d) hne, List.map_cons, ← ih]
    have : p + d + (decodeL l).2 = p + (decodeL l).2 + d := by omega
    rw [this]
theorem units_at (l : List UInt8) (d : Nat) : unitsA l d = (unitsA l 0).map fun u => { c := u.c, p := u.p + d, w := u.w } := by
  have := units_shift1 d l 0
  rw [Nat.zero_add] at this
  exact this
theorem pieces_join (a b : List UInt8) (hv : ((unitsA a 0).all fun u => !badU u) = true) : pieces (a ++ b) = pieces a ++ pieces b := by
  unfold pieces
  rw [units_join a b hv, List.map_append]
  congr 1
  · exact List.map_congr_left (fun u hu => tx_left a b u (fit_left a u hu))
  · rw [List.map_congr_left (fun u hu => tx_right a b u (unitsA_from b a.length u hu)), units_at b a.length, List.map_map]
    exact List.map_congr_left (fun u _ => tx_shift b a.length u)
theorem foldA_at (l : List UInt8) (d : Nat) : foldA l d = foldA l 0 := by
  unfold foldA
  rw [units_at l d, List.flatMap_map]
  refine flatMap_congr' _ (fun u _ => ?_)
  unfold pcA
  rw [tx_shift]
  have e : badU { c := u.c, p := u.p + d, w := u.w } = badU u := by
    rw [badU_mk]
    exact (badU_mk u.c u.p u.w).symm
  rw [e]
theorem foldA_join (a b : List UInt8) (hv : ((unitsA a 0).all fun u => !badU u) = true) : foldA (a ++ b) 0 = foldA a 0 ++ foldA b 0 := by
  rw [← foldA_at b a.length]
  unfold foldA
  rw [units_join a b hv, List.flatMap_append]
  congr 1
  · refine flatMap_congr' _ (fun u hu => ?_)
    unfold pcA
    rw [tx_left a b u (fit_left a u hu)]
  · refine flatMap_congr' _ (fun u hu => ?_)
    unfold pcA
    rw [tx_right a b u (unitsA_from b a.length u hu)]

/-- A valid unit's bytes, alone. -/
def EncP (p : List UInt8) : Prop := p ≠ [] ∧ (decodeL p).2 = p.length ∧ ¬ ((decodeL p).1 = 65533 ∧ (decodeL p).2 = 1)
theorem pieces_flat : ∀ (ps : List (List UInt8)), (∀ p ∈ ps, EncP p) → ∀ q, (unitsA ps.flatten q).map (tx ps.flatten q) = ps
  | [], _, q => by simp [unitsA_nil]
  | p :: ps, h, q => by
    obtain ⟨hne, hw, hg⟩ := h p (by simp)
    have ih := pieces_flat ps (fun x hx => h x (by simp [hx])) (q + p.length)
    rw [List.flatten_cons]
    have hne2 : p ++ ps.flatten ≠ [] := by simp [hne]
    have hd := decodeL_app p ps.flatten hne hg
    rw [unitsA_step _ q hne2, hd, hw, List.drop_left, List.map_cons]
    have e1 : tx (p ++ ps.flatten) q { c := (decodeL p).1, p := q, w := p.length } = p := by
      unfold tx
      simp
    rw [e1]
    congr 1
    have e2 := List.map_congr_left (l := unitsA ps.flatten (q + p.length)) (f := tx (p ++ ps.flatten) q) (g := tx ps.flatten (q + p.length)) (fun u hu => by
      rw [tx_drop (p ++ ps.flatten) q p.length u (unitsA_from _ _ u hu), List.drop_left])
    rw [e2, ih]
theorem cover : ∀ (l : List UInt8) (p : Nat), ((unitsA l p).map (tx l p)).flatten = l := by
  refine unitsA_ind ?_ ?_
  · intro p
    simp [unitsA_nil]
  · intro l p hne ih
    rw [unitsA_step l p hne, List.map_cons, List.flatten_cons]
    have e1 : tx l p { c := (decodeL l).1, p := p, w := (decodeL l).2 } = l.take (decodeL l).2 := by
      unfold tx
      simp
    have e2 := List.map_congr_left (l := unitsA (l.drop (decodeL l).2) (p + (decodeL l).2)) (f := tx l p) (g := tx (l.drop (decodeL l).2) (p + (decodeL l).2)) (fun u hu => tx_drop l p _ u (unitsA_from _ _ u hu))
    rw [e1, e2, ih, List.take_append_drop]
theorem enc_piece (l : List UInt8) (u : U) (hu : u ∈ unitsA l 0) (hv : badU u = false) : EncP (tx l 0 u) := by
  obtain ⟨_, h2, h3, _, _, h5, h6⟩ := units_fit _ _ _ hu
  rw [Nat.sub_zero] at h5 h6
  rw [Nat.zero_add] at h2
  have hne : l.drop u.p ≠ [] := by
    intro h
    have := congrArg List.length h
    rw [List.length_drop] at this
    simp only [List.length_nil] at this
    omega
  have hbad : ¬ ((decodeL (l.drop u.p)).1 = 65533 ∧ (decodeL (l.drop u.p)).2 = 1) := by
    have hv2 : badU ⟨u.c, u.p, u.w⟩ = false := hv
    rw [badU_mk, decide_eq_false_iff_not] at hv2
    rw [← h5, ← h6]
    exact hv2
  have ho := decodeL_own (l.drop u.p) [] hne hbad
  rw [List.append_nil, ← h6] at ho
  have hl : ((l.drop u.p).take u.w).length = u.w := by rw [List.length_take, List.length_drop]; omega
  have ht : tx l 0 u = (l.drop u.p).take u.w := rfl
  unfold EncP
  rw [ht, ho]
  refine ⟨?_, by rw [hl, h6], hbad⟩
  intro h
  rw [h] at hl
  simp only [List.length_nil] at hl
  omega
/-- Reversing twice. -/
theorem rev_twice (a R : ByteArray) (hR : R.data.toList = revL a) (hv : ((units a).all fun u => !badU u) = true) : revL R = a.data.toList := by
  rw [revL_pieces a] at hR
  rw [revL_pieces R, hR]
  have hp : pieces (pieces a.data.toList).reverse.flatten = (pieces a.data.toList).reverse := by
    refine pieces_flat _ (fun p hp => ?_) 0
    rw [List.mem_reverse] at hp
    obtain ⟨u, hu, rfl⟩ := List.mem_map.1 hp
    refine enc_piece _ u hu ?_
    have := List.all_eq_true.1 hv u hu
    simpa using this
  rw [hp, List.reverse_reverse]
  exact cover _ _
theorem revL_len (a : ByteArray) : (revL a).length = a.size := by
  rw [← rowB_units]
  exact rowB_len a (units a) (fun u hu => hu)
end Go.Proofs.Yteennnhinfnahaa
