/-
  PLAIN MATHEMATICS, NO PROGRAM: the units of a string of bytes (code point, offset, width), as the model's own decoder divides it, and how they behave at tails and concatenations. It is used by the walks over package codepoint.
-/
import Derived.Lib.MapLaws
namespace Go.Proofs.Yteennnhinfnahaa
open Go.Lib

/-- A unit: its code point, where it begins, its width. -/
structure U where
  c : Nat
  p : Nat
  w : Nat

/-- An invalid unit: a single byte that is no encoding. -/
def U.bad (u : U) : Bool := decide (u.c = 65533 ∧ u.w = 1)

def unitsF : Nat → List UInt8 → Nat → List U
  | 0, _, _ => []
  | f + 1, l, p => if l = [] then [] else { c := (decodeL l).1, p := p, w := (decodeL l).2 } :: unitsF f (l.drop (decodeL l).2) (p + (decodeL l).2)
/-- The units of l, the first of which begins at p. -/
def unitsA (l : List UInt8) (p : Nat) : List U := unitsF l.length l p

theorem unitsF_nil : ∀ f p, unitsF f [] p = []
  | 0, _ => rfl
  | _ + 1, _ => by simp [unitsF]
theorem unitsF_fuel : ∀ (n m : Nat) (l : List UInt8) (p : Nat), l.length ≤ n → l.length ≤ m → unitsF n l p = unitsF m l p
  | 0, m, l, p, hn, _ => by
    have : l = [] := List.eq_nil_of_length_eq_zero (by omega)
    subst this
    rw [unitsF_nil, unitsF_nil]
  | n + 1, 0, l, p, _, hm => by
    have : l = [] := List.eq_nil_of_length_eq_zero (by omega)
    subst this
    rw [unitsF_nil, unitsF_nil]
  | n + 1, m + 1, l, p, hn, hm => by
    by_cases hne : l = []
    · subst hne
      rw [unitsF_nil, unitsF_nil]
    · have hw := decodeL_width l
      have hl : 0 < l.length := List.length_pos_iff.2 hne
      simp only [unitsF, if_neg hne]
      rw [unitsF_fuel n m _ _ (by rw [List.length_drop]; omega) (by rw [List.length_drop]; omega)]
theorem unitsA_nil (p : Nat) : unitsA [] p = [] := rfl
theorem unitsA_step (l : List UInt8) (p : Nat) (hne : l ≠ []) :
    unitsA l p = { c := (decodeL l).1, p := p, w := (decodeL l).2 } :: unitsA (l.drop (decodeL l).2) (p + (decodeL l).2) := by
  have hw := decodeL_width l
  have hl : 0 < l.length := List.length_pos_iff.2 hne
  unfold unitsA
  obtain ⟨n, hn⟩ : ∃ n, l.length = n + 1 := ⟨l.length - 1, by omega⟩
  rw [hn]
  simp only [unitsF, if_neg hne]
  rw [unitsF_fuel n _ _ _ (by rw [List.length_drop]; omega) (Nat.le_refl _)]

/-- An induction over units: at nothing; and from what is left behind a unit. -/
theorem unitsA_ind {M : List UInt8 → Nat → Prop} (h0 : ∀ p, M [] p) (h1 : ∀ l p, l ≠ [] → M (l.drop (decodeL l).2) (p + (decodeL l).2) → M l p) : ∀ l p, M l p := by
  have key : ∀ (n : Nat) (l : List UInt8) (p : Nat), l.length ≤ n → M l p := by
    intro n
    induction n with
    | zero =>
      intro l p hl
      have : l = [] := List.eq_nil_of_length_eq_zero (by omega)
      subst this
      exact h0 p
    | succ n ih =>
      intro l p hl
      by_cases hne : l = []
      · subst hne; exact h0 p
      · have hw := decodeL_width l
        have hll : 0 < l.length := List.length_pos_iff.2 hne
        exact h1 l p hne (ih _ _ (by rw [List.length_drop]; omega))
  exact fun l p => key l.length l p (Nat.le_refl _)

theorem decodeL_c_le (l : List UInt8) : (decodeL l).1 ≤ 1114111 ∧ (decodeL l).2 ≤ 4 := by
  rw [decodeL_N]
  have k0 := (l.getD 0 0).toNat_lt
  have k1 := (l.getD 1 0).toNat_lt
  rcases decodeN_shape l.length (l.getD 0 0).toNat (l.getD 1 0).toNat (l.getD 2 0).toNat (l.getD 3 0).toNat with ⟨c, e⟩ | ⟨c1, c2, c3, cv, e⟩ | ⟨c1, c2, c3, c4, cv, cs, e⟩ | ⟨c1, c2, c3, c4, c5, cv, cw, e⟩ | e
  all_goals (rw [e]; dsimp only; omega)

/-- What every unit of a string is. -/
def U.Fits (l : List UInt8) (p : Nat) (u : U) : Prop :=
  p ≤ u.p ∧ u.p + u.w ≤ p + l.length ∧ 1 ≤ u.w ∧ u.w ≤ 4 ∧ u.c ≤ 1114111 ∧ u.c = (decodeL (l.drop (u.p - p))).1 ∧ u.w = (decodeL (l.drop (u.p - p))).2

theorem units_fit : ∀ (l : List UInt8) (p : Nat), ∀ u ∈ unitsA l p, U.Fits l p u := by
  refine unitsA_ind ?_ ?_
  · intro p u hu
    simp [unitsA_nil] at hu
  · intro l p hne ih u hu
    have hw := decodeL_width l
    have hle := decodeL_le l hne
    have hc := decodeL_c_le l
    rw [unitsA_step l p hne] at hu
    rcases List.mem_cons.1 hu with rfl | hu
    · exact ⟨by simp, by simp; omega, by simp; omega, by simp; omega, by simp; omega, by simp, by simp⟩
    · obtain ⟨a, b, c, d, e, f, g⟩ := ih u hu
      rw [List.length_drop] at b
      rw [List.drop_drop] at f g
      have hd : (decodeL l).2 + (u.p - (p + (decodeL l).2)) = u.p - p := by omega
      rw [hd] at f g
      exact ⟨by omega, by omega, c, d, e, f, g⟩

theorem unitsA_len : ∀ (l : List UInt8) (p : Nat), (unitsA l p).length ≤ l.length := by
  refine unitsA_ind ?_ ?_
  · intro p; simp [unitsA_nil]
  · intro l p hne ih
    have hw := decodeL_width l
    have hl : 0 < l.length := List.length_pos_iff.2 hne
    rw [unitsA_step l p hne]
    rw [List.length_drop] at ih
    simp only [List.length_cons]
    omega

/-- A rune's length in bytes tells its width, but for U+FFFD. -/
theorem width_of_rune (l : List UInt8) (hv : (decodeL l).1 ≠ 65533) : runeLen ((decodeL l).1 : Int) = ((decodeL l).2 : Int) := runeLen_decode l hv
/-- U+FFFD: its three bytes stand there, and the width is 3; or the width is 1. -/
theorem width_of_error (l : List UInt8) (hv : (decodeL l).1 = 65533) : (decodeL l).2 = if l.take 3 = [239, 191, 189] then 3 else 1 := by
  rw [decodeL_N] at hv ⊢
  have k0 := (l.getD 0 0).toNat_lt
  have k1 := (l.getD 1 0).toNat_lt
  have k2 := (l.getD 2 0).toNat_lt
  have k3 := (l.getD 3 0).toNat_lt
  by_cases h3 : l.take 3 = [239, 191, 189]
  · rw [if_pos h3]
    match l, h3 with
    | a :: b :: c :: t, h3 =>
      simp only [List.take_succ_cons, List.take_zero, List.cons.injEq, and_true] at h3
      obtain ⟨rfl, rfl, rfl⟩ := h3
      simp [decodeN]
  · rw [if_neg h3]
    rcases decodeN_shape l.length (l.getD 0 0).toNat (l.getD 1 0).toNat (l.getD 2 0).toNat (l.getD 3 0).toNat with ⟨c, e⟩ | ⟨c1, c2, c3, cv, e⟩ | ⟨c1, c2, c3, c4, cv, cs, e⟩ | ⟨c1, c2, c3, c4, c5, cv, cw, e⟩ | e
    all_goals (rw [e] at hv ⊢; try dsimp only at hv ⊢)
    · omega
    · exfalso
      apply h3
      rw [takeC l c2]
      have e0 : l.getD 0 0 = 239 := by apply UInt8.toNat_inj.1; simp only [UInt8.reduceToNat]; omega
      have e1 : l.getD 1 0 = 191 := by apply UInt8.toNat_inj.1; simp only [UInt8.reduceToNat]; omega
      have e2 : l.getD 2 0 = 189 := by apply UInt8.toNat_inj.1; simp only [UInt8.reduceToNat]; omega
      rw [e0, e1, e2]
    · omega

end Go.Proofs.Yteennnhinfnahaa
