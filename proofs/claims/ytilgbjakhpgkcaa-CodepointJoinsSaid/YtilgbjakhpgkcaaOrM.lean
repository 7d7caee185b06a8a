/-
  PLAIN MATHEMATICS, NO PROGRAM: the order of strings by code points, then by bytes, is a total order; on valid strings it is the order by bytes.
-/
import Derived.Test.YtilgbjakhpgkcaaCpH
namespace Go.Proofs.Ytilgbjakhpgkcaa
open Go.Lib

/-- A list of bytes as numbers. -/
def nums (l : List UInt8) : List Nat := l.map UInt8.toNat
theorem compareBytes_nums : ∀ l m : List UInt8, compareBytes l m = cmpC (nums l) (nums m)
  | [], [] => rfl
  | [], _ :: _ => rfl
  | _ :: _, [] => rfl
  | a :: l, b :: m => by
    have ih := compareBytes_nums l m
    unfold nums at ih ⊢
    simp only [compareBytes, List.map_cons, cmpC, UInt8.lt_iff_toNat_lt, ih]
theorem nums_inj {l m : List UInt8} (h : nums l = nums m) : l = m := by
  unfold nums at h
  exact List.map_inj_right (fun a b e => UInt8.toNat_inj.1 e) |>.1 h

theorem cmpC_anti : ∀ a b : List Nat, cmpC b a = - cmpC a b
  | [], [] => rfl
  | [], _ :: _ => rfl
  | _ :: _, [] => rfl
  | x :: a, y :: b => by
    simp only [cmpC]
    by_cases h1 : x < y
    · rw [if_neg (by omega), if_pos h1, if_pos h1]; rfl
    · by_cases h2 : y < x
      · rw [if_pos h2, if_neg h1, if_pos h2]
      · rw [if_neg h2, if_neg h1, if_neg h1, if_neg h2]
        exact cmpC_anti a b
theorem cmpC_zero : ∀ a b : List Nat, cmpC a b = 0 → a = b
  | [], [], _ => rfl
  | [], _ :: _, h => by cases h
  | _ :: _, [], h => by cases h
  | x :: a, y :: b, h => by
    simp only [cmpC] at h
    by_cases h1 : x < y
    · rw [if_pos h1] at h; cases h
    · by_cases h2 : y < x
      · rw [if_neg h1, if_pos h2] at h; cases h
      · rw [if_neg h1, if_neg h2] at h
        have := cmpC_zero a b h
        have hxy : x = y := by omega
        rw [hxy, this]
theorem cmpC_three : ∀ a b : List Nat, cmpC a b = -1 ∨ cmpC a b = 0 ∨ cmpC a b = 1
  | [], [] => .inr (.inl rfl)
  | [], _ :: _ => .inl rfl
  | _ :: _, [] => .inr (.inr rfl)
  | x :: a, y :: b => by
    simp only [cmpC]
    by_cases h1 : x < y
    · rw [if_pos h1]; exact .inl rfl
    · by_cases h2 : y < x
      · rw [if_neg h1, if_pos h2]; exact .inr (.inr rfl)
      · rw [if_neg h1, if_neg h2]
        exact cmpC_three a b
theorem cmpC_trans : ∀ a b c : List Nat, cmpC a b = -1 → cmpC b c = -1 → cmpC a c = -1
  | [], [], _, h, _ => by cases h
  | [], _ :: _, [], _, h => by cases h
  | [], _ :: _, _ :: _, _, _ => rfl
  | _ :: _, [], _, h, _ => by cases h
  | _ :: _, _ :: _, [], _, h => by cases h
  | x :: a, y :: b, z :: c, h, k => by
    simp only [cmpC] at h k ⊢
    by_cases h1 : x < y
    · by_cases k1 : y < z
      · rw [if_pos (by omega)]
      · by_cases k2 : z < y
        · rw [if_neg k1, if_pos k2] at k; cases k
        · rw [if_pos (by omega)]
    · by_cases h2 : y < x
      · rw [if_neg h1, if_pos h2] at h; cases h
      · rw [if_neg h1, if_neg h2] at h
        by_cases k1 : y < z
        · rw [if_pos (by omega)]
        · by_cases k2 : z < y
          · rw [if_neg k1, if_pos k2] at k; cases k
          · rw [if_neg k1, if_neg k2] at k
            rw [if_neg (by omega), if_neg (by omega)]
            exact cmpC_trans a b c h k

theorem cmpS_three (a b : ByteArray) : cmpS a b = -1 ∨ cmpS a b = 0 ∨ cmpS a b = 1 := by
  unfold cmpS
  split
  · rw [compareBytes_nums]; exact cmpC_three _ _
  · exact cmpC_three _ _
theorem cmpS_anti (a b : ByteArray) : cmpS b a = - cmpS a b := by
  unfold cmpS
  rw [cmpC_anti (cps a) (cps b)]
  by_cases h : cmpC (cps a) (cps b) = 0
  · rw [if_pos h, if_pos (by omega), compareBytes_nums, compareBytes_nums, cmpC_anti]
  · rw [if_neg h, if_neg (by omega)]
theorem cmpS_zero (a b : ByteArray) : cmpS a b = 0 ↔ a = b := by
  constructor
  · intro h
    unfold cmpS at h
    by_cases h1 : cmpC (cps a) (cps b) = 0
    · rw [if_pos h1, compareBytes_nums] at h
      have := nums_inj (cmpC_zero _ _ h)
      exact ByteArray.ext (Array.ext' this)
    · rw [if_neg h1] at h
      exact absurd h h1
  · intro h
    rw [h, cmpS_same b b rfl, compareBytes_nums, cmpC_self]
theorem cmpS_trans (a b c : ByteArray) (h : cmpS a b = -1) (k : cmpS b c = -1) : cmpS a c = -1 := by
  unfold cmpS at *
  rw [compareBytes_nums] at *
  have ta := cmpC_three (cps a) (cps b)
  have tb := cmpC_three (cps b) (cps c)
  by_cases h1 : cmpC (cps a) (cps b) = 0
  · have e1 := cmpC_zero _ _ h1
    rw [if_pos h1] at h
    by_cases k1 : cmpC (cps b) (cps c) = 0
    · rw [if_pos k1] at k
      rw [e1, if_pos k1]
      exact cmpC_trans _ _ _ h k
    · rw [if_neg k1] at k
      rw [e1, if_neg k1]
      exact k
  · rw [if_neg h1] at h
    by_cases k1 : cmpC (cps b) (cps c) = 0
    · have e1 := cmpC_zero _ _ k1
      rw [← e1, if_neg h1]
      exact h
    · rw [if_neg k1] at k
      have := cmpC_trans _ _ _ h k
      rw [if_neg (by omega)]
      exact this
/-- The order is transitive, equality included. -/
theorem cmpS_le (a b c : ByteArray) (h : cmpS a b ≤ 0) (k : cmpS b c ≤ 0) : cmpS a c ≤ 0 := by
  rcases cmpS_three a b with h1 | h1 | h1
  · rcases cmpS_three b c with k1 | k1 | k1
    · rw [cmpS_trans a b c h1 k1]; omega
    · rw [← (cmpS_zero b c).1 k1]; omega
    · omega
  · rw [(cmpS_zero a b).1 h1]; exact k
  · omega
theorem cmpS_ge (a b c : ByteArray) (h : 0 ≤ cmpS a b) (k : 0 ≤ cmpS b c) : 0 ≤ cmpS a c := by
  have h1 := cmpS_anti a b
  have k1 := cmpS_anti b c
  have z1 := cmpS_anti a c
  have := cmpS_le c b a (by omega) (by omega)
  omega

theorem cb_lt : ∀ (i : Nat) (l m : List UInt8), i < l.length → i < m.length → (∀ j, j < i → l.getD j 0 = m.getD j 0) → (l.getD i 0).toNat < (m.getD i 0).toNat → compareBytes l m = -1
  | _, [], _, h, _, _, _ => by simp at h
  | _, _ :: _, [], _, h, _, _ => by simp at h
  | 0, a :: l, b :: m, _, _, _, h => by
    simp only [List.getD_cons_zero] at h
    simp only [compareBytes]
    rw [if_pos (UInt8.lt_iff_toNat_lt.2 h)]
  | i + 1, a :: l, b :: m, h1, h2, hj, h => by
    have h0 := hj 0 (by omega)
    simp only [List.getD_cons_zero] at h0
    subst h0
    simp only [compareBytes]
    rw [if_neg (by simp), if_neg (by simp)]
    refine cb_lt i l m (by simpa using h1) (by simpa using h2) (fun j hji => ?_) ?_
    · have := hj (j + 1) (by omega)
      simpa only [List.getD_cons_succ] using this
    · simpa only [List.getD_cons_succ] using h

set_option maxHeartbeats 4000000 in
/-- The encoding keeps the order. -/
theorem dec_less (l m : List UInt8) (hl : l ≠ []) (hm : m ≠ []) (vl : ¬ ((decodeL l).1 = 65533 ∧ (decodeL l).2 = 1)) (vm : ¬ ((decodeL m).1 = 65533 ∧ (decodeL m).2 = 1)) (h : (decodeL l).1 < (decodeL m).1) : compareBytes l m = -1 := by
  have hl0 : 0 < l.length := List.length_pos_iff.2 hl
  have hm0 : 0 < m.length := List.length_pos_iff.2 hm
  rw [decodeL_N] at vl vm h
  rw [decodeL_N m] at h
  have eqb : ∀ i, (l.getD i 0).toNat = (m.getD i 0).toNat → l.getD i 0 = m.getD i 0 := fun i e => UInt8.toNat_inj.1 e
  have one : (l.getD 0 0).toNat = (m.getD 0 0).toNat → ∀ j, j < 1 → l.getD j 0 = m.getD j 0 := fun e j hj => by
    obtain rfl : j = 0 := by omega
    exact eqb 0 e
  have two : (l.getD 0 0).toNat = (m.getD 0 0).toNat → (l.getD 1 0).toNat = (m.getD 1 0).toNat → ∀ j, j < 2 → l.getD j 0 = m.getD j 0 := fun e f j hj => by
    have : j = 0 ∨ j = 1 := by omega
    rcases this with rfl | rfl
    · exact eqb 0 e
    · exact eqb 1 f
  have three : (l.getD 0 0).toNat = (m.getD 0 0).toNat → (l.getD 1 0).toNat = (m.getD 1 0).toNat → (l.getD 2 0).toNat = (m.getD 2 0).toNat → ∀ j, j < 3 → l.getD j 0 = m.getD j 0 := fun e f g j hj => by
    have : j = 0 ∨ j = 1 ∨ j = 2 := by omega
    rcases this with rfl | rfl | rfl
    · exact eqb 0 e
    · exact eqb 1 f
    · exact eqb 2 g
  have a0 := (l.getD 0 0).toNat_lt; have a1 := (l.getD 1 0).toNat_lt; have a2 := (l.getD 2 0).toNat_lt; have a3 := (l.getD 3 0).toNat_lt
  have b0 := (m.getD 0 0).toNat_lt; have b1 := (m.getD 1 0).toNat_lt; have b2 := (m.getD 2 0).toNat_lt; have b3 := (m.getD 3 0).toNat_lt
  rcases decodeN_shape l.length (l.getD 0 0).toNat (l.getD 1 0).toNat (l.getD 2 0).toNat (l.getD 3 0).toNat with ⟨c, e⟩ | ⟨c1, c2, c3, cv, e⟩ | ⟨c1, c2, c3, c4, cv, cs, e⟩ | ⟨c1, c2, c3, c4, c5, cv, cw, e⟩ | e <;>
  rcases decodeN_shape m.length (m.getD 0 0).toNat (m.getD 1 0).toNat (m.getD 2 0).toNat (m.getD 3 0).toNat with ⟨d, f⟩ | ⟨d1, d2, d3, dv, f⟩ | ⟨d1, d2, d3, d4, dv, ds, f⟩ | ⟨d1, d2, d3, d4, d5, dv, dw, f⟩ | f
  all_goals (rw [e] at vl h; rw [f] at vm h; simp only at vl vm h)
  all_goals first
    | exact (vl ⟨trivial, trivial⟩).elim
    | exact (vm ⟨trivial, trivial⟩).elim
    | (by_cases q0 : (l.getD 0 0).toNat < (m.getD 0 0).toNat
       · exact cb_lt 0 l m hl0 hm0 (fun j hj => by omega) q0
       · exfalso; omega)
    | (by_cases q0 : (l.getD 0 0).toNat < (m.getD 0 0).toNat
       · exact cb_lt 0 l m hl0 hm0 (fun j hj => by omega) q0
       · have p0 : (l.getD 0 0).toNat = (m.getD 0 0).toNat := by omega
         by_cases q1 : (l.getD 1 0).toNat < (m.getD 1 0).toNat
         · exact cb_lt 1 l m (by omega) (by omega) (one p0) q1
         · exfalso; omega)
    | (by_cases q0 : (l.getD 0 0).toNat < (m.getD 0 0).toNat
       · exact cb_lt 0 l m hl0 hm0 (fun j hj => by omega) q0
       · have p0 : (l.getD 0 0).toNat = (m.getD 0 0).toNat := by omega
         by_cases q1 : (l.getD 1 0).toNat < (m.getD 1 0).toNat
         · exact cb_lt 1 l m (by omega) (by omega) (one p0) q1
         · have p1 : (l.getD 1 0).toNat = (m.getD 1 0).toNat := by omega
           by_cases q2 : (l.getD 2 0).toNat < (m.getD 2 0).toNat
           · exact cb_lt 2 l m (by omega) (by omega) (two p0 p1) q2
           · exfalso; omega)
    | (by_cases q0 : (l.getD 0 0).toNat < (m.getD 0 0).toNat
       · exact cb_lt 0 l m hl0 hm0 (fun j hj => by omega) q0
       · have p0 : (l.getD 0 0).toNat = (m.getD 0 0).toNat := by omega
         by_cases q1 : (l.getD 1 0).toNat < (m.getD 1 0).toNat
         · exact cb_lt 1 l m (by omega) (by omega) (one p0) q1
         · have p1 : (l.getD 1 0).toNat = (m.getD 1 0).toNat := by omega
           by_cases q2 : (l.getD 2 0).toNat < (m.getD 2 0).toNat
           · exact cb_lt 2 l m (by omega) (by omega) (two p0 p1) q2
           · have p2 : (l.getD 2 0).toNat = (m.getD 2 0).toNat := by omega
             by_cases q3 : (l.getD 3 0).toNat < (m.getD 3 0).toNat
             · exact cb_lt 3 l m (by omega) (by omega) (three p0 p1 p2) q3
             · exfalso; omega)

theorem badU_iff (l : List UInt8) (p : Nat) : badU { c := (decodeL l).1, p := p, w := (decodeL l).2 } = false ↔ ¬ ((decodeL l).1 = 65533 ∧ (decodeL l).2 = 1) := by
  unfold badU invB
  rw [decide_eq_false_iff_not]
  constructor
  · intro h ⟨h1, h2⟩
    exact h ⟨by simp only [h1]; rfl, h2⟩
  · intro h ⟨h1, h2⟩
    exact h ⟨by simp only at h1; omega, h2⟩
theorem compareBytes_app (p x y : List UInt8) : compareBytes (p ++ x) (p ++ y) = compareBytes x y := by
  rw [compareBytes_nums, compareBytes_nums]
  unfold nums
  rw [List.map_append, List.map_append, cmpC_app]
theorem valid_order : ∀ (l : List UInt8) (p : Nat), ((unitsA l p).all fun u => !badU u) = true → ∀ (m : List UInt8) (q : Nat), ((unitsA m q).all fun u => !badU u) = true →
    cmpC ((unitsA l p).map (·.c)) ((unitsA m q).map (·.c)) = compareBytes l m := by
  refine unitsA_ind ?_ ?_
  · intro p _ m q _
    by_cases hm : m = []
    · subst hm; rfl
    · rw [unitsA_step m q hm]
      cases m with
      | nil => exact absurd rfl hm
      | cons b m => rfl
  · intro l p hne ih hl m q hm
    by_cases hme : m = []
    · subst hme
      rw [unitsA_step l p hne]
      cases l with
      | nil => exact absurd rfl hne
      | cons b l => rfl
    · rw [unitsA_step l p hne, List.all_cons, Bool.and_eq_true] at hl
      rw [unitsA_step m q hme, List.all_cons, Bool.and_eq_true] at hm
      have vl := (badU_iff l p).1 (by simpa using hl.1)
      have vm := (badU_iff m q).1 (by simpa using hm.1)
      rw [unitsA_step l p hne, unitsA_step m q hme, List.map_cons, List.map_cons]
      simp only [cmpC]
      by_cases h1 : (decodeL l).1 < (decodeL m).1
      · rw [if_pos h1, dec_less l m hne hme vl vm h1]
      · rw [if_neg h1]
        by_cases h2 : (decodeL m).1 < (decodeL l).1
        · rw [if_pos h2]
          have := dec_less m l hme hne vm vl h2
          rw [compareBytes_nums] at this ⊢
          rw [cmpC_anti, this]
          rfl
        · rw [if_neg h2]
          have he : (decodeL l).1 = (decodeL m).1 := by omega
          have el := encode_decode l hne vl
          have em := encode_decode m hme vm
          rw [he] at el
          have ht : l.take (decodeL l).2 = m.take (decodeL m).2 := el.symm.trans em
          rw [ih hl.2 _ _ hm.2]
          have e1 := List.take_append_drop (decodeL l).2 l
          have e2 := List.take_append_drop (decodeL m).2 m
          have key := compareBytes_app (l.take (decodeL l).2) (l.drop (decodeL l).2) (m.drop (decodeL m).2)
          rw [e1, ht, e2] at key
          exact key.symm
/-- Valid strings stand in their bytewise order. -/
theorem cmpS_valid (a b : ByteArray) (ha : ((units a).all fun u => !badU u) = true) (hb : ((units b).all fun u => !badU u) = true) : cmpS a b = compareBytes a.data.toList b.data.toList := by
  have h := valid_order a.data.toList 0 ha b.data.toList 0 hb
  unfold cmpS
  split
  · rfl
  · exact h
theorem bytesLess_compare : ∀ l m : List UInt8, Op.bytesLess l m = decide (compareBytes l m < 0)
  | [], [] => rfl
  | [], _ :: _ => rfl
  | _ :: _, [] => rfl
  | a :: l, b :: m => by
    have ih := bytesLess_compare l m
    simp only [Op.bytesLess, compareBytes]
    by_cases h1 : a < b
    · simp [h1]
    · by_cases h2 : b < a
      · have hne : ¬ a = b := by
          intro e
          rw [e] at h2
          exact absurd h2 (by simp)
        simp [h1, h2, hne]
      · have he : a = b := by
          rw [UInt8.lt_iff_toNat_lt] at h1 h2
          exact UInt8.toNat_inj.1 (by omega)
        subst he
        simp [ih]
end Go.Proofs.Ytilgbjakhpgkcaa
