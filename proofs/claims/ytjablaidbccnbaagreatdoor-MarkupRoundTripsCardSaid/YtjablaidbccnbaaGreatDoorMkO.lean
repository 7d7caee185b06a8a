/-
  THE PLAIN MATHEMATICS of package markup, third part: the order of strings by bytes; keys in the order of their names.
-/
import Derived.Test.YtjablaidbccnbaaGreatDoorMkP
import Derived.Sort.Statements
namespace Go.Proofs.YtjablaidbccnbaaGreatDoor
open Go.Lib

def cmpC : List Nat → List Nat → Int
  | [], [] => 0
  | [], _ :: _ => -1
  | _ :: _, [] => 1
  | x :: xs, y :: ys => if x < y then -1 else if y < x then 1 else cmpC xs ys
def nums (l : List UInt8) : List Nat := l.map UInt8.toNat
theorem compareBytes_nums : ∀ l m : List UInt8, compareBytes l m = cmpC (nums l) (nums m)
  | [], [] => rfl
  | [], _ :: _ => rfl
  | _ :: _, [] => rfl
  | a :: l, b :: m => by
    have ih := compareBytes_nums l m
    unfold nums at ih ⊢
    simp only [compareBytes, List.map_cons, cmpC, UInt8.lt_iff_toNat_lt, ih]
theorem nums_inj {l m : List UInt8} (h : nums l = nums m) : l = m := by
  unfold nums at h
  exact List.map_inj_right (fun a b e => UInt8.toNat_inj.1 e) |>.1 h

theorem cmpC_anti : ∀ a b : List Nat, cmpC b a = - cmpC a b
  | [], [] => rfl
  | [], _ :: _ => rfl
  | _ :: _, [] => rfl
  | x :: a, y :: b => by
    simp only [cmpC]
    by_cases h1 : x < y
    · rw [if_neg (by omega), if_pos h1, if_pos h1]; rfl
    · by_cases h2 : y < x
      · rw [if_pos h2, if_neg h1, if_pos h2]
      · rw [if_neg h2, if_neg h1, if_neg h1, if_neg h2]
        exact cmpC_anti a b
theorem cmpC_zero : ∀ a b : List Nat, cmpC a b = 0 → a = b
  | [], [], _ => rfl
  | [], _ :: _, h => by cases h
  | _ :: _, [], h => by cases h
  | x :: a, y :: b, h => by
    simp only [cmpC] at h
    by_cases h1 : x < y
    · rw [if_pos h1] at h; cases h
    · by_cases h2 : y < x
      · rw [if_neg h1, if_pos h2] at h; cases h
      · rw [if_neg h1, if_neg h2] at h
        have := cmpC_zero a b h
        have hxy : x = y := by omega
        rw [hxy, this]
theorem cmpC_three : ∀ a b : List Nat, cmpC a b = -1 ∨ cmpC a b = 0 ∨ cmpC a b = 1
  | [], [] => .inr (.inl rfl)
  | [], _ :: _ => .inl rfl
  | _ :: _, [] => .inr (.inr rfl)
  | x :: a, y :: b => by
    simp only [cmpC]
    by_cases h1 : x < y
    · rw [if_pos h1]; exact .inl rfl
    · by_cases h2 : y < x
      · rw [if_neg h1, if_pos h2]; exact .inr (.inr rfl)
      · rw [if_neg h1, if_neg h2]
        exact cmpC_three a b
theorem cmpC_trans : ∀ a b c : List Nat, cmpC a b = -1 → cmpC b c = -1 → cmpC a c = -1
  | [], [], _, h, _ => by cases h
  | [], _ :: _, [], _, h => by cases h
  | [], _ :: _, _ :: _, _, _ => rfl
  | _ :: _, [], _, h, _ => by cases h
  | _ :: _, _ :: _, [], _, h => by cases h
  | x :: a, y :: b, z :: c, h, k => by
    simp only [cmpC] at h k ⊢
    by_cases h1 : x < y
    · by_cases k1 : y < z
      · rw [if_pos (by omega)]
      · by_cases k2 : z < y
        · rw [if_neg k1, if_pos k2] at k; cases k
        · rw [if_pos (by omega)]
    · by_cases h2 : y < x
      · rw [if_neg h1, if_pos h2] at h; cases h
      · rw [if_neg h1, if_neg h2] at h
        by_cases k1 : y < z
        · rw [if_pos (by omega)]
        · by_cases k2 : z < y
          · rw [if_neg k1, if_pos k2] at k; cases k
          · rw [if_neg k1, if_neg k2] at k
            rw [if_neg (by omega), if_neg (by omega)]
            exact cmpC_trans a b c h k
theorem cb_anti (a b : Bs) : compareBytes b a = - compareBytes a b := by rw [compareBytes_nums, compareBytes_nums, cmpC_anti]
theorem cb_zero {a b : Bs} (h : compareBytes a b = 0) : a = b := nums_inj (cmpC_zero _ _ (by rw [← compareBytes_nums]; exact h))
theorem cb_three (a b : Bs) : compareBytes a b = -1 ∨ compareBytes a b = 0 ∨ compareBytes a b = 1 := by rw [compareBytes_nums]; exact cmpC_three _ _
theorem cb_trans {a b c : Bs} (h : compareBytes a b = -1) (k : compareBytes b c = -1) : compareBytes a c = -1 := by
  rw [compareBytes_nums] at *
  exact cmpC_trans _ _ _ h k
theorem cb_self (a : Bs) : compareBytes a a = 0 := by
  have := cb_anti a a
  omega
theorem cb_le {a b c : Bs} (h : compareBytes a b ≤ 0) (k : compareBytes b c ≤ 0) : compareBytes a c ≤ 0 := by
  rcases cb_three a b with h1 | h1 | h1
  · rcases cb_three b c with k1 | k1 | k1
    · rw [cb_trans h1 k1]; decide
    · rw [← cb_zero k1, h1]; decide
    · omega
  · rw [cb_zero h1]; exact k
  · omega
/-- The order of keys. -/
def leP (x y : Pr) : Prop := compareBytes x.1 y.1 ≤ 0
def insP (p : Pr) : List Pr → List Pr
  | [] => [p]
  | q :: r => if compareBytes q.1 p.1 ≤ 0 then q :: insP p r else p :: q :: r
def sortP (l : List Pr) : List Pr := l.foldl (fun m p => insP p m) []
theorem insP_perm (p : Pr) : ∀ l : List Pr, (insP p l).Perm (p :: l)
  | [] => .refl _
  | q :: r => by
    unfold insP
    split
    · exact ((insP_perm p r).cons q).trans (.swap p q r)
    · exact .refl _
theorem insP_len (p : Pr) (l : List Pr) : (insP p l).length = l.length + 1 := by rw [(insP_perm p l).length_eq, List.length_cons]
theorem insP_sorted (p : Pr) : ∀ l : List Pr, l.Pairwise leP → (insP p l).Pairwise leP
  | [], _ => by simp [insP]
  | q :: r, h => by
    rw [List.pairwise_cons] at h
    unfold insP
    split
    · rename_i hq
      rw [List.pairwise_cons]
      refine ⟨fun x hx => ?_, insP_sorted p r h.2⟩
      rcases List.mem_cons.1 ((insP_perm p r).mem_iff.1 hx) with rfl | hx
      · exact hq
      · exact h.1 x hx
    · rename_i hq
      have hpq : leP p q := by
        unfold leP
        have := cb_anti q.1 p.1
        omega
      rw [List.pairwise_cons, List.pairwise_cons]
      refine ⟨fun x hx => ?_, h.1, h.2⟩
      rcases List.mem_cons.1 hx with rfl | hx
      · exact hpq
      · exact cb_le hpq (h.1 x hx)
theorem foldl_ins : ∀ (l m : List Pr), m.Pairwise leP → (l.foldl (fun m p => insP p m) m).Perm (m ++ l) ∧ (l.foldl (fun m p => insP p m) m).Pairwise leP
  | [], m, h => ⟨by simp, h⟩
  | p :: l, m, h => by
    obtain ⟨a, b⟩ := foldl_ins l (insP p m) (insP_sorted p m h)
    refine ⟨a.trans ?_, b⟩
    have h1 : (insP p m ++ l).Perm ((p :: m) ++ l) := (insP_perm p m).append_right l
    refine h1.trans ?_
    rw [List.cons_append]
    exact List.perm_middle.symm
theorem sortP_perm (l : List Pr) : (sortP l).Perm l := by
  have := (foldl_ins l [] .nil).1
  simpa [sortP] using this
theorem sortP_sorted (l : List Pr) : (sortP l).Pairwise leP := (foldl_ins l [] .nil).2
theorem sortP_len (l : List Pr) : (sortP l).length = l.length := (sortP_perm l).length_eq
/-- No name twice. -/
def Apart (l : List Pr) : Prop := l.Pairwise fun x y => x.1 ≠ y.1
theorem uniq : ∀ (l m : List Pr), l.Perm m → l.Pairwise leP → m.Pairwise leP → Apart l → l = m
  | [], m, hp, _, _, _ => by rw [List.nil_perm.1 hp]
  | a :: l, m, hp, hl, hm, hd => by
    cases m with
    | nil => exact absurd (List.perm_nil.1 hp) (by simp)
    | cons b m =>
      rw [List.pairwise_cons] at hl hm
      have hd' := List.pairwise_cons.1 hd
      have hab : a = b := by
        have hb : b ∈ a :: l := hp.mem_iff.2 (by simp)
        rcases List.mem_cons.1 hb with h | hb
        · exact h.symm
        · have ha : a ∈ b :: m := hp.mem_iff.1 (by simp)
          rcases List.mem_cons.1 ha with h | ha
          · exact h
          · have h1 := hl.1 b hb
            have h2 := hm.1 a ha
            unfold leP at h1 h2
            have h3 := cb_anti a.1 b.1
            exact absurd (cb_zero (by omega)) (hd'.1 b hb)
      subst hab
      rw [uniq l m (List.Perm.cons_inv hp) hl.2 hm.2 hd'.2]
theorem apart_iff (ks : List Pr) (k : Pr) : Apart (ks ++ [k]) ↔ Apart ks ∧ hasN ks k.1 = false := by
  unfold Apart hasN
  rw [List.pairwise_append]
  simp
end Go.Proofs.YtjablaidbccnbaaGreatDoor
