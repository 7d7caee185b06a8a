/-
  THE PLAIN MATHEMATICS of package corpus, second part: orders; the order of regions; sorted insertion.
-/
import Derived.Test.YtmjmidgfdjcbfaaGreatDoorQaM
import Derived.Sort.Statements
namespace Go.Proofs.YtmjmidgfdjcbfaaGreatDoor
open Go.Lib

def cmpC : List Nat → List Nat → Int
  | [], [] => 0
  | [], _ :: _ => -1
  | _ :: _, [] => 1
  | x :: xs, y :: ys => if x < y then -1 else if y < x then 1 else cmpC xs ys
def nums (l : List UInt8) : List Nat := l.map UInt8.toNat
theorem compareBytes_nums : ∀ l m : List UInt8, compareBytes l m = cmpC (nums l) (nums m)
  | [], [] => rfl
  | [], _ :: _ => rfl
  | _ :: _, [] => rfl
  | a :: l, b :: m => by
    have ih := compareBytes_nums l m
    unfold nums at ih ⊢
    simp only [compareBytes, List.map_cons, cmpC, UInt8.lt_iff_toNat_lt, ih]
theorem nums_inj {l m : List UInt8} (h : nums l = nums m) : l = m := by
  unfold nums at h
  exact List.map_inj_right (fun a b e => UInt8.toNat_inj.1 e) |>.1 h

theorem cmpC_anti : ∀ a b : List Nat, cmpC b a = - cmpC a b
  | [], [] => rfl
  | [], _ :: _ => rfl
  | _ :: _, [] => rfl
  | x :: a, y :: b => by
    simp only [cmpC]
    by_cases h1 : x < y
    · rw [if_neg (by omega), if_pos h1, if_pos h1]; rfl
    · by_cases h2 : y < x
      · rw [if_pos h2, if_neg h1, if_pos h2]
      · rw [if_neg h2, if_neg h1, if_neg h1, if_neg h2]
        exact cmpC_anti a b
theorem cmpC_zero : ∀ a b : List Nat, cmpC a b = 0 → a = b
  | [], [], _ => rfl
  | [], _ :: _, h => by cases h
  | _ :: _, [], h => by cases h
  | x :: a, y :: b, h => by
    simp only [cmpC] at h
    by_cases h1 : x < y
    · rw [if_pos h1] at h; cases h
    · by_cases h2 : y < x
      · rw [if_neg h1, if_pos h2] at h; cases h
      · rw [if_neg h1, if_neg h2] at h
        have := cmpC_zero a b h
        have hxy : x = y := by omega
        rw [hxy, this]
theorem cmpC_three : ∀ a b : List Nat, cmpC a b = -1 ∨ cmpC a b = 0 ∨ cmpC a b = 1
  | [], [] => .inr (.inl rfl)
  | [], _ :: _ => .inl rfl
  | _ :: _, [] => .inr (.inr rfl)
  | x :: a, y :: b => by
    simp only [cmpC]
    by_cases h1 : x < y
    · rw [if_pos h1]; exact .inl rfl
    · by_cases h2 : y < x
      · rw [if_neg h1, if_pos h2]; exact .inr (.inr rfl)
      · rw [if_neg h1, if_neg h2]
        exact cmpC_three a b
theorem cmpC_trans : ∀ a b c : List Nat, cmpC a b = -1 → cmpC b c = -1 → cmpC a c = -1
  | [], [], _, h, _ => by cases h
  | [], _ :: _, [], _, h => by cases h
  | [], _ :: _, _ :: _, _, _ => rfl
  | _ :: _, [], _, h, _ => by cases h
  | _ :: _, _ :: _, [], _, h => by cases h
  | x :: a, y :: b, z :: c, h, k => by
    simp only [cmpC] at h k ⊢
    by_cases h1 : x < y
    · by_cases k1 : y < z
      · rw [if_pos (by omega)]
      · by_cases k2 : z < y
        · rw [if_neg k1, if_pos k2] at k; cases k
        · rw [if_pos (by omega)]
    · by_cases h2 : y < x
      · rw [if_neg h1, if_pos h2] at h; cases h
      · rw [if_neg h1, if_neg h2] at h
        by_cases k1 : y < z
        · rw [if_pos (by omega)]
        · by_cases k2 : z < y
          · rw [if_neg k1, if_pos k2] at k; cases k
          · rw [if_neg k1, if_neg k2] at k
            rw [if_neg (by omega), if_neg (by omega)]
            exact cmpC_trans a b c h k
theorem cb_anti (a b : Bs) : compareBytes b a = - compareBytes a b := by rw [compareBytes_nums, compareBytes_nums, cmpC_anti]
theorem cb_zero {a b : Bs} (h : compareBytes a b = 0) : a = b := nums_inj (cmpC_zero _ _ (by rw [← compareBytes_nums]; exact h))
theorem cb_three (a b : Bs) : compareBytes a b = -1 ∨ compareBytes a b = 0 ∨ compareBytes a b = 1 := by rw [compareBytes_nums]; exact cmpC_three _ _
theorem cb_trans {a b c : Bs} (h : compareBytes a b = -1) (k : compareBytes b c = -1) : compareBytes a c = -1 := by
  rw [compareBytes_nums] at *
  exact cmpC_trans _ _ _ h k
theorem cb_self (a : Bs) : compareBytes a a = 0 := by
  have := cb_anti a a
  omega
theorem cb_le {a b c : Bs} (h : compareBytes a b ≤ 0) (k : compareBytes b c ≤ 0) : compareBytes a c ≤ 0 := by
  rcases cb_three a b with h1 | h1 | h1
  · rcases cb_three b c with k1 | k1 | k1
    · rw [cb_trans h1 k1]; decide
    · rw [← cb_zero k1, h1]; decide
    · omega
  · rw [cb_zero h1]; exact k
  · omega
/-- A total order, told by -1, 0, 1. -/
structure Ord3 {α : Type} (f : α → α → Int) : Prop where
  anti : ∀ a b, f b a = - f a b
  zero : ∀ a b, f a b = 0 → a = b
  three : ∀ a b, f a b = -1 ∨ f a b = 0 ∨ f a b = 1
  le : ∀ a b c, f a b ≤ 0 → f b c ≤ 0 → f a c ≤ 0
theorem Ord3.self {α : Type} {f : α → α → Int} (h : Ord3 f) (a : α) : f a a = 0 := by have := h.anti a a; omega
theorem ord_bytes : Ord3 compareBytes := ⟨cb_anti, fun _ _ => cb_zero, cb_three, fun _ _ _ => cb_le⟩
theorem ord_int : Ord3 cmpI := by
  refine ⟨?_, ?_, ?_, ?_⟩ <;> intros <;> unfold cmpI at * <;> (repeat' split) <;> (repeat' split at *) <;> omega
theorem Ord3.flip {α : Type} {f : α → α → Int} (h : Ord3 f) : Ord3 (fun x y => f y x) :=
  ⟨fun a b => h.anti b a, fun a b e => (h.zero b a e).symm, fun a b => h.three b a, fun a b c x y => h.le c b a y x⟩
theorem Ord3.comap {α γ : Type} {f : α → α → Int} (h : Ord3 f) (k : γ → α) (inj : ∀ x y, k x = k y → x = y) : Ord3 (fun x y => f (k x) (k y)) :=
  ⟨fun _ _ => h.anti _ _, fun _ _ e => inj _ _ (h.zero _ _ e), fun _ _ => h.three _ _, fun _ _ _ x y => h.le _ _ _ x y⟩
theorem Ord3.prod {α β : Type} {f : α → α → Int} {g : β → β → Int} (hf : Ord3 f) (hg : Ord3 g) : Ord3 (fun (x y : α × β) => if f x.1 y.1 = 0 then g x.2 y.2 else f x.1 y.1) := by
  refine ⟨fun a b => ?_, fun a b h => ?_, fun a b => ?_, fun a b c h k => ?_⟩
  · have h1 := hf.anti a.1 b.1
    have h2 := hg.anti a.2 b.2
    by_cases h0 : f a.1 b.1 = 0
    · rw [if_pos h0, if_pos (by omega)]; exact h2
    · rw [if_neg h0, if_neg (by omega)]; exact h1
  · by_cases h0 : f a.1 b.1 = 0
    · rw [if_pos h0] at h
      exact Prod.ext (hf.zero _ _ h0) (hg.zero _ _ h)
    · rw [if_neg h0] at h
      exact absurd h h0
  · have h1 := hf.three a.1 b.1
    have h2 := hg.three a.2 b.2
    by_cases h0 : f a.1 b.1 = 0
    · rw [if_pos h0]; exact h2
    · rw [if_neg h0]; exact h1
  · have hle := hf.le a.1 b.1 c.1
    by_cases h0 : f a.1 b.1 = 0
    · rw [if_pos h0] at h
      have e := hf.zero _ _ h0
      rw [e]
      by_cases k0 : f b.1 c.1 = 0
      · rw [if_pos k0] at k ⊢
        exact hg.le _ _ _ h k
      · rw [if_neg k0] at k ⊢
        exact k
    · rw [if_neg h0] at h
      by_cases k0 : f b.1 c.1 = 0
      · have e := hf.zero _ _ k0
        rw [← e, if_neg h0]
        exact h
      · rw [if_neg k0] at k
        have := hle h k
        by_cases z0 : f a.1 c.1 = 0
        · exfalso
          have e := hf.zero _ _ z0
          have h3 := hf.anti a.1 b.1
          rw [← e] at k
          omega
        · rw [if_neg z0]; exact this
/-- Lists: the first elements that differ decide; a proper beginning is less. -/
def cmpL {α : Type} (f : α → α → Int) : List α → List α → Int
  | [], [] => 0
  | [], _ :: _ => -1
  | _ :: _, [] => 1
  | x :: l, y :: m => if f x y = 0 then cmpL f l m else f x y
theorem Ord3.list {α : Type} {f : α → α → Int} (h : Ord3 f) : Ord3 (cmpL f) := by
  refine ⟨?_, ?_, ?_, ?_⟩
  · intro a
    induction a with
    | nil => intro b; cases b <;> rfl
    | cons x l ih =>
      intro b
      cases b with
      | nil => rfl
      | cons y m =>
        have h1 := h.anti x y
        have h2 := ih m
        simp only [cmpL]
        by_cases h0 : f x y = 0
        · rw [if_pos h0, if_pos (by omega)]; exact h2
        · rw [if_neg h0, if_neg (by omega)]; exact h1
  · intro a
    induction a with
    | nil => intro b e; cases b with | nil => rfl | cons y m => simp [cmpL] at e
    | cons x l ih =>
      intro b e
      cases b with
      | nil => simp [cmpL] at e
      | cons y m =>
        simp only [cmpL] at e
        by_cases h0 : f x y = 0
        · rw [if_pos h0] at e
          rw [h.zero _ _ h0, ih m e]
        · rw [if_neg h0] at e
          exact absurd e h0
  · intro a
    induction a with
    | nil => intro b; cases b <;> simp [cmpL]
    | cons x l ih =>
      intro b
      cases b with
      | nil => simp [cmpL]
      | cons y m =>
        have h1 := h.three x y
        simp only [cmpL]
        by_cases h0 : f x y = 0
        · rw [if_pos h0]; exact ih m
        · rw [if_neg h0]; exact h1
  · intro a
    induction a with
    | nil => intro b c _ _; cases c <;> simp [cmpL]
    | cons x l ih =>
      intro b c e k
      cases b with
      | nil => simp [cmpL] at e
      | cons y m =>
        cases c with
        | nil => simp [cmpL] at k
        | cons z n =>
          simp only [cmpL] at e k ⊢
          by_cases h0 : f x y = 0
          · rw [if_pos h0] at e
            have ee := h.zero _ _ h0
            rw [ee]
            by_cases k0 : f y z = 0
            · rw [if_pos k0] at k ⊢
              exact ih m n e k
            · rw [if_neg k0] at k ⊢
              exact k
          · rw [if_neg h0] at e
            by_cases k0 : f y z = 0
            · have ee := h.zero _ _ k0
              rw [← ee, if_neg h0]
              exact e
            · rw [if_neg k0] at k
              have := h.le _ _ _ e k
              by_cases z0 : f x z = 0
              · exfalso
                have ee := h.zero _ _ z0
                have h3 := h.anti x y
                rw [← ee] at k
                omega
              · rw [if_neg z0]; exact this
theorem cmpPs_eq : ∀ l m : List (Bs × Bs), cmpPs l m = cmpL cmpP l m
  | [], [] => rfl
  | [], _ :: _ => rfl
  | _ :: _, [] => rfl
  | p :: l, q :: m => by simp only [cmpPs, cmpL, cmpPs_eq l m]
theorem ord_pair : Ord3 cmpP := Ord3.prod ord_bytes ord_bytes
theorem ord_pairs : Ord3 cmpPs := by
  have : cmpPs = cmpL cmpP := by funext l m; exact cmpPs_eq l m
  rw [this]
  exact ord_pair.list
def keyR (x : Ex) : Int × (Int × (Bs × List (Bs × Bs))) := (x.b, (x.e, (x.name, x.ps)))
theorem ord_reg : Ord3 cmpR := (ord_int.prod (ord_int.flip.prod (ord_bytes.prod ord_pairs))).comap keyR (fun x y h => by
  cases x; cases y
  simp only [keyR, Prod.mk.injEq] at h
  obtain ⟨rfl, rfl, rfl, rfl⟩ := h
  rfl)
theorem cmpR_b {x y : Ex} (h : cmpR x y ≤ 0) : x.b ≤ y.b := by
  unfold cmpR cmpI at h
  repeat' split at h
  all_goals omega
theorem cmpR_e {x y : Ex} (h : cmpR x y ≤ 0) (hb : x.b = y.b) : y.e ≤ x.e := by
  unfold cmpR at h
  rw [show cmpI x.b y.b = 0 by unfold cmpI; rw [hb]; simp, if_pos rfl] at h
  unfold cmpI at h
  repeat' split at h
  all_goals omega
/-- Sorted insertion. -/
def insR (x : Ex) : List Ex → List Ex
  | [] => [x]
  | y :: r => if cmpR y x ≤ 0 then y :: insR x r else x :: y :: r
def sortR (l : List Ex) : List Ex := l.foldl (fun m x => insR x m) []
theorem insR_len (x : Ex) : ∀ l : List Ex, (insR x l).length = l.length + 1
  | [] => rfl
  | y :: r => by
    unfold insR
    split
    · rw [List.length_cons, insR_len x r, List.length_cons]
    · rfl
end Go.Proofs.YtmjmidgfdjcbfaaGreatDoor
