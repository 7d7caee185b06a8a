/-
  WALKS over package markup, seventh part: ValidValue: isControl at the code points finds just the control bytes.
-/
import Derived.Test.YtmjmidgfdjcbfaaGreatDoorMkM
import Derived.Test.YtmjmidgfdjcbfaaGreatDoorVdA
import Derived.Test.YtmjmidgfdjcbfaaGreatDoorShf
namespace Go.Proofs.YtmjmidgfdjcbfaaGreatDoor
open Go.RowKit Go.Shelf Go.Lib

theorem dec_shape (l : List UInt8) (hne : l ≠ []) :
    ((l.getD 0 0).toNat < 128 ∧ decodeL l = ((l.getD 0 0).toNat, 1)) ∨
    (128 ≤ (l.getD 0 0).toNat ∧ 128 ≤ (decodeL l).1 ∧ ∀ i, 0 < i → i < (decodeL l).2 → 128 ≤ (l.getD i 0).toNat) := by
  have hl : 0 < l.length := List.length_pos_iff.2 hne
  rw [decodeL_N]
  rcases decodeN_shape l.length (l.getD 0 0).toNat (l.getD 1 0).toNat (l.getD 2 0).toNat (l.getD 3 0).toNat with ⟨c, e⟩ | ⟨c1, c2, c3, cv, e⟩ | ⟨c1, c2, c3, c4, cv, cs, e⟩ | ⟨c1, c2, c3, c4, c5, cv, cw, e⟩ | e
  · exact .inl ⟨c, e⟩
  · refine .inr ⟨by omega, by rw [e]; exact cv, fun i h0 h1 => ?_⟩
    rw [e] at h1
    simp only at h1
    obtain rfl : i = 1 := by omega
    omega
  · refine .inr ⟨by omega, by rw [e]; simp only; omega, fun i h0 h1 => ?_⟩
    rw [e] at h1
    simp only at h1
    have : i = 1 ∨ i = 2 := by omega
    rcases this with rfl | rfl <;> omega
  · refine .inr ⟨by omega, by rw [e]; simp only; omega, fun i h0 h1 => ?_⟩
    rw [e] at h1
    simp only at h1
    have : i = 1 ∨ i = 2 ∨ i = 3 := by omega
    rcases this with rfl | rfl | rfl <;> omega
  · by_cases h : (l.getD 0 0).toNat < 128
    · exact .inl ⟨h, by rw [decodeN_ascii _ _ _ _ _ h]⟩
    · refine .inr ⟨by omega, by rw [e]; simp, fun i h0 h1 => ?_⟩
      rw [e] at h1
      simp only at h1
      omega

/-- A control byte, by its number. -/
def ctlN (n : Nat) : Bool := decide (n < 32) || decide (n = 127)
def ctlB (c : UInt8) : Bool := ctlN c.toNat
theorem ctl_high {n : Nat} (h : 128 ≤ n) : ctlN n = false := by unfold ctlN; simp; omega
theorem ctl_step (l : List UInt8) (hne : l ≠ []) : l.any ctlB = (ctlN (decodeL l).1 || (l.drop (decodeL l).2).any ctlB) := by
  rcases dec_shape l hne with ⟨h, e⟩ | ⟨h, hc, hi⟩
  · cases l with
    | nil => exact absurd rfl hne
    | cons b r =>
      rw [e]
      simp [ctlB]
  · rw [ctl_high hc, Bool.false_or]
    have hle := decodeL_le l hne
    have ht : (l.take (decodeL l).2).any ctlB = false := by
      rw [List.any_eq_false]
      intro x hx
      obtain ⟨i, hi2, rfl⟩ := List.getElem_of_mem hx
      rw [List.length_take] at hi2
      have hil : i < l.length := by omega
      have hg : (l.take (decodeL l).2)[i] = l.getD i 0 := by simp [hil]
      rw [hg]
      have : ctlB (l.getD i 0) = false := by
        unfold ctlB
        by_cases h0 : i = 0
        · subst h0; exact ctl_high h
        · exact ctl_high (hi i (by omega) (by omega))
      simp only [List.getD_eq_getElem?_getD] at this ⊢
      simp [this]
    have e : l.any ctlB = (l.take (decodeL l).2 ++ l.drop (decodeL l).2).any ctlB := by rw [List.take_append_drop]
    rw [e, List.any_append, ht, Bool.false_or]
theorem idx_ctl_from (s : ByteArray) : ∀ (f pos : Nat), s.size ≤ pos + f → (0 ≤ Lib.idxFuncFrom ctlN true s f pos ↔ (s.data.toList.drop pos).any ctlB = true)
  | 0, pos, h => by
    rw [List.drop_eq_nil_of_le (by rw [← Lib.size_eq]; omega)]
    simp [Lib.idxFuncFrom]
  | f + 1, pos, h => by
    unfold Lib.idxFuncFrom
    by_cases hp : pos < s.size
    · have hne : s.data.toList.drop pos ≠ [] := by
        intro e
        have := congrArg List.length e
        rw [List.length_drop, ← Lib.size_eq] at this
        simp at this
        omega
      have hw := Lib.decodeL_width (s.data.toList.drop pos)
      rw [if_pos hp, ctl_step _ hne, ← Lib.decodeL_drop s pos]
      by_cases hc : ctlN (decodeL (s.data.toList.drop pos)).1 = true
      · rw [if_pos hc, hc]
        simp
      · rw [if_neg hc]
        rw [Bool.not_eq_true] at hc
        rw [hc, Bool.false_or, List.drop_drop]
        exact idx_ctl_from s f _ (by omega)
    · rw [if_neg hp, List.drop_eq_nil_of_le (by rw [← Lib.size_eq]; omega)]
      simp
theorem idx_ctl (s : ByteArray) : decide (0 ≤ Lib.idxFunc ctlN true s) = s.data.toList.any ctlB := by
  have h := idx_ctl_from s s.size 0 (by omega)
  rw [List.drop_zero] at h
  unfold Lib.idxFunc
  rw [Bool.eq_iff_iff, decide_eq_true_eq]
  exact h

set_option maxHeartbeats 400000 in
theorem isControl_any (n : Nat) (w : World) :
    Calls Tryz.prog 113 #[.int .i32 (n : Int)] w fun e w' => e = .returned (.bool (ctlN n)) ∧ w' = w := by
  obtain ⟨b, hb⟩ : ∃ b, ctlN n = b := ⟨_, rfl⟩
  rw [hb]
  unfold ctlN at hb
  rcases (by omega : n < 32 ∨ (32 ≤ n ∧ n < 127) ∨ n = 127 ∨ 127 < n) with h | h | h | h
  all_goals
    first
      | (have hf : b = false := by rw [← hb]; simp; omega
         subst hf)
      | (have ht : b = true := by rw [← hb]; simp; omega
         subst ht)
  all_goals
    clear hb
    go_enter Tryz.func113, Tryz.ntmps113
    go_wp2
    go_ret
    refine ⟨?_, rfl⟩
    first
      | rfl
      | (simp; omega)
theorem contains_any (s : ByteArray) (w : World) :
    Calls Tryz.prog 112 #[.string s, .func (.func 113) #[] #[]] w fun e w' => e = .returned (.bool (s.data.toList.any ctlB)) ∧ Below w.heap.size w w' := by
  rw [← idx_ctl]
  exact Tryz.strings_ContainsFunc_runes 113 #[] (enters_of Tryz.func113 (by kernel_rfl) rfl) ctlN s w (fun W x _ _ => (isControl_any x W).mono fun e w' h => ⟨h.1, 0, h.2⟩)

/-- Has a string no invalid unit? -/
def validL (l : Bs) : Bool := (unitsA l 0).all fun u => !badU u
/-- Why a string is no value; 0 if it is one. -/
def valE (l : Bs) : Nat := if 120 < l.length then 2 else if validL l = false then 7 else if l.any ctlB then 14 else 0

set_option maxHeartbeats 1000000 in
theorem validValue_any (s : ByteArray) (hs : s.size ≤ maxLen) (w : World) :
    Calls Tryz.prog 81 #[.string s] w fun e w' => e = .returned (.int .i64 (valE s.data.toList : Nat)) ∧ Below w.heap.size w w' := by
  have hv := fun W : World => valid_any s hs W
  have hc := contains_any s
  obtain ⟨b1, h1⟩ : ∃ b, ((units s).all fun u => !badU u) = b := ⟨_, rfl⟩
  obtain ⟨b2, h2⟩ : ∃ b, s.data.toList.any ctlB = b := ⟨_, rfl⟩
  have hE : valE s.data.toList = if 120 < s.size then 2 else if b1 = false then 7 else if b2 then 14 else 0 := by
    unfold valE
    rw [← Lib.size_eq, h2]
    have : validL s.data.toList = b1 := h1
    rw [this]
  simp only [h1] at hv
  rw [h2] at hc
  obtain ⟨E, hEE⟩ : ∃ E, valE s.data.toList = E := ⟨_, rfl⟩
  rw [hEE] at hE ⊢
  have HV := Lib.hid hv
  have HC := Lib.hid hc
  clear hv hc h1 h2 hEE
  unfold maxLen at hs
  by_cases hl : 120 < s.size
  · rw [if_pos hl] at hE
    have HE := Lib.hid hE
    clear hE
    go_enter Tryz.func81, Tryz.ntmps81
    go_wp2_with fail
    go_ret
    exact ⟨by rw [HE.out]; rfl, Below.refl _ _⟩
  · rw [if_neg hl] at hE
    cases b1 with
    | false =>
      rw [if_pos rfl] at hE
      have HE := Lib.hid hE
      clear hE
      go_enter Tryz.func81, Tryz.ntmps81
      go_wp2_with fail
      refine (HV.out _).mono ?_
      rintro e w1 ⟨rfl, hb1⟩
      go_wp2_with fail
      go_ret
      exact ⟨by rw [HE.out]; rfl, hb1⟩
    | true =>
      cases b2 with
      | false =>
        have HE : Hid (E = 0) := Lib.hid (by rw [hE]; rfl)
        clear hE
        go_enter Tryz.func81, Tryz.ntmps81
        go_wp2_with fail
        refine (HV.out _).mono ?_
        rintro e w1 ⟨rfl, hb1⟩
        go_wp2_with fail
        refine (HC.out _).mono ?_
        rintro e w2 ⟨rfl, hb2⟩
        go_wp2_with fail
        go_ret
        exact ⟨by rw [HE.out]; rfl, hb1.trans (hb2.mono hb1.size)⟩
      | true =>
        have HE : Hid (E = 14) := Lib.hid (by rw [hE]; rfl)
        clear hE
        go_enter Tryz.func81, Tryz.ntmps81
        go_wp2_with fail
        refine (HV.out _).mono ?_
        rintro e w1 ⟨rfl, hb1⟩
        go_wp2_with fail
        refine (HC.out _).mono ?_
        rintro e w2 ⟨rfl, hb2⟩
        go_wp2_with fail
        go_ret
        exact ⟨by rw [HE.out]; rfl, hb1.trans (hb2.mono hb1.size)⟩
end Go.Proofs.YtmjmidgfdjcbfaaGreatDoor
