/-
  WALKS over package codepoint, first part: sizeAt (the width of a unit), unit.invalid, units and its iterator. Each says what a call does, for every string no longer than the model allows.
-/
import Derived.Test.YteennnhinfnahaaProg
import Derived.Test.YteennnhinfnahaaUtf
import Derived.RangeFuncNested
import Derived.RangeFuncBound
import Derived.RangeFuncCalls
import Derived.RangeFuncLeaves
import Derived.RangeFuncBox
import Derived.Shelf.Abstract
import Derived.Shelf.RegionOpen
import Derived.WalkKit
import Derived.WalkSpells
import Derived.WalkLawsBesides
import Derived.OwnWalkIn
import Derived.TacticsInMore
import Derived.LoopNIn
import Derived.LoopIn
import Derived.Lib.Hide
import Derived.BigQuiet
import Derived.Deep.QuietTactic
namespace Go.Proofs.Yteennnhinfnahaa
open Go.RowKit Go.Shelf Go.Lib

attribute [local go_sem] Oper.semAt_some

set_option maxHeartbeats 400000 in
/-- utf8.RuneLen, by ranges. -/
theorem runeLen_1 (c : Int) (h0 : 0 ≤ c) (h1 : c ≤ 127) (w : World) :
    Calls Try.prog 99 #[.int .i32 c] w fun e w' => e = .returned (.int .i64 1) ∧ w = w' := by
  go_enter Try.func99, Try.ntmps99
  go_wp2
  go_ret
  exact ⟨rfl, rfl⟩
set_option maxHeartbeats 400000 in
theorem runeLen_2 (c : Int) (h0 : 128 ≤ c) (h1 : c ≤ 2047) (w : World) :
    Calls Try.prog 99 #[.int .i32 c] w fun e w' => e = .returned (.int .i64 2) ∧ w = w' := by
  go_enter Try.func99, Try.ntmps99
  go_wp2
  go_ret
  exact ⟨rfl, rfl⟩
set_option maxHeartbeats 400000 in
theorem runeLen_3a (c : Int) (h0 : 2048 ≤ c) (h1 : c < 55296) (w : World) :
    Calls Try.prog 99 #[.int .i32 c] w fun e w' => e = .returned (.int .i64 3) ∧ w = w' := by
  go_enter Try.func99, Try.ntmps99
  go_wp2
  go_ret
  exact ⟨rfl, rfl⟩
set_option maxHeartbeats 400000 in
theorem runeLen_3b (c : Int) (h0 : 57343 < c) (h1 : c ≤ 65535) (w : World) :
    Calls Try.prog 99 #[.int .i32 c] w fun e w' => e = .returned (.int .i64 3) ∧ w = w' := by
  go_enter Try.func99, Try.ntmps99
  go_wp2
  go_ret
  exact ⟨rfl, rfl⟩
set_option maxHeartbeats 400000 in
theorem runeLen_4 (c : Int) (h0 : 65536 ≤ c) (h1 : c ≤ 1114111) (w : World) :
    Calls Try.prog 99 #[.int .i32 c] w fun e w' => e = .returned (.int .i64 4) ∧ w = w' := by
  go_enter Try.func99, Try.ntmps99
  go_wp2
  go_ret
  exact ⟨rfl, rfl⟩

set_option maxHeartbeats 400000 in
/-- strings.HasPrefix. -/
theorem slHasPrefix_short (t q : ByteArray) (h : t.size < q.size) (w : World) :
    Calls Try.prog 72 #[.string t, .string q] w fun e w' => e = .returned (.bool false) ∧ w = w' := by
  go_enter Try.func72, Try.ntmps72
  go_wp2
  go_ret
  exact ⟨rfl, rfl⟩
set_option maxHeartbeats 400000 in
theorem slHasPrefix_long (t q : ByteArray) (h : q.size ≤ t.size) (w : World) :
    Calls Try.prog 72 #[.string t, .string q] w fun e w' => e = .returned (.bool ((t.extract 0 q.size).toList == q.toList)) ∧ w = w' := by
  go_enter Try.func72, Try.ntmps72
  go_wp2
  go_ret
  exact ⟨rfl, rfl⟩
/-- Do the bytes EF BF BD stand in front? -/
def fffdB (l : List UInt8) : Bool := decide (l.take 3 = [239, 191, 189])
theorem toList_d (b : ByteArray) : b.toList = b.data.toList := Lib.toList_data b
set_option maxHeartbeats 400000 in
theorem hasPrefix_fffd (t : ByteArray) (w : World) :
    Calls Try.prog 52 #[.string t, .string ⟨#[239, 191, 189]⟩] w fun e w' => e = .returned (.bool (fffdB t.data.toList)) ∧ w = w' := by
  by_cases h : 3 ≤ t.size
  · have e3 : ((t.extract 0 3).toList == [239, 191, 189]) = fffdB t.data.toList := by
      rw [toList_d, Lib.extract_data, List.drop_zero]
      unfold fffdB
      rw [Bool.eq_iff_iff]
      simp
    have H := Lib.hid e3
    have h3 : ByteArray.size ⟨#[239, 191, 189]⟩ ≤ t.size := h
    have H3 := Lib.hid h3
    clear e3 h h3
    go_enter Try.func52, Try.ntmps52
    go_wp2_with (go_at_call 72; refine (slHasPrefix_long _ _ H3.out _).mono ?_; rintro e w' ⟨rfl, rfl⟩)
    go_ret
    rw [H.out]
    exact ⟨rfl, rfl⟩
  · have e3 : fffdB t.data.toList = false := by
      unfold fffdB
      rw [decide_eq_false_iff_not]
      intro h3
      have := congrArg List.length h3
      rw [List.length_take, ← Lib.size_eq] at this
      simp at this
      omega
    have H := Lib.hid e3
    have h3 : t.size < ByteArray.size ⟨#[239, 191, 189]⟩ := Nat.lt_of_not_le h
    have H3 := Lib.hid h3
    clear e3 h h3
    go_enter Try.func52, Try.ntmps52
    go_wp2_with (go_at_call 72; refine (slHasPrefix_short _ _ H3.out _).mono ?_; rintro e w' ⟨rfl, rfl⟩)
    go_ret
    rw [H.out]
    exact ⟨rfl, rfl⟩

set_option maxHeartbeats 400000 in
/-- sizeAt, where the code point is not U+FFFD. -/
theorem sizeAt_rune (s : ByteArray) (p : Int) (c k : Int) (hc : (c == 65533) = false) (hR : ∀ w, Calls Try.prog 99 #[.int .i32 c] w fun e w' => e = .returned (.int .i64 k) ∧ w = w') (w : World) :
    Calls Try.prog 91 #[.string s, .int .i64 p, .int .i32 c] w fun e w' => e = .returned (.int .i64 k) ∧ w = w' := by
  have HR := Lib.hid hR
  clear hR
  go_enter Try.func91, Try.ntmps91
  go_wp2_with (go_at_call 99; refine (HR.out _).mono ?_; rintro e w' ⟨rfl, rfl⟩)
  go_ret
  exact ⟨rfl, rfl⟩
set_option maxHeartbeats 400000 in
/-- sizeAt, where it is. -/
theorem sizeAt_error (s : ByteArray) (p : Nat) (hp : p ≤ s.size) (b : Bool) (hb : fffdB (s.extract p s.size).data.toList = b) (w : World) :
    Calls Try.prog 91 #[.string s, .int .i64 p, .int .i32 65533] w fun e w' => e = .returned (.int .i64 (if b then 3 else 1)) ∧ w = w' := by
  have HP : ∀ w, Calls Try.prog 52 #[.string (s.extract p s.size), .string ⟨#[239, 191, 189]⟩] w fun e w' => e = .returned (.bool b) ∧ w = w' := by
    intro w
    rw [← hb]
    exact hasPrefix_fffd _ w
  have HR := Lib.hid HP
  clear HP hb
  cases b
  · go_enter Try.func91, Try.ntmps91
    go_wp2_with (go_at_call 52; refine (HR.out _).mono ?_; rintro e w' ⟨rfl, rfl⟩)
    go_ret
    exact ⟨rfl, rfl⟩
  · go_enter Try.func91, Try.ntmps91
    go_wp2_with (first | (go_at_call 52; refine (HR.out _).mono ?_; rintro e w' ⟨rfl, rfl⟩) | (go_at_call 99; refine (runeLen_3b _ (by omega) (by omega) _).mono ?_; rintro e w' ⟨rfl, rfl⟩))
    go_ret
    exact ⟨rfl, rfl⟩

/-- Is a unit of code point c with n bytes an invalid one? -/
def invB (c : Int) (n : Nat) : Bool := decide (c = 65533 ∧ n = 1)
set_option maxHeartbeats 400000 in
theorem invalid_no (c p : Int) (t : ByteArray) (w : World) (h : (c == 65533) = false) :
    Calls Try.prog 79 #[.agg #[.int .i32 c, .int .i64 p, .string t]] w fun e w' => e = .returned (.bool false) ∧ Below w.heap.size w w' := by
  go_enter Try.func79, Try.ntmps79
  go_wp2
  go_ret
  exact ⟨rfl, (Below.refl _ _).alloc (Nat.le_refl _) _⟩
set_option maxHeartbeats 400000 in
theorem invalid_len (p : Int) (t : ByteArray) (w : World) (b : Bool) (h : ((t.size : Int) == 1) = b) :
    Calls Try.prog 79 #[.agg #[.int .i32 65533, .int .i64 p, .string t]] w fun e w' => e = .returned (.bool b) ∧ Below w.heap.size w w' := by
  have H := Lib.hid h
  clear h
  go_enter Try.func79, Try.ntmps79
  go_wp2
  go_ret
  exact ⟨by rw [← H.out]; rfl, (Below.refl _ _).alloc (Nat.le_refl _) _⟩
/-- unit.invalid answers 'invB'. -/
theorem invalid_any (c p : Int) (t : ByteArray) (w : World) :
    Calls Try.prog 79 #[.agg #[.int .i32 c, .int .i64 p, .string t]] w fun e w' => e = .returned (.bool (invB c t.size)) ∧ Below w.heap.size w w' := by
  by_cases h : c = 65533
  · subst h
    refine invalid_len p t w _ ?_
    unfold invB
    rw [Bool.eq_iff_iff]
    simp
    omega
  · have e : invB c t.size = false := by simp [invB, h]
    rw [e]
    exact invalid_no c p t w (by simp [h])
set_option maxHeartbeats 400000 in
/-- units: the string goes into a variable, which the iterator captures. -/
theorem units_fn (s : ByteArray) (w : World) :
    Calls Try.prog 78 #[.string s] w fun e w' => e = .returned (.func (.func 90) #[] #[.pointer (some ⟨w.heap.size, 0, none⟩)]) ∧ w' = w.alloc (.cells #[.string s] 9) := by
  go_enter Try.func78, Try.ntmps78
  go_wp2
  go_ret
  exact ⟨rfl, rfl⟩

/-- What sizeAt gives at a unit: its width. -/
theorem sizeAt_unit (s : ByteArray) (p : Nat) (hp : p < s.size) (w : World) :
    Calls Try.prog 91 #[.string s, .int .i64 p, .int .i32 ((Utf8.decode s p).1 : Nat)] w fun e w' => e = .returned (.int .i64 ((Utf8.decode s p).2 : Nat)) ∧ w = w' := by
  have hd := Lib.decodeL_drop s p
  have hc := decodeL_c_le (s.data.toList.drop p)
  by_cases he : (Utf8.decode s p).1 = 65533
  · have hw := width_of_error (s.data.toList.drop p) (by rw [hd]; exact he)
    rw [hd] at hw
    have hx : (s.extract p s.size).data.toList = s.data.toList.drop p := by
      rw [Lib.extract_data, List.take_of_length_le]
      rw [List.length_drop, ← Lib.size_eq]
      exact Nat.le_refl _
    rw [he]
    have := sizeAt_error s p (Nat.le_of_lt hp) (fffdB (s.data.toList.drop p)) (by rw [hx]) w
    have e2 : (((Utf8.decode s p).2 : Nat) : Int) = (if fffdB (s.data.toList.drop p) then 3 else 1) := by
      rw [hw]
      unfold fffdB
      by_cases h3 : List.take 3 (List.drop p s.data.toList) = [239, 191, 189] <;> simp [h3]
    rw [e2]
    exact this
  · have hw := width_of_rune (s.data.toList.drop p) (by rw [hd]; exact he)
    rw [hd] at hw hc
    rw [← hw]
    generalize hg : (((Utf8.decode s p).1 : Nat) : Int) = c
    have h0 : 0 ≤ c := by omega
    have h1 : c ≤ 1114111 := by omega
    have hne : (c == 65533) = false := by simp; omega
    have hpos : (1 : Int) ≤ runeLen c := by
      have := Lib.decodeL_width (s.data.toList.drop p)
      rw [hd] at this
      rw [← hg, hw]
      omega
    refine sizeAt_rune s p c _ hne (fun w => ?_) w
    clear hg hw hne
    have hr : runeLen c = if c ≤ 127 then 1 else if c ≤ 2047 then 2 else if 55296 ≤ c ∧ c ≤ 57343 then -1 else if c ≤ 65535 then 3 else 4 := by
      unfold runeLen
      repeat' split
      all_goals omega
    by_cases a1 : c ≤ 127
    · rw [hr, if_pos a1]; exact runeLen_1 c h0 a1 w
    · by_cases a2 : c ≤ 2047
      · rw [hr, if_neg a1, if_pos a2]; exact runeLen_2 c (by omega) a2 w
      · by_cases a3 : 55296 ≤ c ∧ c ≤ 57343
        · rw [hr, if_neg a1, if_neg a2, if_pos a3] at hpos
          omega
        · by_cases a4 : c ≤ 65535
          · rw [hr, if_neg a1, if_neg a2, if_neg a3, if_pos a4]
            by_cases a5 : c < 55296
            · exact runeLen_3a c (by omega) a5 w
            · exact runeLen_3b c (by omega) a4 w
          · rw [hr, if_neg a1, if_neg a2, if_neg a3, if_neg a4]; exact runeLen_4 c (by omega) h1 w
end Go.Proofs.Yteennnhinfnahaa
