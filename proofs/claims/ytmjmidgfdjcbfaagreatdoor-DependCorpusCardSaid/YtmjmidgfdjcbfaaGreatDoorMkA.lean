/-
  WALKS over package markup, first part: isLetter, isInnerOnly, nameLength, ValidName; the reference's First, Next, ValidName.
-/
import Derived.Test.YtmjmidgfdjcbfaaGreatDoorMeA
import Derived.Test.YtmjmidgfdjcbfaaGreatDoorMkM
import Derived.LoopTactic
namespace Go.Proofs.YtmjmidgfdjcbfaaGreatDoor
open Go.RowKit Go.Shelf Go.Lib

set_option maxHeartbeats 400000 in
theorem isLetter_any (c : Nat) (w : World) :
    Calls Tryz.prog 107 #[.int .u8 (c : Int)] w fun e w' => e = .returned (.bool (letN c)) ∧ w' = w := by
  obtain ⟨b, hb⟩ : ∃ b, letN c = b := ⟨_, rfl⟩
  rw [hb]
  unfold letN at hb
  rcases (by omega : c < 65 ∨ (65 ≤ c ∧ c ≤ 90) ∨ (90 < c ∧ c < 95) ∨ c = 95 ∨ c = 96 ∨ (97 ≤ c ∧ c ≤ 122) ∨ 122 < c) with h | h | h | h | h | h | h
  all_goals
    first
      | (have hf : b = false := by rw [← hb]; simp; omega
         subst hf)
      | (have ht : b = true := by rw [← hb]; simp; omega
         subst ht)
  all_goals
    clear hb
    go_enter Tryz.func107, Tryz.ntmps107
    go_wp2
    go_ret
    exact ⟨rfl, rfl⟩
set_option maxHeartbeats 400000 in
theorem inner_any (c : Nat) (w : World) :
    Calls Tryz.prog 108 #[.int .u8 (c : Int)] w fun e w' => e = .returned (.bool (innN c)) ∧ w' = w := by
  obtain ⟨b, hb⟩ : ∃ b, innN c = b := ⟨_, rfl⟩
  rw [hb]
  unfold innN at hb
  rcases (by omega : c < 45 ∨ c = 45 ∨ (45 < c ∧ c < 48) ∨ (48 ≤ c ∧ c ≤ 57) ∨ 57 < c) with h | h | h | h | h
  all_goals
    first
      | (have hf : b = false := by rw [← hb]; simp; omega
         subst hf)
      | (have ht : b = true := by rw [← hb]; simp; omega
         subst ht)
  all_goals
    clear hb
    go_enter Tryz.func108, Tryz.ntmps108
    go_wp2
    go_ret
    refine ⟨?_, rfl⟩
    first
      | rfl
      | (simp; omega)

theorem get_byte (s : ByteArray) (k : Nat) (h : k < s.size) : s.data.toList.getD k 0 = s[k] := by
  have h' : k < s.data.toList.length := by rw [← Lib.size_eq]; exact h
  rw [List.getD_eq_getElem?_getD, List.getElem?_eq_getElem h']
  rfl

set_option maxHeartbeats 1000000 in
theorem nameLength_any (s : ByteArray) (hs : s.size ≤ maxLen) (w : World) :
    Calls Tryz.prog 78 #[.string s] w fun e w' => e = .returned (.int .i64 (nameN s.data.toList : Nat)) ∧ w' = w := by
  unfold maxLen at hs
  go_enter Tryz.func78, Tryz.ntmps78
  go_wp2
  go_loop [3] (fun i => ∃ k : Nat, k ≤ s.size ∧ i = .int .i64 k ∧ nameAt s.data.toList k = nameN s.data.toList) (fun i => s.size - (intOf i).toNat)
  case atStart => exact ⟨0, Nat.zero_le _, rfl, rfl⟩
  case round =>
    obtain ⟨k, hk, rfl, hrel⟩ := hrel
    by_cases hlt : k < s.size
    · have hl := isLetter_any (s[k]).toNat
      have hi := inner_any (s[k]).toNat
      have hg := get_byte s k hlt
      obtain ⟨c, hc⟩ : ∃ c, (s[k]'hlt).toNat = c := ⟨_, rfl⟩
      have HC := Lib.hid hc
      rw [hc] at hl hi
      have hgo : goB s.data.toList k = (letN c || (decide (0 < k) && innN c)) := by unfold goB; rw [hg, hc]
      have hst := nameAt_step (l := s.data.toList) (n := k) (by rw [← Lib.size_eq]; exact hlt)
      have hno := nameAt_stop (l := s.data.toList) (n := k) (by rw [← Lib.size_eq]; exact hk)
      rw [hgo] at hst hno
      obtain ⟨b1, h1⟩ : ∃ b, letN c = b := ⟨_, rfl⟩
      obtain ⟨b2, h2⟩ : ∃ b, innN c = b := ⟨_, rfl⟩
      rw [h1] at hst hno hl
      rw [h2] at hst hno hi
      have HL := Lib.hid hl
      have HI := Lib.hid hi
      clear hg hgo h1 h2 hl hi hc
      cases b1 with
      | true =>
        have HREL := Lib.hid ((hst rfl).trans hrel)
        clear hst hno hrel
        go_wp2_with fail
        rw [HC.out]
        refine (HL.out _).mono ?_
        rintro e w1 ⟨rfl, rfl⟩
        go_wp2_with fail
        go_round
        case rel => exact ⟨k + 1, by omega, by go_num, HREL.out⟩
        case measure => simp [intOf]; omega
      | false =>
        by_cases h0 : 0 < k
        · simp only [decide_eq_true h0, Bool.false_or, Bool.true_and] at hst hno
          cases b2 with
          | true =>
            have HREL := Lib.hid ((hst rfl).trans hrel)
            clear hst hno hrel
            go_wp2_with fail
            rw [HC.out]
            refine (HL.out _).mono ?_
            rintro e w1 ⟨rfl, rfl⟩
            go_wp2_with fail
            rw [HC.out]
            refine (HI.out _).mono ?_
            rintro e w1 ⟨rfl, rfl⟩
            go_wp2_with fail
            go_round
            case rel => exact ⟨k + 1, by omega, by go_num, HREL.out⟩
            case measure => simp [intOf]; omega
          | false =>
            have HREL := Lib.hid ((hno (fun _ => rfl)).symm.trans hrel)
            clear hst hno hrel
            go_wp2_with fail
            rw [HC.out]
            refine (HL.out _).mono ?_
            rintro e w1 ⟨rfl, rfl⟩
            go_wp2_with fail
            rw [HC.out]
            refine (HI.out _).mono ?_
            rintro e w1 ⟨rfl, rfl⟩
            go_wp2_with fail
            go_ret
            exact ⟨by rw [← HREL.out]; rfl, rfl⟩
        · obtain rfl : k = 0 := by omega
          have HREL := Lib.hid ((hno (fun _ => by simp)).symm.trans hrel)
          clear hst hno hrel
          go_wp2_with fail
          rw [HC.out]
          refine (HL.out _).mono ?_
          rintro e w1 ⟨rfl, rfl⟩
          go_wp2_with fail
          go_ret
          exact ⟨by rw [← HREL.out]; rfl, rfl⟩
    · have h2 : nameAt s.data.toList k = k := nameAt_stop (by rw [← Lib.size_eq]; exact hk) (fun h => absurd h (by rw [← Lib.size_eq]; omega))
      have H2 := Lib.hid (h2.symm.trans hrel)
      clear h2 hrel
      go_wp2
      go_ret
      exact ⟨by rw [← H2.out]; rfl, rfl⟩

set_option maxHeartbeats 400000 in
theorem validName_any (s : ByteArray) (hs : s.size ≤ maxLen) (w : World) :
    Calls Tryz.prog 49 #[.string s] w fun e w' => e = .returned (.bool (nameB s.data.toList)) ∧ w' = w := by
  have HN := Lib.hid (nameLength_any s hs)
  unfold maxLen at hs
  obtain ⟨b, hb⟩ : ∃ b, nameB s.data.toList = b := ⟨_, rfl⟩
  rw [hb]
  unfold nameB at hb
  rw [← Lib.size_eq] at hb
  obtain ⟨n, hn⟩ : ∃ n, nameN s.data.toList = n := ⟨_, rfl⟩
  rw [hn] at hb HN
  have HB := Lib.hid hb
  clear hb hn
  by_cases h0 : s = ⟨#[]⟩
  · subst h0
    have := HB.out
    simp at this
    subst this
    go_enter Tryz.func49, Tryz.ntmps49
    go_wp2_with fail
    go_ret
    exact ⟨rfl, rfl⟩
  · have hne : (s.toList == ([] : List UInt8)) = false := by
      rw [Lib.toList_data]
      cases s with
      | mk d => cases d with | mk l => cases l <;> simp_all
    have hne2 : s.data.toList ≠ [] := by
      rw [Lib.toList_data] at hne
      simpa using hne
    by_cases h32 : s.size ≤ 32
    · have hb' := HB.out
      rw [decide_eq_true hne2, decide_eq_true h32, Bool.true_and, Bool.true_and] at hb'
      have hb2 : ((n : Int) == (s.size : Int)) = b := by rw [← hb', Bool.eq_iff_iff]; simp; omega
      have HB' := Lib.hid hb2
      clear hb' hb2 HB hne2 h0
      go_enter Tryz.func49, Tryz.ntmps49
      go_wp2_with fail
      refine (HN.out _).mono ?_
      rintro e w1 ⟨rfl, rfl⟩
      go_wp2_with fail
      go_ret
      exact ⟨by rw [← HB'.out]; rfl, rfl⟩
    · have hb' := HB.out
      rw [decide_eq_false h32] at hb'
      simp at hb'
      subst hb'
      clear HB hne2 h0
      go_enter Tryz.func49, Tryz.ntmps49
      go_wp2_with fail
      go_ret
      exact ⟨rfl, rfl⟩
end Go.Proofs.YtmjmidgfdjcbfaaGreatDoor
