/-
  WALKS over the reference of markup: First, Next, ValidName.
-/
import Derived.Test.YtpkkebojiengpaaGreatDoorMkA
import Derived.Test.YtpkkebojiengpaaGreatDoorDaR
namespace Go.Proofs.YtpkkebojiengpaaGreatDoor
open Go.RowKit Go.Shelf Go.Lib

set_option maxHeartbeats 400000 in
theorem refFirst_any (c : Nat) (w : World) :
    Calls Tryz.prog 30 #[.int .u8 (c : Int)] w fun e w' => e = .returned (.bool (letN c)) ∧ w' = w := by
  obtain ⟨b, hb⟩ : ∃ b, letN c = b := ⟨_, rfl⟩
  rw [hb]
  unfold letN at hb
  rcases (by omega : c < 65 ∨ (65 ≤ c ∧ c ≤ 90) ∨ (90 < c ∧ c < 95) ∨ c = 95 ∨ c = 96 ∨ (97 ≤ c ∧ c ≤ 122) ∨ 122 < c) with h | h | h | h | h | h | h
  all_goals
    first
      | (have hf : b = false := by rw [← hb]; simp; omega
         subst hf)
      | (have ht : b = true := by rw [← hb]; simp; omega
         subst ht)
  all_goals
    clear hb
    go_enter Tryz.func30, Tryz.ntmps30
    go_wp2
    go_ret
    refine ⟨?_, rfl⟩
    first
      | rfl
      | (simp; omega)
set_option maxRecDepth 100000 in
set_option maxHeartbeats 400000 in
theorem refNext_any (c : Nat) (w : World) :
    Calls Tryz.prog 31 #[.int .u8 (c : Int)] w fun e w' => e = .returned (.bool (letN c || innN c)) ∧ w' = w := by
  have hf := refFirst_any c w
  obtain ⟨a, ha⟩ : ∃ a, letN c = a := ⟨_, rfl⟩
  rw [ha] at hf ⊢
  have HF := Lib.hid hf
  clear hf ha
  cases a with
  | true =>
    go_enter Tryz.func31, Tryz.ntmps31
    go_wp2_with fail
    refine HF.out.mono ?_
    rintro e w1 ⟨rfl, rfl⟩
    go_wp2_with fail
    go_ret
    exact ⟨rfl, rfl⟩
  | false =>
    obtain ⟨b, hb⟩ : ∃ b, innN c = b := ⟨_, rfl⟩
    rw [hb]
    unfold innN at hb
    rcases (by omega : c < 45 ∨ c = 45 ∨ (45 < c ∧ c < 48) ∨ (48 ≤ c ∧ c ≤ 57) ∨ 57 < c) with h | rfl | h | h | h
    all_goals
      first
        | (have hf : b = false := by rw [← hb]; first | decide | (simp; omega)
           subst hf)
        | (have ht : b = true := by rw [← hb]; first | decide | (simp; omega)
           subst ht)
    all_goals
      clear hb
      go_enter Tryz.func31, Tryz.ntmps31
      go_wp2_with fail
      refine HF.out.mono ?_
      rintro e w1 ⟨rfl, rfl⟩
      go_wp2_with fail
      go_ret
      refine ⟨?_, rfl⟩
      first
        | rfl
        | (simp; omega)

theorem take_all (p : UInt8 → Bool) : ∀ r : Bs, decide (1 + (r.takeWhile p).length = r.length + 1) = r.all p
  | [] => by simp
  | c :: r => by
    rw [List.takeWhile_cons, List.all_cons]
    cases hc : p c with
    | true =>
      rw [Bool.true_and, ← take_all p r]
      simp only [if_true, List.length_cons]
      congr 1
      apply propext
      omega
    | false => simp
theorem nameB_cons (c : UInt8) (r : Bs) : nameB (c :: r) = (decide (r.length + 1 ≤ 32) && (letN c.toNat && r.all nxtB)) := by
  have := take_all nxtB r
  unfold nameB nameN
  cases hl : letN c.toNat with
  | true => simp [hl, this]
  | false => simp [hl]

set_option maxHeartbeats 2000000 in
theorem refName_any (s : ByteArray) (hs : s.size ≤ maxLen) (w : World) :
    Calls Tryz.prog 13 #[.string s] w fun e w' => e = .returned (.bool (nameB s.data.toList)) ∧ w' = w := by
  unfold maxLen at hs
  by_cases h0 : s.size = 0
  · have hl : s.data.toList = [] := List.length_eq_zero_iff.1 (by rw [← Lib.size_eq]; exact h0)
    rw [hl]
    have hb : nameB [] = false := by decide
    rw [hb]
    clear hl hb
    go_enter Tryz.func13, Tryz.ntmps13
    go_wp2_with fail
    go_ret
    exact ⟨rfl, rfl⟩
  · have h1 : 0 < s.size := by omega
    have hn : s.data.toList = s[0] :: s.data.toList.drop 1 := by
      have h' : 0 < s.data.toList.length := by rw [← Lib.size_eq]; exact h1
      have h2 : s.data.toList.drop 0 = s.data.toList[0] :: s.data.toList.drop 1 := List.drop_eq_getElem_cons h'
      exact h2
    have hsz : s.data.toList.length = s.size := (Lib.size_eq s).symm
    have hnb := nameB_cons s[0] (s.data.toList.drop 1)
    rw [← hn, List.length_drop, hsz] at hnb
    by_cases h32 : 32 < s.size
    · have hb : nameB s.data.toList = false := by
        rw [hnb, decide_eq_false (by omega)]
        rfl
      rw [hb]
      clear hb hnb hn
      go_enter Tryz.func13, Tryz.ntmps13
      go_wp2_with fail
      go_ret
      exact ⟨rfl, rfl⟩
    · rw [decide_eq_true (by omega), Bool.true_and] at hnb
      have hf := refFirst_any (s[0]).toNat
      obtain ⟨c, hc⟩ : ∃ c, (s[0]'h1).toNat = c := ⟨_, rfl⟩
      rw [hc] at hf hnb
      have HC := Lib.hid hc
      have HF := Lib.hid hf
      cases hlc : letN c with
      | false =>
        rw [hlc] at hnb HF
        have hb : nameB s.data.toList = false := hnb
        rw [hb]
        clear hb hnb hn hlc hc hf
        go_enter Tryz.func13, Tryz.ntmps13
        go_wp2_with fail
        rw [HC.out]
        refine (HF.out _).mono ?_
        rintro e w1 ⟨rfl, rfl⟩
        go_wp2_with fail
        go_ret
        exact ⟨rfl, rfl⟩
      | true =>
        rw [hlc] at hnb HF
        have hb : nameB s.data.toList = (s.data.toList.drop 1).all nxtB := hnb
        rw [hb]
        obtain ⟨q, hq⟩ : ∃ q, (s.data.toList.drop 1).all nxtB = q := ⟨_, rfl⟩
        rw [hq]
        have HQ := Lib.hid hq
        clear hb hnb hn hlc hc hf hq
        go_enter Tryz.func13, Tryz.ntmps13
        go_wp2_with fail
        rw [HC.out]
        refine (HF.out _).mono ?_
        rintro e w1 ⟨rfl, rfl⟩
        go_wp2_with fail
        go_loop [3] (fun i => ∃ k : Nat, 1 ≤ k ∧ k ≤ s.size ∧ i = .int .i64 k ∧ q = (s.data.toList.drop k).all nxtB) (fun i => s.size - (Go.RowKit.intOf i).toNat)
        case atStart => exact ⟨1, Nat.le_refl _, h1, rfl, HQ.out.symm⟩
        case round =>
          obtain ⟨k, hk1, hk, rfl, hrel⟩ := hrel
          by_cases hlt : k < s.size
          · have h' : k < s.data.toList.length := by rw [hsz]; exact hlt
            have hd : (s.data.toList.drop k).all nxtB = (nxtB s[k] && (s.data.toList.drop (k + 1)).all nxtB) := by
              rw [List.drop_eq_getElem_cons h', List.all_cons]
              rfl
            rw [hd] at hrel
            have hx := refNext_any (s[k]).toNat
            have hnx : nxtB (s[k]'hlt) = (letN (s[k]'hlt).toNat || innN (s[k]'hlt).toNat) := rfl
            rw [← hnx] at hx
            obtain ⟨b, hb⟩ : ∃ b, nxtB (s[k]'hlt) = b := ⟨_, rfl⟩
            rw [hb] at hx hrel
            obtain ⟨d, hd'⟩ : ∃ d, (s[k]'hlt).toNat = d := ⟨_, rfl⟩
            rw [hd'] at hx
            have HD := Lib.hid hd'
            have HX := Lib.hid hx
            clear hd hnx hb hd' hx h'
            cases b with
            | true =>
              have HR := Lib.hid hrel
              clear hrel
              go_wp2_with fail
              rw [HD.out]
              refine (HX.out _).mono ?_
              rintro e w1 ⟨rfl, rfl⟩
              go_wp2_with fail
              go_round
              case rel => exact ⟨k + 1, by omega, by omega, by go_num, HR.out⟩
              case measure => simp [Go.RowKit.intOf]; omega
            | false =>
              have HR := Lib.hid hrel
              clear hrel
              go_wp2_with fail
              rw [HD.out]
              refine (HX.out _).mono ?_
              rintro e w1 ⟨rfl, rfl⟩
              go_wp2_with fail
              go_ret
              exact ⟨by rw [HR.out]; rfl, rfl⟩
          · have hfin : s.data.toList.drop k = [] := List.drop_eq_nil_of_le (by rw [hsz]; omega)
            rw [hfin] at hrel
            have HR := Lib.hid hrel
            clear hfin hrel
            go_wp2_with fail
            go_ret
            exact ⟨congrArg (fun b => Ending.returned (.bool b)) HR.out.symm, rfl⟩
end Go.Proofs.YtpkkebojiengpaaGreatDoor
