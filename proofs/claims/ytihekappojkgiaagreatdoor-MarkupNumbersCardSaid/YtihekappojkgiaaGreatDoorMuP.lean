/-
  MarkupNumbers is proved: for every number and every number the call of the law returns true, and each argument reads afterwards as it read before. The package-level variables that the row lists hold what the program's text lays in them: this is tied to the text.
-/
import Derived.Test.YtihekappojkgiaaGreatDoorRows
import Derived.Test.YtihekappojkgiaaGreatDoorCards
import Derived.Test.YtihekappojkgiaaGreatDoorTie
import Derived.Test.YtihekappojkgiaaGreatDoorMkL
import Derived.Test.YtihekappojkgiaaGreatDoorMnM
import Derived.ProofKit
import Derived.OpenShut
import Derived.Carry
import Derived.SevenTiedAt
import Derived.LaidMore
import Derived.Stop.Joined
namespace Go.Proofs.YtihekappojkgiaaGreatDoor.markupNumbers
open Go.ChangeShapes Go.WideShapes Go.ChangeAt Go.RowKit Go.Shelf Go.Lib
set_option linter.unusedVariables false

set_option maxRecDepth 100000 in
set_option maxHeartbeats 1000000 in
theorem walk (x : Int) (hx1 : -9223372036854775808 ≤ x) (hx2 : x ≤ 9223372036854775807) (y : Int) (hy1 : -9223372036854775808 ≤ y) (hy2 : y ≤ 9223372036854775807) {w : World} (m : Mem w) :
    Calls Tryz.prog 8 #[.int .i64 x, .int .i64 y] w fun e w1 => e = .returned (.bool true) ∧ Below w.heap.size w w1 := by
  have HM := Lib.hid m
  clear m
  by_cases h1 : x < 0
  · go_enter Tryz.func8, Tryz.ntmps8
    go_wp2
    go_ret
    exact ⟨rfl, Below.refl _ _⟩
  by_cases h2 : 99999999 < x
  · go_enter Tryz.func8, Tryz.ntmps8
    go_wp2
    go_ret
    exact ⟨rfl, Below.refl _ _⟩
  by_cases h3 : y < 0
  · go_enter Tryz.func8, Tryz.ntmps8
    go_wp2
    go_ret
    exact ⟨rfl, Below.refl _ _⟩
  by_cases h4 : 8 < y
  · go_enter Tryz.func8, Tryz.ntmps8
    go_wp2
    go_ret
    exact ⟨rfl, Below.refl _ _⟩
  obtain ⟨n, rfl⟩ : ∃ n : Nat, x = n := ⟨x.toNat, by omega⟩
  obtain ⟨z, rfl⟩ : ∃ z : Nat, y = z := ⟨y.toNat, by omega⟩
  have hn : n ≤ 99999999 := by omega
  have hz : z ≤ 8 := by omega
  clear hx1 hx2 hy1 hy2 h1 h2 h3 h4
  have hdl := dec_len 7 n (by omega)
  go_enter Tryz.func8, Tryz.ntmps8
  go_wp2_with fail
  go_loop [5, 6] (fun a i => ∃ (k : Nat) (D : Bs), k ≤ n ∧ i = .int .i64 k ∧ a = .string ⟨D.toArray⟩ ∧ decS k ++ D = decS n) (fun _ i => (Go.RowKit.intOf i).toNat)
  case atStart => exact ⟨n, [], Nat.le_refl _, rfl, rfl, by simp⟩
  case round =>
    obtain ⟨k, D, hk, rfl, rfl, hrel⟩ := hrel
    by_cases h0 : 0 < k
    · have hst := decS_step k h0
      have hlen := congrArg List.length hrel
      have hds : (decS n).length ≤ 8 := by
        unfold decS
        split
        · simp
        · exact hdl
      rw [List.length_append] at hlen
      rw [hst, List.append_assoc] at hrel
      obtain ⟨sD, hsD⟩ : ∃ sD : ByteArray, (⟨D.toArray⟩ : ByteArray) = sD := ⟨_, rfl⟩
      have hzD : sD.size ≤ 8 := by
        rw [← hsD]
        show D.length ≤ 8
        omega
      have hch : Utf8.encode ((48 + k % 10 : Nat) : Int) = ⟨#[UInt8.ofNat (48 + k % 10)]⟩ := enc_dig _ (Nat.mod_lt _ (by decide))
      rw [hsD]
      have z1 : ¬ (9223372036854775807 < (Utf8.encode (48 + (k : Int) % 10)).size + sD.size) := by
        have e : (48 + (k : Int) % 10) = ((48 + k % 10 : Nat) : Int) := by omega
        rw [e, hch]
        show ¬ (9223372036854775807 < 1 + sD.size)
        omega
      have hcat : Utf8.encode (48 + (k : Int) % 10) ++ sD = ⟨(UInt8.ofNat (48 + k % 10) :: D).toArray⟩ := by
        have e : (48 + (k : Int) % 10) = ((48 + k % 10 : Nat) : Int) := by omega
        rw [e, hch, ← hsD]
        show (⟨([UInt8.ofNat (48 + k % 10)] : Bs).toArray⟩ : ByteArray) ++ _ = _
        rw [ByteArray.mk_append_mk]
        rfl
      have HC := Lib.hid hcat
      have HR := Lib.hid hrel
      clear hst hlen hds hrel hsD hch hcat
      go_wp2_with fail
      go_round
      case rel => exact ⟨k / 10, _, by omega, by go_num, by rw [HC.out]; rfl, HR.out⟩
      case measure => simp [Go.RowKit.intOf]; omega
    · have hk0 : k = 0 := by omega
      subst hk0
      have hD : D = decS n := hrel
      subst hD
      clear hrel
      by_cases hn0 : n = 0
      · have hn1 : ((n : Int) == 0) = true := by simp [hn0]
        have HZ0 : Hid ((⟨#[48]⟩ : ByteArray) = ⟨(numZ n 0).toArray⟩) := Lib.hid (by
          rw [hn0]
          show _ = (⟨(decDigits 0).toArray⟩ : ByteArray)
          rw [Lib.decDigits_one (by decide)]
          rfl)
        clear hn0
        go_wp2_with fail
        go_loop [5, 7] (fun a i => ∃ j : Nat, j ≤ z ∧ i = .int .i64 j ∧ a = .string ⟨(numZ n j).toArray⟩) (fun _ i => z - (Go.RowKit.intOf i).toNat)
        case atStart => exact ⟨0, Nat.zero_le _, rfl, by rw [HZ0.out]⟩
        case round =>
          obtain ⟨j, hj, rfl, rfl⟩ := hrel
          have hzl := numZ_len n j
          by_cases hjz : j < z
          · obtain ⟨sD, hsD⟩ : ∃ sD : ByteArray, (⟨(numZ n j).toArray⟩ : ByteArray) = sD := ⟨_, rfl⟩
            have hzD : sD.size ≤ 16 := by
              rw [← hsD]
              show (numZ n j).length ≤ 16
              omega
            have hnx : (⟨(numZ n (j + 1)).toArray⟩ : ByteArray) = ⟨#[48]⟩ ++ sD := by
              rw [← hsD]
              show _ = (⟨([48] : Bs).toArray⟩ : ByteArray) ++ _
              rw [ByteArray.mk_append_mk]
              rfl
            have z1 : ¬ (9223372036854775807 < 1 + sD.size) := by omega
            rw [hsD]
            have HNX := Lib.hid hnx
            clear hsD hnx hzl
            go_wp2_with fail
            go_round
            case rel => exact ⟨j + 1, by omega, by go_num, by rw [HNX.out]⟩
            case measure => simp [Go.RowKit.intOf]; omega
          · have hjz' : j = z := by omega
            subst hjz'
            obtain ⟨sD, hsD⟩ : ∃ sD : ByteArray, (⟨(numZ n j).toArray⟩ : ByteArray) = sD := ⟨_, rfl⟩
            have hszD : sD.size = (numZ n j).length := by
              rw [← hsD]
              rfl
            have hu := unescape_any (⟨#[97, 38, 35]⟩ ++ sD ++ ⟨#[59, 98]⟩) (by
              rw [ByteArray.size_append, ByteArray.size_append]
              show 3 + sD.size + 2 ≤ _
              omega) w HM.out
            have hdl2 : (⟨#[97, 38, 35]⟩ ++ sD ++ ⟨#[59, 98]⟩ : ByteArray).data.toList = 97 :: 38 :: 35 :: (numZ n j ++ [59, 98]) := by
              rw [← hsD, ByteArray.data_append, ByteArray.data_append, Array.toList_append, Array.toList_append]
              rfl
            rw [hdl2, num_unesc] at hu
            have z3 : ¬ (9223372036854775807 < 3 + sD.size) := by omega
            have z4 : ¬ (9223372036854775807 < 3 + sD.size + 2) := by omega
            have H5 := Lib.hid (fun (W : World) (h : Mem W) => awake_any h)
            have hok : numOk n j = (decide (j = 0) && decide ((decDigits n).length ≤ 7) && validRune (n : Int)) := rfl
            have hvr : validRune (n : Int) = true ↔ n ≤ 1114111 ∧ (n < 55296 ∨ 57343 < n) := by
              unfold validRune
              simp
              omega
            rw [hsD]
            cases hb : numOk n j with
            | true =>
              rw [hb, if_pos rfl] at hu
              rw [hb] at hok
              have hok2 := hok.symm
              simp only [Bool.and_eq_true, decide_eq_true_eq] at hok2
              obtain ⟨⟨hj0, hd7⟩, hv⟩ := hok2
              obtain ⟨hv1, hv2⟩ := hvr.1 hv
              have h7 : sD.size ≤ 7 := by omega
              have hee : (⟨(97 :: (utf n ++ [98])).toArray⟩ : ByteArray) = ⟨#[97]⟩ ++ Utf8.encode (n : Int) ++ ⟨#[98]⟩ := by
                have : Utf8.encode (n : Int) = ⟨(utf n).toArray⟩ := by rw [utf_eq, Lib.mk_data]
                rw [this]
                show _ = (⟨([97] : Bs).toArray⟩ : ByteArray) ++ ⟨(utf n).toArray⟩ ++ ⟨([98] : Bs).toArray⟩
                rw [ByteArray.mk_append_mk, ByteArray.mk_append_mk]
                rfl
              have huv : unV (.ok (97 :: (utf n ++ [98]))) = .tuple #[.string (⟨#[97]⟩ ++ Utf8.encode (n : Int) ++ ⟨#[98]⟩), .int .i64 0, .int .i64 0] := by
                unfold unV
                simp only [hee]
              rw [huv] at hu
              have hel : (Utf8.encode (n : Int)).size ≤ 4 := by
                rw [Lib.size_eq]
                exact encL _
              have HU := Lib.hid hu
              have z5 : ¬ (9223372036854775807 < 1 + (Utf8.encode (n : Int)).size) := by omega
              have z6 : ¬ (9223372036854775807 < 1 + (Utf8.encode (n : Int)).size + 1) := by omega
              subst hj0
              clear hu hdl2 hok hvr hv hb hd7 hee huv hel hsD hszD hzl
              rcases hv2 with hlo | hhi
              · go_wp2_with fail
                refine HU.out.mono ?_
                rintro e w1 ⟨rfl, hb1⟩
                have HB1 := Lib.hid hb1
                clear hb1
                go_wp2_with fail
                refine (H5.out _ (HM.out.below HB1.out (Nat.le_refl _))).mono ?_
                rintro e w6 ⟨rfl, hb6⟩
                have HB6 := Lib.hid (HB1.out.trans (hb6.mono HB1.out.size))
                clear hb6
                go_wp2
                go_ret
                exact ⟨rfl, HB6.out⟩
              · go_wp2_with fail
                refine HU.out.mono ?_
                rintro e w1 ⟨rfl, hb1⟩
                have HB1 := Lib.hid hb1
                clear hb1
                go_wp2_with fail
                refine (H5.out _ (HM.out.below HB1.out (Nat.le_refl _))).mono ?_
                rintro e w6 ⟨rfl, hb6⟩
                have HB6 := Lib.hid (HB1.out.trans (hb6.mono HB1.out.size))
                clear hb6
                go_wp2
                go_ret
                exact ⟨rfl, HB6.out⟩
            | false =>
              rw [hb, if_neg (by decide)] at hu
              have huv : unV (.error 1) = .tuple #[.string ⟨#[]⟩, .int .i64 1, .int .i64 3] := rfl
              rw [huv] at hu
              have HU := Lib.hid hu
              rw [hb] at hok
              have hcs : 0 < j ∨ (j = 0 ∧ 7 < sD.size) ∨ (j = 0 ∧ sD.size ≤ 7 ∧ 55296 ≤ n ∧ n ≤ 57343) ∨ (j = 0 ∧ sD.size ≤ 7 ∧ 57343 < n ∧ 1114111 < n) := by
                by_cases a1 : j = 0
                · by_cases a2 : sD.size ≤ 7
                  · have a3 : ¬ validRune (n : Int) = true := by
                      intro a3
                      rw [a3, decide_eq_true a1, decide_eq_true (by omega)] at hok
                      cases hok
                    rw [hvr] at a3
                    omega
                  · omega
                · omega
              clear hu hdl2 hok hvr hb huv hsD hszD hzl
              rcases hcs with hc | ⟨rfl, hc⟩ | ⟨rfl, hc, hc2, hc3⟩ | ⟨rfl, hc, hc2, hc3⟩
              · go_wp2_with fail
                refine HU.out.mono ?_
                rintro e w1 ⟨rfl, hb1⟩
                have HB1 := Lib.hid hb1
                clear hb1
                go_wp2_with fail
                refine (H5.out _ (HM.out.below HB1.out (Nat.le_refl _))).mono ?_
                rintro e w6 ⟨rfl, hb6⟩
                have HB6 := Lib.hid (HB1.out.trans (hb6.mono HB1.out.size))
                clear hb6
                go_wp2
                go_ret
                exact ⟨rfl, HB6.out⟩
              · go_wp2_with fail
                refine HU.out.mono ?_
                rintro e w1 ⟨rfl, hb1⟩
                have HB1 := Lib.hid hb1
                clear hb1
                go_wp2_with fail
                refine (H5.out _ (HM.out.below HB1.out (Nat.le_refl _))).mono ?_
                rintro e w6 ⟨rfl, hb6⟩
                have HB6 := Lib.hid (HB1.out.trans (hb6.mono HB1.out.size))
                clear hb6
                go_wp2
                go_ret
                exact ⟨rfl, HB6.out⟩
              · go_wp2_with fail
                refine HU.out.mono ?_
                rintro e w1 ⟨rfl, hb1⟩
                have HB1 := Lib.hid hb1
                clear hb1
                go_wp2_with fail
                refine (H5.out _ (HM.out.below HB1.out (Nat.le_refl _))).mono ?_
                rintro e w6 ⟨rfl, hb6⟩
                have HB6 := Lib.hid (HB1.out.trans (hb6.mono HB1.out.size))
                clear hb6
                go_wp2
                go_ret
                exact ⟨rfl, HB6.out⟩
              · go_wp2_with fail
                refine HU.out.mono ?_
                rintro e w1 ⟨rfl, hb1⟩
                have HB1 := Lib.hid hb1
                clear hb1
                go_wp2_with fail
                refine (H5.out _ (HM.out.below HB1.out (Nat.le_refl _))).mono ?_
                rintro e w6 ⟨rfl, hb6⟩
                have HB6 := Lib.hid (HB1.out.trans (hb6.mono HB1.out.size))
                clear hb6
                go_wp2
                go_ret
                exact ⟨rfl, HB6.out⟩
      · have hds : decS n = decDigits n := by unfold decS; rw [if_neg hn0]
        rw [hds]
        clear hds
        go_wp2_with fail
        go_loop [5, 7] (fun a i => ∃ j : Nat, j ≤ z ∧ i = .int .i64 j ∧ a = .string ⟨(numZ n j).toArray⟩) (fun _ i => z - (Go.RowKit.intOf i).toNat)
        case atStart => exact ⟨0, Nat.zero_le _, rfl, rfl⟩
        case round =>
          obtain ⟨j, hj, rfl, rfl⟩ := hrel
          have hzl := numZ_len n j
          by_cases hjz : j < z
          · obtain ⟨sD, hsD⟩ : ∃ sD : ByteArray, (⟨(numZ n j).toArray⟩ : ByteArray) = sD := ⟨_, rfl⟩
            have hzD : sD.size ≤ 16 := by
              rw [← hsD]
              show (numZ n j).length ≤ 16
              omega
            have hnx : (⟨(numZ n (j + 1)).toArray⟩ : ByteArray) = ⟨#[48]⟩ ++ sD := by
              rw [← hsD]
              show _ = (⟨([48] : Bs).toArray⟩ : ByteArray) ++ _
              rw [ByteArray.mk_append_mk]
              rfl
            have z1 : ¬ (9223372036854775807 < 1 + sD.size) := by omega
            rw [hsD]
            have HNX := Lib.hid hnx
            clear hsD hnx hzl
            go_wp2_with fail
            go_round
            case rel => exact ⟨j + 1, by omega, by go_num, by rw [HNX.out]⟩
            case measure => simp [Go.RowKit.intOf]; omega
          · have hjz' : j = z := by omega
            subst hjz'
            obtain ⟨sD, hsD⟩ : ∃ sD : ByteArray, (⟨(numZ n j).toArray⟩ : ByteArray) = sD := ⟨_, rfl⟩
            have hszD : sD.size = (numZ n j).length := by
              rw [← hsD]
              rfl
            have hu := unescape_any (⟨#[97, 38, 35]⟩ ++ sD ++ ⟨#[59, 98]⟩) (by
              rw [ByteArray.size_append, ByteArray.size_append]
              show 3 + sD.size + 2 ≤ _
              omega) w HM.out
            have hdl2 : (⟨#[97, 38, 35]⟩ ++ sD ++ ⟨#[59, 98]⟩ : ByteArray).data.toList = 97 :: 38 :: 35 :: (numZ n j ++ [59, 98]) := by
              rw [← hsD, ByteArray.data_append, ByteArray.data_append, Array.toList_append, Array.toList_append]
              rfl
            rw [hdl2, num_unesc] at hu
            have z3 : ¬ (9223372036854775807 < 3 + sD.size) := by omega
            have z4 : ¬ (9223372036854775807 < 3 + sD.size + 2) := by omega
            have H5 := Lib.hid (fun (W : World) (h : Mem W) => awake_any h)
            have hok : numOk n j = (decide (j = 0) && decide ((decDigits n).length ≤ 7) && validRune (n : Int)) := rfl
            have hvr : validRune (n : Int) = true ↔ n ≤ 1114111 ∧ (n < 55296 ∨ 57343 < n) := by
              unfold validRune
              simp
              omega
            rw [hsD]
            cases hb : numOk n j with
            | true =>
              rw [hb, if_pos rfl] at hu
              rw [hb] at hok
              have hok2 := hok.symm
              simp only [Bool.and_eq_true, decide_eq_true_eq] at hok2
              obtain ⟨⟨hj0, hd7⟩, hv⟩ := hok2
              obtain ⟨hv1, hv2⟩ := hvr.1 hv
              have h7 : sD.size ≤ 7 := by omega
              have hee : (⟨(97 :: (utf n ++ [98])).toArray⟩ : ByteArray) = ⟨#[97]⟩ ++ Utf8.encode (n : Int) ++ ⟨#[98]⟩ := by
                have : Utf8.encode (n : Int) = ⟨(utf n).toArray⟩ := by rw [utf_eq, Lib.mk_data]
                rw [this]
                show _ = (⟨([97] : Bs).toArray⟩ : ByteArray) ++ ⟨(utf n).toArray⟩ ++ ⟨([98] : Bs).toArray⟩
                rw [ByteArray.mk_append_mk, ByteArray.mk_append_mk]
                rfl
              have huv : unV (.ok (97 :: (utf n ++ [98]))) = .tuple #[.string (⟨#[97]⟩ ++ Utf8.encode (n : Int) ++ ⟨#[98]⟩), .int .i64 0, .int .i64 0] := by
                unfold unV
                simp only [hee]
              rw [huv] at hu
              have hel : (Utf8.encode (n : Int)).size ≤ 4 := by
                rw [Lib.size_eq]
                exact encL _
              have HU := Lib.hid hu
              have z5 : ¬ (9223372036854775807 < 1 + (Utf8.encode (n : Int)).size) := by omega
              have z6 : ¬ (9223372036854775807 < 1 + (Utf8.encode (n : Int)).size + 1) := by omega
              subst hj0
              clear hu hdl2 hok hvr hv hb hd7 hee huv hel hsD hszD hzl
              rcases hv2 with hlo | hhi
              · go_wp2_with fail
                refine HU.out.mono ?_
                rintro e w1 ⟨rfl, hb1⟩
                have HB1 := Lib.hid hb1
                clear hb1
                go_wp2_with fail
                refine (H5.out _ (HM.out.below HB1.out (Nat.le_refl _))).mono ?_
                rintro e w6 ⟨rfl, hb6⟩
                have HB6 := Lib.hid (HB1.out.trans (hb6.mono HB1.out.size))
                clear hb6
                go_wp2
                go_ret
                exact ⟨rfl, HB6.out⟩
              · go_wp2_with fail
                refine HU.out.mono ?_
                rintro e w1 ⟨rfl, hb1⟩
                have HB1 := Lib.hid hb1
                clear hb1
                go_wp2_with fail
                refine (H5.out _ (HM.out.below HB1.out (Nat.le_refl _))).mono ?_
                rintro e w6 ⟨rfl, hb6⟩
                have HB6 := Lib.hid (HB1.out.trans (hb6.mono HB1.out.size))
                clear hb6
                go_wp2
                go_ret
                exact ⟨rfl, HB6.out⟩
            | false =>
              rw [hb, if_neg (by decide)] at hu
              have huv : unV (.error 1) = .tuple #[.string ⟨#[]⟩, .int .i64 1, .int .i64 3] := rfl
              rw [huv] at hu
              have HU := Lib.hid hu
              rw [hb] at hok
              have hcs : 0 < j ∨ (j = 0 ∧ 7 < sD.size) ∨ (j = 0 ∧ sD.size ≤ 7 ∧ 55296 ≤ n ∧ n ≤ 57343) ∨ (j = 0 ∧ sD.size ≤ 7 ∧ 57343 < n ∧ 1114111 < n) := by
                by_cases a1 : j = 0
                · by_cases a2 : sD.size ≤ 7
                  · have a3 : ¬ validRune (n : Int) = true := by
                      intro a3
                      rw [a3, decide_eq_true a1, decide_eq_true (by omega)] at hok
                      cases hok
                    rw [hvr] at a3
                    omega
                  · omega
                · omega
              clear hu hdl2 hok hvr hb huv hsD hszD hzl
              rcases hcs with hc | ⟨rfl, hc⟩ | ⟨rfl, hc, hc2, hc3⟩ | ⟨rfl, hc, hc2, hc3⟩
              · go_wp2_with fail
                refine HU.out.mono ?_
                rintro e w1 ⟨rfl, hb1⟩
                have HB1 := Lib.hid hb1
                clear hb1
                go_wp2_with fail
                refine (H5.out _ (HM.out.below HB1.out (Nat.le_refl _))).mono ?_
                rintro e w6 ⟨rfl, hb6⟩
                have HB6 := Lib.hid (HB1.out.trans (hb6.mono HB1.out.size))
                clear hb6
                go_wp2
                go_ret
                exact ⟨rfl, HB6.out⟩
              · go_wp2_with fail
                refine HU.out.mono ?_
                rintro e w1 ⟨rfl, hb1⟩
                have HB1 := Lib.hid hb1
                clear hb1
                go_wp2_with fail
                refine (H5.out _ (HM.out.below HB1.out (Nat.le_refl _))).mono ?_
                rintro e w6 ⟨rfl, hb6⟩
                have HB6 := Lib.hid (HB1.out.trans (hb6.mono HB1.out.size))
                clear hb6
                go_wp2
                go_ret
                exact ⟨rfl, HB6.out⟩
              · go_wp2_with fail
                refine HU.out.mono ?_
                rintro e w1 ⟨rfl, hb1⟩
                have HB1 := Lib.hid hb1
                clear hb1
                go_wp2_with fail
                refine (H5.out _ (HM.out.below HB1.out (Nat.le_refl _))).mono ?_
                rintro e w6 ⟨rfl, hb6⟩
                have HB6 := Lib.hid (HB1.out.trans (hb6.mono HB1.out.size))
                clear hb6
                go_wp2
                go_ret
                exact ⟨rfl, HB6.out⟩
              · go_wp2_with fail
                refine HU.out.mono ?_
                rintro e w1 ⟨rfl, hb1⟩
                have HB1 := Lib.hid hb1
                clear hb1
                go_wp2_with fail
                refine (H5.out _ (HM.out.below HB1.out (Nat.le_refl _))).mono ?_
                rintro e w6 ⟨rfl, hb6⟩
                have HB6 := Lib.hid (HB1.out.trans (hb6.mono HB1.out.size))
                clear hb6
                go_wp2
                go_ret
                exact ⟨rfl, HB6.out⟩

theorem own : ownKnob Tryz.prog.godebug = none := by kernel_rfl

set_option maxRecDepth 100000 in
theorem lifted (os : Os) (started : os.Started) (H : Type) (enc : TypeId × Value → H) :
    ReturnsInHanded {} Tryz.checked os 8 .any (fun w args => (Rows.markupNumbersSpec.pre enc Tryz.prog Tryz.f8 [] false w args ∧ laidMetH Tryz.prog Rows.markupNumbersRow.laid w) ∧ sizedMet enc Tryz.prog Tryz.f8 (OpenSpec.ofChange Rows.markupNumbersSpec) false w args)
      (Rows.markupNumbersSpec.post enc Tryz.prog Tryz.f8 false true false false) := by
  refine returnsInHanded_of_change_and (C := Tryz.checked) (X := fun w _ => laidMetH Tryz.prog Rows.markupNumbersRow.laid w) (fun _ _ _ hh h => h.of_heap hh) own started (by kernel_rfl) Tryz.func8
    (ChangeSpec.witness_shaped (enc := enc) (C := Tryz.checked) (os := os) (X := fun w _ => laidMetH Tryz.prog Rows.markupNumbersRow.laid w) false (World.laidAll Tryz.prog os laidAll) #[.int .i64 0, .int .i64 0] 8 (World.laidAll_os _ _ _) (all_shaped os) (by kernel_rfl) (by kernel_rfl) (by kernel_rfl) (all_met os _)) ?_
  intro W base args ds gs before hval0 hW _ _ hL _
  have hval : ∀ (j : Nat) t v, Tryz.f8.params[j]? = some t → args[j]? = some v → Value.okWide Tryz.prog W .any base t v := hval0
  have hW' := hW
  have hplt : ∀ x ∈ before, x.block < W.heap.size := fun x hx => hW.lt x hx
  obtain ⟨p, q, hA0, hV, rfl, hfz, hnd⟩ := hW
  have hA : DataW.TrodAll enc Tryz.prog W 0 (fun _ => true) true Tryz.f8.params.toList args.toList ds p := hA0
  rw [Tryz.params8] at hA hval
  obtain ⟨v0, vs0, d0, ds0, p0, q0, hargs, rfl, rfl, h0, r0⟩ := trodAll_cons hA
  obtain ⟨v1, vs1, d1, ds1, p1, q1, rfl, rfl, rfl, h1, r1⟩ := trodAll_cons r0
  obtain ⟨rfl, rfl, rfl⟩ := trodAll_nil r1
  obtain rfl : args = #[v0, v1] := by cases args; simp_all
  obtain ⟨rfl, rfl⟩ := trodVars_none hV
  obtain ⟨x0, rfl, m0, n0⟩ := open_i64 (hval 0 3 v0 rfl rfl) h0
  obtain ⟨x1, rfl, m1, n1⟩ := open_i64 (hval 1 3 v1 rfl rfl) h1
  clear hA0 hval0
  refine (walk x0 m0 n0 x1 m1 n1 (mem_of_laid hL)).mono fun e W' ⟨he, bel⟩ => ?_
  subst he
  exact ⟨_, rfl, _, _, _, [], _, [], hW', trodAll_mk1 (shut_bool Tryz.underlying4 _), (trodAll_cons_mk (Below.trod Tryz.laidOut (by kernel_rfl) (of_decide_eq_true (by kernel_rfl)) h0 bel (fun x hx => hplt x (by simp [hx]))) (trodAll_cons_mk (Below.trod Tryz.laidOut (by kernel_rfl) (of_decide_eq_true (by kernel_rfl)) h1 bel (fun x hx => hplt x (by simp [hx]))) trodAll_mk0)), rfl, World.keptBut_mono (fun x hx => ⟨hx, Or.inr (by simpa using hx)⟩) (bel.frame (· ∈ _)), fun h => by cases h⟩

theorem over : Rows.markupNumbersRow.holds Tryz.pinned (OpenSpec.ofChange Rows.markupNumbersSpec) :=
  OpenClaim.holds_of_wide 8 Tryz.f8 rfl rfl rfl rfl rfl rfl rfl ⟨rfl, rfl, rfl, rfl, rfl⟩ rfl rfl rfl rfl rfl (by kernel_rfl) Tryz.func8 (by kernel_rfl)
    (of_decide_eq_true (by kernel_rfl)) (by unfold Func.isWrapper; first | (rw [if_pos (by decide +kernel)]; kernel_rfl) | (rw [if_neg (by decide +kernel)]; exact ⟨rfl, rfl⟩))
    (fun os started H enc _ => lifted os started H enc)

/-- THE STATEMENT: the tied card. -/
theorem proved : Rows.MarkupNumbersCardSaid :=
  Claim7.holds_tied_plain_at .later [] Rows.markupNumbersCard.laidKinds true Rows.markupNumbersCard.stood.harness Rows.markupNumbersCard.stood.looks
    over (fun _ h => by cases h) (by kernel_rfl) (fun _ h => by cases h) markupNumbers_row_tie rfl ⟨rfl, rfl⟩ (by kernel_rfl) rfl
    (fun f fn hf hfn => by
      obtain rfl : f = 8 := Option.some.inj ((show Tryz.prog.funcNamed "corpora/corporalaw04.MarkupNumbers" = some 8 by kernel_rfl).symm.trans hf) |>.symm
      obtain rfl : fn = Tryz.f8 := (Option.some.inj (Tryz.func8.symm.trans hfn)).symm
      exact ⟨by kernel_rfl, fun j t ht => by
        rw [Tryz.params8] at ht
        have hm : t ∈ [3, 3] := by simpa using Array.mem_of_getElem? ht
        have hall : ([3, 3].all fun u => !Tryz.prog.wantsStandIn u) = true := by kernel_rfl
        exact (show Tryz.prog.wantsStandIn t = false by simpa using List.all_eq_true.1 hall t hm)⟩)
    (by kernel_rfl)
end Go.Proofs.YtihekappojkgiaaGreatDoor.markupNumbers
