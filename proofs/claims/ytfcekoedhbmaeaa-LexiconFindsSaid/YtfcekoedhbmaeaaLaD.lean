/-
  LexiconFinds is proved: for every list of strings and every string and every number the call of the law returns true, and each argument reads afterwards as it read before. It has no condition.
-/
import Derived.Test.YtfcekoedhbmaeaaRows
import Derived.Test.YtfcekoedhbmaeaaLzO
import Derived.Test.YtfcekoedhbmaeaaLzP
import Derived.Test.YtfcekoedhbmaeaaLxL
import Derived.Test.YtfcekoedhbmaeaaLzT
import Derived.ProofKit
import Derived.OpenShut
import Derived.Carry
namespace Go.Proofs.Ytfcekoedhbmaeaa.lexiconFinds
open Go.ChangeShapes Go.WideShapes Go.ChangeAt Go.RowKit Go.Shelf Go.Lib
set_option linter.unusedVariables false

set_option maxRecDepth 100000 in
set_option maxHeartbeats 8000000 in
theorem walk {w : World} (v : Value) (vs : Fs) (hv : Rows 1 EStr w v vs) (hm : vs.length ≤ maxLen) (hz : ∀ x ∈ vs, x.length ≤ maxLen) (S : ByteArray) (hS0 : S.size ≤ maxLen) (z : Int) (hz1 : -9223372036854775808 ≤ z) (hz2 : z ≤ 9223372036854775807) :
    Calls Try.prog 5 #[v, .string S, .int .i64 z] w fun e w1 => e = .returned (.bool true) ∧ Below w.heap.size w w1 := by
  have HBU := Lib.hid (built_any hv hm hz)
  have HLO := Lib.hid (long_any hv hm)
  have HA := Lib.hid (fun (W : World) => awake_any W)
  obtain ⟨s, hs⟩ : ∃ s : Wd, S.data.toList = s := ⟨_, rfl⟩
  have hS : (⟨s.toArray⟩ : ByteArray) = S := by rw [← hs]
  have HS := Lib.hid hS
  obtain ⟨A, cap, rfl, hc⟩ := hv.form
  obtain ⟨n, hn⟩ : ∃ n, vs.length = n := ⟨_, rfl⟩
  rw [hn] at HBU HLO hm ⊢
  clear hv hc hn hz hs hS hS0
  go_enter Try.func5, Try.ntmps5
  go_wp2_with fail
  refine HLO.out.mono ?_
  rintro e w2 ⟨⟨q, rfl, hq⟩, hw⟩
  obtain rfl := hw.symm
  clear hw
  cases q with
  | true =>
    clear hq HBU
    go_wp2_with fail
    go_ret
    exact ⟨rfl, Below.refl _ _⟩
  | false =>
    clear hq HLO
    go_wp2_with fail
    refine HBU.out.mono ?_
    rintro e w3 ⟨hb3, hans⟩
    have HB3 := Lib.hid hb3
    rcases hans with ⟨_, rfl⟩ | ⟨_, p, vW, vC, rfl, hL, hrW, hrC⟩
    · clear hb3 HBU HS
      go_wp2_with fail
      refine (HA.out _).mono ?_
      rintro e w4 ⟨rfl, hb4⟩
      have HB4 := Lib.hid (HB3.out.trans (((below_box w3 _).trans (hb4.mono (below_box w3 _).size)).mono HB3.out.size))
      clear hb4
      go_wp2_with fail
      go_ret
      exact ⟨rfl, HB4.out⟩
    · obtain ⟨A1, c1, rfl, hc1⟩ := hrW.form
      obtain ⟨A2, c2, rfl, hc2⟩ := hrC.form
      have hcl : (intsN (cntW vs (lexW vs))).length = (lexW vs).length := by simp [cntW]
      rw [hcl] at hrC hc2 ⊢
      obtain ⟨ws, hws⟩ : ∃ ws, lexW vs = ws := ⟨_, rfl⟩
      obtain ⟨cs, hcs⟩ : ∃ cs, cntW vs ws = cs := ⟨_, rfl⟩
      rw [hws, hcs] at hL hrC
      rw [hws] at hrW hc1 ⊢
      rw [hws] at hc2
      have hfew := hL.ok.few
      have hle := hL.ok.len
      obtain ⟨m, hmm⟩ : ∃ m, ws.length = m := ⟨_, rfl⟩
      rw [hmm] at hrW hrC hc1 hc2 hfew hle ⊢
      have HM := Lib.hid hmm
      have HLE := Lib.hid hle
      obtain ⟨W4, hW4⟩ : ∃ W4, w3.alloc (.cells #[.slice A1 m c1, .slice A2 m c2] 27) = W4 := ⟨_, rfl⟩
      obtain ⟨N4, hN4⟩ : ∃ N4, w3.heap.size = N4 := ⟨_, rfl⟩
      have hb4 : Below w3.heap.size w3 W4 := by rw [← hW4]; exact below_box _ _
      have hbx : W4.heap[N4]? = some (.cells #[.slice A1 m c1, .slice A2 m c2] 27 (0, 0)) := by rw [← hW4, ← hN4]; exact block_new _ _
      have HW4 := Lib.hid hW4
      have HN4 := Lib.hid hN4
      have HBX := Lib.hid (fun W (hb : Below W4.heap.size W4 W) => block_below hbx hb (Array.getElem?_eq_some_iff.1 hbx).1)
      have HRW := Lib.hid (fun W (hb : Below W4.heap.size W4 W) => hrW.below stays_str (hb4.trans (hb.mono hb4.size)))
      have HRC := Lib.hid (fun W (hb : Below W4.heap.size W4 W) => hrC.below stays_int (hb4.trans (hb.mono hb4.size)))
      have HL := Lib.hid (fun W (hb : Below W4.heap.size W4 W) => hL.below (hb4.trans (hb.mono hb4.size)))
      have HB4 := Lib.hid (show Below w.heap.size w W4 from HB3.out.trans (hb4.mono HB3.out.size))
      clear hb3 hb4 hbx hW4 hN4 HBU hrW hrC hcl hws hcs hmm hL hle
      go_upto_region 4 with fail
      rw [HW4.out, HN4.out]
      have hnum := number_any (HL.out W4 (Below.refl _ _)) s
      have hfnd := fun W (hb : Below W4.heap.size W4 W) => refFind_any (w := W) (vc := .slice A2 m c2) (HRW.out W hb) (by rw [HM.out]; unfold maxLen; omega) s
      rw [HS.out] at hnum
      simp only [HS.out] at hfnd
      unfold NumbV at hnum
      unfold FindV at hfnd
      obtain ⟨k, hk⟩ : ∃ k, fnd ws s = k := ⟨_, rfl⟩
      rw [hk] at hnum
      simp only [hk] at hfnd
      by_cases hin : ws[k]? = some s
      · rw [if_pos hin, decide_eq_true hin] at hnum
        simp only [decide_eq_true hin] at hfnd
        have HNUM := Lib.hid hnum
        have HFND := Lib.hid hfnd
        clear hnum hfnd
        go_wp2_with fail
        refine HNUM.out.mono ?_
        rintro e w5 ⟨rfl, hb5⟩
        have HB5 := Lib.hid hb5
        have hbx := HBX.out w5 hb5
        have d0 : w5.cell? ⟨N4, 0, none⟩ = some (.slice A1 m c1) := cell_of hbx rfl
        have d1 : w5.cell? ⟨N4, 1, none⟩ = some (.slice A2 m c2) := cell_of hbx rfl
        clear hb5 hbx HNUM
        go_wp2_with fail
        refine (HFND.out w5 HB5.out).mono ?_
        rintro e w6 ⟨rfl, hb6⟩
        have HB46 := Lib.hid (show Below W4.heap.size W4 w6 from HB5.out.trans (hb6.mono HB5.out.size))
        have HB6 := Lib.hid (show Below w.heap.size w w6 from HB4.out.trans (HB46.out.mono HB4.out.size))
        clear hb6 d0 d1 HFND
        clear hin hk
        go_upto_region 10 with fail
        have hwd := word_any (HL.out w6 HB46.out) z
        have hct := count_any' (HL.out w6 HB46.out) z
        have hbx := HBX.out w6 HB46.out
        have d0 : w6.cell? ⟨N4, 0, none⟩ = some (.slice A1 m c1) := cell_of hbx rfl
        have d1 : w6.cell? ⟨N4, 1, none⟩ = some (.slice A2 m c2) := cell_of hbx rfl
        by_cases hr : 0 ≤ z ∧ z < (m : Int)
        · obtain ⟨j, rfl⟩ := Int.eq_ofNat_of_zero_le hr.1
          have hjm : j < m := by omega
          have hj0 : ¬ (j : Int) < 0 := by omega
          have hjI : (j : Int) < (m : Int) := hr.2
          have hjG : ¬ (m : Int) ≤ (j : Int) := by omega
          obtain ⟨x, hx⟩ : ∃ x, ws[j]? = some x := ⟨_, List.getElem?_eq_getElem (by rw [HM.out]; exact hjm)⟩
          obtain ⟨c, hcx⟩ : ∃ c, cs[j]? = some c := ⟨_, List.getElem?_eq_getElem (by rw [HLE.out]; exact hjm)⟩
          rw [wordP_at hx] at hwd
          clear hct
          obtain ⟨T, hT⟩ : ∃ T : ByteArray, (⟨x.toArray⟩ : ByteArray) = T := ⟨_, rfl⟩
          simp only at hwd
          rw [hT] at hwd
          obtain ⟨b1, o1, rfl, -, hj1⟩ := at_str (HRW.out w6 HB46.out) (by rw [HM.out]; omega)
          obtain ⟨b2, o2, rfl, -, hj2⟩ := at_int (HRC.out w6 HB46.out) (by rw [List.length_map, HLE.out]; omega)
          have HSK : Hid (∀ W, Below w6.heap.size w6 W → W.cell? ⟨N4, 0, none⟩ = some (Value.slice (some ⟨b1, o1, none⟩) m c1) ∧ W.cell? ⟨N4, 1, none⟩ = some (Value.slice (some ⟨b2, o2, none⟩) m c2) ∧ W.cell? ⟨b1, o1 + j, none⟩ = some (Value.string T) ∧ W.cell? ⟨b2, o2 + j, none⟩ = some (Value.int IntKind.i64 (c : Int))) := Lib.hid (fun W hb => by
            have hb4 := HB46.out.trans (hb.mono HB46.out.size)
            have hbx := HBX.out W hb4
            refine ⟨cell_of hbx rfl, cell_of hbx rfl, ?_, ?_⟩
            · obtain ⟨b1', o1', e1, -, hj1⟩ := at_str (HRW.out W hb4) (by rw [HM.out]; omega)
              cases e1
              rw [← hT]
              exact hj1 j x hx
            · obtain ⟨b2', o2', e2, -, hj2⟩ := at_int (HRC.out W hb4) (by rw [List.length_map, HLE.out]; omega)
              cases e2
              exact hj2 j (c : Int) (by rw [List.getElem?_map, hcx]; rfl))
          have HCN := Lib.hid (show Calls Try.prog 19 #[.pointer (some ⟨p, 0, none⟩), .int .i64 j] w6.drew (fun e w' => e = .returned (.int .i64 (c : Int)) ∧ w' = w6.drew) by
            have := count_any' (HL.out w6.drew HB46.out.drew) (j : Int)
            rw [countP_at hcx] at this
            exact this)
          have HWD := Lib.hid hwd
          clear hwd hj1 hj2 hx hcx hT hbx hr
          go_wp2_with fail
          refine HWD.out.mono ?_
          rintro e x7 ⟨rfl, hx7⟩
          obtain rfl := hx7.symm
          clear hx7
          go_wp2_with fail
          refine wp_region_held_drew (S := (fun w' => w'.cell? ⟨N4, 0, none⟩ = some (Value.slice (some ⟨b1, o1, none⟩) m c1) ∧ w'.cell? ⟨N4, 1, none⟩ = some (Value.slice (some ⟨b2, o2, none⟩) m c2) ∧ w'.cell? ⟨b1, o1 + j, none⟩ = some (Value.string T) ∧ w'.cell? ⟨b2, o2 + j, none⟩ = some (Value.int IntKind.i64 (c : Int)))) (by kernel_rfl) ?_ (fun hHeld => ?_)
          · (try dsimp only); exact HSK.out _ (Below.refl _ _).drew
          refine wpAnyH_take (i := 0) (oi := ?oi1) (v := ?v1) ?hi1 (by kernel_rfl) (by kernel_rfl) (by kernel_rfl) ?hq1 ?hy1 (by assumption) ?hr1
          case hi1 => (simp only [List.getElem?_toArray, List.getElem?_cons_zero]; rfl)
          case hq1 => exact fun _ _ _ h => h
          case hy1 => exact Or.inl ⟨by rfl, by intro whSw hSw'; (try dsimp only at hSw'); (first | (go_simp; done) | (go_simp; with_reducible rfl))⟩
          try simp only [Act.put, List.setIfInBounds_toArray, List.set_cons_zero, List.set_cons_succ]
          refine wpAnyH_take (i := 1) (oi := ?oi2) (v := ?v2) ?hi2 (by kernel_rfl) (by kernel_rfl) (by kernel_rfl) ?hq2 ?hy2 (by assumption) ?hr2
          case hi2 => (simp only [List.getElem?_toArray, List.getElem?_cons_succ, List.getElem?_cons_zero]; rfl)
          case hq2 => exact fun _ _ _ h => h
          case hy2 => exact Or.inl ⟨by rfl, by intro whSw hSw'; (try dsimp only at hSw'); (first | (go_simp; done) | (go_simp; with_reducible rfl))⟩
          try simp only [Act.put, List.setIfInBounds_toArray, List.set_cons_zero, List.set_cons_succ]
          refine wpAnyH_take (i := 2) (oi := ?oi3) (v := ?v3) ?hi3 (by kernel_rfl) (by kernel_rfl) (by kernel_rfl) ?hq3 ?hy3 (by assumption) ?hr3
          case hi3 => (simp only [List.getElem?_toArray, List.getElem?_cons_succ, List.getElem?_cons_zero]; rfl)
          case hq3 => exact fun _ _ _ h => h
          case hy3 => first | exact Or.inl ⟨by rfl, by intro whSw hSw'; (try dsimp only at hSw'); (first | (go_simp; done) | (go_simp; with_reducible rfl))⟩ | exact Or.inr ⟨by rfl, by with_reducible rfl⟩ | fail
          try simp only [Act.put, List.setIfInBounds_toArray, List.set_cons_zero, List.set_cons_succ]
          refine wpAnyH_take (i := 3) (oi := ?oi4) (v := ?v4) ?hi4 (by kernel_rfl) (by kernel_rfl) (by kernel_rfl) ?hq4 ?hy4 (by assumption) ?hr4
          case hi4 => (simp only [List.getElem?_toArray, List.getElem?_cons_succ, List.getElem?_cons_zero]; rfl)
          case hq4 => exact fun _ _ _ h => h
          case hy4 => first | exact Or.inl ⟨by rfl, by intro whSw hSw'; (try dsimp only at hSw'); (first | (go_simp; done) | (go_simp; with_reducible rfl))⟩ | exact Or.inr ⟨by rfl, by with_reducible rfl⟩ | fail
          try simp only [Act.put, List.setIfInBounds_toArray, List.set_cons_zero, List.set_cons_succ]
          refine wpAnyH_take (i := 4) (oi := ?oi5) (v := ?v5) ?hi5 (by kernel_rfl) (by kernel_rfl) (by kernel_rfl) ?hq5 ?hy5 (by assumption) ?hr5
          case hi5 => (simp only [List.getElem?_toArray, List.getElem?_cons_succ, List.getElem?_cons_zero]; rfl)
          case hq5 => exact fun _ _ _ h => h
          case hy5 => first | exact Or.inl ⟨by rfl, by intro whSw hSw'; (try dsimp only at hSw'); (first | (go_simp; done) | (go_simp; with_reducible rfl))⟩ | exact Or.inr ⟨by rfl, by with_reducible rfl⟩ | fail
          try simp only [Act.put, List.setIfInBounds_toArray, List.set_cons_zero, List.set_cons_succ]
          refine wpAnyH_take (i := 5) (oi := ?oi6) (v := ?v6) ?hi6 (by kernel_rfl) (by kernel_rfl) (by kernel_rfl) ?hq6 ?hy6 (by assumption) ?hr6
          case hi6 => (simp only [List.getElem?_toArray, List.getElem?_cons_succ, List.getElem?_cons_zero]; rfl)
          case hq6 => exact fun _ _ _ h => h
          case hy6 => first | exact Or.inl ⟨by rfl, by intro whSw hSw'; (try dsimp only at hSw'); (first | (go_simp; done) | (go_simp; with_reducible rfl))⟩ | exact Or.inr ⟨by rfl, by with_reducible rfl⟩ | fail
          try simp only [Act.put, List.setIfInBounds_toArray, List.set_cons_zero, List.set_cons_succ]
          refine wpAnyH_take (i := 6) (oi := ?oi7) (v := ?v7) ?hi7 (by kernel_rfl) (by kernel_rfl) (by kernel_rfl) ?hq7 ?hy7 (by assumption) ?hr7
          case hi7 => (simp only [List.getElem?_toArray, List.getElem?_cons_succ, List.getElem?_cons_zero]; rfl)
          case hq7 => exact fun _ _ _ h => h
          case hy7 => first | exact Or.inl ⟨by rfl, by intro whSw hSw'; (try dsimp only at hSw'); (first | (go_simp; done) | (go_simp; with_reducible rfl))⟩ | exact Or.inr ⟨by rfl, by with_reducible rfl⟩ | fail
          try simp only [Act.put, List.setIfInBounds_toArray, List.set_cons_zero, List.set_cons_succ]
          refine wpAnyH_take (i := 7) (oi := ?oi8) (v := ?v8) ?hi8 (by kernel_rfl) (by kernel_rfl) (by kernel_rfl) ?hq8 ?hy8 (by assumption) ?hr8
          case hi8 => (simp only [List.getElem?_toArray, List.getElem?_cons_succ, List.getElem?_cons_zero]; rfl)
          case hq8 => exact fun _ _ _ h => h
          case hy8 => first | exact Or.inl ⟨by rfl, by intro whSw hSw'; (try dsimp only at hSw'); (first | (go_simp; done) | (go_simp; with_reducible rfl))⟩ | exact Or.inr ⟨by rfl, by with_reducible rfl⟩ | fail
          try simp only [Act.put, List.setIfInBounds_toArray, List.set_cons_zero, List.set_cons_succ]
          refine wpAnyH_take (i := 8) (oi := ?oi9) (v := ?v9) ?hi9 (by kernel_rfl) (by kernel_rfl) (by kernel_rfl) ?hq9 ?hy9 (by assumption) ?hr9
          case hi9 => (simp only [List.getElem?_toArray, List.getElem?_cons_succ, List.getElem?_cons_zero]; rfl)
          case hq9 => exact fun _ _ _ h => h
          case hy9 => first | exact Or.inl ⟨by rfl, by intro whSw hSw'; (try dsimp only at hSw'); (first | (go_simp; done) | (go_simp; with_reducible rfl))⟩ | exact Or.inr ⟨by rfl, by with_reducible rfl⟩ | fail
          try simp only [Act.put, List.setIfInBounds_toArray, List.set_cons_zero, List.set_cons_succ]
          refine wpAnyH_take (i := 9) (oi := ?oi10) (v := ?v10) ?hi10 (by kernel_rfl) (by kernel_rfl) (by kernel_rfl) ?hq10 ?hy10 (by assumption) ?hr10
          case hi10 => (simp only [List.getElem?_toArray, List.getElem?_cons_succ, List.getElem?_cons_zero]; rfl)
          case hq10 => exact fun _ _ _ h => h
          case hy10 => exact Or.inl ⟨by rfl, by intro whSw hSw'; (try dsimp only at hSw'); (first | (go_simp; done) | (go_simp; with_reducible rfl))⟩
          try simp only [Act.put, List.setIfInBounds_toArray, List.set_cons_zero, List.set_cons_succ]
          refine wpAnyH_take (i := 10) (oi := ?oi11) (v := ?v11) ?hi11 (by kernel_rfl) (by kernel_rfl) (by kernel_rfl) ?hq11 ?hy11 (by assumption) ?hr11
          case hi11 => (simp only [List.getElem?_toArray, List.getElem?_cons_succ, List.getElem?_cons_zero]; rfl)
          case hq11 => exact fun _ _ _ h => h
          case hy11 => exact Or.inl ⟨by rfl, by intro whSw hSw'; (try dsimp only at hSw'); (first | (go_simp; done) | (go_simp; with_reducible rfl))⟩
          try simp only [Act.put, List.setIfInBounds_toArray, List.set_cons_zero, List.set_cons_succ]
          refine wpAnyH_take (i := 11) (oi := ?oi12) (v := ?v12) ?hi12 (by kernel_rfl) (by kernel_rfl) (by kernel_rfl) ?hq12 ?hy12 (by assumption) ?hr12
          case hi12 => (simp only [List.getElem?_toArray, List.getElem?_cons_succ, List.getElem?_cons_zero]; rfl)
          case hq12 => exact fun _ _ _ h => h
          case hy12 => first | exact Or.inl ⟨by rfl, by intro whSw hSw'; (try dsimp only at hSw'); (first | (go_simp; done) | (go_simp; with_reducible rfl))⟩ | exact Or.inr ⟨by rfl, by with_reducible rfl⟩ | fail
          try simp only [Act.put, List.setIfInBounds_toArray, List.set_cons_zero, List.set_cons_succ]
          refine wpAnyH_take (i := 12) (oi := ?oi13) (v := ?v13) ?hi13 (by kernel_rfl) (by kernel_rfl) (by kernel_rfl) ?hq13 ?hy13 (by assumption) ?hr13
          case hi13 => (simp only [List.getElem?_toArray, List.getElem?_cons_succ, List.getElem?_cons_zero]; rfl)
          case hq13 => exact fun _ _ _ h => h
          case hy13 => first | exact Or.inl ⟨by rfl, by intro whSw hSw'; (try dsimp only at hSw'); (first | (go_simp; done) | (go_simp; with_reducible rfl))⟩ | exact Or.inr ⟨by rfl, by with_reducible rfl⟩ | fail
          try simp only [Act.put, List.setIfInBounds_toArray, List.set_cons_zero, List.set_cons_succ]
          refine wpAnyH_take (i := 14) (oi := ?oi14) (v := ?v14) ?hi14 (by kernel_rfl) (by kernel_rfl) (by kernel_rfl) ?hq14 ?hy14 (by assumption) ?hr14
          case hi14 => (simp only [List.getElem?_toArray, List.getElem?_cons_succ, List.getElem?_cons_zero]; rfl)
          case hq14 => exact fun _ _ _ h => h
          case hy14 => first | exact Or.inl ⟨by rfl, by intro whSw hSw'; (try dsimp only at hSw'); (first | (go_simp; done) | (go_simp; with_reducible rfl))⟩ | exact Or.inr ⟨by rfl, by with_reducible rfl⟩ | fail
          try simp only [Act.put, List.setIfInBounds_toArray, List.set_cons_zero, List.set_cons_succ]
          refine wpAnyH_take (i := 15) (oi := ?oi15) (v := ?v15) ?hi15 (by kernel_rfl) (by kernel_rfl) (by kernel_rfl) ?hq15 ?hy15 (by assumption) ?hr15
          case hi15 => (simp only [List.getElem?_toArray, List.getElem?_cons_succ, List.getElem?_cons_zero]; rfl)
          case hq15 => exact fun _ _ _ h => h
          case hy15 => first | exact Or.inl ⟨by rfl, by intro whSw hSw'; (try dsimp only at hSw'); (first | (go_simp; done) | (go_simp; with_reducible rfl))⟩ | exact Or.inr ⟨by rfl, by with_reducible rfl⟩ | fail
          try simp only [Act.put, List.setIfInBounds_toArray, List.set_cons_zero, List.set_cons_succ]
          refine wpAnyH_take (i := 16) (oi := ?oi16) (v := ?v16) ?hi16 (by kernel_rfl) (by kernel_rfl) (by kernel_rfl) ?hq16 ?hy16 (by assumption) ?hr16
          case hi16 => (simp only [List.getElem?_toArray, List.getElem?_cons_succ, List.getElem?_cons_zero]; rfl)
          case hq16 => exact fun _ _ _ h => h
          case hy16 => first | exact Or.inl ⟨by rfl, by intro whSw hSw'; (try dsimp only at hSw'); (first | (go_simp; done) | (go_simp; with_reducible rfl))⟩ | exact Or.inr ⟨by rfl, by with_reducible rfl⟩ | fail
          try simp only [Act.put, List.setIfInBounds_toArray, List.set_cons_zero, List.set_cons_succ]
          refine wpAnyH_take (i := 17) (oi := ?oi17) (v := ?v17) ?hi17 (by kernel_rfl) (by kernel_rfl) (by kernel_rfl) ?hq17 ?hy17 (by assumption) ?hr17
          case hi17 => (simp only [List.getElem?_toArray, List.getElem?_cons_succ, List.getElem?_cons_zero]; rfl)
          case hq17 => exact fun _ _ _ h => h
          case hy17 => first | exact Or.inl ⟨by rfl, by intro whSw hSw'; (try dsimp only at hSw'); (first | (go_simp; done) | (go_simp; with_reducible rfl))⟩ | exact Or.inr ⟨by rfl, by with_reducible rfl⟩ | fail
          try simp only [Act.put, List.setIfInBounds_toArray, List.set_cons_zero, List.set_cons_succ]
          refine wpAnyH_take (i := 18) (oi := ?oi18) (v := ?v18) ?hi18 (by kernel_rfl) (by kernel_rfl) (by kernel_rfl) ?hq18 ?hy18 (by assumption) ?hr18
          case hi18 => (simp only [List.getElem?_toArray, List.getElem?_cons_succ, List.getElem?_cons_zero]; rfl)
          case hq18 => exact fun _ _ _ h => h
          case hy18 => first | exact Or.inl ⟨by rfl, by intro whSw hSw'; (try dsimp only at hSw'); (first | (go_simp; done) | (go_simp; with_reducible rfl))⟩ | exact Or.inr ⟨by rfl, by with_reducible rfl⟩ | fail
          try simp only [Act.put, List.setIfInBounds_toArray, List.set_cons_zero, List.set_cons_succ]
          refine wpAnyH_ready (rs := [13]) (by kernel_rfl) (by simp) ?_
          refine AllReadyH.cons (o := ?oo19) ?hi19 (fun K hK => ?hs19) ?hm19
          case hi19 => (simp only [List.getElem?_toArray, List.getElem?_cons_succ, List.getElem?_cons_zero]; rfl)
          · go_simp
            refine HCN.out.mono ?_
            rintro e x5 ⟨rfl, rfl⟩
            (try go_wp2_with fail)
            refine hK.out _ _ ?_ (fun hHeld => ?_)
            · (try dsimp only); first | exact HSK.out _ HB7.out | exact HSK.out _ (Below.refl _ _).drew
            clear hK K
            try simp only [Act.put, List.setIfInBounds_toArray, List.set_cons_zero, List.set_cons_succ]
            refine wpAnyH_take (i := 19) (oi := ?oi20) (v := ?v20) ?hi20 (by kernel_rfl) (by kernel_rfl) (by kernel_rfl) ?hq20 ?hy20 (by assumption) ?hr20
            case hi20 => (simp only [List.getElem?_toArray, List.getElem?_cons_succ, List.getElem?_cons_zero]; rfl)
            case hq20 => exact fun _ _ _ h => h
            case hy20 => first | exact Or.inl ⟨by rfl, by intro whSw hSw'; (try dsimp only at hSw'); (first | (go_simp; done) | (go_simp; with_reducible rfl))⟩ | exact Or.inr ⟨by rfl, by with_reducible rfl⟩ | fail
            try simp only [Act.put, List.setIfInBounds_toArray, List.set_cons_zero, List.set_cons_succ]
            refine wpAnyH_take (i := 20) (oi := ?oi21) (v := ?v21) ?hi21 (by kernel_rfl) (by kernel_rfl) (by kernel_rfl) ?hq21 ?hy21 (by assumption) ?hr21
            case hi21 => (simp only [List.getElem?_toArray, List.getElem?_cons_succ, List.getElem?_cons_zero]; rfl)
            case hq21 => exact fun _ _ _ h => h
            case hy21 => exact Or.inl ⟨by rfl, by intro whSw hSw'; (try dsimp only at hSw'); (first | (go_simp; done) | (go_simp; with_reducible rfl))⟩
            try simp only [Act.put, List.setIfInBounds_toArray, List.set_cons_zero, List.set_cons_succ]
            refine wpAnyH_take (i := 21) (oi := ?oi22) (v := ?v22) ?hi22 (by kernel_rfl) (by kernel_rfl) (by kernel_rfl) ?hq22 ?hy22 (by assumption) ?hr22
            case hi22 => (simp only [List.getElem?_toArray, List.getElem?_cons_succ, List.getElem?_cons_zero]; rfl)
            case hq22 => exact fun _ _ _ h => h
            case hy22 => exact Or.inl ⟨by rfl, by intro whSw hSw'; (try dsimp only at hSw'); (first | (go_simp; done) | (go_simp; with_reducible rfl))⟩
            try simp only [Act.put, List.setIfInBounds_toArray, List.set_cons_zero, List.set_cons_succ]
            refine wpAnyH_ready (rs := [22]) (by kernel_rfl) (by simp) ?_
            refine AllReadyH.cons (o := ?oo23) ?hi23 (fun K hK => ?hs23) ?hm23
            case hi23 => (simp only [List.getElem?_toArray, List.getElem?_cons_succ, List.getElem?_cons_zero]; rfl)
            · go_simp
              refine (HA.out _).mono ?_
              rintro e w7 ⟨rfl, hb7⟩
              have HB7 : Hid (Below w6.heap.size w6 w7) := Lib.hid ((Below.refl _ w6).drew.trans hb7)
              clear hb7
              (try go_wp2_with fail)
              refine hK.out _ _ ?_ (fun hHeld => ?_)
              · (try dsimp only); first | exact HSK.out _ HB7.out | exact HSK.out _ (Below.refl _ _).drew
              clear hK K
              try simp only [Act.put, List.setIfInBounds_toArray, List.set_cons_zero, List.set_cons_succ]
              refine wpAnyH_take (i := 23) (oi := ?oi24) (v := ?v24) ?hi24 (by kernel_rfl) (by kernel_rfl) (by kernel_rfl) ?hq24 ?hy24 (by assumption) ?hr24
              case hi24 => (simp only [List.getElem?_toArray, List.getElem?_cons_succ, List.getElem?_cons_zero]; rfl)
              case hq24 => exact fun _ _ _ h => h
              case hy24 => exact Or.inl ⟨by rfl, by intro whSw hSw'; (try dsimp only at hSw'); (first | (go_simp; done) | (go_simp; with_reducible rfl))⟩
              try simp only [Act.put, List.setIfInBounds_toArray, List.set_cons_zero, List.set_cons_succ]
              refine wpAnyH_take (i := 24) (oi := ?oi25) (v := ?v25) ?hi25 (by kernel_rfl) (by kernel_rfl) (by kernel_rfl) ?hq25 ?hy25 (by assumption) ?hr25
              case hi25 => (simp only [List.getElem?_toArray, List.getElem?_cons_succ, List.getElem?_cons_zero]; rfl)
              case hq25 => exact fun _ _ _ h => h
              case hy25 => exact Or.inl ⟨by rfl, by intro whSw hSw'; (try dsimp only at hSw'); (first | (go_simp; done) | (go_simp; with_reducible rfl))⟩
              try simp only [Act.put, List.setIfInBounds_toArray, List.set_cons_zero, List.set_cons_succ]
              refine wpAnyH_done (by kernel_rfl) ?_ _
              go_wp2_with fail
              go_ret
              exact ⟨rfl, HB6.out.trans (HB7.out.mono HB6.out.size)⟩
            exact AllReadyH.nil
          exact AllReadyH.nil
        · have hio : inR m z = false := decide_eq_false hr
          rw [wordP_out (by rw [HM.out]; exact hio)] at hwd
          rw [countP_out (by rw [HLE.out]; exact hio)] at hct
          have HWD := Lib.hid hwd
          have HCT := Lib.hid hct
          clear hwd hct hio hbx
          by_cases h0 : z < 0
          · clear hr
            go_wp2_with fail
            refine HWD.out.mono ?_
            rintro e x7 ⟨rfl, rfl⟩
            go_wp2_with fail
            refine HCT.out.mono ?_
            rintro e x8 ⟨rfl, rfl⟩
            go_wp2_with fail
            refine (HA.out _).mono ?_
            rintro e w9 ⟨rfl, hb9⟩
            have HB9 := Lib.hid (HB6.out.trans (hb9.mono HB6.out.size))
            clear hb9
            go_wp2_with fail
            go_ret
            exact ⟨rfl, HB9.out⟩
          · have hge : (m : Int) ≤ z := by omega
            clear hr
            go_wp2_with fail
            refine HWD.out.mono ?_
            rintro e x7 ⟨rfl, rfl⟩
            go_wp2_with fail
            refine HCT.out.mono ?_
            rintro e x8 ⟨rfl, rfl⟩
            go_wp2_with fail
            refine (HA.out _).mono ?_
            rintro e w9 ⟨rfl, hb9⟩
            have HB9 := Lib.hid (HB6.out.trans (hb9.mono HB6.out.size))
            clear hb9
            go_wp2_with fail
            go_ret
            exact ⟨rfl, HB9.out⟩
      · rw [if_neg hin, decide_eq_false hin] at hnum
        simp only [decide_eq_false hin] at hfnd
        have HNUM := Lib.hid hnum
        have HFND := Lib.hid hfnd
        clear hnum hfnd
        go_wp2_with fail
        refine HNUM.out.mono ?_
        rintro e w5 ⟨rfl, hb5⟩
        have HB5 := Lib.hid hb5
        have hbx := HBX.out w5 hb5
        have d0 : w5.cell? ⟨N4, 0, none⟩ = some (.slice A1 m c1) := cell_of hbx rfl
        have d1 : w5.cell? ⟨N4, 1, none⟩ = some (.slice A2 m c2) := cell_of hbx rfl
        clear hb5 hbx HNUM
        go_wp2_with fail
        refine (HFND.out w5 HB5.out).mono ?_
        rintro e w6 ⟨rfl, hb6⟩
        have HB46 := Lib.hid (show Below W4.heap.size W4 w6 from HB5.out.trans (hb6.mono HB5.out.size))
        have HB6 := Lib.hid (show Below w.heap.size w w6 from HB4.out.trans (HB46.out.mono HB4.out.size))
        clear hb6 d0 d1 HFND
        clear hin hk
        go_upto_region 10 with fail
        have hwd := word_any (HL.out w6 HB46.out) z
        have hct := count_any' (HL.out w6 HB46.out) z
        have hbx := HBX.out w6 HB46.out
        have d0 : w6.cell? ⟨N4, 0, none⟩ = some (.slice A1 m c1) := cell_of hbx rfl
        have d1 : w6.cell? ⟨N4, 1, none⟩ = some (.slice A2 m c2) := cell_of hbx rfl
        by_cases hr : 0 ≤ z ∧ z < (m : Int)
        · obtain ⟨j, rfl⟩ := Int.eq_ofNat_of_zero_le hr.1
          have hjm : j < m := by omega
          have hj0 : ¬ (j : Int) < 0 := by omega
          have hjI : (j : Int) < (m : Int) := hr.2
          have hjG : ¬ (m : Int) ≤ (j : Int) := by omega
          obtain ⟨x, hx⟩ : ∃ x, ws[j]? = some x := ⟨_, List.getElem?_eq_getElem (by rw [HM.out]; exact hjm)⟩
          obtain ⟨c, hcx⟩ : ∃ c, cs[j]? = some c := ⟨_, List.getElem?_eq_getElem (by rw [HLE.out]; exact hjm)⟩
          rw [wordP_at hx] at hwd
          clear hct
          obtain ⟨T, hT⟩ : ∃ T : ByteArray, (⟨x.toArray⟩ : ByteArray) = T := ⟨_, rfl⟩
          simp only at hwd
          rw [hT] at hwd
          obtain ⟨b1, o1, rfl, -, hj1⟩ := at_str (HRW.out w6 HB46.out) (by rw [HM.out]; omega)
          obtain ⟨b2, o2, rfl, -, hj2⟩ := at_int (HRC.out w6 HB46.out) (by rw [List.length_map, HLE.out]; omega)
          have HSK : Hid (∀ W, Below w6.heap.size w6 W → W.cell? ⟨N4, 0, none⟩ = some (Value.slice (some ⟨b1, o1, none⟩) m c1) ∧ W.cell? ⟨N4, 1, none⟩ = some (Value.slice (some ⟨b2, o2, none⟩) m c2) ∧ W.cell? ⟨b1, o1 + j, none⟩ = some (Value.string T) ∧ W.cell? ⟨b2, o2 + j, none⟩ = some (Value.int IntKind.i64 (c : Int))) := Lib.hid (fun W hb => by
            have hb4 := HB46.out.trans (hb.mono HB46.out.size)
            have hbx := HBX.out W hb4
            refine ⟨cell_of hbx rfl, cell_of hbx rfl, ?_, ?_⟩
            · obtain ⟨b1', o1', e1, -, hj1⟩ := at_str (HRW.out W hb4) (by rw [HM.out]; omega)
              cases e1
              rw [← hT]
              exact hj1 j x hx
            · obtain ⟨b2', o2', e2, -, hj2⟩ := at_int (HRC.out W hb4) (by rw [List.length_map, HLE.out]; omega)
              cases e2
              exact hj2 j (c : Int) (by rw [List.getElem?_map, hcx]; rfl))
          have HCN := Lib.hid (show Calls Try.prog 19 #[.pointer (some ⟨p, 0, none⟩), .int .i64 j] w6.drew (fun e w' => e = .returned (.int .i64 (c : Int)) ∧ w' = w6.drew) by
            have := count_any' (HL.out w6.drew HB46.out.drew) (j : Int)
            rw [countP_at hcx] at this
            exact this)
          have HWD := Lib.hid hwd
          clear hwd hj1 hj2 hx hcx hT hbx hr
          go_wp2_with fail
          refine HWD.out.mono ?_
          rintro e x7 ⟨rfl, hx7⟩
          obtain rfl := hx7.symm
          clear hx7
          go_wp2_with fail
          refine wp_region_held_drew (S := (fun w' => w'.cell? ⟨N4, 0, none⟩ = some (Value.slice (some ⟨b1, o1, none⟩) m c1) ∧ w'.cell? ⟨N4, 1, none⟩ = some (Value.slice (some ⟨b2, o2, none⟩) m c2) ∧ w'.cell? ⟨b1, o1 + j, none⟩ = some (Value.string T) ∧ w'.cell? ⟨b2, o2 + j, none⟩ = some (Value.int IntKind.i64 (c : Int)))) (by kernel_rfl) ?_ (fun hHeld => ?_)
          · (try dsimp only); exact HSK.out _ (Below.refl _ _).drew
          refine wpAnyH_take (i := 0) (oi := ?oi1001) (v := ?v1001) ?hi1001 (by kernel_rfl) (by kernel_rfl) (by kernel_rfl) ?hq1001 ?hy1001 (by assumption) ?hr1001
          case hi1001 => (simp only [List.getElem?_toArray, List.getElem?_cons_zero]; rfl)
          case hq1001 => exact fun _ _ _ h => h
          case hy1001 => exact Or.inl ⟨by rfl, by intro whSw hSw'; (try dsimp only at hSw'); (first | (go_simp; done) | (go_simp; with_reducible rfl))⟩
          try simp only [Act.put, List.setIfInBounds_toArray, List.set_cons_zero, List.set_cons_succ]
          refine wpAnyH_take (i := 1) (oi := ?oi1002) (v := ?v1002) ?hi1002 (by kernel_rfl) (by kernel_rfl) (by kernel_rfl) ?hq1002 ?hy1002 (by assumption) ?hr1002
          case hi1002 => (simp only [List.getElem?_toArray, List.getElem?_cons_succ, List.getElem?_cons_zero]; rfl)
          case hq1002 => exact fun _ _ _ h => h
          case hy1002 => exact Or.inl ⟨by rfl, by intro whSw hSw'; (try dsimp only at hSw'); (first | (go_simp; done) | (go_simp; with_reducible rfl))⟩
          try simp only [Act.put, List.setIfInBounds_toArray, List.set_cons_zero, List.set_cons_succ]
          refine wpAnyH_take (i := 2) (oi := ?oi1003) (v := ?v1003) ?hi1003 (by kernel_rfl) (by kernel_rfl) (by kernel_rfl) ?hq1003 ?hy1003 (by assumption) ?hr1003
          case hi1003 => (simp only [List.getElem?_toArray, List.getElem?_cons_succ, List.getElem?_cons_zero]; rfl)
          case hq1003 => exact fun _ _ _ h => h
          case hy1003 => first | exact Or.inl ⟨by rfl, by intro whSw hSw'; (try dsimp only at hSw'); (first | (go_simp; done) | (go_simp; with_reducible rfl))⟩ | exact Or.inr ⟨by rfl, by with_reducible rfl⟩ | fail
          try simp only [Act.put, List.setIfInBounds_toArray, List.set_cons_zero, List.set_cons_succ]
          refine wpAnyH_take (i := 3) (oi := ?oi1004) (v := ?v1004) ?hi1004 (by kernel_rfl) (by kernel_rfl) (by kernel_rfl) ?hq1004 ?hy1004 (by assumption) ?hr1004
          case hi1004 => (simp only [List.getElem?_toArray, List.getElem?_cons_succ, List.getElem?_cons_zero]; rfl)
          case hq1004 => exact fun _ _ _ h => h
          case hy1004 => first | exact Or.inl ⟨by rfl, by intro whSw hSw'; (try dsimp only at hSw'); (first | (go_simp; done) | (go_simp; with_reducible rfl))⟩ | exact Or.inr ⟨by rfl, by with_reducible rfl⟩ | fail
          try simp only [Act.put, List.setIfInBounds_toArray, List.set_cons_zero, List.set_cons_succ]
          refine wpAnyH_take (i := 4) (oi := ?oi1005) (v := ?v1005) ?hi1005 (by kernel_rfl) (by kernel_rfl) (by kernel_rfl) ?hq1005 ?hy1005 (by assumption) ?hr1005
          case hi1005 => (simp only [List.getElem?_toArray, List.getElem?_cons_succ, List.getElem?_cons_zero]; rfl)
          case hq1005 => exact fun _ _ _ h => h
          case hy1005 => first | exact Or.inl ⟨by rfl, by intro whSw hSw'; (try dsimp only at hSw'); (first | (go_simp; done) | (go_simp; with_reducible rfl))⟩ | exact Or.inr ⟨by rfl, by with_reducible rfl⟩ | fail
          try simp only [Act.put, List.setIfInBounds_toArray, List.set_cons_zero, List.set_cons_succ]
          refine wpAnyH_take (i := 5) (oi := ?oi1006) (v := ?v1006) ?hi1006 (by kernel_rfl) (by kernel_rfl) (by kernel_rfl) ?hq1006 ?hy1006 (by assumption) ?hr1006
          case hi1006 => (simp only [List.getElem?_toArray, List.getElem?_cons_succ, List.getElem?_cons_zero]; rfl)
          case hq1006 => exact fun _ _ _ h => h
          case hy1006 => first | exact Or.inl ⟨by rfl, by intro whSw hSw'; (try dsimp only at hSw'); (first | (go_simp; done) | (go_simp; with_reducible rfl))⟩ | exact Or.inr ⟨by rfl, by with_reducible rfl⟩ | fail
          try simp only [Act.put, List.setIfInBounds_toArray, List.set_cons_zero, List.set_cons_succ]
          refine wpAnyH_take (i := 6) (oi := ?oi1007) (v := ?v1007) ?hi1007 (by kernel_rfl) (by kernel_rfl) (by kernel_rfl) ?hq1007 ?hy1007 (by assumption) ?hr1007
          case hi1007 => (simp only [List.getElem?_toArray, List.getElem?_cons_succ, List.getElem?_cons_zero]; rfl)
          case hq1007 => exact fun _ _ _ h => h
          case hy1007 => first | exact Or.inl ⟨by rfl, by intro whSw hSw'; (try dsimp only at hSw'); (first | (go_simp; done) | (go_simp; with_reducible rfl))⟩ | exact Or.inr ⟨by rfl, by with_reducible rfl⟩ | fail
          try simp only [Act.put, List.setIfInBounds_toArray, List.set_cons_zero, List.set_cons_succ]
          refine wpAnyH_take (i := 7) (oi := ?oi1008) (v := ?v1008) ?hi1008 (by kernel_rfl) (by kernel_rfl) (by kernel_rfl) ?hq1008 ?hy1008 (by assumption) ?hr1008
          case hi1008 => (simp only [List.getElem?_toArray, List.getElem?_cons_succ, List.getElem?_cons_zero]; rfl)
          case hq1008 => exact fun _ _ _ h => h
          case hy1008 => first | exact Or.inl ⟨by rfl, by intro whSw hSw'; (try dsimp only at hSw'); (first | (go_simp; done) | (go_simp; with_reducible rfl))⟩ | exact Or.inr ⟨by rfl, by with_reducible rfl⟩ | fail
          try simp only [Act.put, List.setIfInBounds_toArray, List.set_cons_zero, List.set_cons_succ]
          refine wpAnyH_take (i := 8) (oi := ?oi1009) (v := ?v1009) ?hi1009 (by kernel_rfl) (by kernel_rfl) (by kernel_rfl) ?hq1009 ?hy1009 (by assumption) ?hr1009
          case hi1009 => (simp only [List.getElem?_toArray, List.getElem?_cons_succ, List.getElem?_cons_zero]; rfl)
          case hq1009 => exact fun _ _ _ h => h
          case hy1009 => first | exact Or.inl ⟨by rfl, by intro whSw hSw'; (try dsimp only at hSw'); (first | (go_simp; done) | (go_simp; with_reducible rfl))⟩ | exact Or.inr ⟨by rfl, by with_reducible rfl⟩ | fail
          try simp only [Act.put, List.setIfInBounds_toArray, List.set_cons_zero, List.set_cons_succ]
          refine wpAnyH_take (i := 9) (oi := ?oi1010) (v := ?v1010) ?hi1010 (by kernel_rfl) (by kernel_rfl) (by kernel_rfl) ?hq1010 ?hy1010 (by assumption) ?hr1010
          case hi1010 => (simp only [List.getElem?_toArray, List.getElem?_cons_succ, List.getElem?_cons_zero]; rfl)
          case hq1010 => exact fun _ _ _ h => h
          case hy1010 => exact Or.inl ⟨by rfl, by intro whSw hSw'; (try dsimp only at hSw'); (first | (go_simp; done) | (go_simp; with_reducible rfl))⟩
          try simp only [Act.put, List.setIfInBounds_toArray, List.set_cons_zero, List.set_cons_succ]
          refine wpAnyH_take (i := 10) (oi := ?oi1011) (v := ?v1011) ?hi1011 (by kernel_rfl) (by kernel_rfl) (by kernel_rfl) ?hq1011 ?hy1011 (by assumption) ?hr1011
          case hi1011 => (simp only [List.getElem?_toArray, List.getElem?_cons_succ, List.getElem?_cons_zero]; rfl)
          case hq1011 => exact fun _ _ _ h => h
          case hy1011 => exact Or.inl ⟨by rfl, by intro whSw hSw'; (try dsimp only at hSw'); (first | (go_simp; done) | (go_simp; with_reducible rfl))⟩
          try simp only [Act.put, List.setIfInBounds_toArray, List.set_cons_zero, List.set_cons_succ]
          refine wpAnyH_take (i := 11) (oi := ?oi1012) (v := ?v1012) ?hi1012 (by kernel_rfl) (by kernel_rfl) (by kernel_rfl) ?hq1012 ?hy1012 (by assumption) ?hr1012
          case hi1012 => (simp only [List.getElem?_toArray, List.getElem?_cons_succ, List.getElem?_cons_zero]; rfl)
          case hq1012 => exact fun _ _ _ h => h
          case hy1012 => first | exact Or.inl ⟨by rfl, by intro whSw hSw'; (try dsimp only at hSw'); (first | (go_simp; done) | (go_simp; with_reducible rfl))⟩ | exact Or.inr ⟨by rfl, by with_reducible rfl⟩ | fail
          try simp only [Act.put, List.setIfInBounds_toArray, List.set_cons_zero, List.set_cons_succ]
          refine wpAnyH_take (i := 12) (oi := ?oi1013) (v := ?v1013) ?hi1013 (by kernel_rfl) (by kernel_rfl) (by kernel_rfl) ?hq1013 ?hy1013 (by assumption) ?hr1013
          case hi1013 => (simp only [List.getElem?_toArray, List.getElem?_cons_succ, List.getElem?_cons_zero]; rfl)
          case hq1013 => exact fun _ _ _ h => h
          case hy1013 => first | exact Or.inl ⟨by rfl, by intro whSw hSw'; (try dsimp only at hSw'); (first | (go_simp; done) | (go_simp; with_reducible rfl))⟩ | exact Or.inr ⟨by rfl, by with_reducible rfl⟩ | fail
          try simp only [Act.put, List.setIfInBounds_toArray, List.set_cons_zero, List.set_cons_succ]
          refine wpAnyH_take (i := 14) (oi := ?oi1014) (v := ?v1014) ?hi1014 (by kernel_rfl) (by kernel_rfl) (by kernel_rfl) ?hq1014 ?hy1014 (by assumption) ?hr1014
          case hi1014 => (simp only [List.getElem?_toArray, List.getElem?_cons_succ, List.getElem?_cons_zero]; rfl)
          case hq1014 => exact fun _ _ _ h => h
          case hy1014 => first | exact Or.inl ⟨by rfl, by intro whSw hSw'; (try dsimp only at hSw'); (first | (go_simp; done) | (go_simp; with_reducible rfl))⟩ | exact Or.inr ⟨by rfl, by with_reducible rfl⟩ | fail
          try simp only [Act.put, List.setIfInBounds_toArray, List.set_cons_zero, List.set_cons_succ]
          refine wpAnyH_take (i := 15) (oi := ?oi1015) (v := ?v1015) ?hi1015 (by kernel_rfl) (by kernel_rfl) (by kernel_rfl) ?hq1015 ?hy1015 (by assumption) ?hr1015
          case hi1015 => (simp only [List.getElem?_toArray, List.getElem?_cons_succ, List.getElem?_cons_zero]; rfl)
          case hq1015 => exact fun _ _ _ h => h
          case hy1015 => first | exact Or.inl ⟨by rfl, by intro whSw hSw'; (try dsimp only at hSw'); (first | (go_simp; done) | (go_simp; with_reducible rfl))⟩ | exact Or.inr ⟨by rfl, by with_reducible rfl⟩ | fail
          try simp only [Act.put, List.setIfInBounds_toArray, List.set_cons_zero, List.set_cons_succ]
          refine wpAnyH_take (i := 16) (oi := ?oi1016) (v := ?v1016) ?hi1016 (by kernel_rfl) (by kernel_rfl) (by kernel_rfl) ?hq1016 ?hy1016 (by assumption) ?hr1016
          case hi1016 => (simp only [List.getElem?_toArray, List.getElem?_cons_succ, List.getElem?_cons_zero]; rfl)
          case hq1016 => exact fun _ _ _ h => h
          case hy1016 => first | exact Or.inl ⟨by rfl, by intro whSw hSw'; (try dsimp only at hSw'); (first | (go_simp; done) | (go_simp; with_reducible rfl))⟩ | exact Or.inr ⟨by rfl, by with_reducible rfl⟩ | fail
          try simp only [Act.put, List.setIfInBounds_toArray, List.set_cons_zero, List.set_cons_succ]
          refine wpAnyH_take (i := 17) (oi := ?oi1017) (v := ?v1017) ?hi1017 (by kernel_rfl) (by kernel_rfl) (by kernel_rfl) ?hq1017 ?hy1017 (by assumption) ?hr1017
          case hi1017 => (simp only [List.getElem?_toArray, List.getElem?_cons_succ, List.getElem?_cons_zero]; rfl)
          case hq1017 => exact fun _ _ _ h => h
          case hy1017 => first | exact Or.inl ⟨by rfl, by intro whSw hSw'; (try dsimp only at hSw'); (first | (go_simp; done) | (go_simp; with_reducible rfl))⟩ | exact Or.inr ⟨by rfl, by with_reducible rfl⟩ | fail
          try simp only [Act.put, List.setIfInBounds_toArray, List.set_cons_zero, List.set_cons_succ]
          refine wpAnyH_take (i := 18) (oi := ?oi1018) (v := ?v1018) ?hi1018 (by kernel_rfl) (by kernel_rfl) (by kernel_rfl) ?hq1018 ?hy1018 (by assumption) ?hr1018
          case hi1018 => (simp only [List.getElem?_toArray, List.getElem?_cons_succ, List.getElem?_cons_zero]; rfl)
          case hq1018 => exact fun _ _ _ h => h
          case hy1018 => first | exact Or.inl ⟨by rfl, by intro whSw hSw'; (try dsimp only at hSw'); (first | (go_simp; done) | (go_simp; with_reducible rfl))⟩ | exact Or.inr ⟨by rfl, by with_reducible rfl⟩ | fail
          try simp only [Act.put, List.setIfInBounds_toArray, List.set_cons_zero, List.set_cons_succ]
          refine wpAnyH_ready (rs := [13]) (by kernel_rfl) (by simp) ?_
          refine AllReadyH.cons (o := ?oo1019) ?hi1019 (fun K hK => ?hs1019) ?hm1019
          case hi1019 => (simp only [List.getElem?_toArray, List.getElem?_cons_succ, List.getElem?_cons_zero]; rfl)
          · go_simp
            refine HCN.out.mono ?_
            rintro e x5 ⟨rfl, rfl⟩
            (try go_wp2_with fail)
            refine hK.out _ _ ?_ (fun hHeld => ?_)
            · (try dsimp only); first | exact HSK.out _ HB7.out | exact HSK.out _ (Below.refl _ _).drew
            clear hK K
            try simp only [Act.put, List.setIfInBounds_toArray, List.set_cons_zero, List.set_cons_succ]
            refine wpAnyH_take (i := 19) (oi := ?oi1020) (v := ?v1020) ?hi1020 (by kernel_rfl) (by kernel_rfl) (by kernel_rfl) ?hq1020 ?hy1020 (by assumption) ?hr1020
            case hi1020 => (simp only [List.getElem?_toArray, List.getElem?_cons_succ, List.getElem?_cons_zero]; rfl)
            case hq1020 => exact fun _ _ _ h => h
            case hy1020 => first | exact Or.inl ⟨by rfl, by intro whSw hSw'; (try dsimp only at hSw'); (first | (go_simp; done) | (go_simp; with_reducible rfl))⟩ | exact Or.inr ⟨by rfl, by with_reducible rfl⟩ | fail
            try simp only [Act.put, List.setIfInBounds_toArray, List.set_cons_zero, List.set_cons_succ]
            refine wpAnyH_take (i := 20) (oi := ?oi1021) (v := ?v1021) ?hi1021 (by kernel_rfl) (by kernel_rfl) (by kernel_rfl) ?hq1021 ?hy1021 (by assumption) ?hr1021
            case hi1021 => (simp only [List.getElem?_toArray, List.getElem?_cons_succ, List.getElem?_cons_zero]; rfl)
            case hq1021 => exact fun _ _ _ h => h
            case hy1021 => exact Or.inl ⟨by rfl, by intro whSw hSw'; (try dsimp only at hSw'); (first | (go_simp; done) | (go_simp; with_reducible rfl))⟩
            try simp only [Act.put, List.setIfInBounds_toArray, List.set_cons_zero, List.set_cons_succ]
            refine wpAnyH_take (i := 21) (oi := ?oi1022) (v := ?v1022) ?hi1022 (by kernel_rfl) (by kernel_rfl) (by kernel_rfl) ?hq1022 ?hy1022 (by assumption) ?hr1022
            case hi1022 => (simp only [List.getElem?_toArray, List.getElem?_cons_succ, List.getElem?_cons_zero]; rfl)
            case hq1022 => exact fun _ _ _ h => h
            case hy1022 => exact Or.inl ⟨by rfl, by intro whSw hSw'; (try dsimp only at hSw'); (first | (go_simp; done) | (go_simp; with_reducible rfl))⟩
            try simp only [Act.put, List.setIfInBounds_toArray, List.set_cons_zero, List.set_cons_succ]
            refine wpAnyH_ready (rs := [22]) (by kernel_rfl) (by simp) ?_
            refine AllReadyH.cons (o := ?oo1023) ?hi1023 (fun K hK => ?hs1023) ?hm1023
            case hi1023 => (simp only [List.getElem?_toArray, List.getElem?_cons_succ, List.getElem?_cons_zero]; rfl)
            · go_simp
              refine (HA.out _).mono ?_
              rintro e w7 ⟨rfl, hb7⟩
              have HB7 : Hid (Below w6.heap.size w6 w7) := Lib.hid ((Below.refl _ w6).drew.trans hb7)
              clear hb7
              (try go_wp2_with fail)
              refine hK.out _ _ ?_ (fun hHeld => ?_)
              · (try dsimp only); first | exact HSK.out _ HB7.out | exact HSK.out _ (Below.refl _ _).drew
              clear hK K
              try simp only [Act.put, List.setIfInBounds_toArray, List.set_cons_zero, List.set_cons_succ]
              refine wpAnyH_take (i := 23) (oi := ?oi1024) (v := ?v1024) ?hi1024 (by kernel_rfl) (by kernel_rfl) (by kernel_rfl) ?hq1024 ?hy1024 (by assumption) ?hr1024
              case hi1024 => (simp only [List.getElem?_toArray, List.getElem?_cons_succ, List.getElem?_cons_zero]; rfl)
              case hq1024 => exact fun _ _ _ h => h
              case hy1024 => exact Or.inl ⟨by rfl, by intro whSw hSw'; (try dsimp only at hSw'); (first | (go_simp; done) | (go_simp; with_reducible rfl))⟩
              try simp only [Act.put, List.setIfInBounds_toArray, List.set_cons_zero, List.set_cons_succ]
              refine wpAnyH_take (i := 24) (oi := ?oi1025) (v := ?v1025) ?hi1025 (by kernel_rfl) (by kernel_rfl) (by kernel_rfl) ?hq1025 ?hy1025 (by assumption) ?hr1025
              case hi1025 => (simp only [List.getElem?_toArray, List.getElem?_cons_succ, List.getElem?_cons_zero]; rfl)
              case hq1025 => exact fun _ _ _ h => h
              case hy1025 => exact Or.inl ⟨by rfl, by intro whSw hSw'; (try dsimp only at hSw'); (first | (go_simp; done) | (go_simp; with_reducible rfl))⟩
              try simp only [Act.put, List.setIfInBounds_toArray, List.set_cons_zero, List.set_cons_succ]
              refine wpAnyH_done (by kernel_rfl) ?_ _
              go_wp2_with fail
              go_ret
              exact ⟨rfl, HB6.out.trans (HB7.out.mono HB6.out.size)⟩
            exact AllReadyH.nil
          exact AllReadyH.nil
        · have hio : inR m z = false := decide_eq_false hr
          rw [wordP_out (by rw [HM.out]; exact hio)] at hwd
          rw [countP_out (by rw [HLE.out]; exact hio)] at hct
          have HWD := Lib.hid hwd
          have HCT := Lib.hid hct
          clear hwd hct hio hbx
          by_cases h0 : z < 0
          · clear hr
            go_wp2_with fail
            refine HWD.out.mono ?_
            rintro e x7 ⟨rfl, rfl⟩
            go_wp2_with fail
            refine HCT.out.mono ?_
            rintro e x8 ⟨rfl, rfl⟩
            go_wp2_with fail
            refine (HA.out _).mono ?_
            rintro e w9 ⟨rfl, hb9⟩
            have HB9 := Lib.hid (HB6.out.trans (hb9.mono HB6.out.size))
            clear hb9
            go_wp2_with fail
            go_ret
            exact ⟨rfl, HB9.out⟩
          · have hge : (m : Int) ≤ z := by omega
            clear hr
            go_wp2_with fail
            refine HWD.out.mono ?_
            rintro e x7 ⟨rfl, rfl⟩
            go_wp2_with fail
            refine HCT.out.mono ?_
            rintro e x8 ⟨rfl, rfl⟩
            go_wp2_with fail
            refine (HA.out _).mono ?_
            rintro e w9 ⟨rfl, hb9⟩
            have HB9 := Lib.hid (HB6.out.trans (hb9.mono HB6.out.size))
            clear hb9
            go_wp2_with fail
            go_ret
            exact ⟨rfl, HB9.out⟩

theorem own : ownKnob Try.prog.godebug = none := by kernel_rfl

set_option maxRecDepth 100000 in
theorem lifted (os : Os) (started : os.Started) (H : Type) (enc : TypeId × Value → H) :
    ReturnsInHanded {} Try.checked os 5 .any (Rows.lexiconFindsSpec.pre6 enc Try.prog Try.f5 Rows.lexiconFindsRow.domain false) (Rows.lexiconFindsSpec.post enc Try.prog Try.f5 false true false false) := by
  refine returnsInHanded_of_change (C := Try.checked) own started (by kernel_rfl) Try.func5
    (ChangeSpec.witness6 (enc := enc) (C := Try.checked) false ⟨#[], #[.slice none 0 0, .string ⟨#[]⟩, .int .i64 0], []⟩ 8 (by kernel_rfl) (by kernel_rfl) (by kernel_rfl) (by kernel_rfl)) ?_
  intro W base args ds gs before hval0 hW hcnd _
  have hval : ∀ (j : Nat) t v, Try.f5.params[j]? = some t → args[j]? = some v → Value.okWide Try.prog W .any base t v := hval0
  have hW' := hW
  have hplt : ∀ x ∈ before, x.block < W.heap.size := fun x hx => hW.lt x hx
  obtain ⟨p, q, hA0, hV, rfl, hfz, hnd⟩ := hW
  have hA : DataW.TrodAll enc Try.prog W 0 (fun _ => true) true Try.f5.params.toList args.toList ds p := hA0
  rw [Try.params5] at hA hval
  obtain ⟨v0, vs0, d0, ds0, p0, q0, hargs, rfl, rfl, h0, r0⟩ := trodAll_cons hA
  obtain ⟨v1, vs1, d1, ds1, p1, q1, rfl, rfl, rfl, h1, r1⟩ := trodAll_cons r0
  obtain ⟨v2, vs2, d2, ds2, p2, q2, rfl, rfl, rfl, h2, r2⟩ := trodAll_cons r1
  obtain ⟨rfl, rfl, rfl⟩ := trodAll_nil r2
  obtain rfl : args = #[v0, v1, v2] := by cases args; simp_all
  obtain ⟨rfl, rfl⟩ := trodVars_none hV
  obtain ⟨l0, s0, m0, n0⟩ := open_rowS (hval 0 22 v0 rfl rfl) h0
  obtain ⟨a1, rfl, m1⟩ := open_str (hval 1 9 v1 rfl rfl) h1
  obtain ⟨x2, rfl, m2, n2⟩ := open_i64 (hval 2 3 v2 rfl rfl) h2
  clear hA0 hval0
  refine (walk v0 l0 s0 m0 n0 a1 m1 x2 m2 n2).mono fun e W' ⟨he, bel⟩ => ?_
  subst he
  exact ⟨_, rfl, _, _, _, [], _, [], hW', trodAll_mk1 (shut_bool Try.underlying4 _), (trodAll_cons_mk (Below.trod Try.laidOut (by kernel_rfl) (of_decide_eq_true (by kernel_rfl)) h0 bel (fun x hx => hplt x (by simp [hx]))) (trodAll_cons_mk (Below.trod Try.laidOut (by kernel_rfl) (of_decide_eq_true (by kernel_rfl)) h1 bel (fun x hx => hplt x (by simp [hx]))) (trodAll_cons_mk (Below.trod Try.laidOut (by kernel_rfl) (of_decide_eq_true (by kernel_rfl)) h2 bel (fun x hx => hplt x (by simp [hx]))) trodAll_mk0))), rfl, World.keptBut_mono (fun x hx => ⟨hx, Or.inr (by simpa using hx)⟩) (bel.frame (· ∈ _)), fun h => by cases h⟩

theorem over : Rows.lexiconFindsRow.holds Try.pinned (OpenSpec.ofChange Rows.lexiconFindsSpec) :=
  OpenClaim.holds_of_wide 5 Try.f5 rfl rfl rfl rfl rfl rfl rfl ⟨rfl, rfl, rfl, rfl, rfl⟩ rfl rfl rfl rfl rfl (by kernel_rfl) Try.func5 (by kernel_rfl)
    (of_decide_eq_true (by kernel_rfl)) (by unfold Func.isWrapper; first | (rw [if_pos (by decide +kernel)]; kernel_rfl) | (rw [if_neg (by decide +kernel)]; exact ⟨rfl, rfl⟩))
    (fun os started H enc _ => lifted os started H enc)

/-- THE STATEMENT. -/
theorem proved : Rows.LexiconFindsSaid := over
end Go.Proofs.Ytfcekoedhbmaeaa.lexiconFinds
