/-
  LexiconParts is proved: for every list of strings and every string the call of the law returns true, and each argument reads afterwards as it read before. It has no condition.
-/
import Derived.Test.YtfcekoedhbmaeaaRows
import Derived.Test.YtfcekoedhbmaeaaLzO
import Derived.Test.YtfcekoedhbmaeaaLzP
import Derived.Test.YtfcekoedhbmaeaaLxL
import Derived.Test.YtfcekoedhbmaeaaLzT
import Derived.Test.YtfcekoedhbmaeaaLzW
import Derived.Test.YtfcekoedhbmaeaaLzN
import Derived.Test.YtfcekoedhbmaeaaLxP
import Derived.ProofKit
import Derived.OpenShut
import Derived.Carry
namespace Go.Proofs.Ytfcekoedhbmaeaa.lexiconParts
open Go.ChangeShapes Go.WideShapes Go.ChangeAt Go.RowKit Go.Shelf Go.Lib
set_option linter.unusedVariables false

set_option maxRecDepth 100000 in
set_option maxHeartbeats 8000000 in
theorem walk {w : World} (v : Value) (vs : Fs) (hv : Rows 1 EStr w v vs) (hm : vs.length ≤ maxLen) (hz : ∀ x ∈ vs, x.length ≤ maxLen) (S : ByteArray) (hS0 : S.size ≤ maxLen) :
    Calls Try.prog 6 #[v, .string S] w fun e w1 => e = .returned (.bool true) ∧ Below w.heap.size w w1 := by
  have HBU := Lib.hid (built_any hv hm hz)
  have HLO := Lib.hid (long_any hv hm)
  have HA := Lib.hid (fun (W : World) => awake_any W)
  obtain ⟨s, hs⟩ : ∃ s : Wd, S.data.toList = s := ⟨_, rfl⟩
  have hS : (⟨s.toArray⟩ : ByteArray) = S := by rw [← hs]
  have HS := Lib.hid hS
  obtain ⟨A, cap, rfl, hc⟩ := hv.form
  obtain ⟨n, hn⟩ : ∃ n, vs.length = n := ⟨_, rfl⟩
  rw [hn] at HBU HLO hm ⊢
  have hsl : s.length ≤ maxLen := by rw [← hs]; exact hS0
  have HSL := Lib.hid hsl
  clear hv hc hn hz hs hS hS0 hsl
  go_enter Try.func6, Try.ntmps6
  go_wp2_with fail
  refine HLO.out.mono ?_
  rintro e w2 ⟨⟨q, rfl, hq⟩, hw⟩
  obtain rfl := hw.symm
  clear hw
  cases q with
  | true =>
    clear hq HBU
    go_wp2_with fail
    go_ret
    exact ⟨rfl, Below.refl _ _⟩
  | false =>
    clear hq HLO
    go_wp2_with fail
    refine HBU.out.mono ?_
    rintro e w3 ⟨hb3, hans⟩
    have HB3 := Lib.hid hb3
    rcases hans with ⟨_, rfl⟩ | ⟨_, p, vW, vC, rfl, hL, hrW, hrC⟩
    · clear hb3 HBU HS
      go_wp2_with fail
      refine (HA.out _).mono ?_
      rintro e w4 ⟨rfl, hb4⟩
      have HB4 := Lib.hid (HB3.out.trans (((below_box w3 _).trans (hb4.mono (below_box w3 _).size)).mono HB3.out.size))
      clear hb4
      go_wp2_with fail
      go_ret
      exact ⟨rfl, HB4.out⟩
    · obtain ⟨A1, c1, rfl, hc1⟩ := hrW.form
      obtain ⟨A2, c2, rfl, hc2⟩ := hrC.form
      have hcl : (intsN (cntW vs (lexW vs))).length = (lexW vs).length := by simp [cntW]
      rw [hcl] at hrC hc2 ⊢
      obtain ⟨ws, hws⟩ : ∃ ws, lexW vs = ws := ⟨_, rfl⟩
      obtain ⟨cs, hcs⟩ : ∃ cs, cntW vs ws = cs := ⟨_, rfl⟩
      rw [hws, hcs] at hL hrC
      rw [hws] at hrW hc1 ⊢
      rw [hws] at hc2
      have hfew := hL.ok.few
      have hle := hL.ok.len
      obtain ⟨m, hmm⟩ : ∃ m, ws.length = m := ⟨_, rfl⟩
      rw [hmm] at hrW hrC hc1 hc2 hfew hle ⊢
      have HM := Lib.hid hmm
      have HLE := Lib.hid hle
      obtain ⟨W4, hW4⟩ : ∃ W4, w3.alloc (.cells #[.slice A1 m c1, .slice A2 m c2] 27) = W4 := ⟨_, rfl⟩
      obtain ⟨N4, hN4⟩ : ∃ N4, w3.heap.size = N4 := ⟨_, rfl⟩
      have hb4 : Below w3.heap.size w3 W4 := by rw [← hW4]; exact below_box _ _
      have hbx : W4.heap[N4]? = some (.cells #[.slice A1 m c1, .slice A2 m c2] 27 (0, 0)) := by rw [← hW4, ← hN4]; exact block_new _ _
      have HW4 := Lib.hid hW4
      have HN4 := Lib.hid hN4
      have HBX := Lib.hid (fun W (hb : Below W4.heap.size W4 W) => block_below hbx hb (Array.getElem?_eq_some_iff.1 hbx).1)
      have HRW := Lib.hid (fun W (hb : Below W4.heap.size W4 W) => hrW.below stays_str (hb4.trans (hb.mono hb4.size)))
      have HRC := Lib.hid (fun W (hb : Below W4.heap.size W4 W) => hrC.below stays_int (hb4.trans (hb.mono hb4.size)))
      have HL := Lib.hid (fun W (hb : Below W4.heap.size W4 W) => hL.below (hb4.trans (hb.mono hb4.size)))
      have HB4 := Lib.hid (show Below w.heap.size w W4 from HB3.out.trans (hb4.mono HB3.out.size))
      clear hb3 hb4 hbx hW4 hN4 HBU hrW hrC hcl hws hcs hmm hL hle
      have HVL := Lib.hid (show ∀ x ∈ ws, x.length ≤ 120 from fun x hx => (HL.out W4 (Below.refl _ _)).ok.val x hx |>.1)
      have HPR := Lib.hid (fun W (hb : Below W4.heap.size W4 W) => prefix_any (HL.out W hb) s)
      have HRP := Lib.hid (fun W (hb : Below W4.heap.size W4 W) => refPrefix_any (vc := .slice A2 m c2) (HRW.out W hb) (by rw [HM.out]; unfold maxLen; omega) (HL.out W hb).ok.asc s)
      have HSU := Lib.hid (fun W (hb : Below W4.heap.size W4 W) => suffix_any (HL.out W hb) s)
      have HRS := Lib.hid (fun W (hb : Below W4.heap.size W4 W) => refSuffix_any (HRW.out W hb) (HRC.out W hb) (HLE.out.trans HM.out.symm) (by rw [HM.out]; omega) HVL.out s HSL.out)
      have hR : (intsN (sufL ws s (ordK (kyL ws) ws.length))).length ≤ maxLen := by
        rw [List.length_map]
        refine Nat.le_trans (sufL_len _ _ _) ?_
        rw [ordK_len, HM.out]
        unfold maxLen
        omega
      obtain ⟨R, hRR⟩ : ∃ R, sufL ws s (ordK (kyL ws) ws.length) = R := ⟨_, rfl⟩
      rw [hRR] at hR
      simp only [hRR] at HSU HRS
      rw [HS.out] at HPR HRP HSU HRS
      unfold PreV at HPR HRP
      obtain ⟨f, hf⟩ : ∃ f, (preP ws s).1 = f := ⟨_, rfl⟩
      obtain ⟨t, ht⟩ : ∃ t, (preP ws s).2 = t := ⟨_, rfl⟩
      rw [hf, ht] at HPR HRP
      have HLR := Lib.hid hR
      have HSK := Lib.hid (fun W (hb : Below W4.heap.size W4 W) => (show W.cell? ⟨N4, 0, none⟩ = some (Value.slice A1 m c1) ∧ W.cell? ⟨N4, 1, none⟩ = some (Value.slice A2 m c2) from ⟨cell_of (HBX.out W hb) rfl, cell_of (HBX.out W hb) rfl⟩))
      clear hR hRR hf ht
      go_upto_region 4 with fail
      rw [HW4.out, HN4.out]
      go_wp2_with fail
      refine (HPR.out W4 (Below.refl _ _)).mono ?_
      rintro e w5 ⟨rfl, hb5⟩
      have HB5 := Lib.hid hb5
      have d0 := (HSK.out w5 hb5).1
      have d1 := (HSK.out w5 hb5).2
      clear hb5 HPR
      go_wp2_with fail
      refine (HRP.out w5 HB5.out).mono ?_
      rintro e w6 ⟨rfl, hb6⟩
      have HX0 := Lib.hid (show Below W4.heap.size W4 w6 from HB5.out.trans (hb6.mono HB5.out.size))
      clear hb6 d0 d1 HRP
      go_wp2_with fail
      refine wp_region_held_drew (S := (fun w' => w'.cell? ⟨N4, 0, none⟩ = some (Value.slice A1 m c1) ∧ w'.cell? ⟨N4, 1, none⟩ = some (Value.slice A2 m c2))) (by kernel_rfl) ?_ (fun hHeld => ?_)
      · (try dsimp only); exact HSK.out _ HX0.out.drew
      refine wpAnyH_take (i := 0) (oi := ?oi1) (v := ?v1) ?hi1 (by kernel_rfl) (by kernel_rfl) (by kernel_rfl) ?hq1 ?hy1 (by assumption) ?hr1
      case hi1 => (simp only [List.getElem?_toArray, List.getElem?_cons_zero]; rfl)
      case hq1 => exact fun _ _ _ h => h
      case hy1 => exact Or.inl ⟨by rfl, by intro whSw hSw'; (try dsimp only at hSw'); (first | (go_simp; done) | (go_simp; with_reducible rfl))⟩
      try simp only [Act.put, List.setIfInBounds_toArray, List.set_cons_zero, List.set_cons_succ]
      refine wpAnyH_take (i := 1) (oi := ?oi2) (v := ?v2) ?hi2 (by kernel_rfl) (by kernel_rfl) (by kernel_rfl) ?hq2 ?hy2 (by assumption) ?hr2
      case hi2 => (simp only [List.getElem?_toArray, List.getElem?_cons_succ, List.getElem?_cons_zero]; rfl)
      case hq2 => exact fun _ _ _ h => h
      case hy2 => exact Or.inl ⟨by rfl, by intro whSw hSw'; (try dsimp only at hSw'); (first | (go_simp; done) | (go_simp; with_reducible rfl))⟩
      try simp only [Act.put, List.setIfInBounds_toArray, List.set_cons_zero, List.set_cons_succ]
      refine wpAnyH_take (i := 2) (oi := ?oi3) (v := ?v3) ?hi3 (by kernel_rfl) (by kernel_rfl) (by kernel_rfl) ?hq3 ?hy3 (by assumption) ?hr3
      case hi3 => (simp only [List.getElem?_toArray, List.getElem?_cons_succ, List.getElem?_cons_zero]; rfl)
      case hq3 => exact fun _ _ _ h => h
      case hy3 => exact Or.inl ⟨by rfl, by intro whSw hSw'; (try dsimp only at hSw'); (first | (go_simp; done) | (go_simp; with_reducible rfl))⟩
      try simp only [Act.put, List.setIfInBounds_toArray, List.set_cons_zero, List.set_cons_succ]
      refine wpAnyH_take (i := 3) (oi := ?oi4) (v := ?v4) ?hi4 (by kernel_rfl) (by kernel_rfl) (by kernel_rfl) ?hq4 ?hy4 (by assumption) ?hr4
      case hi4 => (simp only [List.getElem?_toArray, List.getElem?_cons_succ, List.getElem?_cons_zero]; rfl)
      case hq4 => exact fun _ _ _ h => h
      case hy4 => exact Or.inl ⟨by rfl, by intro whSw hSw'; (try dsimp only at hSw'); (first | (go_simp; done) | (go_simp; with_reducible rfl))⟩
      try simp only [Act.put, List.setIfInBounds_toArray, List.set_cons_zero, List.set_cons_succ]
      refine wpAnyH_take (i := 4) (oi := ?oi5) (v := ?v5) ?hi5 (by kernel_rfl) (by kernel_rfl) (by kernel_rfl) ?hq5 ?hy5 (by assumption) ?hr5
      case hi5 => (simp only [List.getElem?_toArray, List.getElem?_cons_succ, List.getElem?_cons_zero]; rfl)
      case hq5 => exact fun _ _ _ h => h
      case hy5 => first | exact Or.inl ⟨by rfl, by intro whSw hSw'; (try dsimp only at hSw'); (first | (go_simp; done) | (go_simp; with_reducible rfl))⟩ | exact Or.inr ⟨by rfl, by with_reducible rfl⟩ | fail
      try simp only [Act.put, List.setIfInBounds_toArray, List.set_cons_zero, List.set_cons_succ]
      refine wpAnyH_take (i := 5) (oi := ?oi6) (v := ?v6) ?hi6 (by kernel_rfl) (by kernel_rfl) (by kernel_rfl) ?hq6 ?hy6 (by assumption) ?hr6
      case hi6 => (simp only [List.getElem?_toArray, List.getElem?_cons_succ, List.getElem?_cons_zero]; rfl)
      case hq6 => exact fun _ _ _ h => h
      case hy6 => first | exact Or.inl ⟨by rfl, by intro whSw hSw'; (try dsimp only at hSw'); (first | (go_simp; done) | (go_simp; with_reducible rfl))⟩ | exact Or.inr ⟨by rfl, by with_reducible rfl⟩ | fail
      try simp only [Act.put, List.setIfInBounds_toArray, List.set_cons_zero, List.set_cons_succ]
      refine wpAnyH_take (i := 6) (oi := ?oi7) (v := ?v7) ?hi7 (by kernel_rfl) (by kernel_rfl) (by kernel_rfl) ?hq7 ?hy7 (by assumption) ?hr7
      case hi7 => (simp only [List.getElem?_toArray, List.getElem?_cons_succ, List.getElem?_cons_zero]; rfl)
      case hq7 => exact fun _ _ _ h => h
      case hy7 => first | exact Or.inl ⟨by rfl, by intro whSw hSw'; (try dsimp only at hSw'); (first | (go_simp; done) | (go_simp; with_reducible rfl))⟩ | exact Or.inr ⟨by rfl, by with_reducible rfl⟩ | fail
      try simp only [Act.put, List.setIfInBounds_toArray, List.set_cons_zero, List.set_cons_succ]
      refine wpAnyH_take (i := 7) (oi := ?oi8) (v := ?v8) ?hi8 (by kernel_rfl) (by kernel_rfl) (by kernel_rfl) ?hq8 ?hy8 (by assumption) ?hr8
      case hi8 => (simp only [List.getElem?_toArray, List.getElem?_cons_succ, List.getElem?_cons_zero]; rfl)
      case hq8 => exact fun _ _ _ h => h
      case hy8 => exact Or.inl ⟨by rfl, by intro whSw hSw'; (try dsimp only at hSw'); (first | (go_simp; done) | (go_simp; with_reducible rfl))⟩
      try simp only [Act.put, List.setIfInBounds_toArray, List.set_cons_zero, List.set_cons_succ]
      refine wpAnyH_take (i := 8) (oi := ?oi9) (v := ?v9) ?hi9 (by kernel_rfl) (by kernel_rfl) (by kernel_rfl) ?hq9 ?hy9 (by assumption) ?hr9
      case hi9 => (simp only [List.getElem?_toArray, List.getElem?_cons_succ, List.getElem?_cons_zero]; rfl)
      case hq9 => exact fun _ _ _ h => h
      case hy9 => exact Or.inl ⟨by rfl, by intro whSw hSw'; (try dsimp only at hSw'); (first | (go_simp; done) | (go_simp; with_reducible rfl))⟩
      try simp only [Act.put, List.setIfInBounds_toArray, List.set_cons_zero, List.set_cons_succ]
      refine wpAnyH_take (i := 9) (oi := ?oi10) (v := ?v10) ?hi10 (by kernel_rfl) (by kernel_rfl) (by kernel_rfl) ?hq10 ?hy10 (by assumption) ?hr10
      case hi10 => (simp only [List.getElem?_toArray, List.getElem?_cons_succ, List.getElem?_cons_zero]; rfl)
      case hq10 => exact fun _ _ _ h => h
      case hy10 => first | exact Or.inl ⟨by rfl, by intro whSw hSw'; (try dsimp only at hSw'); (first | (go_simp; done) | (go_simp; with_reducible rfl))⟩ | exact Or.inr ⟨by rfl, by with_reducible rfl⟩ | fail
      try simp only [Act.put, List.setIfInBounds_toArray, List.set_cons_zero, List.set_cons_succ]
      refine wpAnyH_take (i := 10) (oi := ?oi11) (v := ?v11) ?hi11 (by kernel_rfl) (by kernel_rfl) (by kernel_rfl) ?hq11 ?hy11 (by assumption) ?hr11
      case hi11 => (simp only [List.getElem?_toArray, List.getElem?_cons_succ, List.getElem?_cons_zero]; rfl)
      case hq11 => exact fun _ _ _ h => h
      case hy11 => first | exact Or.inl ⟨by rfl, by intro whSw hSw'; (try dsimp only at hSw'); (first | (go_simp; done) | (go_simp; with_reducible rfl))⟩ | exact Or.inr ⟨by rfl, by with_reducible rfl⟩ | fail
      try simp only [Act.put, List.setIfInBounds_toArray, List.set_cons_zero, List.set_cons_succ]
      refine wpAnyH_take (i := 12) (oi := ?oi12) (v := ?v12) ?hi12 (by kernel_rfl) (by kernel_rfl) (by kernel_rfl) ?hq12 ?hy12 (by assumption) ?hr12
      case hi12 => (simp only [List.getElem?_toArray, List.getElem?_cons_succ, List.getElem?_cons_zero]; rfl)
      case hq12 => exact fun _ _ _ h => h
      case hy12 => first | exact Or.inl ⟨by rfl, by intro whSw hSw'; (try dsimp only at hSw'); (first | (go_simp; done) | (go_simp; with_reducible rfl))⟩ | exact Or.inr ⟨by rfl, by with_reducible rfl⟩ | fail
      try simp only [Act.put, List.setIfInBounds_toArray, List.set_cons_zero, List.set_cons_succ]
      refine wpAnyH_take (i := 13) (oi := ?oi13) (v := ?v13) ?hi13 (by kernel_rfl) (by kernel_rfl) (by kernel_rfl) ?hq13 ?hy13 (by assumption) ?hr13
      case hi13 => (simp only [List.getElem?_toArray, List.getElem?_cons_succ, List.getElem?_cons_zero]; rfl)
      case hq13 => exact fun _ _ _ h => h
      case hy13 => first | exact Or.inl ⟨by rfl, by intro whSw hSw'; (try dsimp only at hSw'); (first | (go_simp; done) | (go_simp; with_reducible rfl))⟩ | exact Or.inr ⟨by rfl, by with_reducible rfl⟩ | fail
      try simp only [Act.put, List.setIfInBounds_toArray, List.set_cons_zero, List.set_cons_succ]
      refine wpAnyH_ready (rs := [11]) (by kernel_rfl) (by simp) ?_
      refine AllReadyH.cons (o := ?oo14) ?hi14 (fun K hK => ?hs14) ?hm14
      case hi14 => (simp only [List.getElem?_toArray, List.getElem?_cons_succ, List.getElem?_cons_zero]; rfl)
      · go_simp
        refine (HSU.out _ HX0.out.drew).mono ?_
        rintro e y1 ⟨v1, rfl, hr1, hb1⟩
        have HX1 : Hid (Below W4.heap.size W4 y1) := Lib.hid (HX0.out.drew.trans (hb1.mono HX0.out.size))
        have HR1 := Lib.hid hr1
        clear hr1 hb1
        (try go_wp2_with fail)
        refine hK.out _ _ ?_ (fun hHeld => ?_)
        · (try dsimp only); first | exact HSK.out _ HX4.out | exact HSK.out _ HX3.out | exact HSK.out _ HX2.out | exact HSK.out _ HX1.out | exact HSK.out _ HX0.out.drew
        clear hK K
        try simp only [Act.put, List.setIfInBounds_toArray, List.set_cons_zero, List.set_cons_succ]
        refine wpAnyH_ready (rs := [14]) (by kernel_rfl) (by simp) ?_
        refine AllReadyH.cons (o := ?oo15) ?hi15 (fun K hK => ?hs15) ?hm15
        case hi15 => (simp only [List.getElem?_toArray, List.getElem?_cons_succ, List.getElem?_cons_zero]; rfl)
        · go_simp
          refine (HRS.out _ HX1.out).mono ?_
          rintro e y2 ⟨v2, rfl, hr2, hb2⟩
          have HX2 : Hid (Below W4.heap.size W4 y2) := Lib.hid (HX1.out.trans (hb2.mono HX1.out.size))
          have HS2 := Lib.hid (sameInts_eq (HR1.out.below stays_int hb2) hr2 HLR.out)
          clear hr2 hb2 HR1
          (try go_wp2_with fail)
          refine hK.out _ _ ?_ (fun hHeld => ?_)
          · (try dsimp only); first | exact HSK.out _ HX4.out | exact HSK.out _ HX3.out | exact HSK.out _ HX2.out | exact HSK.out _ HX1.out | exact HSK.out _ HX0.out.drew
          clear hK K
          try simp only [Act.put, List.setIfInBounds_toArray, List.set_cons_zero, List.set_cons_succ]
          refine wpAnyH_ready (rs := [15]) (by kernel_rfl) (by simp) ?_
          refine AllReadyH.cons (o := ?oo16) ?hi16 (fun K hK => ?hs16) ?hm16
          case hi16 => (simp only [List.getElem?_toArray, List.getElem?_cons_succ, List.getElem?_cons_zero]; rfl)
          · go_simp
            refine HS2.out.mono ?_
            rintro e y3 ⟨rfl, hb3⟩
            have HX3 : Hid (Below W4.heap.size W4 y3) := Lib.hid (HX2.out.trans (hb3.mono HX2.out.size))
            clear hb3
            (try go_wp2_with fail)
            refine hK.out _ _ ?_ (fun hHeld => ?_)
            · (try dsimp only); first | exact HSK.out _ HX4.out | exact HSK.out _ HX3.out | exact HSK.out _ HX2.out | exact HSK.out _ HX1.out | exact HSK.out _ HX0.out.drew
            clear hK K
            try simp only [Act.put, List.setIfInBounds_toArray, List.set_cons_zero, List.set_cons_succ]
            refine wpAnyH_take (i := 16) (oi := ?oi17) (v := ?v17) ?hi17 (by kernel_rfl) (by kernel_rfl) (by kernel_rfl) ?hq17 ?hy17 (by assumption) ?hr17
            case hi17 => (simp only [List.getElem?_toArray, List.getElem?_cons_succ, List.getElem?_cons_zero]; rfl)
            case hq17 => exact fun _ _ _ h => h
            case hy17 => exact Or.inl ⟨by rfl, by intro whSw hSw'; (try dsimp only at hSw'); (first | (go_simp; done) | (go_simp; with_reducible rfl))⟩
            try simp only [Act.put, List.setIfInBounds_toArray, List.set_cons_zero, List.set_cons_succ]
            refine wpAnyH_take (i := 17) (oi := ?oi18) (v := ?v18) ?hi18 (by kernel_rfl) (by kernel_rfl) (by kernel_rfl) ?hq18 ?hy18 (by assumption) ?hr18
            case hi18 => (simp only [List.getElem?_toArray, List.getElem?_cons_succ, List.getElem?_cons_zero]; rfl)
            case hq18 => exact fun _ _ _ h => h
            case hy18 => exact Or.inl ⟨by rfl, by intro whSw hSw'; (try dsimp only at hSw'); (first | (go_simp; done) | (go_simp; with_reducible rfl))⟩
            try simp only [Act.put, List.setIfInBounds_toArray, List.set_cons_zero, List.set_cons_succ]
            refine wpAnyH_ready (rs := [18]) (by kernel_rfl) (by simp) ?_
            refine AllReadyH.cons (o := ?oo19) ?hi19 (fun K hK => ?hs19) ?hm19
            case hi19 => (simp only [List.getElem?_toArray, List.getElem?_cons_succ, List.getElem?_cons_zero]; rfl)
            · go_simp
              refine (Lib.hid (HA.out y3)).out.mono ?_
              rintro e y4 ⟨rfl, hb4⟩
              have HX4 : Hid (Below W4.heap.size W4 y4) := Lib.hid (HX3.out.trans (hb4.mono HX3.out.size))
              clear hb4
              (try go_wp2_with fail)
              refine hK.out _ _ ?_ (fun hHeld => ?_)
              · (try dsimp only); first | exact HSK.out _ HX4.out | exact HSK.out _ HX3.out | exact HSK.out _ HX2.out | exact HSK.out _ HX1.out | exact HSK.out _ HX0.out.drew
              clear hK K
              try simp only [Act.put, List.setIfInBounds_toArray, List.set_cons_zero, List.set_cons_succ]
              refine wpAnyH_take (i := 19) (oi := ?oi20) (v := ?v20) ?hi20 (by kernel_rfl) (by kernel_rfl) (by kernel_rfl) ?hq20 ?hy20 (by assumption) ?hr20
              case hi20 => (simp only [List.getElem?_toArray, List.getElem?_cons_succ, List.getElem?_cons_zero]; rfl)
              case hq20 => exact fun _ _ _ h => h
              case hy20 => exact Or.inl ⟨by rfl, by intro whSw hSw'; (try dsimp only at hSw'); (first | (go_simp; done) | (go_simp; with_reducible rfl))⟩
              try simp only [Act.put, List.setIfInBounds_toArray, List.set_cons_zero, List.set_cons_succ]
              refine wpAnyH_take (i := 20) (oi := ?oi21) (v := ?v21) ?hi21 (by kernel_rfl) (by kernel_rfl) (by kernel_rfl) ?hq21 ?hy21 (by assumption) ?hr21
              case hi21 => (simp only [List.getElem?_toArray, List.getElem?_cons_succ, List.getElem?_cons_zero]; rfl)
              case hq21 => exact fun _ _ _ h => h
              case hy21 => exact Or.inl ⟨by rfl, by intro whSw hSw'; (try dsimp only at hSw'); (first | (go_simp; done) | (go_simp; with_reducible rfl))⟩
              try simp only [Act.put, List.setIfInBounds_toArray, List.set_cons_zero, List.set_cons_succ]
              refine wpAnyH_done (by kernel_rfl) ?_ _
              go_wp2_with fail
              go_ret
              exact ⟨rfl, HB4.out.trans (HX4.out.mono HB4.out.size)⟩
            exact AllReadyH.nil
          exact AllReadyH.nil
        exact AllReadyH.nil
      exact AllReadyH.nil

theorem own : ownKnob Try.prog.godebug = none := by kernel_rfl

set_option maxRecDepth 100000 in
theorem lifted (os : Os) (started : os.Started) (H : Type) (enc : TypeId × Value → H) :
    ReturnsInHanded {} Try.checked os 6 .any (Rows.lexiconPartsSpec.pre6 enc Try.prog Try.f6 Rows.lexiconPartsRow.domain false) (Rows.lexiconPartsSpec.post enc Try.prog Try.f6 false true false false) := by
  refine returnsInHanded_of_change (C := Try.checked) own started (by kernel_rfl) Try.func6
    (ChangeSpec.witness6 (enc := enc) (C := Try.checked) false ⟨#[], #[.slice none 0 0, .string ⟨#[]⟩], []⟩ 8 (by kernel_rfl) (by kernel_rfl) (by kernel_rfl) (by kernel_rfl)) ?_
  intro W base args ds gs before hval0 hW hcnd _
  have hval : ∀ (j : Nat) t v, Try.f6.params[j]? = some t → args[j]? = some v → Value.okWide Try.prog W .any base t v := hval0
  have hW' := hW
  have hplt : ∀ x ∈ before, x.block < W.heap.size := fun x hx => hW.lt x hx
  obtain ⟨p, q, hA0, hV, rfl, hfz, hnd⟩ := hW
  have hA : DataW.TrodAll enc Try.prog W 0 (fun _ => true) true Try.f6.params.toList args.toList ds p := hA0
  rw [Try.params6] at hA hval
  obtain ⟨v0, vs0, d0, ds0, p0, q0, hargs, rfl, rfl, h0, r0⟩ := trodAll_cons hA
  obtain ⟨v1, vs1, d1, ds1, p1, q1, rfl, rfl, rfl, h1, r1⟩ := trodAll_cons r0
  obtain ⟨rfl, rfl, rfl⟩ := trodAll_nil r1
  obtain rfl : args = #[v0, v1] := by cases args; simp_all
  obtain ⟨rfl, rfl⟩ := trodVars_none hV
  obtain ⟨l0, s0, m0, n0⟩ := open_rowS (hval 0 22 v0 rfl rfl) h0
  obtain ⟨a1, rfl, m1⟩ := open_str (hval 1 9 v1 rfl rfl) h1
  clear hA0 hval0
  refine (walk v0 l0 s0 m0 n0 a1 m1).mono fun e W' ⟨he, bel⟩ => ?_
  subst he
  exact ⟨_, rfl, _, _, _, [], _, [], hW', trodAll_mk1 (shut_bool Try.underlying4 _), (trodAll_cons_mk (Below.trod Try.laidOut (by kernel_rfl) (of_decide_eq_true (by kernel_rfl)) h0 bel (fun x hx => hplt x (by simp [hx]))) (trodAll_cons_mk (Below.trod Try.laidOut (by kernel_rfl) (of_decide_eq_true (by kernel_rfl)) h1 bel (fun x hx => hplt x (by simp [hx]))) trodAll_mk0)), rfl, World.keptBut_mono (fun x hx => ⟨hx, Or.inr (by simpa using hx)⟩) (bel.frame (· ∈ _)), fun h => by cases h⟩

theorem over : Rows.lexiconPartsRow.holds Try.pinned (OpenSpec.ofChange Rows.lexiconPartsSpec) :=
  OpenClaim.holds_of_wide 6 Try.f6 rfl rfl rfl rfl rfl rfl rfl ⟨rfl, rfl, rfl, rfl, rfl⟩ rfl rfl rfl rfl rfl (by kernel_rfl) Try.func6 (by kernel_rfl)
    (of_decide_eq_true (by kernel_rfl)) (by unfold Func.isWrapper; first | (rw [if_pos (by decide +kernel)]; kernel_rfl) | (rw [if_neg (by decide +kernel)]; exact ⟨rfl, rfl⟩))
    (fun os started H enc _ => lifted os started H enc)

/-- THE STATEMENT. -/
theorem proved : Rows.LexiconPartsSaid := over
end Go.Proofs.Ytfcekoedhbmaeaa.lexiconParts
