/-
  LexiconOrders is proved: for every list of strings the call of the law returns true, and each argument reads afterwards as it read before. It has no condition.
-/
import Derived.Test.YtfcekoedhbmaeaaRows
import Derived.Test.YtfcekoedhbmaeaaLzO
import Derived.Test.YtfcekoedhbmaeaaLzP
import Derived.Test.YtfcekoedhbmaeaaLxL
import Derived.Test.YtfcekoedhbmaeaaLzT
import Derived.Test.YtfcekoedhbmaeaaLzV
import Derived.ProofKit
import Derived.OpenShut
import Derived.Carry
namespace Go.Proofs.Ytfcekoedhbmaeaa.lexiconOrders
open Go.ChangeShapes Go.WideShapes Go.ChangeAt Go.RowKit Go.Shelf Go.Lib
set_option linter.unusedVariables false

set_option maxRecDepth 100000 in
set_option maxHeartbeats 8000000 in
theorem walk {w : World} (v : Value) (vs : Fs) (hv : Rows 1 EStr w v vs) (hm : vs.length ≤ maxLen) (hz : ∀ x ∈ vs, x.length ≤ maxLen) :
    Calls Try.prog 7 #[v] w fun e w1 => e = .returned (.bool true) ∧ Below w.heap.size w w1 := by
  have HBU := Lib.hid (built_any hv hm hz)
  have HLO := Lib.hid (long_any hv hm)
  have HA := Lib.hid (fun (W : World) => awake_any W)
  obtain ⟨A, cap, rfl, hc⟩ := hv.form
  obtain ⟨n, hn⟩ : ∃ n, vs.length = n := ⟨_, rfl⟩
  rw [hn] at HBU HLO hm ⊢
  clear hv hc hn hz
  go_enter Try.func7, Try.ntmps7
  go_wp2_with fail
  refine HLO.out.mono ?_
  rintro e w2 ⟨⟨q, rfl, hq⟩, hw⟩
  obtain rfl := hw.symm
  clear hw
  cases q with
  | true =>
    clear hq HBU
    go_wp2_with fail
    go_ret
    exact ⟨rfl, Below.refl _ _⟩
  | false =>
    clear hq HLO
    go_wp2_with fail
    refine HBU.out.mono ?_
    rintro e w3 ⟨hb3, hans⟩
    have HB3 := Lib.hid hb3
    rcases hans with ⟨_, rfl⟩ | ⟨_, p, vW, vC, rfl, hL, hrW, hrC⟩
    · clear hb3 HBU
      go_wp2_with fail
      refine (HA.out _).mono ?_
      rintro e w4 ⟨rfl, hb4⟩
      have HB4 := Lib.hid (HB3.out.trans (((below_box w3 _).trans (hb4.mono (below_box w3 _).size)).mono HB3.out.size))
      clear hb4
      go_wp2_with fail
      go_ret
      exact ⟨rfl, HB4.out⟩
    · obtain ⟨A1, c1, rfl, hc1⟩ := hrW.form
      obtain ⟨A2, c2, rfl, hc2⟩ := hrC.form
      have hcl : (intsN (cntW vs (lexW vs))).length = (lexW vs).length := by simp [cntW]
      rw [hcl] at hrC hc2 ⊢
      obtain ⟨ws, hws⟩ : ∃ ws, lexW vs = ws := ⟨_, rfl⟩
      obtain ⟨cs, hcs⟩ : ∃ cs, cntW vs ws = cs := ⟨_, rfl⟩
      rw [hws, hcs] at hL hrC
      rw [hws] at hrW hc1 ⊢
      rw [hws] at hc2
      have hfew := hL.ok.few
      have hle := hL.ok.len
      obtain ⟨m, hmm⟩ : ∃ m, ws.length = m := ⟨_, rfl⟩
      rw [hmm] at hrW hrC hc1 hc2 hfew hle ⊢
      have HM := Lib.hid hmm
      have HLE := Lib.hid hle
      obtain ⟨W4, hW4⟩ : ∃ W4, w3.alloc (.cells #[.slice A1 m c1, .slice A2 m c2] 27) = W4 := ⟨_, rfl⟩
      obtain ⟨N4, hN4⟩ : ∃ N4, w3.heap.size = N4 := ⟨_, rfl⟩
      have hb4 : Below w3.heap.size w3 W4 := by rw [← hW4]; exact below_box _ _
      have hbx : W4.heap[N4]? = some (.cells #[.slice A1 m c1, .slice A2 m c2] 27 (0, 0)) := by rw [← hW4, ← hN4]; exact block_new _ _
      have HW4 := Lib.hid hW4
      have HN4 := Lib.hid hN4
      have HBX := Lib.hid (fun W (hb : Below W4.heap.size W4 W) => block_below hbx hb (Array.getElem?_eq_some_iff.1 hbx).1)
      have HRW := Lib.hid (fun W (hb : Below W4.heap.size W4 W) => hrW.below stays_str (hb4.trans (hb.mono hb4.size)))
      have HRC := Lib.hid (fun W (hb : Below W4.heap.size W4 W) => hrC.below stays_int (hb4.trans (hb.mono hb4.size)))
      have HL := Lib.hid (fun W (hb : Below W4.heap.size W4 W) => hL.below (hb4.trans (hb.mono hb4.size)))
      have HB4 := Lib.hid (show Below w.heap.size w W4 from HB3.out.trans (hb4.mono HB3.out.size))
      clear hb3 hb4 hbx hW4 hN4 HBU hrW hrC hcl hws hcs hmm hL hle
      have HVL := Lib.hid (show ∀ x ∈ ws, x.length ≤ 120 from fun x hx => (HL.out W4 (Below.refl _ _)).ok.val x hx |>.1)
      have HBR := Lib.hid (fun W (hb : Below W4.heap.size W4 W) => byReverse_any (HL.out W hb))
      have HBC := Lib.hid (fun W (hb : Below W4.heap.size W4 W) => byCount_any (HL.out W hb))
      have HRR := Lib.hid (fun W (hb : Below W4.heap.size W4 W) => refByReverse_any (HRW.out W hb) (HRC.out W hb) (HLE.out.trans HM.out.symm) (by rw [HM.out]; omega) HVL.out)
      have HRB := Lib.hid (fun W (hb : Below W4.heap.size W4 W) => refByCount_any (HRW.out W hb) (HRC.out W hb) (HLE.out.trans HM.out.symm) (by rw [HM.out]; omega))
      have hR : (intsN (ordK (kyL ws) ws.length)).length ≤ maxLen := by rw [List.length_map, ordK_len, HM.out]; unfold maxLen; omega
      have hC : (intsN (ordC (fun i => cs.getD i 0) cs.length)).length ≤ maxLen := by rw [List.length_map, ordC_len, HLE.out]; unfold maxLen; omega
      obtain ⟨R, hRR⟩ : ∃ R, ordK (kyL ws) ws.length = R := ⟨_, rfl⟩
      obtain ⟨C, hCC⟩ : ∃ C, ordC (fun i => cs.getD i 0) cs.length = C := ⟨_, rfl⟩
      rw [hRR] at hR
      rw [hCC] at hC
      simp only [hRR] at HBR HRR
      simp only [hCC] at HBC HRB
      have HLR := Lib.hid hR
      have HLC := Lib.hid hC
      have HSK := Lib.hid (fun W (hb : Below W4.heap.size W4 W) => (show W.cell? ⟨N4, 0, none⟩ = some (Value.slice A1 m c1) ∧ W.cell? ⟨N4, 1, none⟩ = some (Value.slice A2 m c2) from ⟨cell_of (HBX.out W hb) rfl, cell_of (HBX.out W hb) rfl⟩))
      clear hR hC hRR hCC
      go_upto_region 4 with fail
      rw [HW4.out, HN4.out]
      go_wp2_with fail
      refine wp_region_held_drew (S := (fun w' => w'.cell? ⟨N4, 0, none⟩ = some (Value.slice A1 m c1) ∧ w'.cell? ⟨N4, 1, none⟩ = some (Value.slice A2 m c2))) (by kernel_rfl) ?_ (fun hHeld => ?_)
      · (try dsimp only); exact HSK.out _ (Below.refl _ _).drew
      refine wpAnyH_take (i := 0) (oi := ?oi1) (v := ?v1) ?hi1 (by kernel_rfl) (by kernel_rfl) (by kernel_rfl) ?hq1 ?hy1 (by assumption) ?hr1
      case hi1 => (simp only [List.getElem?_toArray, List.getElem?_cons_zero]; rfl)
      case hq1 => exact fun _ _ _ h => h
      case hy1 => exact Or.inl ⟨by rfl, by intro whSw hSw'; (try dsimp only at hSw'); (first | (go_simp; done) | (go_simp; with_reducible rfl))⟩
      try simp only [Act.put, List.setIfInBounds_toArray, List.set_cons_zero, List.set_cons_succ]
      refine wpAnyH_take (i := 2) (oi := ?oi2) (v := ?v2) ?hi2 (by kernel_rfl) (by kernel_rfl) (by kernel_rfl) ?hq2 ?hy2 (by assumption) ?hr2
      case hi2 => (simp only [List.getElem?_toArray, List.getElem?_cons_succ, List.getElem?_cons_zero]; rfl)
      case hq2 => exact fun _ _ _ h => h
      case hy2 => exact Or.inl ⟨by rfl, by intro whSw hSw'; (try dsimp only at hSw'); (first | (go_simp; done) | (go_simp; with_reducible rfl))⟩
      try simp only [Act.put, List.setIfInBounds_toArray, List.set_cons_zero, List.set_cons_succ]
      refine wpAnyH_ready (rs := [1]) (by kernel_rfl) (by simp) ?_
      refine AllReadyH.cons (o := ?oo3) ?hi3 (fun K hK => ?hs3) ?hm3
      case hi3 => (simp only [List.getElem?_toArray, List.getElem?_cons_succ, List.getElem?_cons_zero]; rfl)
      · go_simp
        refine (HBR.out _ (Below.refl _ W4).drew).mono ?_
        rintro e y1 ⟨v1, rfl, hr1, hb1⟩
        have HX1 : Hid (Below W4.heap.size W4 y1) := Lib.hid ((Below.refl _ W4).drew.trans hb1)
        have HR1 := Lib.hid hr1
        clear hr1 hb1
        (try go_wp2_with fail)
        refine hK.out _ _ ?_ (fun hHeld => ?_)
        · (try dsimp only); first | exact HSK.out _ HX7.out | exact HSK.out _ HX6.out | exact HSK.out _ HX5.out | exact HSK.out _ HX4.out | exact HSK.out _ HX3.out | exact HSK.out _ HX2.out | exact HSK.out _ HX1.out | exact HSK.out _ (Below.refl _ _).drew
        clear hK K
        try simp only [Act.put, List.setIfInBounds_toArray, List.set_cons_zero, List.set_cons_succ]
        refine wpAnyH_ready (rs := [3]) (by kernel_rfl) (by simp) ?_
        refine AllReadyH.cons (o := ?oo4) ?hi4 (fun K hK => ?hs4) ?hm4
        case hi4 => (simp only [List.getElem?_toArray, List.getElem?_cons_succ, List.getElem?_cons_zero]; rfl)
        · go_simp
          refine (HRR.out _ HX1.out).mono ?_
          rintro e y2 ⟨v2, rfl, hr2, hb2⟩
          have HX2 : Hid (Below W4.heap.size W4 y2) := Lib.hid (HX1.out.trans (hb2.mono HX1.out.size))
          have HS2 := Lib.hid (sameInts_eq (HR1.out.below stays_int hb2) hr2 HLR.out)
          clear hr2 hb2 HR1
          (try go_wp2_with fail)
          refine hK.out _ _ ?_ (fun hHeld => ?_)
          · (try dsimp only); first | exact HSK.out _ HX7.out | exact HSK.out _ HX6.out | exact HSK.out _ HX5.out | exact HSK.out _ HX4.out | exact HSK.out _ HX3.out | exact HSK.out _ HX2.out | exact HSK.out _ HX1.out | exact HSK.out _ (Below.refl _ _).drew
          clear hK K
          try simp only [Act.put, List.setIfInBounds_toArray, List.set_cons_zero, List.set_cons_succ]
          refine wpAnyH_ready (rs := [4]) (by kernel_rfl) (by simp) ?_
          refine AllReadyH.cons (o := ?oo5) ?hi5 (fun K hK => ?hs5) ?hm5
          case hi5 => (simp only [List.getElem?_toArray, List.getElem?_cons_succ, List.getElem?_cons_zero]; rfl)
          · go_simp
            refine HS2.out.mono ?_
            rintro e y3 ⟨rfl, hb3⟩
            have HX3 : Hid (Below W4.heap.size W4 y3) := Lib.hid (HX2.out.trans (hb3.mono HX2.out.size))
            clear hb3
            (try go_wp2_with fail)
            refine hK.out _ _ ?_ (fun hHeld => ?_)
            · (try dsimp only); first | exact HSK.out _ HX7.out | exact HSK.out _ HX6.out | exact HSK.out _ HX5.out | exact HSK.out _ HX4.out | exact HSK.out _ HX3.out | exact HSK.out _ HX2.out | exact HSK.out _ HX1.out | exact HSK.out _ (Below.refl _ _).drew
            clear hK K
            try simp only [Act.put, List.setIfInBounds_toArray, List.set_cons_zero, List.set_cons_succ]
            refine wpAnyH_take (i := 5) (oi := ?oi6) (v := ?v6) ?hi6 (by kernel_rfl) (by kernel_rfl) (by kernel_rfl) ?hq6 ?hy6 (by assumption) ?hr6
            case hi6 => (simp only [List.getElem?_toArray, List.getElem?_cons_succ, List.getElem?_cons_zero]; rfl)
            case hq6 => exact fun _ _ _ h => h
            case hy6 => exact Or.inl ⟨by rfl, by intro whSw hSw'; (try dsimp only at hSw'); (first | (go_simp; done) | (go_simp; with_reducible rfl))⟩
            try simp only [Act.put, List.setIfInBounds_toArray, List.set_cons_zero, List.set_cons_succ]
            refine wpAnyH_take (i := 6) (oi := ?oi7) (v := ?v7) ?hi7 (by kernel_rfl) (by kernel_rfl) (by kernel_rfl) ?hq7 ?hy7 (by assumption) ?hr7
            case hi7 => (simp only [List.getElem?_toArray, List.getElem?_cons_succ, List.getElem?_cons_zero]; rfl)
            case hq7 => exact fun _ _ _ h => h
            case hy7 => first | exact Or.inl ⟨by rfl, by intro whSw hSw'; (try dsimp only at hSw'); (first | (go_simp; done) | (go_simp; with_reducible rfl))⟩ | exact Or.inr ⟨by rfl, by with_reducible rfl⟩ | fail
            try simp only [Act.put, List.setIfInBounds_toArray, List.set_cons_zero, List.set_cons_succ]
            refine wpAnyH_take (i := 8) (oi := ?oi8) (v := ?v8) ?hi8 (by kernel_rfl) (by kernel_rfl) (by kernel_rfl) ?hq8 ?hy8 (by assumption) ?hr8
            case hi8 => (simp only [List.getElem?_toArray, List.getElem?_cons_succ, List.getElem?_cons_zero]; rfl)
            case hq8 => exact fun _ _ _ h => h
            case hy8 => first | exact Or.inl ⟨by rfl, by intro whSw hSw'; (try dsimp only at hSw'); (first | (go_simp; done) | (go_simp; with_reducible rfl))⟩ | exact Or.inr ⟨by rfl, by with_reducible rfl⟩ | fail
            try simp only [Act.put, List.setIfInBounds_toArray, List.set_cons_zero, List.set_cons_succ]
            refine wpAnyH_ready (rs := [7]) (by kernel_rfl) (by simp) ?_
            refine AllReadyH.cons (o := ?oo9) ?hi9 (fun K hK => ?hs9) ?hm9
            case hi9 => (simp only [List.getElem?_toArray, List.getElem?_cons_succ, List.getElem?_cons_zero]; rfl)
            · go_simp
              refine (HBC.out _ HX3.out).mono ?_
              rintro e y4 ⟨v4, rfl, hr4, hb4⟩
              have HX4 : Hid (Below W4.heap.size W4 y4) := Lib.hid (HX3.out.trans (hb4.mono HX3.out.size))
              have HR4 := Lib.hid hr4
              clear hr4 hb4
              (try go_wp2_with fail)
              refine hK.out _ _ ?_ (fun hHeld => ?_)
              · (try dsimp only); first | exact HSK.out _ HX7.out | exact HSK.out _ HX6.out | exact HSK.out _ HX5.out | exact HSK.out _ HX4.out | exact HSK.out _ HX3.out | exact HSK.out _ HX2.out | exact HSK.out _ HX1.out | exact HSK.out _ (Below.refl _ _).drew
              clear hK K
              try simp only [Act.put, List.setIfInBounds_toArray, List.set_cons_zero, List.set_cons_succ]
              refine wpAnyH_ready (rs := [9]) (by kernel_rfl) (by simp) ?_
              refine AllReadyH.cons (o := ?oo10) ?hi10 (fun K hK => ?hs10) ?hm10
              case hi10 => (simp only [List.getElem?_toArray, List.getElem?_cons_succ, List.getElem?_cons_zero]; rfl)
              · go_simp
                refine (HRB.out _ HX4.out).mono ?_
                rintro e y5 ⟨v5, rfl, hr5, hb5⟩
                have HX5 : Hid (Below W4.heap.size W4 y5) := Lib.hid (HX4.out.trans (hb5.mono HX4.out.size))
                have HS5 := Lib.hid (sameInts_eq (HR4.out.below stays_int hb5) hr5 HLC.out)
                clear hr5 hb5 HR4
                (try go_wp2_with fail)
                refine hK.out _ _ ?_ (fun hHeld => ?_)
                · (try dsimp only); first | exact HSK.out _ HX7.out | exact HSK.out _ HX6.out | exact HSK.out _ HX5.out | exact HSK.out _ HX4.out | exact HSK.out _ HX3.out | exact HSK.out _ HX2.out | exact HSK.out _ HX1.out | exact HSK.out _ (Below.refl _ _).drew
                clear hK K
                try simp only [Act.put, List.setIfInBounds_toArray, List.set_cons_zero, List.set_cons_succ]
                refine wpAnyH_ready (rs := [10]) (by kernel_rfl) (by simp) ?_
                refine AllReadyH.cons (o := ?oo11) ?hi11 (fun K hK => ?hs11) ?hm11
                case hi11 => (simp only [List.getElem?_toArray, List.getElem?_cons_succ, List.getElem?_cons_zero]; rfl)
                · go_simp
                  refine HS5.out.mono ?_
                  rintro e y6 ⟨rfl, hb6⟩
                  have HX6 : Hid (Below W4.heap.size W4 y6) := Lib.hid (HX5.out.trans (hb6.mono HX5.out.size))
                  clear hb6
                  (try go_wp2_with fail)
                  refine hK.out _ _ ?_ (fun hHeld => ?_)
                  · (try dsimp only); first | exact HSK.out _ HX7.out | exact HSK.out _ HX6.out | exact HSK.out _ HX5.out | exact HSK.out _ HX4.out | exact HSK.out _ HX3.out | exact HSK.out _ HX2.out | exact HSK.out _ HX1.out | exact HSK.out _ (Below.refl _ _).drew
                  clear hK K
                  try simp only [Act.put, List.setIfInBounds_toArray, List.set_cons_zero, List.set_cons_succ]
                  refine wpAnyH_take (i := 11) (oi := ?oi12) (v := ?v12) ?hi12 (by kernel_rfl) (by kernel_rfl) (by kernel_rfl) ?hq12 ?hy12 (by assumption) ?hr12
                  case hi12 => (simp only [List.getElem?_toArray, List.getElem?_cons_succ, List.getElem?_cons_zero]; rfl)
                  case hq12 => exact fun _ _ _ h => h
                  case hy12 => exact Or.inl ⟨by rfl, by intro whSw hSw'; (try dsimp only at hSw'); (first | (go_simp; done) | (go_simp; with_reducible rfl))⟩
                  try simp only [Act.put, List.setIfInBounds_toArray, List.set_cons_zero, List.set_cons_succ]
                  refine wpAnyH_take (i := 12) (oi := ?oi13) (v := ?v13) ?hi13 (by kernel_rfl) (by kernel_rfl) (by kernel_rfl) ?hq13 ?hy13 (by assumption) ?hr13
                  case hi13 => (simp only [List.getElem?_toArray, List.getElem?_cons_succ, List.getElem?_cons_zero]; rfl)
                  case hq13 => exact fun _ _ _ h => h
                  case hy13 => exact Or.inl ⟨by rfl, by intro whSw hSw'; (try dsimp only at hSw'); (first | (go_simp; done) | (go_simp; with_reducible rfl))⟩
                  try simp only [Act.put, List.setIfInBounds_toArray, List.set_cons_zero, List.set_cons_succ]
                  refine wpAnyH_ready (rs := [13]) (by kernel_rfl) (by simp) ?_
                  refine AllReadyH.cons (o := ?oo14) ?hi14 (fun K hK => ?hs14) ?hm14
                  case hi14 => (simp only [List.getElem?_toArray, List.getElem?_cons_succ, List.getElem?_cons_zero]; rfl)
                  · go_simp
                    refine (Lib.hid (HA.out y6)).out.mono ?_
                    rintro e y7 ⟨rfl, hb7⟩
                    have HX7 : Hid (Below W4.heap.size W4 y7) := Lib.hid (HX6.out.trans (hb7.mono HX6.out.size))
                    clear hb7
                    (try go_wp2_with fail)
                    refine hK.out _ _ ?_ (fun hHeld => ?_)
                    · (try dsimp only); first | exact HSK.out _ HX7.out | exact HSK.out _ HX6.out | exact HSK.out _ HX5.out | exact HSK.out _ HX4.out | exact HSK.out _ HX3.out | exact HSK.out _ HX2.out | exact HSK.out _ HX1.out | exact HSK.out _ (Below.refl _ _).drew
                    clear hK K
                    try simp only [Act.put, List.setIfInBounds_toArray, List.set_cons_zero, List.set_cons_succ]
                    refine wpAnyH_take (i := 14) (oi := ?oi15) (v := ?v15) ?hi15 (by kernel_rfl) (by kernel_rfl) (by kernel_rfl) ?hq15 ?hy15 (by assumption) ?hr15
                    case hi15 => (simp only [List.getElem?_toArray, List.getElem?_cons_succ, List.getElem?_cons_zero]; rfl)
                    case hq15 => exact fun _ _ _ h => h
                    case hy15 => exact Or.inl ⟨by rfl, by intro whSw hSw'; (try dsimp only at hSw'); (first | (go_simp; done) | (go_simp; with_reducible rfl))⟩
                    try simp only [Act.put, List.setIfInBounds_toArray, List.set_cons_zero, List.set_cons_succ]
                    refine wpAnyH_take (i := 15) (oi := ?oi16) (v := ?v16) ?hi16 (by kernel_rfl) (by kernel_rfl) (by kernel_rfl) ?hq16 ?hy16 (by assumption) ?hr16
                    case hi16 => (simp only [List.getElem?_toArray, List.getElem?_cons_succ, List.getElem?_cons_zero]; rfl)
                    case hq16 => exact fun _ _ _ h => h
                    case hy16 => exact Or.inl ⟨by rfl, by intro whSw hSw'; (try dsimp only at hSw'); (first | (go_simp; done) | (go_simp; with_reducible rfl))⟩
                    try simp only [Act.put, List.setIfInBounds_toArray, List.set_cons_zero, List.set_cons_succ]
                    refine wpAnyH_done (by kernel_rfl) ?_ _
                    go_wp2_with fail
                    go_ret
                    exact ⟨rfl, HB4.out.trans (HX7.out.mono HB4.out.size)⟩
                  exact AllReadyH.nil
                exact AllReadyH.nil
              exact AllReadyH.nil
            exact AllReadyH.nil
          exact AllReadyH.nil
        exact AllReadyH.nil
      exact AllReadyH.nil

theorem own : ownKnob Try.prog.godebug = none := by kernel_rfl

set_option maxRecDepth 100000 in
theorem lifted (os : Os) (started : os.Started) (H : Type) (enc : TypeId × Value → H) :
    ReturnsInHanded {} Try.checked os 7 .any (Rows.lexiconOrdersSpec.pre6 enc Try.prog Try.f7 Rows.lexiconOrdersRow.domain false) (Rows.lexiconOrdersSpec.post enc Try.prog Try.f7 false true false false) := by
  refine returnsInHanded_of_change (C := Try.checked) own started (by kernel_rfl) Try.func7
    (ChangeSpec.witness6 (enc := enc) (C := Try.checked) false ⟨#[], #[.slice none 0 0], []⟩ 8 (by kernel_rfl) (by kernel_rfl) (by kernel_rfl) (by kernel_rfl)) ?_
  intro W base args ds gs before hval0 hW hcnd _
  have hval : ∀ (j : Nat) t v, Try.f7.params[j]? = some t → args[j]? = some v → Value.okWide Try.prog W .any base t v := hval0
  have hW' := hW
  have hplt : ∀ x ∈ before, x.block < W.heap.size := fun x hx => hW.lt x hx
  obtain ⟨p, q, hA0, hV, rfl, hfz, hnd⟩ := hW
  have hA : DataW.TrodAll enc Try.prog W 0 (fun _ => true) true Try.f7.params.toList args.toList ds p := hA0
  rw [Try.params7] at hA hval
  obtain ⟨v0, vs0, d0, ds0, p0, q0, hargs, rfl, rfl, h0, r0⟩ := trodAll_cons hA
  obtain ⟨rfl, rfl, rfl⟩ := trodAll_nil r0
  obtain rfl : args = #[v0] := by cases args; simp_all
  obtain ⟨rfl, rfl⟩ := trodVars_none hV
  obtain ⟨l0, s0, m0, n0⟩ := open_rowS (hval 0 22 v0 rfl rfl) h0
  clear hA0 hval0
  refine (walk v0 l0 s0 m0 n0).mono fun e W' ⟨he, bel⟩ => ?_
  subst he
  exact ⟨_, rfl, _, _, _, [], _, [], hW', trodAll_mk1 (shut_bool Try.underlying4 _), (trodAll_cons_mk (Below.trod Try.laidOut (by kernel_rfl) (of_decide_eq_true (by kernel_rfl)) h0 bel (fun x hx => hplt x (by simp [hx]))) trodAll_mk0), rfl, World.keptBut_mono (fun x hx => ⟨hx, Or.inr (by simpa using hx)⟩) (bel.frame (· ∈ _)), fun h => by cases h⟩

theorem over : Rows.lexiconOrdersRow.holds Try.pinned (OpenSpec.ofChange Rows.lexiconOrdersSpec) :=
  OpenClaim.holds_of_wide 7 Try.f7 rfl rfl rfl rfl rfl rfl rfl ⟨rfl, rfl, rfl, rfl, rfl⟩ rfl rfl rfl rfl rfl (by kernel_rfl) Try.func7 (by kernel_rfl)
    (of_decide_eq_true (by kernel_rfl)) (by unfold Func.isWrapper; first | (rw [if_pos (by decide +kernel)]; kernel_rfl) | (rw [if_neg (by decide +kernel)]; exact ⟨rfl, rfl⟩))
    (fun os started H enc _ => lifted os started H enc)

/-- THE STATEMENT. -/
theorem proved : Rows.LexiconOrdersSaid := over
end Go.Proofs.Ytfcekoedhbmaeaa.lexiconOrders
