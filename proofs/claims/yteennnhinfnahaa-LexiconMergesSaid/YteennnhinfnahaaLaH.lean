/-
  LexiconMerges is proved: for every list of strings and every list of strings the call of the law returns true, and each argument reads afterwards as it read before. It has no condition.
-/
import Derived.Test.YteennnhinfnahaaRows
import Derived.Test.YteennnhinfnahaaLzO
import Derived.Test.YteennnhinfnahaaLzP
import Derived.Test.YteennnhinfnahaaLxL
import Derived.Test.YteennnhinfnahaaLzT
import Derived.Test.YteennnhinfnahaaLmE
import Derived.ProofKit
import Derived.OpenShut
import Derived.Carry
namespace Go.Proofs.Yteennnhinfnahaa.lexiconMerges
open Go.ChangeShapes Go.WideShapes Go.ChangeAt Go.RowKit Go.Shelf Go.Lib
set_option linter.unusedVariables false

set_option maxRecDepth 100000 in
set_option maxHeartbeats 8000000 in
theorem walk {w : World} (v : Value) (vs : Fs) (hv : Rows 1 EStr w v vs) (hm : vs.length ≤ maxLen) (hz : ∀ x ∈ vs, x.length ≤ maxLen) (v2 : Value) (vs2 : Fs) (hv2 : Rows 1 EStr w v2 vs2) (hm2 : vs2.length ≤ maxLen) (hz2 : ∀ x ∈ vs2, x.length ≤ maxLen) :
    Calls Try.prog 4 #[v, v2] w fun e w1 => e = .returned (.bool true) ∧ Below w.heap.size w w1 := by
  have HBU := Lib.hid (built_any hv hm hz)
  have HBU2 := Lib.hid (fun W (hb : Below w.heap.size w W) => built_any (hv2.below stays_str hb) hm2 hz2)
  have HLO := Lib.hid (long_any hv hm)
  have HLO2 := Lib.hid (long_any hv2 hm2)
  have HA := Lib.hid (fun (W : World) => awake_any W)
  obtain ⟨A, cap, rfl, hc⟩ := hv.form
  obtain ⟨A', cap', rfl, hc'⟩ := hv2.form
  obtain ⟨n, hn⟩ : ∃ n, vs.length = n := ⟨_, rfl⟩
  obtain ⟨n', hn'⟩ : ∃ n, vs2.length = n := ⟨_, rfl⟩
  rw [hn] at HBU HLO hm ⊢
  rw [hn'] at HBU2 HLO2 hm2 ⊢
  clear hv hc hn hz hv2 hc' hn' hz2
  go_enter Try.func4, Try.ntmps4
  go_wp2_with fail
  refine HLO.out.mono ?_
  rintro e w2 ⟨⟨q, rfl, hq⟩, hw⟩
  obtain rfl := hw.symm
  clear hw
  cases q with
  | true =>
    clear hq HBU HBU2 HLO2
    go_wp2_with fail
    go_ret
    exact ⟨rfl, Below.refl _ _⟩
  | false =>
    clear hq HLO
    go_wp2_with fail
    refine HLO2.out.mono ?_
    rintro e w2 ⟨⟨q, rfl, hq⟩, hw⟩
    obtain rfl := hw.symm
    clear hw
    cases q with
    | true =>
      clear hq HBU HBU2
      go_wp2_with fail
      go_ret
      exact ⟨rfl, Below.refl _ _⟩
    | false =>
      clear hq HLO2
      go_wp2_with fail
      refine HBU.out.mono ?_
      rintro e w3 ⟨hb3, hans⟩
      have HB3 := Lib.hid hb3
      rcases hans with ⟨_, rfl⟩ | ⟨_, p, vW, vC, rfl, hL, hrW, hrC⟩
      · obtain ⟨W4, hW4⟩ : ∃ W4, w3.alloc (.cells #[.slice none 0 0, .slice none 0 0] 33) = W4 := ⟨_, rfl⟩
        have hb4 : Below w3.heap.size w3 W4 := by rw [← hW4]; exact below_box _ _
        have HW4 := Lib.hid hW4
        have HB4 := Lib.hid (show Below w.heap.size w W4 from HB3.out.trans (hb4.mono HB3.out.size))
        clear hb3 hb4 hW4 HBU
        go_upto_region 4 with fail
        rw [HW4.out]
        go_wp2_with fail
        refine (HBU2.out W4 HB4.out).mono ?_
        rintro e w5 ⟨hb5, hans⟩
        have HB5 := Lib.hid (show Below w.heap.size w w5 from HB4.out.trans (hb5.mono HB4.out.size))
        rcases hans with ⟨_, rfl⟩ | ⟨_, p2, vX, vY, rfl, _, hrX, hrY⟩
        · clear hb5 HBU2
          go_wp2_with fail
          refine (HA.out _).mono ?_
          rintro e w7 ⟨rfl, hb7⟩
          have HB7 := Lib.hid (HB5.out.trans (((below_box w5 _).trans (hb7.mono (below_box w5 _).size)).mono HB5.out.size))
          clear hb7
          go_wp2_with fail
          go_ret
          exact ⟨rfl, HB7.out⟩
        · obtain ⟨A1, c1, rfl, -⟩ := hrX.form
          obtain ⟨A2, c2, rfl, -⟩ := hrY.form
          clear hb5 HBU2 hrX hrY
          go_wp2_with fail
          refine (HA.out _).mono ?_
          rintro e w7 ⟨rfl, hb7⟩
          have HB7 := Lib.hid (HB5.out.trans (((below_box w5 _).trans (hb7.mono (below_box w5 _).size)).mono HB5.out.size))
          clear hb7
          go_wp2_with fail
          go_ret
          exact ⟨rfl, HB7.out⟩
      · obtain ⟨A1, c1, rfl, hc1⟩ := hrW.form
        obtain ⟨A2, c2, rfl, hc2⟩ := hrC.form
        have hcl : (intsN (cntW vs (lexW vs))).length = (lexW vs).length := by simp [cntW]
        rw [hcl] at hrC hc2 ⊢
        obtain ⟨ws, hws⟩ : ∃ ws, lexW vs = ws := ⟨_, rfl⟩
        obtain ⟨cs, hcs⟩ : ∃ cs, cntW vs ws = cs := ⟨_, rfl⟩
        rw [hws, hcs] at hL hrC
        rw [hws] at hrW hc1 ⊢
        rw [hws] at hc2
        obtain ⟨m, hmm⟩ : ∃ m, ws.length = m := ⟨_, rfl⟩
        rw [hmm] at hrW hrC hc1 hc2 ⊢
        obtain ⟨W4, hW4⟩ : ∃ W4, w3.alloc (.cells #[.slice A1 m c1, .slice A2 m c2] 33) = W4 := ⟨_, rfl⟩
        obtain ⟨N4, hN4⟩ : ∃ N4, w3.heap.size = N4 := ⟨_, rfl⟩
        have hb4 : Below w3.heap.size w3 W4 := by rw [← hW4]; exact below_box _ _
        have hbx : W4.heap[N4]? = some (.cells #[.slice A1 m c1, .slice A2 m c2] 33 (0, 0)) := by rw [← hW4, ← hN4]; exact block_new _ _
        have HW4 := Lib.hid hW4
        have HN4 := Lib.hid hN4
        have HBX := Lib.hid (fun W (hb : Below W4.heap.size W4 W) => block_below hbx hb (Array.getElem?_eq_some_iff.1 hbx).1)
        have HRW := Lib.hid (fun W (hb : Below W4.heap.size W4 W) => hrW.below stays_str (hb4.trans (hb.mono hb4.size)))
        have HRC := Lib.hid (fun W (hb : Below W4.heap.size W4 W) => hrC.below stays_int (hb4.trans (hb.mono hb4.size)))
        have HL := Lib.hid (fun W (hb : Below W4.heap.size W4 W) => hL.below (hb4.trans (hb.mono hb4.size)))
        have HB4 := Lib.hid (show Below w.heap.size w W4 from HB3.out.trans (hb4.mono HB3.out.size))
        clear hb3 hb4 hbx hW4 hN4 HBU hrW hrC hcl hws hcs hmm hL hc1 hc2
        go_upto_region 4 with fail
        rw [HW4.out, HN4.out]
        go_wp2_with fail
        refine (HBU2.out W4 HB4.out).mono ?_
        rintro e w5 ⟨hb5, hans⟩
        have HB45 := Lib.hid hb5
        have HB5 := Lib.hid (show Below w.heap.size w w5 from HB4.out.trans (hb5.mono HB4.out.size))
        rcases hans with ⟨_, rfl⟩ | ⟨_, p2, vX, vY, rfl, hL2, hrX, hrY⟩
        · clear hb5 HBU2
          go_wp2_with fail
          refine (HA.out _).mono ?_
          rintro e w7 ⟨rfl, hb7⟩
          have HB7 := Lib.hid (HB5.out.trans (((below_box w5 _).trans (hb7.mono (below_box w5 _).size)).mono HB5.out.size))
          clear hb7
          go_wp2_with fail
          go_ret
          exact ⟨rfl, HB7.out⟩
        · obtain ⟨B1, d1, rfl, hd1⟩ := hrX.form
          obtain ⟨B2, d2, rfl, hd2⟩ := hrY.form
          have hcl : (intsN (cntW vs2 (lexW vs2))).length = (lexW vs2).length := by simp [cntW]
          rw [hcl] at hrY hd2 ⊢
          obtain ⟨xs, hxs⟩ : ∃ xs, lexW vs2 = xs := ⟨_, rfl⟩
          obtain ⟨ks, hks⟩ : ∃ ks, cntW vs2 xs = ks := ⟨_, rfl⟩
          rw [hxs, hks] at hL2 hrY
          rw [hxs] at hrX hd1 ⊢
          rw [hxs] at hd2
          obtain ⟨m2, hmm2⟩ : ∃ m, xs.length = m := ⟨_, rfl⟩
          rw [hmm2] at hrX hrY hd1 hd2 ⊢
          obtain ⟨W6, hW6⟩ : ∃ W6, w5.alloc (.cells #[.slice B1 m2 d1, .slice B2 m2 d2] 33) = W6 := ⟨_, rfl⟩
          obtain ⟨N6, hN6⟩ : ∃ N6, w5.heap.size = N6 := ⟨_, rfl⟩
          have hb6 : Below w5.heap.size w5 W6 := by rw [← hW6]; exact below_box _ _
          have hby : W6.heap[N6]? = some (.cells #[.slice B1 m2 d1, .slice B2 m2 d2] 33 (0, 0)) := by rw [← hW6, ← hN6]; exact block_new _ _
          have h46 : Below W4.heap.size W4 W6 := hb5.trans (hb6.mono hb5.size)
          have HW6 := Lib.hid hW6
          have HN6 := Lib.hid hN6
          have HBY := Lib.hid (fun W (hb : Below W6.heap.size W6 W) => block_below hby hb (Array.getElem?_eq_some_iff.1 hby).1)
          have HBX6 := Lib.hid (fun W (hb : Below W6.heap.size W6 W) => HBX.out W (h46.trans (hb.mono h46.size)))
          have HB6 := Lib.hid (show Below w.heap.size w W6 from HB5.out.trans (hb6.mono HB5.out.size))
          have l1 := HL.out W6 h46
          have l2 := hL2.below hb6
          have rX := hrX.below stays_str hb6
          have rY := hrY.below stays_int hb6
          have HO := Lib.hid (And.intro l1.ok l2.ok)
          have HME := Lib.hid (Lm.merge_any l1 l2)
          have HRM := Lib.hid (fun W (hb : Below W6.heap.size W6 W) => Lm.refMerge_any (w := W) HO.out.1 HO.out.2 ((HRW.out W6 h46).below stays_str hb) ((HRC.out W6 h46).below stays_int hb) (rX.below stays_str hb) (rY.below stays_int hb))
          have hf1 : ws.length ≤ maxLen := by have := l1.ok.few; unfold maxLen; omega
          have hf2 : xs.length ≤ maxLen := by have := l2.ok.few; unfold maxLen; omega
          have HF := Lib.hid (And.intro hf1 hf2)
          obtain ⟨us, hus⟩ : ∃ us, Lm.bothL ws cs xs ks = us := ⟨_, rfl⟩
          rw [hus] at HME HRM
          clear hb5 hb6 hby h46 hW6 hN6 HBU2 hL2 hrX hrY hcl hxs hks hmm2 l1 l2 rX rY hf1 hf2 hus hd1 hd2
          go_upto_region 5 with fail
          rw [HW6.out, HN6.out]
          go_wp2_with fail
          refine HME.out.mono ?_
          rintro e w7 ⟨hb7, hans⟩
          have HB7 := Lib.hid hb7
          have hbx := HBX6.out w7 hb7
          have hby := HBY.out w7 hb7
          have x0 : w7.cell? ⟨N4, 0, none⟩ = some (.slice A1 m c1) := cell_of hbx rfl
          have x1 : w7.cell? ⟨N4, 1, none⟩ = some (.slice A2 m c2) := cell_of hbx rfl
          have y0 : w7.cell? ⟨N6, 0, none⟩ = some (.slice B1 m2 d1) := cell_of hby rfl
          have y1 : w7.cell? ⟨N6, 1, none⟩ = some (.slice B2 m2 d2) := cell_of hby rfl
          rcases hans with ⟨hne, rfl⟩ | ⟨h0, p3, u1, u2, rfl, hL3, hu1, hu2⟩
          · obtain ⟨z, hz⟩ : ∃ z, buildE us = z := ⟨_, rfl⟩
            have HZ := Lib.hid hz
            rw [hz] at hne ⊢
            have hne2 : (z != 0) = true := by simpa using hne
            have HNE := Lib.hid hne
            clear hb7 hbx hby hz hne HME
            go_wp2_with fail
            refine (HRM.out w7 HB7.out).mono ?_
            rintro e w8 ⟨hb8, hans⟩
            rcases hans with ⟨_, rfl⟩ | ⟨h0, _⟩
            · rw [HZ.out]
              have HSI := Lib.hid (fun W => sameInts_eq (w := W) (Rows.nil (E := EInt) W) (Rows.nil (E := EInt) W) (Nat.zero_le _))
              have HB8 := Lib.hid (HB6.out.trans ((HB7.out.trans (hb8.mono HB7.out.size)).mono HB6.out.size))
              clear hb8 x0 x1 y0 y1 HRM
              go_wp2_with fail
              refine (HSI.out _).mono ?_
              rintro e w9 ⟨rfl, hb9⟩
              have HB9 := Lib.hid (HB8.out.trans (((below_box w8 _).trans (hb9.mono (below_box w8 _).size)).mono HB8.out.size))
              clear hb9
              go_wp2_with fail
              refine (HSI.out _).mono ?_
              rintro e w10 ⟨rfl, hb10⟩
              have HB10 := Lib.hid (HB9.out.trans (hb10.mono HB9.out.size))
              clear hb10
              go_wp2_with fail
              refine (HA.out _).mono ?_
              rintro e w11 ⟨rfl, hb11⟩
              have HB11 := Lib.hid (HB10.out.trans (hb11.mono HB10.out.size))
              clear hb11
              go_wp2_with fail
              go_ret
              exact ⟨rfl, HB11.out⟩
            · exact absurd (HZ.out.symm.trans h0) HNE.out
          · obtain ⟨U1, e1, rfl, -⟩ := hu1.form
            obtain ⟨U2, e2, rfl, -⟩ := hu2.form
            have g1 : (intsN (ws.map (fnd (lexW us)))).length ≤ maxLen := by rw [List.length_map, List.length_map]; exact HF.out.1
            have g2 : (intsN (xs.map (fnd (lexW us)))).length ≤ maxLen := by rw [List.length_map, List.length_map]; exact HF.out.2
            obtain ⟨is1, his1⟩ : ∃ l, intsN (ws.map (fnd (lexW us))) = l := ⟨_, rfl⟩
            obtain ⟨is2, his2⟩ : ∃ l, intsN (xs.map (fnd (lexW us))) = l := ⟨_, rfl⟩
            rw [his1] at hu1 g1 ⊢
            rw [his2] at hu2 g2 ⊢
            obtain ⟨k1, hk1⟩ : ∃ k, is1.length = k := ⟨_, rfl⟩
            obtain ⟨k2, hk2⟩ : ∃ k, is2.length = k := ⟨_, rfl⟩
            rw [hk1] at hu1 ⊢
            rw [hk2] at hu2 ⊢
            have HI1 := Lib.hid (And.intro his1 (And.intro hk1 g1))
            have HI2 := Lib.hid (And.intro his2 (And.intro hk2 g2))
            have HU1 := Lib.hid (fun W (hb : Below w7.heap.size w7 W) => hu1.below stays_int hb)
            have HU2 := Lib.hid (fun W (hb : Below w7.heap.size w7 W) => hu2.below stays_int hb)
            have HL3 := Lib.hid (fun W (hb : Below w7.heap.size w7 W) => hL3.below hb)
            have H0 := Lib.hid h0
            clear hb7 hbx hby h0 hL3 hu1 hu2 g1 g2 his1 his2 hk1 hk2 HME
            go_wp2_with fail
            refine (HRM.out w7 HB7.out).mono ?_
            rintro e w8 ⟨hb8, hans⟩
            rcases hans with ⟨hne, _⟩ | ⟨_, tW, tC, s1, s2, rfl, hrW, hrC, hs1, hs2⟩
            · exact absurd H0.out hne
            · rw [HI1.out.1] at hs1
              rw [HI2.out.1] at hs2
              obtain ⟨V1, f1, rfl, -⟩ := hs1.form
              obtain ⟨V2, f2, rfl, -⟩ := hs2.form
              obtain ⟨G1, h1, rfl, -⟩ := hrW.form
              obtain ⟨G2, h2, rfl, -⟩ := hrC.form
              have hcl : (intsN (cntW us (lexW us))).length = (lexW us).length := by simp [cntW]
              rw [hcl] at hrC ⊢
              rw [HI1.out.2.1] at hs1 ⊢
              rw [HI2.out.2.1] at hs2 ⊢
              obtain ⟨lw, hlw⟩ : ∃ l, lexW us = l := ⟨_, rfl⟩
              obtain ⟨kw, hkw⟩ : ∃ l, cntW us lw = l := ⟨_, rfl⟩
              rw [hlw, hkw] at HL3 hrC
              rw [hlw] at hrW ⊢
              obtain ⟨mm, hmm⟩ : ∃ k, lw.length = k := ⟨_, rfl⟩
              rw [hmm] at hrW hrC ⊢
              obtain ⟨W9, hW9⟩ : ∃ W9, w8.alloc (.cells #[.slice G1 mm h1, .slice G2 mm h2] 33) = W9 := ⟨_, rfl⟩
              obtain ⟨N9, hN9⟩ : ∃ N9, w8.heap.size = N9 := ⟨_, rfl⟩
              have hb9 : Below w8.heap.size w8 W9 := by rw [← hW9]; exact below_box _ _
              have hbz : W9.heap[N9]? = some (.cells #[.slice G1 mm h1, .slice G2 mm h2] 33 (0, 0)) := by rw [← hW9, ← hN9]; exact block_new _ _
              have z0 : W9.cell? ⟨N9, 0, none⟩ = some (.slice G1 mm h1) := cell_of hbz rfl
              have z1 : W9.cell? ⟨N9, 1, none⟩ = some (.slice G2 mm h2) := cell_of hbz rfl
              have h79 : Below w7.heap.size w7 W9 := hb8.trans (hb9.mono hb8.size)
              have H79 := Lib.hid h79
              have HSM := Lib.hid (sameLex_any (HL3.out W9 h79) (hrW.below stays_str hb9) (hrC.below stays_int hb9))
              have HS1 := Lib.hid (fun W (hb : Below W9.heap.size W9 W) => hs1.below stays_int (hb9.trans (hb.mono hb9.size)))
              have HS2 := Lib.hid (fun W (hb : Below W9.heap.size W9 W) => hs2.below stays_int (hb9.trans (hb.mono hb9.size)))
              have HB9 := Lib.hid (HB6.out.trans ((HB7.out.trans (h79.mono HB7.out.size)).mono HB6.out.size))
              have HW9 := Lib.hid hW9
              have HN9 := Lib.hid hN9
              clear hb8 hb9 hbz h79 hW9 hN9 hs1 hs2 hrW hrC hcl hlw hkw hmm x0 x1 y0 y1 HRM
              go_upto_region 9 with fail
              rw [HW9.out, HN9.out]
              go_wp2_with fail
              refine HSM.out.mono ?_
              rintro e w10 ⟨rfl, hb10⟩
              have HB10 := Lib.hid hb10
              have HQ1 := Lib.hid (sameInts_eq (HU1.out w10 (H79.out.trans (hb10.mono H79.out.size))) (HS1.out w10 hb10) HI1.out.2.2)
              clear hb10 HSM z0 z1
              go_wp2_with fail
              refine HQ1.out.mono ?_
              rintro e w11 ⟨rfl, hb11⟩
              have HB11 := Lib.hid (HB10.out.trans (hb11.mono HB10.out.size))
              have HQ2 := Lib.hid (sameInts_eq (HU2.out w11 (H79.out.trans (HB11.out.mono H79.out.size))) (HS2.out w11 HB11.out) HI2.out.2.2)
              clear hb11 HQ1
              go_wp2_with fail
              refine HQ2.out.mono ?_
              rintro e w12 ⟨rfl, hb12⟩
              have HB12 := Lib.hid (HB11.out.trans (hb12.mono HB11.out.size))
              clear hb12 HQ2
              go_wp2_with fail
              refine (HA.out _).mono ?_
              rintro e w13 ⟨rfl, hb13⟩
              have HB13 := Lib.hid (HB9.out.trans ((HB12.out.trans (hb13.mono HB12.out.size)).mono HB9.out.size))
              clear hb13
              go_wp2_with fail
              go_ret
              exact ⟨rfl, HB13.out⟩

theorem own : ownKnob Try.prog.godebug = none := by kernel_rfl

set_option maxRecDepth 100000 in
theorem lifted (os : Os) (started : os.Started) (H : Type) (enc : TypeId × Value → H) :
    ReturnsInHanded {} Try.checked os 4 .any (Rows.lexiconMergesSpec.pre6 enc Try.prog Try.f4 Rows.lexiconMergesRow.domain false) (Rows.lexiconMergesSpec.post enc Try.prog Try.f4 false true false false) := by
  refine returnsInHanded_of_change (C := Try.checked) own started (by kernel_rfl) Try.func4
    (ChangeSpec.witness6 (enc := enc) (C := Try.checked) false ⟨#[], #[.slice none 0 0, .slice none 0 0], []⟩ 8 (by kernel_rfl) (by kernel_rfl) (by kernel_rfl) (by kernel_rfl)) ?_
  intro W base args ds gs before hval0 hW hcnd _
  have hval : ∀ (j : Nat) t v, Try.f4.params[j]? = some t → args[j]? = some v → Value.okWide Try.prog W .any base t v := hval0
  have hW' := hW
  have hplt : ∀ x ∈ before, x.block < W.heap.size := fun x hx => hW.lt x hx
  obtain ⟨p, q, hA0, hV, rfl, hfz, hnd⟩ := hW
  have hA : DataW.TrodAll enc Try.prog W 0 (fun _ => true) true Try.f4.params.toList args.toList ds p := hA0
  rw [Try.params4] at hA hval
  obtain ⟨v0, vs0, d0, ds0, p0, q0, hargs, rfl, rfl, h0, r0⟩ := trodAll_cons hA
  obtain ⟨v1, vs1, d1, ds1, p1, q1, rfl, rfl, rfl, h1, r1⟩ := trodAll_cons r0
  obtain ⟨rfl, rfl, rfl⟩ := trodAll_nil r1
  obtain rfl : args = #[v0, v1] := by cases args; simp_all
  obtain ⟨rfl, rfl⟩ := trodVars_none hV
  obtain ⟨l0, s0, m0, n0⟩ := open_rowS (hval 0 29 v0 rfl rfl) h0
  obtain ⟨l1, s1, m1, n1⟩ := open_rowS (hval 1 29 v1 rfl rfl) h1
  clear hA0 hval0
  refine (walk v0 l0 s0 m0 n0 v1 l1 s1 m1 n1).mono fun e W' ⟨he, bel⟩ => ?_
  subst he
  exact ⟨_, rfl, _, _, _, [], _, [], hW', trodAll_mk1 (shut_bool Try.underlying4 _), (trodAll_cons_mk (Below.trod Try.laidOut (by kernel_rfl) (of_decide_eq_true (by kernel_rfl)) h0 bel (fun x hx => hplt x (by simp [hx]))) (trodAll_cons_mk (Below.trod Try.laidOut (by kernel_rfl) (of_decide_eq_true (by kernel_rfl)) h1 bel (fun x hx => hplt x (by simp [hx]))) trodAll_mk0)), rfl, World.keptBut_mono (fun x hx => ⟨hx, Or.inr (by simpa using hx)⟩) (bel.frame (· ∈ _)), fun h => by cases h⟩

theorem over : Rows.lexiconMergesRow.holds Try.pinned (OpenSpec.ofChange Rows.lexiconMergesSpec) :=
  OpenClaim.holds_of_wide 4 Try.f4 rfl rfl rfl rfl rfl rfl rfl ⟨rfl, rfl, rfl, rfl, rfl⟩ rfl rfl rfl rfl rfl (by kernel_rfl) Try.func4 (by kernel_rfl)
    (of_decide_eq_true (by kernel_rfl)) (by unfold Func.isWrapper; first | (rw [if_pos (by decide +kernel)]; kernel_rfl) | (rw [if_neg (by decide +kernel)]; exact ⟨rfl, rfl⟩))
    (fun os started H enc _ => lifted os started H enc)

/-- THE STATEMENT. -/
theorem proved : Rows.LexiconMergesSaid := over
end Go.Proofs.Yteennnhinfnahaa.lexiconMerges
