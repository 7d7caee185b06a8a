/-
  WALKS over the reference of markup: ParseTag of an opening tag.
-/
import Derived.Test.YtjablaidbccnbaaGreatDoorRpM
namespace Go.Proofs.YtjablaidbccnbaaGreatDoor
open Go.RowKit Go.Shelf Go.Lib

set_option maxRecDepth 100000 in
set_option maxHeartbeats 4000000 in
theorem refParse_open2 (s : ByteArray) (hs : s.size ≤ 1000000) (w : World) (h0 : s.data.toList[0]? = some 60) (h1 : ¬ s.data.toList[1]? = some 47) (hs1 : ¬ 1 < s.size) :
    Calls Tryz.prog 7 #[.string s] w fun e w' => Below w.heap.size w w' ∧ ∃ v, e = .returned v ∧ ParseV (pTag s.data.toList) w' v := by
  obtain ⟨V, hV⟩ : ∃ V, ((w.alloc (.cells #[.bool false, .string ⟨#[]⟩, .slice none 0 0] 28)).alloc (.cells #[.string s, .int .i64 0, .bool false, .string ⟨#[]⟩, .slice none 0 0, .int .i64 0, .int .i64 0, .bool false] 49)) = V := ⟨_, rfl⟩
  have hbV : Below w.heap.size w V := by
    rw [← hV]
    exact ((Below.refl _ w).alloc (Nat.le_refl _) _).alloc (by simp) _
  have hBV : RB V (w.heap.size + 1) s ((0 : Nat) : Int) false ⟨#[]⟩ (.slice none 0 0) 0 0 false := by
    have := block_new (w.alloc (.cells #[.bool false, .string ⟨#[]⟩, .slice none 0 0] 28)) (.cells #[.string s, .int .i64 0, .bool false, .string ⟨#[]⟩, .slice none 0 0, .int .i64 0, .int .i64 0, .bool false] 49)
    rw [← hV]
    simp only [World.size_alloc] at this
    exact this
  have hTV : TQ V w.heap.size (.bool false) (.string ⟨#[]⟩) (.slice none 0 0) := by
    rw [← hV]
    exact block_alloc _ (block_new w _)
  obtain ⟨q, hq⟩ : ∃ q, w.heap.size = q := ⟨_, rfl⟩
  have hVs : q + 1 < V.heap.size := by rw [← hq]; exact hBV.lt
  have HQ := Lib.hid hq
  rw [hq] at hBV hTV
  have hwl := fun (c : UInt8) (hc : (⟨#[c]⟩ : ByteArray).size ≤ 10) => rwant_live hBV (Nat.zero_le _) hs ⟨#[c]⟩ hc
  have hw60 := hwl 60 (by decide)
  have hsz : s.data.toList.length = s.size := (Lib.size_eq s).symm
  have HBV := Lib.hid hBV
  have HTV := Lib.hid hTV
  have HbV := Lib.hid hbV
  have HV := Lib.hid hV
  have e60 : pWant s.data.toList 0 (⟨#[60]⟩ : ByteArray).data.toList = if s.data.toList[0]? = some 60 then .ok () 1 else .err 0 3 := rfl
  obtain ⟨R, hR⟩ : ∃ R, pTag s.data.toList = R := ⟨_, rfl⟩
  rw [hR]
  have HR := Lib.hid hR
  clear hR hV hbV hBV hTV hwl
  rw [e60, if_pos h0] at hw60
  have hpt : R = match pName s.data.toList 1 with
      | .err a e => .err a e
      | .ok n j => pRest (s.size + 1) s.data.toList j n [] := by
    rw [← HR.out]
    unfold pTag pExpect
    rw [if_pos h0]
    simp only [Nat.zero_add, h1, if_false]
    rw [hsz]
    cases pName s.data.toList 1 <;> rfl
  have hl1 : ¬ (1 : Int) < (s.size : Int) := by omega
  have HW := Lib.hid hw60
  have HSZ := Lib.hid hsz
  have HPT := Lib.hid hpt
  have hs0 : 1 ≤ s.size := by rw [← hsz]; exact (List.getElem?_eq_some_iff.1 h0).1
  clear hw60 e60 h0 h1 hsz hpt
  go_enter Tryz.func7, Tryz.ntmps7
  go_wp2_with fail
  rw [HV.out]
  clear hq
  refine HW.out.mono ?_
  rintro en w1 ⟨rfl, hb1, hB1, _⟩
  have k7 := hB1.k7
  have k1 : w1.cell? ⟨q + 1, 1, none⟩ = some (.int .i64 1) := hB1.k1
  have HNM := Lib.hid (rname_live hB1 hs0 hs false [] (fun h => by cases h))
  have HB2 := Lib.hid hb1
  clear hb1 hB1
  go_wp2_with fail
  clear k7 k1 hl1
  cases hp : pName s.data.toList 1 with
  | err a e =>
    have HA : Hid (R = .err a e) := Lib.hid (by rw [HPT.out, hp])
    have HNM : Hid (Calls Tryz.prog 18 #[.pointer (some ⟨q + 1, 0, none⟩), .bool false] w1 fun en w' => StandsS (q + 1) s false ⟨#[]⟩ (.slice none 0 0) (.err a e) w1 en w') := Lib.hid (by rw [← hp]; exact HNM.out)
    clear hp
    refine HNM.out.mono ?_
    rintro en w3 ⟨hb3, x, j3, rfl, hB3⟩
    have k3 := hB3.k3
    have f3 := hB3.fz 3
    have HO : Hid (Over V (w3.setCell ⟨q + 1, 3, none⟩ (.string x)) (q + 1) s R a e) := Lib.hid ⟨but_trans HB2.out (but_trans hb3 (but_set _ _ _ _)), ⟨_, _, _, _, hB3.name _⟩, HA.out⟩
    clear hb3 hB3
    go_wp2_with fail
    clear k3 f3
    generalize w3.setCell ⟨q + 1, 3, none⟩ (.string x) = w4 at HO ⊢
    go_loopg [] 1 (fun f wr => wr = w4)
    case atStart => rfl
    case round =>
      subst hrel
      obtain ⟨ieh, ceh, neh, keh, hBh⟩ := HO.out.at_
      have k7 := hBh.k7
      clear hBh
      go_wp2_with fail
      clear k7
      obtain ⟨ie0, ce0, ne0, ke0, hBe0⟩ := HO.out.at_
      have HWO := Lib.hid (rwant_over hBe0 ⟨#[62]⟩ (by decide))
      clear hBe0
      go_wp2_with fail
      refine HWO.out.mono ?_
      rintro en wz ⟨rfl, rfl⟩
      obtain ⟨ie, ce, ne, ke, hBe⟩ := HO.out.at_
      have k5 := hBe.k5
      have k6 := hBe.k6
      have k7 := hBe.k7
      have hTe := HTV.out.but (Nat.lt_succ_self q) HO.out.but
      have t0 := cell_of (i := 0) hTe rfl
      have t1 := cell_of (i := 1) hTe rfl
      have t2 := cell_of (i := 2) hTe rfl
      have t3 := fun j => frozen_of (i := j) hTe
      clear hBe hTe
      go_wp2_with fail
      go_region
      go_wp2
      (try simp only [Exit.inBlock, Exit.then])
      obtain ⟨hTf, hbf⟩ := over_end HbV.out (Nat.le_of_eq HQ.out) (Nat.lt_succ_self q) HTV.out HO.out rfl
      refine bodyPost_ret (results_ref hTf _ rfl rfl rfl) rfl ⟨hbf, _, rfl, ?_⟩
      rw [HO.out.ans]
      rfl
  | ok n i1 =>
    have HE0 : Hid (R = pRest (s.size + 1) s.data.toList i1 n []) := Lib.hid (by rw [HPT.out, hp])
    have HNM : Hid (Calls Tryz.prog 18 #[.pointer (some ⟨q + 1, 0, none⟩), .bool false] w1 fun en w' => StandsS (q + 1) s false ⟨#[]⟩ (.slice none 0 0) (.ok n i1) w1 en w') := Lib.hid (by rw [← hp]; exact HNM.out)
    clear hp
    refine HNM.out.mono ?_
    rintro en w3 ⟨hb3, rfl, hB3, hi3⟩
    obtain ⟨SN, hSN⟩ : ∃ S : ByteArray, (⟨n.toArray⟩ : ByteArray) = S := ⟨_, rfl⟩
    rw [hSN]
    have HSN := Lib.hid hSN
    have k3 := hB3.k3
    have f3 := hB3.fz 3
    obtain ⟨w4, hw4⟩ : ∃ w4, w3.setCell ⟨q + 1, 3, none⟩ (.string SN) = w4 := ⟨_, rfl⟩
    have hB4 : RB w4 (q + 1) s (i1 : Int) false SN (.slice none 0 0) 0 0 false := by rw [← hw4]; exact hB3.name SN
    have hb4 : But (q + 1) V w4 := by rw [← hw4]; exact but_trans HB2.out (but_trans hb3 (but_set _ _ _ _))
    have HST : Hid (RI q s SN n V R (s.size + 1) w4) := Lib.hid (.inl ⟨i1, _, [], hB4, hi3, hb4, World.ownsRow_nil _ _ _ _, Nat.zero_le _, .nil, by omega, HE0.out.symm⟩)
    have HW4 := Lib.hid hw4
    clear hb3 hB3 hB4 hb4 hw4 hSN hi3
    go_wp2_with fail
    rw [HW4.out]
    clear k3 f3
    go_loopg [] (s.size + 1) (fun f wr => RI q s SN n V R f wr)
    case atStart => exact HST.out
    case round =>
      obtain ⟨wo, rfl⟩ : ∃ wo, wo = wr := ⟨_, rfl⟩
      rcases hrel with ⟨i, kv, ks, hB, hi, hbut, hown, h8, hap, hf, hp⟩ | ⟨a, e, hO⟩
      · obtain ⟨g, rfl⟩ : ∃ g, gk = g + 1 := ⟨gk - 1, by omega⟩
        have k1 := hB.k1
        have k2 := hB.k2
        have k7 := hB.k7
        obtain ⟨n0, hn0⟩ : ∃ n0, spN s.data.toList i = n0 := ⟨_, rfl⟩
        have HN0 := Lib.hid hn0
        have HP := Lib.hid hp
        have HOW := Lib.hid hown
        have HBUT := Lib.hid hbut
        have HAP := Lib.hid (And.intro h8 hap)
        clear hp hown hbut h8 hap
        by_cases hz : n0 = 0
        · have HE : Hid (R = pEnd s.data.toList ⟨false, n, ks⟩ i) := Lib.hid (by rw [← HP.out]; exact pRest_stop (hn0.trans hz))
          have HL := Lib.hid (And.intro hB (And.intro HBUT.out hi))
          have HK := Lib.hid (And.intro HOW.out HAP.out.1)
          by_cases hlt : i < s.size
          · have h32 := sp_zero (L := s.data.toList) (by rw [HSZ.out]; exact hlt) (hn0.trans hz)
            have hd : (s[i]'hlt).toNat = (s.data.toList[i]'(by rw [HSZ.out]; exact hlt)).toNat := rfl
            obtain ⟨d, hdd⟩ : ∃ d, (s.data.toList[i]'(by rw [HSZ.out]; exact hlt)).toNat = d := ⟨_, rfl⟩
            rw [hdd] at h32 hd
            have hli : (i : Int) < (s.size : Int) := by omega
            have e1 : ((d : Int) == 32) = false := by simp; omega
            clear hdd hn0 hz hB
            go_wp2_with fail
            clear k1 k2 k7 hd e1 hli h32 hlt
            have hwt := rwant_live HL.out.1 HL.out.2.2 hs ⟨#[62]⟩ (by decide)
            have e62 : pWant s.data.toList i (⟨#[62]⟩ : ByteArray).data.toList = if s.data.toList[i]? = some 62 then .ok () (i + 1) else .err i 3 := rfl
            rw [e62] at hwt
            clear e62
            by_cases h62 : s.data.toList[i]? = some 62
            · rw [if_pos h62] at hwt
              have HE2 : Hid (R = if i + 1 < s.size then .err (i + 1) 3 else .ok ⟨false, n, ks⟩ (i + 1)) := Lib.hid (by rw [HE.out, pEnd_eq, if_pos h62, HSZ.out])
              obtain ⟨j, hj⟩ : ∃ j, i + 1 = j := ⟨_, rfl⟩
              rw [hj] at hwt HE2
              have HWT := Lib.hid hwt
              clear hwt h62 hj
              go_wp2_with fail
              refine HWT.out.mono ?_
              rintro en wa ⟨rfl, hba, hBa, hja⟩
              have k7 := hBa.k7
              have k1 := hBa.k1
              by_cases hlt : j < s.size
              · have hli : (j : Int) < (s.size : Int) := by omega
                have HA : Hid (R = .err j 3) := Lib.hid (by rw [HE2.out, if_pos hlt])
                have HF := Lib.hid (fun (x y : Int) => rfail_live hBa x y)
                have HBA := Lib.hid (but_trans HL.out.2.1 hba)
                clear hBa hba
                go_wp2_with fail
                refine (HF.out _ _).mono ?_
                rintro en wb ⟨rfl, hBb, hbb⟩
                have HO : Hid (Over V wb (q + 1) s R j 3) := Lib.hid ⟨but_trans HBA.out hbb, ⟨_, _, _, _, hBb⟩, HA.out⟩
                clear hBb hbb k7 k1 hli
                obtain ⟨ie, ce, ne, ke, hBe⟩ := HO.out.at_
                have k5 := hBe.k5
                have k6 := hBe.k6
                have k7 := hBe.k7
                have hTe := HTV.out.but (Nat.lt_succ_self q) HO.out.but
                have t0 := cell_of (i := 0) hTe rfl
                have t1 := cell_of (i := 1) hTe rfl
                have t2 := cell_of (i := 2) hTe rfl
                have t3 := fun j => frozen_of (i := j) hTe
                clear hBe hTe
                go_wp2_with fail
                go_region
                go_wp2
                (try simp only [Exit.inBlock, Exit.then])
                obtain ⟨hTf, hbf⟩ := over_end HbV.out (Nat.le_of_eq HQ.out) (Nat.lt_succ_self q) HTV.out HO.out rfl
                refine bodyPost_ret (results_ref hTf _ rfl rfl rfl) rfl ⟨hbf, _, rfl, ?_⟩
                rw [HO.out.ans]
                rfl
              · have hli : ¬ (j : Int) < (s.size : Int) := by omega
                have HA : Hid (R = .ok ⟨false, n, ks⟩ j) := Lib.hid (by rw [HE2.out, if_neg hlt])
                have hoa := own_but HK.out.1 hVs hba
                have k4 := hBa.k4
                have HS := Lib.hid (refSort_any (keys_own hoa) (by have := HK.out.2; omega))
                have HBA := Lib.hid (And.intro hba hBa)
                clear hoa hBa hba
                go_wp2_with fail
                clear k4 k7 k1 hli
                refine HS.out.mono ?_
                rintro en wb ⟨⟨v2, rfl, hown⟩, hbb⟩
                obtain ⟨A2, cap2, hv2, _⟩ := own_form hown
                have HOW := Lib.hid hown
                obtain ⟨l2, hl2⟩ : ∃ l, (sortP ks).length = l := ⟨_, rfl⟩
                rw [hl2] at hv2
                have hBb := HBA.out.2.below hbb
                have hBc := hBb.keys v2
                have hTb : TQ (wb.setCell ⟨q + 1, 4, none⟩ v2) q (.bool false) (.string ⟨#[]⟩) (.slice none 0 0) := ((HTV.out.but (Nat.lt_succ_self q) (but_trans HL.out.2.1 HBA.out.1)).but (Nat.lt_succ_self q) (but_below hbb)).but (Nat.lt_succ_self q) (but_set _ _ _ _)
                subst hv2
                have g4 := hBb.k4
                have f4 := hBb.fz 4
                have c2 := hBc.k2
                have c3 := hBc.k3
                have c4 := hBc.k4
                have t0 := cell_of (i := 0) hTb rfl
                have t1 := cell_of (i := 1) hTb rfl
                have t2 := cell_of (i := 2) hTb rfl
                have t3 := fun j => frozen_of (i := j) hTb
                have HBB := Lib.hid hbb
                clear hown hl2 hBb hBc hTb hbb
                go_wp2_with fail
                obtain ⟨hTf, hbf, hpf⟩ := tag_end HbV.out HQ.out hVs HTV.out HL.out.2.1 HBA.out.1 HBB.out HOW.out HSN.out HA.out rfl
                (try simp only [Exit.inBlock, Exit.then])
                exact bodyPost_ret (results_ref hTf _ rfl rfl rfl) rfl ⟨hbf, _, rfl, hpf⟩
            · rw [if_neg h62] at hwt
              have HA : Hid (R = .err i 3) := Lib.hid (by rw [HE.out, pEnd_eq, if_neg h62])
              have HWT := Lib.hid hwt
              clear hwt h62
              go_wp2_with fail
              refine HWT.out.mono ?_
              rintro en wa ⟨rfl, hba, ja, hBa⟩
              have HO : Hid (Over V wa (q + 1) s R i 3) := Lib.hid ⟨but_trans HL.out.2.1 hba, ⟨_, _, _, _, hBa⟩, HA.out⟩
              clear hba hBa
              obtain ⟨ie, ce, ne, ke, hBe⟩ := HO.out.at_
              have k5 := hBe.k5
              have k6 := hBe.k6
              have k7 := hBe.k7
              have hTe := HTV.out.but (Nat.lt_succ_self q) HO.out.but
              have t0 := cell_of (i := 0) hTe rfl
              have t1 := cell_of (i := 1) hTe rfl
              have t2 := cell_of (i := 2) hTe rfl
              have t3 := fun j => frozen_of (i := j) hTe
              clear hBe hTe
              go_wp2_with fail
              go_region
              go_wp2
              (try simp only [Exit.inBlock, Exit.then])
              obtain ⟨hTf, hbf⟩ := over_end HbV.out (Nat.le_of_eq HQ.out) (Nat.lt_succ_self q) HTV.out HO.out rfl
              refine bodyPost_ret (results_ref hTf _ rfl rfl rfl) rfl ⟨hbf, _, rfl, ?_⟩
              rw [HO.out.ans]
              rfl
          · have hli : ¬ (i : Int) < (s.size : Int) := by omega
            clear hn0 hz hB
            go_wp2_with fail
            clear k1 k2 k7 hli hlt
            have hwt := rwant_live HL.out.1 HL.out.2.2 hs ⟨#[62]⟩ (by decide)
            have e62 : pWant s.data.toList i (⟨#[62]⟩ : ByteArray).data.toList = if s.data.toList[i]? = some 62 then .ok () (i + 1) else .err i 3 := rfl
            rw [e62] at hwt
            clear e62
            by_cases h62 : s.data.toList[i]? = some 62
            · rw [if_pos h62] at hwt
              have HE2 : Hid (R = if i + 1 < s.size then .err (i + 1) 3 else .ok ⟨false, n, ks⟩ (i + 1)) := Lib.hid (by rw [HE.out, pEnd_eq, if_pos h62, HSZ.out])
              obtain ⟨j, hj⟩ : ∃ j, i + 1 = j := ⟨_, rfl⟩
              rw [hj] at hwt HE2
              have HWT := Lib.hid hwt
              clear hwt h62 hj
              go_wp2_with fail
              refine HWT.out.mono ?_
              rintro en wa ⟨rfl, hba, hBa, hja⟩
              have k7 := hBa.k7
              have k1 := hBa.k1
              by_cases hlt : j < s.size
              · have hli : (j : Int) < (s.size : Int) := by omega
                have HA : Hid (R = .err j 3) := Lib.hid (by rw [HE2.out, if_pos hlt])
                have HF := Lib.hid (fun (x y : Int) => rfail_live hBa x y)
                have HBA := Lib.hid (but_trans HL.out.2.1 hba)
                clear hBa hba
                go_wp2_with fail
                refine (HF.out _ _).mono ?_
                rintro en wb ⟨rfl, hBb, hbb⟩
                have HO : Hid (Over V wb (q + 1) s R j 3) := Lib.hid ⟨but_trans HBA.out hbb, ⟨_, _, _, _, hBb⟩, HA.out⟩
                clear hBb hbb k7 k1 hli
                obtain ⟨ie, ce, ne, ke, hBe⟩ := HO.out.at_
                have k5 := hBe.k5
                have k6 := hBe.k6
                have k7 := hBe.k7
                have hTe := HTV.out.but (Nat.lt_succ_self q) HO.out.but
                have t0 := cell_of (i := 0) hTe rfl
                have t1 := cell_of (i := 1) hTe rfl
                have t2 := cell_of (i := 2) hTe rfl
                have t3 := fun j => frozen_of (i := j) hTe
                clear hBe hTe
                go_wp2_with fail
                go_region
                go_wp2
                (try simp only [Exit.inBlock, Exit.then])
                obtain ⟨hTf, hbf⟩ := over_end HbV.out (Nat.le_of_eq HQ.out) (Nat.lt_succ_self q) HTV.out HO.out rfl
                refine bodyPost_ret (results_ref hTf _ rfl rfl rfl) rfl ⟨hbf, _, rfl, ?_⟩
                rw [HO.out.ans]
                rfl
              · have hli : ¬ (j : Int) < (s.size : Int) := by omega
                have HA : Hid (R = .ok ⟨false, n, ks⟩ j) := Lib.hid (by rw [HE2.out, if_neg hlt])
                have hoa := own_but HK.out.1 hVs hba
                have k4 := hBa.k4
                have HS := Lib.hid (refSort_any (keys_own hoa) (by have := HK.out.2; omega))
                have HBA := Lib.hid (And.intro hba hBa)
                clear hoa hBa hba
                go_wp2_with fail
                clear k4 k7 k1 hli
                refine HS.out.mono ?_
                rintro en wb ⟨⟨v2, rfl, hown⟩, hbb⟩
                obtain ⟨A2, cap2, hv2, _⟩ := own_form hown
                have HOW := Lib.hid hown
                obtain ⟨l2, hl2⟩ : ∃ l, (sortP ks).length = l := ⟨_, rfl⟩
                rw [hl2] at hv2
                have hBb := HBA.out.2.below hbb
                have hBc := hBb.keys v2
                have hTb : TQ (wb.setCell ⟨q + 1, 4, none⟩ v2) q (.bool false) (.string ⟨#[]⟩) (.slice none 0 0) := ((HTV.out.but (Nat.lt_succ_self q) (but_trans HL.out.2.1 HBA.out.1)).but (Nat.lt_succ_self q) (but_below hbb)).but (Nat.lt_succ_self q) (but_set _ _ _ _)
                subst hv2
                have g4 := hBb.k4
                have f4 := hBb.fz 4
                have c2 := hBc.k2
                have c3 := hBc.k3
                have c4 := hBc.k4
                have t0 := cell_of (i := 0) hTb rfl
                have t1 := cell_of (i := 1) hTb rfl
                have t2 := cell_of (i := 2) hTb rfl
                have t3 := fun j => frozen_of (i := j) hTb
                have HBB := Lib.hid hbb
                clear hown hl2 hBb hBc hTb hbb
                go_wp2_with fail
                obtain ⟨hTf, hbf, hpf⟩ := tag_end HbV.out HQ.out hVs HTV.out HL.out.2.1 HBA.out.1 HBB.out HOW.out HSN.out HA.out rfl
                (try simp only [Exit.inBlock, Exit.then])
                exact bodyPost_ret (results_ref hTf _ rfl rfl rfl) rfl ⟨hbf, _, rfl, hpf⟩
            · rw [if_neg h62] at hwt
              have HA : Hid (R = .err i 3) := Lib.hid (by rw [HE.out, pEnd_eq, if_neg h62])
              have HWT := Lib.hid hwt
              clear hwt h62
              go_wp2_with fail
              refine HWT.out.mono ?_
              rintro en wa ⟨rfl, hba, ja, hBa⟩
              have HO : Hid (Over V wa (q + 1) s R i 3) := Lib.hid ⟨but_trans HL.out.2.1 hba, ⟨_, _, _, _, hBa⟩, HA.out⟩
              clear hba hBa
              obtain ⟨ie, ce, ne, ke, hBe⟩ := HO.out.at_
              have k5 := hBe.k5
              have k6 := hBe.k6
              have k7 := hBe.k7
              have hTe := HTV.out.but (Nat.lt_succ_self q) HO.out.but
              have t0 := cell_of (i := 0) hTe rfl
              have t1 := cell_of (i := 1) hTe rfl
              have t2 := cell_of (i := 2) hTe rfl
              have t3 := fun j => frozen_of (i := j) hTe
              clear hBe hTe
              go_wp2_with fail
              go_region
              go_wp2
              (try simp only [Exit.inBlock, Exit.then])
              obtain ⟨hTf, hbf⟩ := over_end HbV.out (Nat.le_of_eq HQ.out) (Nat.lt_succ_self q) HTV.out HO.out rfl
              refine bodyPost_ret (results_ref hTf _ rfl rfl rfl) rfl ⟨hbf, _, rfl, ?_⟩
              rw [HO.out.ans]
              rfl
        · obtain ⟨hlt', h32, _⟩ := sp_pos (L := s.data.toList) (i := i) (by rw [hn0]; exact hz)
          have hlt : i < s.size := by rw [← HSZ.out]; exact hlt'
          have hd : (s[i]'hlt).toNat = 32 := h32
          have hli : (i : Int) < (s.size : Int) := by omega
          have HBI := Lib.hid hB
          clear hn0 h32 hB hlt'
          go_wp2_with fail
          clear k1 k2 k7 hd hli
          go_loopg [] (s.size + 1) (fun f wr => ∃ j : Nat, RB wr (q + 1) s j false SN kv 0 0 false ∧ j ≤ s.size ∧ But (q + 1) wo wr ∧ s.size < j + f ∧ j + spN s.data.toList j = i + n0 ∧ i ≤ j)
          case atStart => exact ⟨i, HBI.out, hi, but_refl _ _, by omega, by rw [HN0.out], Nat.le_refl _⟩
          case round =>
            obtain ⟨j, hBj, hj, hbj, hfj, hsj, hij⟩ := hrel
            obtain ⟨g2, rfl⟩ : ∃ g, gk = g + 1 := ⟨gk - 1, by omega⟩
            have k1 := hBj.k1
            have f1 := hBj.fz 1
            by_cases hlj : j < s.size
            · have hlj' : j < s.data.toList.length := by rw [HSZ.out]; exact hlj
              have hd : (s[j]'hlj).toNat = (s.data.toList[j]).toNat := rfl
              obtain ⟨d, hdd⟩ : ∃ d, (s.data.toList[j]).toNat = d := ⟨_, rfl⟩
              rw [hdd] at hd
              have hli : (j : Int) < (s.size : Int) := by omega
              by_cases h32 : d = 32
              · have hsp : spN s.data.toList j ≠ 0 := fun e => sp_zero hlj' e (hdd.trans h32)
                obtain ⟨_, _, hs1⟩ := sp_pos hsp
                have HS1 := Lib.hid hs1
                have HBJ := Lib.hid (And.intro hBj hbj)
                subst h32
                clear hdd hsp hs1 hBj hbj hlj'
                go_wp2_with fail
                clear hd
                go_roundg g2
                case measure => omega
                case rel =>
                  exact ⟨j + 1, by have := HBJ.out.1.move ((j : Int) + 1); exact_mod_cast this, by omega, but_trans HBJ.out.2 (but_set (q + 1) 1 _ _), by omega, by have := HS1.out; omega, by omega⟩
              · have e1 : ((d : Int) == 32) = false := by simp; omega
                have HZ : Hid (spN s.data.toList j = 0) := Lib.hid (by
                  by_cases e : spN s.data.toList j = 0
                  · exact e
                  · obtain ⟨_, e2, _⟩ := sp_pos e
                    exact absurd (hdd.symm.trans e2) h32)
                clear hdd hlj'
                have hz0 : spN s.data.toList j = 0 := HZ.out
                have hje : j = i + n0 := by omega
                have hp2 := HP.out
                rw [pRest_step (by rw [HN0.out]; exact hz), HN0.out, ← hje] at hp2
                clear hje
                have HNM0 := Lib.hid (rname_live hBj hj hs true ks (fun _ => ⟨fun W hW => keys_own (own_but HOW.out hVs (but_trans hbj hW)), HAP.out.1⟩))
                have HB3j := Lib.hid (but_trans HBUT.out hbj)
                have HOWj := Lib.hid (own_but HOW.out hVs hbj)
                have HF := Lib.hid hf
                clear hz0 hBj hj hbj hfj hsj hf
                cases hk : pKeyName s.data.toList j ks with
                | err a e =>
                  have HA : Hid (R = .err a e) := Lib.hid (by rw [hk] at hp2; exact hp2.symm)
                  have HNM : Hid (Calls Tryz.prog 18 #[.pointer (some ⟨q + 1, 0, none⟩), .bool true] wr fun en w' => StandsS (q + 1) s false SN kv (.err a e) wr en w') := Lib.hid (by have := HNM0.out; rw [if_pos rfl, hk] at this; exact this)
                  clear hk hp2 HNM0
                  go_wp2_with fail
                  clear hd e1 hli k1 f1 h32 hlj
                  refine HNM.out.mono ?_
                  rintro en wa ⟨hba, x, ja, rfl, hBa⟩
                  have HO : Hid (Over V wa (q + 1) s R a e) := Lib.hid ⟨but_trans HB3j.out hba, ⟨_, _, _, _, hBa⟩, HA.out⟩
                  have HW2 := Lib.hid (rwant_over hBa ⟨#[61, 34]⟩ (by decide))
                  have k7b := hBa.k7
                  clear hba hBa
                  go_wp2_with fail
                  refine HW2.out.mono ?_
                  rintro en wb ⟨rfl, rfl⟩
                  obtain ⟨ie0, ce0, ne0, ke0, hBe0⟩ := HO.out.at_
                  have HWO := Lib.hid (rwant_over hBe0 ⟨#[62]⟩ (by decide))
                  clear hBe0
                  go_wp2_with fail
                  refine HWO.out.mono ?_
                  rintro en wz ⟨rfl, rfl⟩
                  obtain ⟨ie, ce, ne, ke, hBe⟩ := HO.out.at_
                  have k5 := hBe.k5
                  have k6 := hBe.k6
                  have k7 := hBe.k7
                  have hTe := HTV.out.but (Nat.lt_succ_self q) HO.out.but
                  have t0 := cell_of (i := 0) hTe rfl
                  have t1 := cell_of (i := 1) hTe rfl
                  have t2 := cell_of (i := 2) hTe rfl
                  have t3 := fun j => frozen_of (i := j) hTe
                  clear hBe hTe
                  go_wp2_with fail
                  go_region
                  go_wp2
                  (try simp only [Exit.inBlock, Exit.then])
                  obtain ⟨hTf, hbf⟩ := over_end HbV.out (Nat.le_of_eq HQ.out) (Nat.lt_succ_self q) HTV.out HO.out rfl
                  refine bodyPost_ret (results_ref hTf _ rfl rfl rfl) rfl ⟨hbf, _, rfl, ?_⟩
                  rw [HO.out.ans]
                  rfl
                | ok nm j2 =>
                  obtain ⟨hno, h8n, hjj⟩ := keyName_ok hk
                  have HNO := Lib.hid (And.intro hno (And.intro h8n hjj))
                  rw [hk] at hp2
                  simp only at hp2
                  have HNM : Hid (Calls Tryz.prog 18 #[.pointer (some ⟨q + 1, 0, none⟩), .bool true] wr fun en w' => StandsS (q + 1) s false SN kv (.ok nm j2) wr en w') := Lib.hid (by have := HNM0.out; rw [if_pos rfl, hk] at this; exact this)
                  clear hk hno h8n hjj HNM0
                  cases hw : pWant s.data.toList j2 [61, 34] with
                  | err a e =>
                    have HA : Hid (R = .err a e) := Lib.hid (by rw [hw] at hp2; exact hp2.symm)
                    have HWW := Lib.hid hw
                    clear hw hp2
                    go_wp2_with fail
                    clear hd e1 hli k1 f1 h32 hlj
                    refine HNM.out.mono ?_
                    rintro en wa ⟨hba, rfl, hBa, hja⟩
                    have hwt := rwant_live hBa hja hs ⟨#[61, 34]⟩ (by decide)
                    rw [show pWant s.data.toList j2 (⟨#[61, 34]⟩ : ByteArray).data.toList = .err a e from HWW.out] at hwt
                    have HW2 := Lib.hid hwt
                    have HB2a := Lib.hid (but_trans HB3j.out hba)
                    clear hba hBa hja hwt
                    go_wp2_with fail
                    refine HW2.out.mono ?_
                    rintro en wb ⟨rfl, hbb, jb, hBb⟩
                    have HO : Hid (Over V wb (q + 1) s R a e) := Lib.hid ⟨but_trans HB2a.out hbb, ⟨_, _, _, _, hBb⟩, HA.out⟩
                    have k7b := hBb.k7
                    clear hbb hBb
                    obtain ⟨ie0, ce0, ne0, ke0, hBe0⟩ := HO.out.at_
                    have HWO := Lib.hid (rwant_over hBe0 ⟨#[62]⟩ (by decide))
                    clear hBe0
                    go_wp2_with fail
                    refine HWO.out.mono ?_
                    rintro en wz ⟨rfl, rfl⟩
                    obtain ⟨ie, ce, ne, ke, hBe⟩ := HO.out.at_
                    have k5 := hBe.k5
                    have k6 := hBe.k6
                    have k7 := hBe.k7
                    have hTe := HTV.out.but (Nat.lt_succ_self q) HO.out.but
                    have t0 := cell_of (i := 0) hTe rfl
                    have t1 := cell_of (i := 1) hTe rfl
                    have t2 := cell_of (i := 2) hTe rfl
                    have t3 := fun j => frozen_of (i := j) hTe
                    clear hBe hTe
                    go_wp2_with fail
                    go_region
                    go_wp2
                    (try simp only [Exit.inBlock, Exit.then])
                    obtain ⟨hTf, hbf⟩ := over_end HbV.out (Nat.le_of_eq HQ.out) (Nat.lt_succ_self q) HTV.out HO.out rfl
                    refine bodyPost_ret (results_ref hTf _ rfl rfl rfl) rfl ⟨hbf, _, rfl, ?_⟩
                    rw [HO.out.ans]
                    rfl
                  | ok u k =>
                    have hk2 := want2_ok hw
                    have HWW := Lib.hid hw
                    have HK2 := Lib.hid hk2
                    rw [hw] at hp2
                    simp only at hp2
                    clear hw hk2
                    obtain ⟨A1, hA1⟩ : ∃ S : ByteArray, (⟨nm.toArray⟩ : ByteArray) = S := ⟨_, rfl⟩
                    have HA1 := Lib.hid hA1
                    clear hA1
                    cases hv : pVal s.data.toList k with
                    | err a e =>
                      have HA : Hid (R = .err a e) := Lib.hid (by rw [hv] at hp2; exact hp2.symm)
                      have HVV := Lib.hid hv
                      clear hv hp2
                      go_wp2_with fail
                      clear hd e1 hli k1 f1 h32 hlj
                      refine HNM.out.mono ?_
                      rintro en wa ⟨hba, rfl, hBa, hja⟩
                      rw [HA1.out]
                      have hwt := rwant_live hBa hja hs ⟨#[61, 34]⟩ (by decide)
                      rw [show pWant s.data.toList j2 (⟨#[61, 34]⟩ : ByteArray).data.toList = .ok u k from HWW.out] at hwt
                      have HW2 := Lib.hid hwt
                      have HB2a := Lib.hid (but_trans HB3j.out hba)
                      have HOWa := Lib.hid (own_but HOWj.out hVs hba)
                      clear hba hBa hja hwt
                      go_wp2_with fail
                      refine HW2.out.mono ?_
                      rintro en wb ⟨rfl, hbb, hBb, hkb⟩
                      have k7b := hBb.k7
                      have hvl := rvalue_live hBb hkb hs
                      rw [HVV.out] at hvl
                      have HVL := Lib.hid hvl
                      have HB3 := Lib.hid (but_trans HB2a.out hbb)
                      have HOW3 := Lib.hid (own_but HOWa.out hVs hbb)
                      clear hbb hBb hkb hvl
                      go_wp2_with fail
                      clear k7b
                      refine HVL.out.mono ?_
                      rintro en wc ⟨hbc, A2, jc, rfl, hBc⟩
                      have hVc := but_trans HB3.out hbc
                      have hoc := own_but HOW3.out hVs hbc
                      obtain ⟨i0, hinf, hz0, hz1, hz2⟩ := info_parts' Tryz.infoPair
                      obtain ⟨mq, hmq⟩ : ∃ mq, ks.length = mq := ⟨_, rfl⟩
                      obtain ⟨F, hF⟩ : ∃ F, ks.flatMap encP = F := ⟨_, rfl⟩
                      rw [hmq, hF] at hoc
                      have hq8 : mq ≤ 8 := by rw [← hmq]; exact HAP.out.1
                      have hw4 : V.heap.size ≤ wc.heap.size := hVc.size
                      have k4 := hBc.k4
                      have HMQ := Lib.hid (And.intro hmq hF)
                      have HOC := Lib.hid hoc
                      have HVC := Lib.hid hVc
                      have HBC := Lib.hid hBc
                      clear hmq hF hoc hVc hBc hbc
                      go_wp2_with (at_builtin; refine wpList_append_own _ rfl (.tmp 122) (.tmp 126) 22 rfl V.heap.size 54 i0 _ 2 32 Tryz.underlying22 hinf hz0 hz1 hz2 rfl (by decide) _ mq _ rfl (HOC.out.alloc _) _ 1 1 [.string A1, .string A2] rfl rfl (news_at _ [.string A1, .string A2] 54) (pair_one A1 A2) (by unfold maxLen; omega) (by omega) (by simp; omega) ?_)
                      intro v' w' hown' hg hnil
                      obtain ⟨A3, cap3, hv3, _⟩ := own_form hown'
                      subst hv3
                      have hrow : ∀ r, kv.ownBlock = some r → V.heap.size ≤ r := fun r e => (own_low HOC.out r e).1
                      have hbut' : But (q + 1) V w' := but_row (but_trans HVC.out (but_below ((Below.refl _ wc).alloc (Nat.le_refl _) (.cells #[.string A1, .string A2] 54)))) hg hrow
                      have hB' := (HBC.out.below ((Below.refl _ wc).alloc (Nat.le_refl _) (.cells #[.string A1, .string A2] 54))).keep (hg.block (q + 1) (by have := HBC.out.lt; simp; omega) (fun e => by have := hrow _ e.symm; omega))
                      have k4' := hB'.k4
                      have f4' := hB'.fz 4
                      have HE3 := Lib.hid (And.intro hown' (And.intro hbut' hB'))
                      clear k4 hown' hg hrow hbut' hB' hnil
                      go_wp2_with fail
                      clear k4' f4'
                      go_roundg g
                      case measure => omega
                      case rel => exact .inr ⟨a, e, but_trans HE3.out.2.1 (but_set _ _ _ _), ⟨_, _, _, _, HE3.out.2.2.keys _⟩, HA.out⟩
                    | ok v m =>
                      have hkm := pVal_ok hv
                      have HA : Hid (pRest g s.data.toList m n (ks ++ [(nm, v)]) = R) := Lib.hid (by rw [hv] at hp2; exact hp2)
                      have HVV := Lib.hid hv
                      have HKM := Lib.hid hkm
                      clear hv hp2 hkm
                      go_wp2_with fail
                      clear hd e1 hli k1 f1 h32 hlj
                      refine HNM.out.mono ?_
                      rintro en wa ⟨hba, rfl, hBa, hja⟩
                      rw [HA1.out]
                      have hwt := rwant_live hBa hja hs ⟨#[61, 34]⟩ (by decide)
                      rw [show pWant s.data.toList j2 (⟨#[61, 34]⟩ : ByteArray).data.toList = .ok u k from HWW.out] at hwt
                      have HW2 := Lib.hid hwt
                      have HB2a := Lib.hid (but_trans HB3j.out hba)
                      have HOWa := Lib.hid (own_but HOWj.out hVs hba)
                      clear hba hBa hja hwt
                      go_wp2_with fail
                      refine HW2.out.mono ?_
                      rintro en wb ⟨rfl, hbb, hBb, hkb⟩
                      have k7b := hBb.k7
                      have hvl := rvalue_live hBb hkb hs
                      rw [HVV.out] at hvl
                      have HVL := Lib.hid hvl
                      have HB3 := Lib.hid (but_trans HB2a.out hbb)
                      have HOW3 := Lib.hid (own_but HOWa.out hVs hbb)
                      clear hbb hBb hkb hvl
                      go_wp2_with fail
                      clear k7b
                      refine HVL.out.mono ?_
                      rintro en wc ⟨hbc, rfl, hBc, hmc⟩
                      obtain ⟨A2, hA2⟩ : ∃ S : ByteArray, (⟨v.toArray⟩ : ByteArray) = S := ⟨_, rfl⟩
                      rw [hA2]
                      have HA2 := Lib.hid hA2
                      have HMC := Lib.hid hmc
                      clear hA2 hmc
                      have hVc := but_trans HB3.out hbc
                      have hoc := own_but HOW3.out hVs hbc
                      obtain ⟨i0, hinf, hz0, hz1, hz2⟩ := info_parts' Tryz.infoPair
                      obtain ⟨mq, hmq⟩ : ∃ mq, ks.length = mq := ⟨_, rfl⟩
                      obtain ⟨F, hF⟩ : ∃ F, ks.flatMap encP = F := ⟨_, rfl⟩
                      rw [hmq, hF] at hoc
                      have hq8 : mq ≤ 8 := by rw [← hmq]; exact HAP.out.1
                      have hw4 : V.heap.size ≤ wc.heap.size := hVc.size
                      have k4 := hBc.k4
                      have HMQ := Lib.hid (And.intro hmq hF)
                      have HOC := Lib.hid hoc
                      have HVC := Lib.hid hVc
                      have HBC := Lib.hid hBc
                      clear hmq hF hoc hVc hBc hbc
                      go_wp2_with (at_builtin; refine wpList_append_own _ rfl (.tmp 122) (.tmp 126) 22 rfl V.heap.size 54 i0 _ 2 32 Tryz.underlying22 hinf hz0 hz1 hz2 rfl (by decide) _ mq _ rfl (HOC.out.alloc _) _ 1 1 [.string A1, .string A2] rfl rfl (news_at _ [.string A1, .string A2] 54) (pair_one A1 A2) (by unfold maxLen; omega) (by omega) (by simp; omega) ?_)
                      intro v' w' hown' hg hnil
                      obtain ⟨A3, cap3, hv3, _⟩ := own_form hown'
                      subst hv3
                      have hrow : ∀ r, kv.ownBlock = some r → V.heap.size ≤ r := fun r e => (own_low HOC.out r e).1
                      have hbut' : But (q + 1) V w' := but_row (but_trans HVC.out (but_below ((Below.refl _ wc).alloc (Nat.le_refl _) (.cells #[.string A1, .string A2] 54)))) hg hrow
                      have hB' := (HBC.out.below ((Below.refl _ wc).alloc (Nat.le_refl _) (.cells #[.string A1, .string A2] 54))).keep (hg.block (q + 1) (by have := HBC.out.lt; simp; omega) (fun e => by have := hrow _ e.symm; omega))
                      have k4' := hB'.k4
                      have f4' := hB'.fz 4
                      have HE3 := Lib.hid (And.intro hown' (And.intro hbut' hB'))
                      clear k4 hown' hg hrow hbut' hB' hnil
                      go_wp2_with fail
                      clear k4' f4'
                      go_roundg g
                      case measure => omega
                      case rel =>
                        refine .inl ⟨m, _, ks ++ [(nm, v)], HE3.out.2.2.keys _, HMC.out, but_trans HE3.out.2.1 (but_set _ _ _ _), ?_, ?_, ?_, ?_, HA.out⟩
                        · have h1 : w'.ownsRow V.heap.size 54 2 (.slice A3 (mq + 1) cap3) (ks ++ [(nm, v)]).length ((ks ++ [(nm, v)]).flatMap encP) := by
                            rw [List.length_append, HMQ.out.1, List.flatMap_append, HMQ.out.2]
                            have e : [(nm, v)].flatMap encP = [.string A1, .string A2] := by rw [← HA1.out, ← HA2.out]; rfl
                            rw [e]
                            exact HE3.out.1
                          exact own_but h1 hVs (but_set (q + 1) 4 _ _)
                        · have := HAP.out.1
                          have := HNO.out.2.1
                          rw [List.length_append]
                          simp
                          omega
                        · exact (apart_iff ks (nm, v)).2 ⟨HAP.out.2, HNO.out.1⟩
                        · have := HF.out
                          have := HNO.out.2.2
                          have := HK2.out
                          have := HKM.out
                          omega
            · have hli : ¬ (j : Int) < (s.size : Int) := by omega
              have HZ : Hid (spN s.data.toList j = 0) := Lib.hid (by unfold spN; rw [List.drop_eq_nil_of_le (by rw [HSZ.out]; omega)]; rfl)
              have hz0 : spN s.data.toList j = 0 := HZ.out
              have hje : j = i + n0 := by omega
              have hp2 := HP.out
              rw [pRest_step (by rw [HN0.out]; exact hz), HN0.out, ← hje] at hp2
              clear hje
              have HNM0 := Lib.hid (rname_live hBj hj hs true ks (fun _ => ⟨fun W hW => keys_own (own_but HOW.out hVs (but_trans hbj hW)), HAP.out.1⟩))
              have HB3j := Lib.hid (but_trans HBUT.out hbj)
              have HOWj := Lib.hid (own_but HOW.out hVs hbj)
              have HF := Lib.hid hf
              clear hz0 hBj hj hbj hfj hsj hf
              cases hk : pKeyName s.data.toList j ks with
              | err a e =>
                have HA : Hid (R = .err a e) := Lib.hid (by rw [hk] at hp2; exact hp2.symm)
                have HNM : Hid (Calls Tryz.prog 18 #[.pointer (some ⟨q + 1, 0, none⟩), .bool true] wr fun en w' => StandsS (q + 1) s false SN kv (.err a e) wr en w') := Lib.hid (by have := HNM0.out; rw [if_pos rfl, hk] at this; exact this)
                clear hk hp2 HNM0
                go_wp2_with fail
                clear hli k1 f1 hlj
                refine HNM.out.mono ?_
                rintro en wa ⟨hba, x, ja, rfl, hBa⟩
                have HO : Hid (Over V wa (q + 1) s R a e) := Lib.hid ⟨but_trans HB3j.out hba, ⟨_, _, _, _, hBa⟩, HA.out⟩
                have HW2 := Lib.hid (rwant_over hBa ⟨#[61, 34]⟩ (by decide))
                have k7b := hBa.k7
                clear hba hBa
                go_wp2_with fail
                refine HW2.out.mono ?_
                rintro en wb ⟨rfl, rfl⟩
                obtain ⟨ie0, ce0, ne0, ke0, hBe0⟩ := HO.out.at_
                have HWO := Lib.hid (rwant_over hBe0 ⟨#[62]⟩ (by decide))
                clear hBe0
                go_wp2_with fail
                refine HWO.out.mono ?_
                rintro en wz ⟨rfl, rfl⟩
                obtain ⟨ie, ce, ne, ke, hBe⟩ := HO.out.at_
                have k5 := hBe.k5
                have k6 := hBe.k6
                have k7 := hBe.k7
                have hTe := HTV.out.but (Nat.lt_succ_self q) HO.out.but
                have t0 := cell_of (i := 0) hTe rfl
                have t1 := cell_of (i := 1) hTe rfl
                have t2 := cell_of (i := 2) hTe rfl
                have t3 := fun j => frozen_of (i := j) hTe
                clear hBe hTe
                go_wp2_with fail
                go_region
                go_wp2
                (try simp only [Exit.inBlock, Exit.then])
                obtain ⟨hTf, hbf⟩ := over_end HbV.out (Nat.le_of_eq HQ.out) (Nat.lt_succ_self q) HTV.out HO.out rfl
                refine bodyPost_ret (results_ref hTf _ rfl rfl rfl) rfl ⟨hbf, _, rfl, ?_⟩
                rw [HO.out.ans]
                rfl
              | ok nm j2 =>
                obtain ⟨hno, h8n, hjj⟩ := keyName_ok hk
                have HNO := Lib.hid (And.intro hno (And.intro h8n hjj))
                rw [hk] at hp2
                simp only at hp2
                have HNM : Hid (Calls Tryz.prog 18 #[.pointer (some ⟨q + 1, 0, none⟩), .bool true] wr fun en w' => StandsS (q + 1) s false SN kv (.ok nm j2) wr en w') := Lib.hid (by have := HNM0.out; rw [if_pos rfl, hk] at this; exact this)
                clear hk hno h8n hjj HNM0
                cases hw : pWant s.data.toList j2 [61, 34] with
                | err a e =>
                  have HA : Hid (R = .err a e) := Lib.hid (by rw [hw] at hp2; exact hp2.symm)
                  have HWW := Lib.hid hw
                  clear hw hp2
                  go_wp2_with fail
                  clear hli k1 f1 hlj
                  refine HNM.out.mono ?_
                  rintro en wa ⟨hba, rfl, hBa, hja⟩
                  have hwt := rwant_live hBa hja hs ⟨#[61, 34]⟩ (by decide)
                  rw [show pWant s.data.toList j2 (⟨#[61, 34]⟩ : ByteArray).data.toList = .err a e from HWW.out] at hwt
                  have HW2 := Lib.hid hwt
                  have HB2a := Lib.hid (but_trans HB3j.out hba)
                  clear hba hBa hja hwt
                  go_wp2_with fail
                  refine HW2.out.mono ?_
                  rintro en wb ⟨rfl, hbb, jb, hBb⟩
                  have HO : Hid (Over V wb (q + 1) s R a e) := Lib.hid ⟨but_trans HB2a.out hbb, ⟨_, _, _, _, hBb⟩, HA.out⟩
                  have k7b := hBb.k7
                  clear hbb hBb
                  obtain ⟨ie0, ce0, ne0, ke0, hBe0⟩ := HO.out.at_
                  have HWO := Lib.hid (rwant_over hBe0 ⟨#[62]⟩ (by decide))
                  clear hBe0
                  go_wp2_with fail
                  refine HWO.out.mono ?_
                  rintro en wz ⟨rfl, rfl⟩
                  obtain ⟨ie, ce, ne, ke, hBe⟩ := HO.out.at_
                  have k5 := hBe.k5
                  have k6 := hBe.k6
                  have k7 := hBe.k7
                  have hTe := HTV.out.but (Nat.lt_succ_self q) HO.out.but
                  have t0 := cell_of (i := 0) hTe rfl
                  have t1 := cell_of (i := 1) hTe rfl
                  have t2 := cell_of (i := 2) hTe rfl
                  have t3 := fun j => frozen_of (i := j) hTe
                  clear hBe hTe
                  go_wp2_with fail
                  go_region
                  go_wp2
                  (try simp only [Exit.inBlock, Exit.then])
                  obtain ⟨hTf, hbf⟩ := over_end HbV.out (Nat.le_of_eq HQ.out) (Nat.lt_succ_self q) HTV.out HO.out rfl
                  refine bodyPost_ret (results_ref hTf _ rfl rfl rfl) rfl ⟨hbf, _, rfl, ?_⟩
                  rw [HO.out.ans]
                  rfl
                | ok u k =>
                  have hk2 := want2_ok hw
                  have HWW := Lib.hid hw
                  have HK2 := Lib.hid hk2
                  rw [hw] at hp2
                  simp only at hp2
                  clear hw hk2
                  obtain ⟨A1, hA1⟩ : ∃ S : ByteArray, (⟨nm.toArray⟩ : ByteArray) = S := ⟨_, rfl⟩
                  have HA1 := Lib.hid hA1
                  clear hA1
                  cases hv : pVal s.data.toList k with
                  | err a e =>
                    have HA : Hid (R = .err a e) := Lib.hid (by rw [hv] at hp2; exact hp2.symm)
                    have HVV := Lib.hid hv
                    clear hv hp2
                    go_wp2_with fail
                    clear hli k1 f1 hlj
                    refine HNM.out.mono ?_
                    rintro en wa ⟨hba, rfl, hBa, hja⟩
                    rw [HA1.out]
                    have hwt := rwant_live hBa hja hs ⟨#[61, 34]⟩ (by decide)
                    rw [show pWant s.data.toList j2 (⟨#[61, 34]⟩ : ByteArray).data.toList = .ok u k from HWW.out] at hwt
                    have HW2 := Lib.hid hwt
                    have HB2a := Lib.hid (but_trans HB3j.out hba)
                    have HOWa := Lib.hid (own_but HOWj.out hVs hba)
                    clear hba hBa hja hwt
                    go_wp2_with fail
                    refine HW2.out.mono ?_
                    rintro en wb ⟨rfl, hbb, hBb, hkb⟩
                    have k7b := hBb.k7
                    have hvl := rvalue_live hBb hkb hs
                    rw [HVV.out] at hvl
                    have HVL := Lib.hid hvl
                    have HB3 := Lib.hid (but_trans HB2a.out hbb)
                    have HOW3 := Lib.hid (own_but HOWa.out hVs hbb)
                    clear hbb hBb hkb hvl
                    go_wp2_with fail
                    clear k7b
                    refine HVL.out.mono ?_
                    rintro en wc ⟨hbc, A2, jc, rfl, hBc⟩
                    have hVc := but_trans HB3.out hbc
                    have hoc := own_but HOW3.out hVs hbc
                    obtain ⟨i0, hinf, hz0, hz1, hz2⟩ := info_parts' Tryz.infoPair
                    obtain ⟨mq, hmq⟩ : ∃ mq, ks.length = mq := ⟨_, rfl⟩
                    obtain ⟨F, hF⟩ : ∃ F, ks.flatMap encP = F := ⟨_, rfl⟩
                    rw [hmq, hF] at hoc
                    have hq8 : mq ≤ 8 := by rw [← hmq]; exact HAP.out.1
                    have hw4 : V.heap.size ≤ wc.heap.size := hVc.size
                    have k4 := hBc.k4
                    have HMQ := Lib.hid (And.intro hmq hF)
                    have HOC := Lib.hid hoc
                    have HVC := Lib.hid hVc
                    have HBC := Lib.hid hBc
                    clear hmq hF hoc hVc hBc hbc
                    go_wp2_with (at_builtin; refine wpList_append_own _ rfl (.tmp 122) (.tmp 126) 22 rfl V.heap.size 54 i0 _ 2 32 Tryz.underlying22 hinf hz0 hz1 hz2 rfl (by decide) _ mq _ rfl (HOC.out.alloc _) _ 1 1 [.string A1, .string A2] rfl rfl (news_at _ [.string A1, .string A2] 54) (pair_one A1 A2) (by unfold maxLen; omega) (by omega) (by simp; omega) ?_)
                    intro v' w' hown' hg hnil
                    obtain ⟨A3, cap3, hv3, _⟩ := own_form hown'
                    subst hv3
                    have hrow : ∀ r, kv.ownBlock = some r → V.heap.size ≤ r := fun r e => (own_low HOC.out r e).1
                    have hbut' : But (q + 1) V w' := but_row (but_trans HVC.out (but_below ((Below.refl _ wc).alloc (Nat.le_refl _) (.cells #[.string A1, .string A2] 54)))) hg hrow
                    have hB' := (HBC.out.below ((Below.refl _ wc).alloc (Nat.le_refl _) (.cells #[.string A1, .string A2] 54))).keep (hg.block (q + 1) (by have := HBC.out.lt; simp; omega) (fun e => by have := hrow _ e.symm; omega))
                    have k4' := hB'.k4
                    have f4' := hB'.fz 4
                    have HE3 := Lib.hid (And.intro hown' (And.intro hbut' hB'))
                    clear k4 hown' hg hrow hbut' hB' hnil
                    go_wp2_with fail
                    clear k4' f4'
                    go_roundg g
                    case measure => omega
                    case rel => exact .inr ⟨a, e, but_trans HE3.out.2.1 (but_set _ _ _ _), ⟨_, _, _, _, HE3.out.2.2.keys _⟩, HA.out⟩
                  | ok v m =>
                    have hkm := pVal_ok hv
                    have HA : Hid (pRest g s.data.toList m n (ks ++ [(nm, v)]) = R) := Lib.hid (by rw [hv] at hp2; exact hp2)
                    have HVV := Lib.hid hv
                    have HKM := Lib.hid hkm
                    clear hv hp2 hkm
                    go_wp2_with fail
                    clear hli k1 f1 hlj
                    refine HNM.out.mono ?_
                    rintro en wa ⟨hba, rfl, hBa, hja⟩
                    rw [HA1.out]
                    have hwt := rwant_live hBa hja hs ⟨#[61, 34]⟩ (by decide)
                    rw [show pWant s.data.toList j2 (⟨#[61, 34]⟩ : ByteArray).data.toList = .ok u k from HWW.out] at hwt
                    have HW2 := Lib.hid hwt
                    have HB2a := Lib.hid (but_trans HB3j.out hba)
                    have HOWa := Lib.hid (own_but HOWj.out hVs hba)
                    clear hba hBa hja hwt
                    go_wp2_with fail
                    refine HW2.out.mono ?_
                    rintro en wb ⟨rfl, hbb, hBb, hkb⟩
                    have k7b := hBb.k7
                    have hvl := rvalue_live hBb hkb hs
                    rw [HVV.out] at hvl
                    have HVL := Lib.hid hvl
                    have HB3 := Lib.hid (but_trans HB2a.out hbb)
                    have HOW3 := Lib.hid (own_but HOWa.out hVs hbb)
                    clear hbb hBb hkb hvl
                    go_wp2_with fail
                    clear k7b
                    refine HVL.out.mono ?_
                    rintro en wc ⟨hbc, rfl, hBc, hmc⟩
                    obtain ⟨A2, hA2⟩ : ∃ S : ByteArray, (⟨v.toArray⟩ : ByteArray) = S := ⟨_, rfl⟩
                    rw [hA2]
                    have HA2 := Lib.hid hA2
                    have HMC := Lib.hid hmc
                    clear hA2 hmc
                    have hVc := but_trans HB3.out hbc
                    have hoc := own_but HOW3.out hVs hbc
                    obtain ⟨i0, hinf, hz0, hz1, hz2⟩ := info_parts' Tryz.infoPair
                    obtain ⟨mq, hmq⟩ : ∃ mq, ks.length = mq := ⟨_, rfl⟩
                    obtain ⟨F, hF⟩ : ∃ F, ks.flatMap encP = F := ⟨_, rfl⟩
                    rw [hmq, hF] at hoc
                    have hq8 : mq ≤ 8 := by rw [← hmq]; exact HAP.out.1
                    have hw4 : V.heap.size ≤ wc.heap.size := hVc.size
                    have k4 := hBc.k4
                    have HMQ := Lib.hid (And.intro hmq hF)
                    have HOC := Lib.hid hoc
                    have HVC := Lib.hid hVc
                    have HBC := Lib.hid hBc
                    clear hmq hF hoc hVc hBc hbc
                    go_wp2_with (at_builtin; refine wpList_append_own _ rfl (.tmp 122) (.tmp 126) 22 rfl V.heap.size 54 i0 _ 2 32 Tryz.underlying22 hinf hz0 hz1 hz2 rfl (by decide) _ mq _ rfl (HOC.out.alloc _) _ 1 1 [.string A1, .string A2] rfl rfl (news_at _ [.string A1, .string A2] 54) (pair_one A1 A2) (by unfold maxLen; omega) (by omega) (by simp; omega) ?_)
                    intro v' w' hown' hg hnil
                    obtain ⟨A3, cap3, hv3, _⟩ := own_form hown'
                    subst hv3
                    have hrow : ∀ r, kv.ownBlock = some r → V.heap.size ≤ r := fun r e => (own_low HOC.out r e).1
                    have hbut' : But (q + 1) V w' := but_row (but_trans HVC.out (but_below ((Below.refl _ wc).alloc (Nat.le_refl _) (.cells #[.string A1, .string A2] 54)))) hg hrow
                    have hB' := (HBC.out.below ((Below.refl _ wc).alloc (Nat.le_refl _) (.cells #[.string A1, .string A2] 54))).keep (hg.block (q + 1) (by have := HBC.out.lt; simp; omega) (fun e => by have := hrow _ e.symm; omega))
                    have k4' := hB'.k4
                    have f4' := hB'.fz 4
                    have HE3 := Lib.hid (And.intro hown' (And.intro hbut' hB'))
                    clear k4 hown' hg hrow hbut' hB' hnil
                    go_wp2_with fail
                    clear k4' f4'
                    go_roundg g
                    case measure => omega
                    case rel =>
                      refine .inl ⟨m, _, ks ++ [(nm, v)], HE3.out.2.2.keys _, HMC.out, but_trans HE3.out.2.1 (but_set _ _ _ _), ?_, ?_, ?_, ?_, HA.out⟩
                      · have h1 : w'.ownsRow V.heap.size 54 2 (.slice A3 (mq + 1) cap3) (ks ++ [(nm, v)]).length ((ks ++ [(nm, v)]).flatMap encP) := by
                          rw [List.length_append, HMQ.out.1, List.flatMap_append, HMQ.out.2]
                          have e : [(nm, v)].flatMap encP = [.string A1, .string A2] := by rw [← HA1.out, ← HA2.out]; rfl
                          rw [e]
                          exact HE3.out.1
                        exact own_but h1 hVs (but_set (q + 1) 4 _ _)
                      · have := HAP.out.1
                        have := HNO.out.2.1
                        rw [List.length_append]
                        simp
                        omega
                      · exact (apart_iff ks (nm, v)).2 ⟨HAP.out.2, HNO.out.1⟩
                      · have := HF.out
                        have := HNO.out.2.2
                        have := HK2.out
                        have := HKM.out
                        omega
      · have HO := Lib.hid hO
        obtain ⟨ieh, ceh, neh, keh, hBh⟩ := hO.at_
        have k7 := hBh.k7
        clear hBh hO
        go_wp2_with fail
        clear k7
        obtain ⟨ie0, ce0, ne0, ke0, hBe0⟩ := HO.out.at_
        have HWO := Lib.hid (rwant_over hBe0 ⟨#[62]⟩ (by decide))
        clear hBe0
        go_wp2_with fail
        refine HWO.out.mono ?_
        rintro en wz ⟨rfl, rfl⟩
        obtain ⟨ie, ce, ne, ke, hBe⟩ := HO.out.at_
        have k5 := hBe.k5
        have k6 := hBe.k6
        have k7 := hBe.k7
        have hTe := HTV.out.but (Nat.lt_succ_self q) HO.out.but
        have t0 := cell_of (i := 0) hTe rfl
        have t1 := cell_of (i := 1) hTe rfl
        have t2 := cell_of (i := 2) hTe rfl
        have t3 := fun j => frozen_of (i := j) hTe
        clear hBe hTe
        go_wp2_with fail
        go_region
        go_wp2
        (try simp only [Exit.inBlock, Exit.then])
        obtain ⟨hTf, hbf⟩ := over_end HbV.out (Nat.le_of_eq HQ.out) (Nat.lt_succ_self q) HTV.out HO.out rfl
        refine bodyPost_ret (results_ref hTf _ rfl rfl rfl) rfl ⟨hbf, _, rfl, ?_⟩
        rw [HO.out.ans]
        rfl
end Go.Proofs.YtjablaidbccnbaaGreatDoor
