/-
  WALKS over the reference of interval: Normalize, Cover, Choose.
-/
import Derived.Test.YtpkkebojiengpaaIbP
namespace Go.Proofs.Ytpkkebojiengpaa
open Go Go.RowKit Go.Shelf Go.Lib
set_option linter.unusedVariables false
set_option linter.unusedSimpArgs false

theorem norm_take {l : List Sp} {k : Nat} {s : Sp} (h : l[k]? = some s) : normS (l.take (k + 1)) = insS s (normS (l.take k)) := by
  rw [List.take_add_one, h]
  exact normS_snoc _ _
theorem norm_le (l : List Sp) (k : Nat) : (normS (l.take k)).length ≤ k := by
  have := normS_len (l.take k)
  rw [List.length_take] at this
  omega

set_option maxRecDepth 100000 in
set_option maxHeartbeats 4000000 in
theorem refNormalize_any {w : World} {v : Value} {l : List Sp} (hv : Rows 2 ESp w v l) :
    Calls Try.prog 13 #[v] w (NorV w (chkS l) (norL l)) := by
  have HCK := Lib.hid (refCheck_any hv)
  have HV := Lib.hid (fun W (h : Below w.heap.size w W) => hv.below stays_sp h)
  have hok := fun h : chkS l = 0 => (chk_ok h).1
  obtain ⟨A, cap, rfl, hc⟩ := hv.form
  obtain ⟨N, hN⟩ : ∃ N, w.heap.size = N := ⟨_, rfl⟩
  obtain ⟨c, hcc⟩ : ∃ c, chkS l = c := ⟨_, rfl⟩
  obtain ⟨n, hn⟩ : ∃ c, l.length = c := ⟨_, rfl⟩
  unfold norL NorV
  unfold IntV at HCK
  rw [hN, hcc] at HCK
  rw [hn] at HCK HV hok hc
  rw [hcc] at hok
  have HOK := Lib.hid hok
  clear hok
  rw [hN] at HV
  rw [hN, hcc, hn]
  have HN := Lib.hid hN
  have HLN := Lib.hid hn
  clear hv hN hcc hn
  go_enter Try.func13, Try.ntmps13
  by_cases h0 : c = 0
  · have hln : n ≤ 4096 := HOK.out h0
    clear HOK
    subst h0
    go_wp2_with fail
    refine HCK.out.mono ?_
    rintro e w1 ⟨rfl, hb1⟩
    have HB1 := Lib.hid hb1
    clear hb1
    go_wp2_with fail
    go_loopw [5, 15] (fun lv kv wr => ∃ (k : Nat) (lw : Value), lw = lv ∧ k ≤ n ∧ kv = .int .i64 k ∧ Hid (Rows 2 ESp wr lw (normS (l.take k))) ∧ Hid (Below N w wr)) (fun _ kv _ => n - (Go.RowKit.intOf kv).toNat)
    case atStart => exact ⟨0, _, rfl, Nat.zero_le _, rfl, Lib.hid (Rows.nil _), HB1⟩
    case round =>
      clear HB1
      obtain ⟨k, lv, hlv, hk, rfl, HR, HB⟩ := hrel
      subst hlv
      by_cases hlt : k < n
      · obtain ⟨x, hx⟩ : ∃ x, l[k]? = some x := ⟨_, List.getElem?_eq_getElem (by rw [HLN.out]; omega)⟩
        obtain ⟨bk, off, rfl, hbl, hj⟩ := at_sp (HV.out wr HB.out) (by rw [HLN.out]; omega)
        obtain ⟨c0, c1⟩ := hj k x hx
        have hst := norm_take hx
        obtain ⟨WB, hWB⟩ : ∃ X, wr.alloc (.cells #[.int .i64 x.1, .int .i64 x.2] 31) = X := ⟨_, rfl⟩
        obtain ⟨Nx, hNx⟩ : ∃ N, wr.heap.size = N := ⟨_, rfl⟩
        have hbx : WB.heap[Nx]? = some (.cells #[.int .i64 x.1, .int .i64 x.2] 31 (0, 0)) := by rw [← hWB, ← hNx]; exact block_new _ _
        have hNNx : N ≤ Nx := by rw [← hNx, ← HN.out]; exact HB.out.size
        have hbW : Below wr.heap.size wr WB := by rw [← hWB]; exact below_box _ _
        have hin := insert_any (HR.out.below stays_sp hbW) (by have := norm_le l k; omega) x
        rw [← hst] at hin
        unfold RowV at hin
        obtain ⟨x1, x2⟩ := x
        simp only at c0 c1 hin hWB hbx
        have d0 := cell_of (i := 0) hbx rfl
        have d1 := cell_of (i := 1) hbx rfl
        have HIN := Lib.hid hin
        have HBW := Lib.hid (HB.out.trans (hbW.mono (by rw [hNx]; exact hNNx)))
        have HSZ : Hid (N ≤ WB.heap.size) := Lib.hid (by rw [← hWB, alloc_sz, hNx]; omega)
        have HWB := Lib.hid hWB
        have HNx := Lib.hid hNx
        have hki : (k : Int) < (n : Int) := by omega
        clear hx hj hbl hst hWB hNx hbx hNNx hbW hin HR HB
        go_upto_region 8 with fail
        rw [HWB.out, HNx.out]
        clear c0 c1
        go_wp2_with fail
        refine HIN.out.mono ?_
        rintro e w2 ⟨⟨v2, rfl, hr2⟩, hb2⟩
        have HR2 := Lib.hid hr2
        have HB2 := Lib.hid (HBW.out.trans (hb2.mono HSZ.out))
        clear hr2 hb2
        go_wp2_with fail
        exact ⟨⟨k + 1, _, rfl, by omega, by go_num, HR2, HB2⟩, by simp only [Go.RowKit.intOf]; omega⟩
      · obtain rfl : k = n := by omega
        have hr := HR.out
        rw [List.take_of_length_le (by rw [HLN.out]; exact Nat.le_refl _)] at hr
        have HRR := Lib.hid hr
        clear hr HR
        go_wp2_with fail
        go_ret2
        exact ⟨⟨_, rfl, HRR.out⟩, HB.out⟩
  · have hcb : (c != 0) = true := by simp [h0]
    go_wp2_with fail
    refine HCK.out.mono ?_
    rintro e w1 ⟨rfl, hb1⟩
    have HB1 := Lib.hid hb1
    clear hb1
    go_wp2_with fail
    go_ret2
    exact ⟨⟨_, rfl, Rows.nil _⟩, HB1.out⟩

set_option maxRecDepth 100000 in
set_option maxHeartbeats 8000000 in
theorem refCover_any {w : World} {v : Value} {l : List Sp} (hv : Rows 2 ESp w v l) :
    Calls Try.prog 15 #[v] w (NorV w (chkS l) (cvL l)) := by
  have HNM0 := Lib.hid (refNormalize_any hv)
  have hok := fun h : chkS l = 0 => (chk_ok h).1
  obtain ⟨A, cap, rfl, hc⟩ := hv.form
  obtain ⟨N, hN⟩ : ∃ N, w.heap.size = N := ⟨_, rfl⟩
  obtain ⟨c, hcc⟩ : ∃ c, chkS l = c := ⟨_, rfl⟩
  obtain ⟨n, hn⟩ : ∃ c, l.length = c := ⟨_, rfl⟩
  unfold cvL NorV
  unfold NorV norL at HNM0
  rw [hN, hcc] at HNM0
  rw [hn] at HNM0 hok hc
  rw [hcc] at hok
  have HOK := Lib.hid hok
  clear hok
  rw [hN, hcc, hn]
  have HN := Lib.hid hN
  have HLEN0 := Lib.hid hn
  clear hv hN hcc hn
  go_enter Try.func15, Try.ntmps15
  by_cases h0 : c = 0
  · have hln : n ≤ 4096 := HOK.out h0
    clear HOK
    subst h0
    have HLEN : Hid (l.length ≤ 4096) := Lib.hid (by rw [HLEN0.out]; exact hln)
    go_wp2_with fail
    refine HNM0.out.mono ?_
    rintro e w2 ⟨⟨v2, rfl, hr⟩, hb2⟩
    have HR2 : Hid (Rows 2 ESp w2 v2 (normS l)) := Lib.hid (by simpa using hr)
    have HB2 : Hid (Below N w w2) := Lib.hid hb2
    have HSZ2 : Hid (N ≤ w2.heap.size) := Lib.hid (by rw [← HN.out]; exact HB2.out.size)
    clear hr hb2 HNM0
    obtain ⟨M, hM⟩ : ∃ M, w2.heap.size = M := ⟨_, rfl⟩
    obtain ⟨A2, cap2, rfl, hc2⟩ := HR2.out.form
    obtain ⟨L, hL⟩ : ∃ L, normS l = L := ⟨_, rfl⟩
    obtain ⟨m, hm⟩ : ∃ m, L.length = m := ⟨_, rfl⟩
    have hcov : L.foldl covStep [] = covL l := by rw [← hL]; rfl
    have hlm := normS_len l
    have hrow := HR2.out
    rw [hL] at hc2 hlm hrow
    rw [hL]
    rw [hm] at hc2 hlm hrow
    rw [hm]
    have HV := Lib.hid (fun W (h : Below w2.heap.size w2 W) => hrow.below stays_sp h)
    rw [hM] at HV
    have HM := Lib.hid hm
    have HMM := Lib.hid hM
    have HNM : Hid (N ≤ M) := Lib.hid (by rw [← hM]; exact HSZ2.out)
    have HCOV := Lib.hid hcov
    have hm6 : m ≤ 4096 := by have := HLEN.out; omega
    clear hL hm hM hcov hrow hlm HR2 HSZ2
    go_wp2_with fail
    go_loopw [6, 9, 20] (fun lv _ kv wr => ∃ (k : Nat) (lw : Value), lw = lv ∧ k ≤ m ∧ kv = .int .i64 k ∧ Hid (wr.ownsRow M 31 2 lw ((L.take k).foldl covStep []).length (((L.take k).foldl covStep []).flatMap spV)) ∧ Hid (Below M w2 wr)) (fun _ _ kv _ => m - (Go.RowKit.intOf kv).toNat)
    case atStart => exact ⟨0, _, rfl, Nat.zero_le _, rfl, Lib.hid (World.ownsRow_nil _ _ _ 2), Lib.hid (Below.refl _ _)⟩
    case round =>
      obtain ⟨k, lv, hlv, hk, rfl, HO, HB⟩ := hrel
      subst hlv
      by_cases hlt : k < m
      · have hkk : (k : Int) < (m : Int) := by omega
        obtain ⟨s, hs⟩ : ∃ s, L[k]? = some s := ⟨_, List.getElem?_eq_getElem (by rw [HM.out]; exact hlt)⟩
        obtain ⟨bl, ol, rfl, hbl, hcel⟩ := at_sp (HV.out wr HB.out) (by rw [HM.out]; omega)
        obtain ⟨c0, c1⟩ := hcel k s hs
        obtain ⟨F, hF⟩ : ∃ F, (L.take k).foldl covStep [] = F := ⟨_, rfl⟩
        have hct := cov_take hs
        have hFl := cov_le L k
        rw [hF] at HO hct hFl
        obtain ⟨x1, x2⟩ := s
        simp only at c0 c1
        obtain ⟨fl, hfl⟩ : ∃ fl, F.length = fl := ⟨_, rfl⟩
        rw [hfl] at HO hFl
        obtain ⟨WB, hWB⟩ : ∃ X, wr.alloc (.cells #[.int .i64 x1, .int .i64 x2] 31) = X := ⟨_, rfl⟩
        obtain ⟨Nx, hNx⟩ : ∃ N, wr.heap.size = N := ⟨_, rfl⟩
        have hbx : WB.heap[Nx]? = some (.cells #[.int .i64 x1, .int .i64 x2] 31 (0, 0)) := by rw [← hWB, ← hNx]; exact block_new _ _
        have hMx : M ≤ Nx := by rw [← hNx, ← HMM.out]; exact HB.out.size
        have hbW : Below Nx wr WB := by rw [← hWB, ← hNx]; exact below_box _ _
        have hsz : WB.heap.size = Nx + 1 := by rw [← hWB, alloc_sz, hNx]
        have c4 := cell_of (i := 0) hbx rfl
        have c5 := cell_of (i := 1) hbx rfl
        have HOW : Hid (WB.ownsRow M 31 2 _ fl (F.flatMap spV)) := Lib.hid (by rw [← hWB]; exact HO.out.alloc _)
        have HBW := Lib.hid (HB.out.trans (hbW.mono hMx))
        have HSZ := Lib.hid (show M ≤ WB.heap.size by omega)
        have HWB := Lib.hid hWB
        have HNx := Lib.hid hNx
        have HFL := Lib.hid hfl
        have HCT := Lib.hid hct
        have hfl6 : fl ≤ 1000000 := by omega
        clear hs hcel hbl hF hct hWB hNx hbx hMx hbW hsz HO HB
        cases hgl : F.getLast? with
        | none =>
          have hF0 : F = [] := List.getLast?_eq_none_iff.1 hgl
          have HST := Lib.hid (HCT.out.trans (cov_none hgl))
          obtain rfl : fl = 0 := by rw [← HFL.out, hF0]; rfl
          obtain ⟨sp, cp, rfl⟩ : ∃ sp cp, lv = .slice sp 0 cp := by
            rcases HOW.out.2 with ⟨h, _⟩ | ⟨g, cap, cur, h, _⟩
            · exact ⟨_, _, h⟩
            · exact ⟨_, _, h⟩
          clear hgl hF0 HCT hfl
          go_upto_region 8 with fail
          rw [HWB.out, HNx.out]
          clear c0 c1
          go_wp2_with fail
          go_quiet (fail)
          obtain ⟨V, hV⟩ : ∃ V, WB.drewN nq = V := ⟨_, rfl⟩
          have HOV : Hid (V.ownsRow M 31 2 (.slice sp 0 cp) 0 (F.flatMap spV)) := Lib.hid (by rw [← hV]; exact own_below HOW.out fun _ _ => rfl)
          have HBV : Hid (Below M w2 V) := Lib.hid (by rw [← hV]; exact below_drewN HBW.out nq)
          have HSV : Hid (M ≤ V.heap.size) := Lib.hid (by rw [← hV]; exact HSZ.out)
          have c4' : V.cell? ⟨Nx, 0, none⟩ = some (.int .i64 x1) := by rw [← hV]; exact c4
          have c5' : V.cell? ⟨Nx, 1, none⟩ = some (.int .i64 x2) := by rw [← hV]; exact c5
          rw [hV]
          clear hV c4 c5 HOW HBW
          go_wp2_with (at_builtin; refine wpList_pushS rfl (.tmp 51) (.tmp 53) rfl M _ _ _ x1 x2 rfl rfl HOV.out (by omega) HSV.out ?_; intro v' w' HO2 HB2')
          have HB3 := Lib.hid (HB2'.out _ _ HBV.out (Nat.le_refl _))
          have HO3 : Hid (w'.ownsRow M 31 2 v' ((L.take (k + 1)).foldl covStep []).length (((L.take (k + 1)).foldl covStep []).flatMap spV)) := Lib.hid (by
            rw [HST.out, List.length_append, HFL.out, List.flatMap_append]
            exact HO2.out)
          clear c4' c5' HO2 HB2'
          go_wp2_with fail
          exact ⟨⟨k + 1, _, rfl, by omega, by go_num, HO3, HB3⟩, by simp only [Go.RowKit.intOf]; omega⟩
        | some t =>
          have hne : F ≠ [] := fun e => by rw [e] at hgl; cases hgl
          obtain ⟨p, hp⟩ : ∃ p, p + 1 = fl := ⟨fl - 1, by have := List.length_pos_iff.2 hne; omega⟩
          obtain ⟨g, cp, cur, rfl, hMg, hg, hcp⟩ : ∃ g cp cur, lv = .slice (some ⟨g, 0, none⟩) fl cp ∧ M ≤ g ∧ WB.heap[g]? = some (.cells cur 31 (0, 0)) ∧ fl ≤ cp := by
            rcases HOW.out.2 with ⟨_, h⟩ | ⟨g, cap, cur, h, h1, h2, h3, _⟩
            · omega
            · exact ⟨g, cap, cur, h, h1, h2, h3⟩
          have hpt : F[p]? = some t := by rw [List.getLast?_eq_getElem?, HFL.out, show fl - 1 = p by omega] at hgl; exact hgl
          have d1 : WB.cell? ⟨g, p * 2 + 1, none⟩ = some (.int .i64 t.2) := by
            have hr := own_sp (L := F) (by rw [HFL.out]; exact HOW.out)
            obtain ⟨b', o', e', _, hj⟩ := at_sp hr (by rw [HFL.out]; omega)
            cases e'
            have := (hj p t hpt).2
            rw [Nat.zero_add] at this
            exact this
          have hp1 : (fl : Int) - 1 = (p : Int) := by omega
          have hpf : (p : Int) < (fl : Int) := by omega
          have hp0 : (0 : Int) ≤ (p : Int) := by omega
          have hwp : IntKind.i64.wrap (p : Int) = (p : Int) := by rw [IntKind.wrap_i64]; omega
          have HGL := Lib.hid hgl
          have HPT := Lib.hid hpt
          have HG := Lib.hid hg
          have HMG := Lib.hid hMg
          obtain ⟨t1, t2⟩ := t
          simp only at d1
          clear hgl hpt hg hne hMg
          by_cases hle : x1 ≤ t2
          · have HST := Lib.hid (HCT.out.trans (cov_join HGL.out hle))
            obtain ⟨m1, hm1⟩ : ∃ z, max t2 x2 = z := ⟨_, rfl⟩
            simp only at HST
            rw [hm1] at HST
            have hled : decide (x1 ≤ t2) = true := by simp [hle]
            clear HGL HCT
            go_upto_region 8 with fail
            rw [HWB.out, HNx.out]
            clear c0 c1
            go_wp2_with fail
            go_quiet (fail)
            obtain ⟨V, hV⟩ : ∃ V, WB.drewN nq = V := ⟨_, rfl⟩
            have HOV : Hid (V.ownsRow M 31 2 (.slice (some ⟨g, 0, none⟩) fl cp) fl (F.flatMap spV)) := Lib.hid (by rw [← hV]; exact own_below HOW.out fun _ _ => rfl)
            have HBV : Hid (Below M w2 V) := Lib.hid (by rw [← hV]; exact below_drewN HBW.out nq)
            have hgV : V.heap[g]? = some (.cells cur 31 (0, 0)) := by rw [← hV]; exact HG.out
            have c4' : V.cell? ⟨Nx, 0, none⟩ = some (.int .i64 x1) := by rw [← hV]; exact c4
            have c5' : V.cell? ⟨Nx, 1, none⟩ = some (.int .i64 x2) := by rw [← hV]; exact c5
            have d1' : V.cell? ⟨g, p * 2 + 1, none⟩ = some (.int .i64 t2) := by rw [← hV]; exact d1
            have HGV := Lib.hid hgV
            rw [hV]
            clear hgV hV c4 c5 d1 HOW HBW HG
            go_wp2_with fail
            go_still_tail 12, (by kernel_rfl)
            change wpList _ _ _ _ _ V.drew
            obtain ⟨U, hU⟩ : ∃ U, V.drew = U := ⟨_, rfl⟩
            have d2 : U.cell? ⟨g, p * 2 + 1, none⟩ = some (.int .i64 t2) := by rw [← hU]; exact d1'
            have f2 : U.frozen? ⟨g, p * 2 + 1, none⟩ = false := by rw [← hU]; exact frozen_of HGV.out
            have HOU : Hid (U.ownsRow M 31 2 (.slice (some ⟨g, 0, none⟩) fl cp) fl (F.flatMap spV)) := Lib.hid (by rw [← hU]; exact own_below HOV.out fun _ _ => rfl)
            have HBU : Hid (Below M w2 U) := Lib.hid (by rw [← hU]; exact HBV.out.drew)
            rw [hU]
            clear hU c4' c5' d1' HOV HBV
            go_wp2_with fail
            refine ⟨⟨k + 1, _, rfl, by omega, by go_num, Lib.hid ?_, Lib.hid (HBU.out.setCell (p := ⟨g, p * 2 + 1, none⟩) HMG.out _)⟩, by simp only [Go.RowKit.intOf]; omega⟩
            rw [HST.out, HFL.out, show fl - 1 = p by omega, List.length_set, HFL.out]
            exact own_set HOU.out HFL.out HPT.out m1
          · have HST := Lib.hid (HCT.out.trans (cov_next HGL.out hle))
            have hled : decide (x1 ≤ t2) = false := by simp; omega
            clear HGL HCT HPT
            go_upto_region 8 with fail
            rw [HWB.out, HNx.out]
            clear c0 c1
            go_wp2_with fail
            go_quiet (fail)
            obtain ⟨V, hV⟩ : ∃ V, WB.drewN nq = V := ⟨_, rfl⟩
            have HOV : Hid (V.ownsRow M 31 2 (.slice (some ⟨g, 0, none⟩) fl cp) fl (F.flatMap spV)) := Lib.hid (by rw [← hV]; exact own_below HOW.out fun _ _ => rfl)
            have HBV : Hid (Below M w2 V) := Lib.hid (by rw [← hV]; exact below_drewN HBW.out nq)
            have HSV : Hid (M ≤ V.heap.size) := Lib.hid (by rw [← hV]; exact HSZ.out)
            have c4' : V.cell? ⟨Nx, 0, none⟩ = some (.int .i64 x1) := by rw [← hV]; exact c4
            have c5' : V.cell? ⟨Nx, 1, none⟩ = some (.int .i64 x2) := by rw [← hV]; exact c5
            rw [hV]
            clear hV c4 c5 HOW HBW HG d1
            go_wp2_with (at_builtin; refine wpList_pushS rfl (.tmp 51) (.tmp 53) rfl M _ _ _ x1 x2 rfl rfl HOV.out (by omega) HSV.out ?_; intro v' w' HO2 HB2')
            have HB3 := Lib.hid (HB2'.out _ _ HBV.out (Nat.le_refl _))
            have HO3 : Hid (w'.ownsRow M 31 2 v' ((L.take (k + 1)).foldl covStep []).length (((L.take (k + 1)).foldl covStep []).flatMap spV)) := Lib.hid (by
              rw [HST.out, List.length_append, HFL.out, List.flatMap_append]
              exact HO2.out)
            clear c4' c5' HO2 HB2'
            go_wp2_with fail
            exact ⟨⟨k + 1, _, rfl, by omega, by go_num, HO3, HB3⟩, by simp only [Go.RowKit.intOf]; omega⟩
      · obtain rfl : k = m := by omega
        have hown := HO.out
        rw [List.take_of_length_le (by rw [HM.out]; exact Nat.le_refl _)] at hown
        have hrow := own_sp hown
        rw [HCOV.out] at hrow
        have HROW := Lib.hid hrow
        have HBF := Lib.hid (HB2.out.trans (HB.out.mono HNM.out))
        clear hown hrow HO HB
        go_wp2_with fail
        go_ret2
        exact ⟨⟨_, rfl, HROW.out⟩, HBF.out⟩
  · have hcb : (c != 0) = true := by simp [h0]
    go_wp2_with fail
    refine HNM0.out.mono ?_
    rintro e w2 ⟨⟨v2, rfl, hr⟩, hb2⟩
    have HB1 := Lib.hid hb2
    clear hr hb2
    go_wp2_with fail
    go_ret2
    exact ⟨⟨_, rfl, Rows.nil _⟩, HB1.out⟩

set_option maxRecDepth 100000 in
set_option maxHeartbeats 8000000 in
theorem refChoose1_any {w : World} {v1 v2 : Value} {a b : List Sp} (h1 : Rows 2 ESp w v1 a) (h2 : Rows 2 ESp w v2 b) :
    Calls Try.prog 22 #[v1, v2, .int .i64 1] w (NorV w (chkSS [a, b]) (choL a b (withinL a b))) := by
  have HC1 := Lib.hid (refCheck_any h1)
  have HC2 := Lib.hid (fun W (h : Below w.heap.size w W) => refCheck_any (h2.below stays_sp h))
  have HV1 := Lib.hid (fun W (h : Below w.heap.size w W) => h1.below stays_sp h)
  have HV2 := Lib.hid (fun W (h : Below w.heap.size w W) => h2.below stays_sp h)
  have hok := fun h : chkS a = 0 => (chk_ok h).1
  have hok2 := fun h : chkS b = 0 => (chk_ok h).1
  obtain ⟨A1, cap1, rfl, hc1⟩ := h1.form
  obtain ⟨A2, cap2, rfl, hc2⟩ := h2.form
  obtain ⟨n1, hn1⟩ : ∃ n, a.length = n := ⟨_, rfl⟩
  obtain ⟨n2, hn2⟩ : ∃ n, b.length = n := ⟨_, rfl⟩
  obtain ⟨c1, hcc1⟩ : ∃ c, chkS a = c := ⟨_, rfl⟩
  obtain ⟨c2, hcc2⟩ : ∃ c, chkS b = c := ⟨_, rfl⟩
  have hss : chkSS [a, b] = if c1 = 0 then (if c2 = 0 then 0 else c2) else c1 := by
    unfold chkSS chkSS chkSS
    rw [hcc1, hcc2]
  obtain ⟨N, hN⟩ : ∃ N, w.heap.size = N := ⟨_, rfl⟩
  have hch : withinL a b = normS (a.filter fun s => b.any fun y => inB y s) := choose_ref _ _
  obtain ⟨p, hp⟩ : ∃ p : Sp → Bool, p = fun s => b.any fun y => inB y s := ⟨_, rfl⟩
  rw [← hp] at hch
  unfold choL NorV
  rw [hss, hch]
  unfold IntV at HC1 HC2
  rw [hn1] at HC1 HV1 hc1 hok ⊢
  rw [hn2] at HC2 HV2 hc2 hok2 ⊢
  rw [hN] at HC1 HC2 HV1 HV2 ⊢
  rw [hcc1] at HC1 hok
  rw [hcc2] at HC2 hok2
  have HN := Lib.hid hN
  have HN1 := Lib.hid hn1
  have HN2 := Lib.hid hn2
  have HOK := Lib.hid hok
  have HOK2 := Lib.hid hok2
  have HP := Lib.hid hp
  have HSZ0 : Hid (∀ W, Below N w W → N ≤ W.heap.size) := Lib.hid fun W h => by rw [← hN]; exact h.size
  clear h1 h2 hn1 hn2 hcc1 hcc2 hN hok hok2 hss hch hp
  go_enter Try.func22, Try.ntmps22
  by_cases h0 : c1 = 0
  · by_cases h00 : c2 = 0
    · have hl1 : n1 ≤ 4096 := HOK.out h0
      have hl2 : n2 ≤ 4096 := HOK2.out h00
      clear HOK HOK2
      subst h0
      subst h00
      go_wp2_with fail
      refine HC1.out.mono ?_
      rintro e w1 ⟨rfl, hb1⟩
      have HB1 := Lib.hid hb1
      clear hb1
      go_wp2_with fail
      refine (HC2.out w1 HB1.out).mono ?_
      rintro e w2 ⟨rfl, hb2⟩
      have HB2 := Lib.hid (HB1.out.trans (hb2.mono (HSZ0.out _ HB1.out)))
      clear hb2
      go_wp2_with fail
      go_loopw [10, 28] (fun lv kv wr => ∃ (k : Nat) (lw : Value), lw = lv ∧ k ≤ n1 ∧ kv = .int .i64 k ∧ Hid (Rows 2 ESp wr lw (normS ((a.take k).filter p))) ∧ Hid (Below N w wr)) (fun _ kv _ => n1 - (Go.RowKit.intOf kv).toNat)
      case atStart => exact ⟨0, _, rfl, Nat.zero_le _, rfl, Lib.hid (Rows.nil _), HB2⟩
      case round =>
        clear HB2 HB1
        obtain ⟨k, lv, hlv, hk, rfl, HR, HB⟩ := hrel
        subst hlv
        by_cases hlt : k < n1
        · obtain ⟨s, hs⟩ : ∃ x, a[k]? = some x := ⟨_, List.getElem?_eq_getElem (by rw [HN1.out]; omega)⟩
          obtain ⟨bk, off, rfl, hbl, hj⟩ := at_sp (HV1.out wr HB.out) (by rw [HN1.out]; omega)
          obtain ⟨c0, c1⟩ := hj k s hs
          have htk : (a.take (k + 1)).filter p = (a.take k).filter p ++ (if p s = true then [s] else []) := by
            rw [List.take_add_one, hs, List.filter_append]
            by_cases h : p s = true <;> simp [h]
          have hps : p s = b.any fun y => inB y s := by rw [HP.out]
          have hct := fun (y : Sp) (W : World) => refContains_any y s W
          have hlen6 : (normS ((a.take k).filter p)).length ≤ 100000 := by
            have h1 := normS_len ((a.take k).filter p)
            have h2 := List.length_filter_le p (a.take k)
            rw [List.length_take] at h2
            omega
          have hinv := fun (W : World) (u : Value) (hr : Rows 2 ESp W u (normS ((a.take k).filter p))) => insert_any hr hlen6 s
          obtain ⟨q0, hq0⟩ : ∃ q : Sp → Bool, q = fun y => inB y s := ⟨_, rfl⟩
          have hct2 : ∀ (y : Sp) (W : World), Calls Try.prog 38 #[.agg #[.int .i64 y.1, .int .i64 y.2], .agg #[.int .i64 s.1, .int .i64 s.2]] W (BoolV W (q0 y)) := fun y W => by rw [hq0]; exact hct y W
          have hps2 : p s = b.any q0 := by rw [hq0]; exact hps
          unfold BoolV at hct2
          obtain ⟨x1, x2⟩ := s
          simp only at c0 c1 hct2 hinv
          obtain ⟨WB, hWB⟩ : ∃ X, wr.alloc (.cells #[.int .i64 x1, .int .i64 x2] 31) = X := ⟨_, rfl⟩
          obtain ⟨Nx, hNx⟩ : ∃ N, wr.heap.size = N := ⟨_, rfl⟩
          have hbx : WB.heap[Nx]? = some (.cells #[.int .i64 x1, .int .i64 x2] 31 (0, 0)) := by rw [← hWB, ← hNx]; exact block_new _ _
          have hNNx : N ≤ Nx := by rw [← hNx]; exact HSZ0.out _ HB.out
          have hbW : Below Nx wr WB := by rw [← hWB, ← hNx]; exact below_box _ _
          have hWs : WB.heap.size = Nx + 1 := by rw [← hWB, alloc_sz, hNx]
          have HBW := Lib.hid (HB.out.trans (hbW.mono hNNx))
          have HRW : Hid (∀ W, Below (Nx + 1) WB W → Rows 2 ESp W lv (normS ((a.take k).filter p))) := Lib.hid fun W h => HR.out.below stays_sp (by rw [hNx]; exact hbW.trans (h.mono (Nat.le_succ _)))
          have HSB : Hid (∀ W, Below (Nx + 1) WB W → W.cell? ⟨Nx, 0, none⟩ = some (.int .i64 x1) ∧ W.cell? ⟨Nx, 1, none⟩ = some (.int .i64 x2)) := Lib.hid fun W h => by
            have e := block_below hbx h (Nat.lt_succ_self _)
            exact ⟨cell_of e rfl, cell_of e rfl⟩
          have HVB : Hid (∀ W, Below (Nx + 1) WB W → Below N w W) := Lib.hid fun W h => HBW.out.trans (h.mono (by omega))
          have HWB := Lib.hid hWB
          have HNx := Lib.hid hNx
          have HWS := Lib.hid hWs
          have HCT := Lib.hid hct2
          have HPS := Lib.hid hps2
          have HTK := Lib.hid htk
          have HINV := Lib.hid hinv
          have hki : (k : Int) < (n1 : Int) := by omega
          clear hs hj hbl htk hps hct hlen6 hinv hct2 hps2 hWB hNx hbx hNNx hbW hWs HR HB hq0
          go_upto_region 11 with fail
          rw [HWB.out, HNx.out]
          clear c0 c1
          go_wp2_with fail
          go_loopw [13, 34] (fun ov jv wr2 => ∃ (j : Nat) (ok : Bool), ov = .bool ok ∧ j ≤ n2 ∧ jv = .int .i64 j ∧ Hid (ok = (b.take j).any q0) ∧ Hid (Below (Nx + 1) WB wr2)) (fun _ jv _ => n2 - (Go.RowKit.intOf jv).toNat)
          case atStart => exact ⟨0, false, rfl, Nat.zero_le _, rfl, Lib.hid rfl, Lib.hid (Below.refl _ _)⟩
          case round =>
            obtain ⟨j, ok, rfl, hj, rfl, HO, HB⟩ := hrel
            by_cases hlt2 : j < n2
            · obtain ⟨y, hy⟩ : ∃ x, b[j]? = some x := ⟨_, List.getElem?_eq_getElem (by rw [HN2.out]; omega)⟩
              obtain ⟨bk2, off2, rfl, hbl2, hj2⟩ := at_sp (HV2.out wr (HVB.out wr HB.out)) (by rw [HN2.out]; omega)
              obtain ⟨c0, c1⟩ := hj2 j y hy
              have hnx : (b.take (j + 1)).any q0 = ((b.take j).any q0 || q0 y) := by
                rw [List.take_add_one, hy, List.any_append]
                simp
              obtain ⟨q, hq⟩ : ∃ q, q0 y = q := ⟨_, rfl⟩
              have hcy := HCT.out y
              rw [hq] at hnx hcy
              rw [← HO.out] at hnx
              obtain ⟨y1, y2⟩ := y
              simp only at c0 c1 hcy
              obtain ⟨WC, hWC⟩ : ∃ X, wr.alloc (.cells #[.int .i64 y1, .int .i64 y2] 31) = X := ⟨_, rfl⟩
              obtain ⟨Ny, hNy⟩ : ∃ N, wr.heap.size = N := ⟨_, rfl⟩
              have hby : WC.heap[Ny]? = some (.cells #[.int .i64 y1, .int .i64 y2] 31 (0, 0)) := by rw [← hWC, ← hNy]; exact block_new _ _
              have hNxy : Nx + 1 ≤ Ny := by rw [← hNy, ← HWS.out]; exact HB.out.size
              have hbC : Below (Nx + 1) WB WC := HB.out.trans (by rw [← hWC]; exact (below_box wr _).mono (by rw [hNy]; exact hNxy))
              obtain ⟨e0, e1⟩ := HSB.out WC hbC
              have d0 := cell_of (i := 0) hby rfl
              have d1 := cell_of (i := 1) hby rfl
              have HCY := Lib.hid (hcy WC)
              have HBC := Lib.hid hbC
              have HCS : Hid (Nx + 1 ≤ WC.heap.size) := Lib.hid (by rw [← hWC, alloc_sz, hNy]; omega)
              have HNXT := Lib.hid hnx
              have HWC := Lib.hid hWC
              have HNy := Lib.hid hNy
              have hji : (j : Int) < (n2 : Int) := by omega
              clear hy hj2 hbl2 hnx hq hcy hWC hNy hby hNxy hbC HO HB
              cases ok with
              | true =>
                go_upto_region 15 with fail
                rw [HWC.out, HNy.out]
                clear c0 c1
                go_wp2_with fail
                exact ⟨⟨j + 1, true, rfl, by omega, by go_num, Lib.hid (by rw [HNXT.out]; rfl), HBC⟩, by simp only [Go.RowKit.intOf]; omega⟩
              | false =>
                go_upto_region 15 with fail
                rw [HWC.out, HNy.out]
                clear c0 c1
                go_wp2_with fail
                refine HCY.out.mono ?_
                rintro e w4 ⟨rfl, hb4⟩
                have HB4 := Lib.hid (HBC.out.trans (hb4.mono HCS.out))
                clear hb4 d0 d1 e0 e1
                go_wp2_with fail
                exact ⟨⟨j + 1, q, rfl, by omega, by go_num, Lib.hid (by rw [HNXT.out]; simp), HB4⟩, by simp only [Go.RowKit.intOf]; omega⟩
            · obtain rfl : j = n2 := by omega
              have hoo := HO.out
              rw [List.take_of_length_le (by rw [HN2.out]; exact Nat.le_refl _), ← HPS.out] at hoo
              obtain ⟨e0, e1⟩ := HSB.out wr HB.out
              have HRW2 := Lib.hid (HRW.out wr HB.out)
              have HBF := Lib.hid (HVB.out wr HB.out)
              cases ok with
              | false =>
                have htk := HTK.out
                rw [← hoo, if_neg (by simp), List.append_nil] at htk
                have HNX : Hid (Rows 2 ESp wr lv (normS ((a.take (k + 1)).filter p))) := Lib.hid (by rw [htk]; exact HRW2.out)
                clear hoo htk HO e0 e1 HRW2
                go_wp2_with fail
                exact ⟨⟨k + 1, _, rfl, by omega, by go_num, HNX, HBF⟩, by simp only [Go.RowKit.intOf]; omega⟩
              | true =>
                have htk := HTK.out
                rw [← hoo, if_pos rfl] at htk
                have hin := HINV.out wr lv HRW2.out
                rw [← normS_snoc, ← htk] at hin
                unfold RowV at hin
                have HIN := Lib.hid hin
                clear hoo htk HO hin HRW2
                go_wp2_with fail
                refine HIN.out.mono ?_
                rintro e w4 ⟨⟨v4, rfl, hr4⟩, hb4⟩
                have HR4 := Lib.hid hr4
                have HB4 := Lib.hid (HBF.out.trans (hb4.mono (HSZ0.out _ HBF.out)))
                clear hr4 hb4 e0 e1
                go_wp2_with fail
                exact ⟨⟨k + 1, _, rfl, by omega, by go_num, HR4, HB4⟩, by simp only [Go.RowKit.intOf]; omega⟩
        · obtain rfl : k = n1 := by omega
          have hr := HR.out
          rw [List.take_of_length_le (by rw [HN1.out]; exact Nat.le_refl _)] at hr
          have HRR := Lib.hid hr
          clear hr HR
          go_wp2_with fail
          go_ret2
          exact ⟨⟨_, rfl, HRR.out⟩, HB.out⟩
    · have hcb : (c2 != 0) = true := by simp [h00]
      subst h0
      go_wp2_with fail
      refine HC1.out.mono ?_
      rintro e w1 ⟨rfl, hb1⟩
      have HB1 := Lib.hid hb1
      clear hb1
      go_wp2_with fail
      refine (HC2.out w1 HB1.out).mono ?_
      rintro e w2 ⟨rfl, hb2⟩
      have HB2 := Lib.hid (HB1.out.trans (hb2.mono (HSZ0.out _ HB1.out)))
      clear hb2
      go_wp2_with fail
      go_ret2
      exact ⟨⟨_, rfl, Rows.nil _⟩, HB2.out⟩
  · have hcb : (c1 != 0) = true := by simp [h0]
    go_wp2_with fail
    refine HC1.out.mono ?_
    rintro e w1 ⟨rfl, hb1⟩
    have HB1 := Lib.hid hb1
    clear hb1
    go_wp2_with fail
    go_ret2
    exact ⟨⟨_, rfl, Rows.nil _⟩, HB1.out⟩
end Go.Proofs.Ytpkkebojiengpaa
