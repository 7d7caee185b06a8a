/-
  WALKS over package interval: append of a span; Cover.
-/
import Derived.Test.YtpkkebojiengpaaIbM
namespace Go.Proofs.Ytpkkebojiengpaa
open Go Go.RowKit Go.Shelf Go.Lib
set_option linter.unusedVariables false
set_option linter.unusedSimpArgs false

/-- append of one span to a row of the call's own. -/
theorem wpList_pushS {w : World} {ops : Array Oper} {rest : List Oper} {o : Oper} {a : Act} {Q : Exit → Act → World → Prop} (hgd : o.guard = none) (s x : Operand)
    (ho : o.op = .call { callee := .builtin .append, args := #[s, x], argTypes := #[22, 22] })
    (base : Nat) (v : Value) (n : Nat) (l : List Value) (p1 p2 : Int) (hs : a.eval s = v) (hx : a.eval x = .slice (some ⟨w.heap.size, 0, none⟩) 1 1)
    (hown : w.ownsRow base 31 2 v n l) (hn : n ≤ 1000000) (hbase : base ≤ w.heap.size)
    (h : ∀ v' w', Hid (w'.ownsRow base 31 2 v' (n + 1) (l ++ [.int .i64 p1, .int .i64 p2])) → Hid (∀ B W, Below B W w → B ≤ base → Below B W w') → wpList Try.prog ops Q rest (a.put o.dst v') w') :
    wpList Try.prog ops Q (o :: rest) a (w.alloc (.cells #[.int .i64 p1, .int .i64 p2] 31)) := by
  obtain ⟨i0, hi, hz0, hz1, hz2⟩ := info_parts' Try.infoSp
  refine wpList_append_own _ hgd s x 22 ho base 31 i0 _ 2 16 Try.underlying22 hi hz0 hz1 hz2 rfl (by decide) v n _ hs (hown.alloc _) _ 1 1 [.int .i64 p1, .int .i64 p2] hx rfl (news_at w [.int .i64 p1, .int .i64 p2] 31) (by simp [Value.oneCell']) (by unfold maxLen; omega) (by omega) (by simp; omega) ?_
  intro v' w' h1 h2 _
  have hlow := own_low hown
  refine h v' w' (Lib.hid h1) (Lib.hid fun B W hb hB => ?_)
  exact (hb.alloc (Nat.le_trans hB hbase) _).grown h2 (by simp; omega) (fun k e => Nat.le_trans hB (hlow k e).1)
/-- A height of an own row's element changed. -/
theorem own_set {w : World} {base g n cap : Nat} {T : TypeId} {F : List Sp} (h : w.ownsRow base T 2 (.slice (some ⟨g, 0, none⟩) n cap) n (F.flatMap spV)) (hn : F.length = n) {i : Nat} {x : Sp} (hx : F[i]? = some x) (z : Int) :
    (w.setCell ⟨g, i * 2 + 1, none⟩ (.int .i64 z)).ownsRow base T 2 (.slice (some ⟨g, 0, none⟩) n cap) n ((F.set i (x.1, z)).flatMap spV) := by
  have hi := (List.getElem?_eq_some_iff.1 hx).1
  rcases h.2 with ⟨hv, _⟩ | ⟨g', cap', cur, hv, hb, hh, hc, hm, hs, ht⟩
  · cases hv
  · cases hv
    refine ⟨by rw [flatM_len spV_len, List.length_set, hn], .inr ⟨g, cap, _, rfl, hb, set_of hh _, hc, hm, by simp [hs], ?_⟩⟩
    have e := spRow_set1 (y := (x.1, z)) hx (c := 1) (by omega) (.int .i64 z) rfl
    unfold spRow at e
    rw [List.setIfInBounds_toArray] at e
    have e := congrArg Array.toList e
    simp only at e
    rw [← e, ← ht, Array.toList_setIfInBounds, List.take_set]
theorem cov_none {F : List Sp} {s : Sp} (h : F.getLast? = none) : covStep F s = F ++ [s] := by unfold covStep; rw [h]
theorem cov_join {F : List Sp} {s t : Sp} (h : F.getLast? = some t) (hle : s.1 ≤ t.2) : covStep F s = F.set (F.length - 1) (t.1, max t.2 s.2) := by unfold covStep; rw [h]; simp only; rw [if_pos hle]
theorem cov_next {F : List Sp} {s t : Sp} (h : F.getLast? = some t) (hle : ¬ s.1 ≤ t.2) : covStep F s = F ++ [s] := by unfold covStep; rw [h]; simp only; rw [if_neg hle]
theorem cov_take {L : List Sp} {k : Nat} {s : Sp} (h : L[k]? = some s) : (L.take (k + 1)).foldl covStep [] = covStep ((L.take k).foldl covStep []) s := by
  rw [List.take_add_one, h, List.foldl_append]
  rfl
theorem cov_le (L : List Sp) (k : Nat) : ((L.take k).foldl covStep []).length ≤ k := by
  have := covFold_len (L.take k) []
  simp only [List.length_nil, List.length_take] at this
  omega
/-- What Cover answers. -/
def cvL (l : List Sp) : List Sp := if chkS l = 0 then covL l else []

set_option maxRecDepth 100000 in
set_option maxHeartbeats 8000000 in
theorem cover_any {w : World} {v : Value} {l : List Sp} (hv : Rows 2 ESp w v l) :
    Calls Try.prog 14 #[v] w (NorV w (chkS l) (cvL l)) := by
  have HCK := Lib.hid (check1_any hv)
  have HV0 := Lib.hid (fun W (h : Below w.heap.size w W) => hv.below stays_sp h)
  have hok := fun h : chkS l = 0 => (chk_ok h).1
  obtain ⟨A, cap, rfl, hc⟩ := hv.form
  obtain ⟨N, hN⟩ : ∃ N, w.heap.size = N := ⟨_, rfl⟩
  obtain ⟨c, hcc⟩ : ∃ c, chkS l = c := ⟨_, rfl⟩
  obtain ⟨n, hn⟩ : ∃ c, l.length = c := ⟨_, rfl⟩
  unfold cvL
  unfold NorV
  rw [hN, hcc] at HCK
  rw [hn] at HCK HV0 hok hc
  rw [hcc] at hok
  have HOK := Lib.hid hok
  clear hok
  rw [hN] at HV0
  rw [hN, hcc, hn]
  have HN := Lib.hid hN
  have HLEN0 := Lib.hid hn
  clear hv hN hcc hn
  go_enter Try.func14, Try.ntmps14
  by_cases h0 : c = 0
  · have hln : n ≤ 4096 := HOK.out h0
    clear HOK
    subst h0
    have HLEN : Hid (l.length ≤ 4096) := Lib.hid (by rw [HLEN0.out]; exact hln)
    go_wp2_with fail
    (try rw [HN.out])
    refine HCK.out.mono ?_
    rintro e w1 ⟨rfl, hb1⟩
    have HB1 := Lib.hid hb1
    have HNM0 := Lib.hid (normal_any (HV0.out w1 hb1) (by have := HLEN.out; omega))
    clear hb1
    go_wp2_with fail
    refine HNM0.out.mono ?_
    rintro e w2 ⟨⟨v2, rfl, ho⟩, hb2⟩
    have HR2 := Lib.hid (own_sp ho)
    have HB2 : Hid (Below N w w2) := Lib.hid (HB1.out.trans (hb2.mono (show N ≤ _ by rw [← HN.out]; exact HB1.out.size)))
    have HSZ2 : Hid (N ≤ w2.heap.size) := Lib.hid (by rw [← HN.out]; exact HB2.out.size)
    clear ho hb2 HB1 HNM0
    obtain ⟨M, hM⟩ : ∃ M, w2.heap.size = M := ⟨_, rfl⟩
    obtain ⟨A2, cap2, rfl, hc2⟩ := HR2.out.form
    obtain ⟨L, hL⟩ : ∃ L, normS l = L := ⟨_, rfl⟩
    obtain ⟨m, hm⟩ : ∃ m, L.length = m := ⟨_, rfl⟩
    have hcov : L.foldl covStep [] = covL l := by rw [← hL]; rfl
    have hlm := normS_len l
    have hrow := HR2.out
    rw [hL] at hc2 hlm hrow
    rw [hL]
    rw [hm] at hc2 hlm hrow
    rw [hm]
    have HV := Lib.hid (fun W (h : Below w2.heap.size w2 W) => hrow.below stays_sp h)
    rw [hM] at HV
    have HM := Lib.hid hm
    have HMM := Lib.hid hM
    have HNM : Hid (N ≤ M) := Lib.hid (by rw [← hM]; exact HSZ2.out)
    have HCOV := Lib.hid hcov
    have hm6 : m ≤ 4096 := by have := HLEN.out; omega
    clear hL hm hM hcov hrow hlm HR2 HSZ2
    go_wp2_with fail
    go_loopw [5, 8, 18] (fun lv _ kv wr => ∃ (k : Nat) (lw : Value), lw = lv ∧ k ≤ m ∧ kv = .int .i64 k ∧ Hid (wr.ownsRow M 31 2 lw ((L.take k).foldl covStep []).length (((L.take k).foldl covStep []).flatMap spV)) ∧ Hid (Below M w2 wr)) (fun _ _ kv _ => m - (Go.RowKit.intOf kv).toNat)
    case atStart => exact ⟨0, _, rfl, Nat.zero_le _, rfl, Lib.hid (World.ownsRow_nil _ _ _ 2), Lib.hid (Below.refl _ _)⟩
    case round =>
      obtain ⟨k, lv, hlv, hk, rfl, HO, HB⟩ := hrel
      subst hlv
      by_cases hlt : k < m
      · have hkk : (k : Int) < (m : Int) := by omega
        obtain ⟨s, hs⟩ : ∃ s, L[k]? = some s := ⟨_, List.getElem?_eq_getElem (by rw [HM.out]; exact hlt)⟩
        obtain ⟨bl, ol, rfl, hbl, hcel⟩ := at_sp (HV.out wr HB.out) (by rw [HM.out]; omega)
        obtain ⟨c0, c1⟩ := hcel k s hs
        obtain ⟨F, hF⟩ : ∃ F, (L.take k).foldl covStep [] = F := ⟨_, rfl⟩
        have hct := cov_take hs
        have hFl := cov_le L k
        rw [hF] at HO hct hFl
        obtain ⟨x1, x2⟩ := s
        simp only at c0 c1
        obtain ⟨fl, hfl⟩ : ∃ fl, F.length = fl := ⟨_, rfl⟩
        rw [hfl] at HO hFl
        obtain ⟨WB, hWB⟩ : ∃ X, wr.alloc (.cells #[.int .i64 x1, .int .i64 x2] 31) = X := ⟨_, rfl⟩
        obtain ⟨Nx, hNx⟩ : ∃ N, wr.heap.size = N := ⟨_, rfl⟩
        have hbx : WB.heap[Nx]? = some (.cells #[.int .i64 x1, .int .i64 x2] 31 (0, 0)) := by rw [← hWB, ← hNx]; exact block_new _ _
        have hMx : M ≤ Nx := by rw [← hNx, ← HMM.out]; exact HB.out.size
        have hbW : Below Nx wr WB := by rw [← hWB, ← hNx]; exact below_box _ _
        have hsz : WB.heap.size = Nx + 1 := by rw [← hWB, alloc_sz, hNx]
        have c4 := cell_of (i := 0) hbx rfl
        have c5 := cell_of (i := 1) hbx rfl
        have HOW : Hid (WB.ownsRow M 31 2 _ fl (F.flatMap spV)) := Lib.hid (by rw [← hWB]; exact HO.out.alloc _)
        have HBW := Lib.hid (HB.out.trans (hbW.mono hMx))
        have HSZ := Lib.hid (show M ≤ WB.heap.size by omega)
        have HWB := Lib.hid hWB
        have HNx := Lib.hid hNx
        have HFL := Lib.hid hfl
        have HCT := Lib.hid hct
        have hfl6 : fl ≤ 1000000 := by omega
        clear hs hcel hbl hF hct hWB hNx hbx hMx hbW hsz HO HB
        cases hgl : F.getLast? with
        | none =>
          have hF0 : F = [] := List.getLast?_eq_none_iff.1 hgl
          have HST := Lib.hid (HCT.out.trans (cov_none hgl))
          obtain rfl : fl = 0 := by rw [← HFL.out, hF0]; rfl
          obtain ⟨sp, cp, rfl⟩ : ∃ sp cp, lv = .slice sp 0 cp := by
            rcases HOW.out.2 with ⟨h, _⟩ | ⟨g, cap, cur, h, _⟩
            · exact ⟨_, _, h⟩
            · exact ⟨_, _, h⟩
          clear hgl hF0 HCT hfl
          go_upto_region 8 with fail
          rw [HWB.out, HNx.out]
          clear c0 c1
          go_wp2_with fail
          go_quiet (fail)
          obtain ⟨V, hV⟩ : ∃ V, WB.drewN nq = V := ⟨_, rfl⟩
          have HOV : Hid (V.ownsRow M 31 2 (.slice sp 0 cp) 0 (F.flatMap spV)) := Lib.hid (by rw [← hV]; exact own_below HOW.out fun _ _ => rfl)
          have HBV : Hid (Below M w2 V) := Lib.hid (by rw [← hV]; exact below_drewN HBW.out nq)
          have HSV : Hid (M ≤ V.heap.size) := Lib.hid (by rw [← hV]; exact HSZ.out)
          have c4' : V.cell? ⟨Nx, 0, none⟩ = some (.int .i64 x1) := by rw [← hV]; exact c4
          have c5' : V.cell? ⟨Nx, 1, none⟩ = some (.int .i64 x2) := by rw [← hV]; exact c5
          rw [hV]
          clear hV c4 c5 HOW HBW
          go_wp2_with (at_builtin; refine wpList_pushS rfl (.tmp 49) (.tmp 51) rfl M _ _ _ x1 x2 rfl rfl HOV.out (by omega) HSV.out ?_; intro v' w' HO2 HB2')
          have HB3 := Lib.hid (HB2'.out _ _ HBV.out (Nat.le_refl _))
          have HO3 : Hid (w'.ownsRow M 31 2 v' ((L.take (k + 1)).foldl covStep []).length (((L.take (k + 1)).foldl covStep []).flatMap spV)) := Lib.hid (by
            rw [HST.out, List.length_append, HFL.out, List.flatMap_append]
            exact HO2.out)
          clear c4' c5' HO2 HB2'
          go_wp2_with fail
          exact ⟨⟨k + 1, _, rfl, by omega, by go_num, HO3, HB3⟩, by simp only [Go.RowKit.intOf]; omega⟩
        | some t =>
          have hne : F ≠ [] := fun e => by rw [e] at hgl; cases hgl
          obtain ⟨p, hp⟩ : ∃ p, p + 1 = fl := ⟨fl - 1, by have := List.length_pos_iff.2 hne; omega⟩
          obtain ⟨g, cp, cur, rfl, hMg, hg, hcp⟩ : ∃ g cp cur, lv = .slice (some ⟨g, 0, none⟩) fl cp ∧ M ≤ g ∧ WB.heap[g]? = some (.cells cur 31 (0, 0)) ∧ fl ≤ cp := by
            rcases HOW.out.2 with ⟨_, h⟩ | ⟨g, cap, cur, h, h1, h2, h3, _⟩
            · omega
            · exact ⟨g, cap, cur, h, h1, h2, h3⟩
          have hpt : F[p]? = some t := by rw [List.getLast?_eq_getElem?, HFL.out, show fl - 1 = p by omega] at hgl; exact hgl
          have d1 : WB.cell? ⟨g, p * 2 + 1, none⟩ = some (.int .i64 t.2) := by
            have hr := own_sp (L := F) (by rw [HFL.out]; exact HOW.out)
            obtain ⟨b', o', e', _, hj⟩ := at_sp hr (by rw [HFL.out]; omega)
            cases e'
            have := (hj p t hpt).2
            rw [Nat.zero_add] at this
            exact this
          have hp1 : (fl : Int) - 1 = (p : Int) := by omega
          have hpf : (p : Int) < (fl : Int) := by omega
          have hp0 : (0 : Int) ≤ (p : Int) := by omega
          have hwp : IntKind.i64.wrap (p : Int) = (p : Int) := by rw [IntKind.wrap_i64]; omega
          have HGL := Lib.hid hgl
          have HPT := Lib.hid hpt
          have HG := Lib.hid hg
          have HMG := Lib.hid hMg
          obtain ⟨t1, t2⟩ := t
          simp only at d1
          clear hgl hpt hg hne hMg
          by_cases hle : x1 ≤ t2
          · have HST := Lib.hid (HCT.out.trans (cov_join HGL.out hle))
            obtain ⟨m1, hm1⟩ : ∃ z, max t2 x2 = z := ⟨_, rfl⟩
            simp only at HST
            rw [hm1] at HST
            have hled : decide (x1 ≤ t2) = true := by simp [hle]
            clear HGL HCT
            go_upto_region 8 with fail
            rw [HWB.out, HNx.out]
            clear c0 c1
            go_wp2_with fail
            go_quiet (fail)
            obtain ⟨V, hV⟩ : ∃ V, WB.drewN nq = V := ⟨_, rfl⟩
            have HOV : Hid (V.ownsRow M 31 2 (.slice (some ⟨g, 0, none⟩) fl cp) fl (F.flatMap spV)) := Lib.hid (by rw [← hV]; exact own_below HOW.out fun _ _ => rfl)
            have HBV : Hid (Below M w2 V) := Lib.hid (by rw [← hV]; exact below_drewN HBW.out nq)
            have hgV : V.heap[g]? = some (.cells cur 31 (0, 0)) := by rw [← hV]; exact HG.out
            have c4' : V.cell? ⟨Nx, 0, none⟩ = some (.int .i64 x1) := by rw [← hV]; exact c4
            have c5' : V.cell? ⟨Nx, 1, none⟩ = some (.int .i64 x2) := by rw [← hV]; exact c5
            have d1' : V.cell? ⟨g, p * 2 + 1, none⟩ = some (.int .i64 t2) := by rw [← hV]; exact d1
            have HGV := Lib.hid hgV
            rw [hV]
            clear hgV hV c4 c5 d1 HOW HBW HG
            go_wp2_with fail
            go_still_tail 12, (by kernel_rfl)
            change wpList _ _ _ _ _ V.drew
            obtain ⟨U, hU⟩ : ∃ U, V.drew = U := ⟨_, rfl⟩
            have d2 : U.cell? ⟨g, p * 2 + 1, none⟩ = some (.int .i64 t2) := by rw [← hU]; exact d1'
            have f2 : U.frozen? ⟨g, p * 2 + 1, none⟩ = false := by rw [← hU]; exact frozen_of HGV.out
            have HOU : Hid (U.ownsRow M 31 2 (.slice (some ⟨g, 0, none⟩) fl cp) fl (F.flatMap spV)) := Lib.hid (by rw [← hU]; exact own_below HOV.out fun _ _ => rfl)
            have HBU : Hid (Below M w2 U) := Lib.hid (by rw [← hU]; exact HBV.out.drew)
            rw [hU]
            clear hU c4' c5' d1' HOV HBV
            go_wp2_with fail
            refine ⟨⟨k + 1, _, rfl, by omega, by go_num, Lib.hid ?_, Lib.hid (HBU.out.setCell (p := ⟨g, p * 2 + 1, none⟩) HMG.out _)⟩, by simp only [Go.RowKit.intOf]; omega⟩
            rw [HST.out, HFL.out, show fl - 1 = p by omega, List.length_set, HFL.out]
            exact own_set HOU.out HFL.out HPT.out m1
          · have HST := Lib.hid (HCT.out.trans (cov_next HGL.out hle))
            have hled : decide (x1 ≤ t2) = false := by simp; omega
            clear HGL HCT HPT
            go_upto_region 8 with fail
            rw [HWB.out, HNx.out]
            clear c0 c1
            go_wp2_with fail
            go_quiet (fail)
            obtain ⟨V, hV⟩ : ∃ V, WB.drewN nq = V := ⟨_, rfl⟩
            have HOV : Hid (V.ownsRow M 31 2 (.slice (some ⟨g, 0, none⟩) fl cp) fl (F.flatMap spV)) := Lib.hid (by rw [← hV]; exact own_below HOW.out fun _ _ => rfl)
            have HBV : Hid (Below M w2 V) := Lib.hid (by rw [← hV]; exact below_drewN HBW.out nq)
            have HSV : Hid (M ≤ V.heap.size) := Lib.hid (by rw [← hV]; exact HSZ.out)
            have c4' : V.cell? ⟨Nx, 0, none⟩ = some (.int .i64 x1) := by rw [← hV]; exact c4
            have c5' : V.cell? ⟨Nx, 1, none⟩ = some (.int .i64 x2) := by rw [← hV]; exact c5
            rw [hV]
            clear hV c4 c5 HOW HBW HG d1
            go_wp2_with (at_builtin; refine wpList_pushS rfl (.tmp 49) (.tmp 51) rfl M _ _ _ x1 x2 rfl rfl HOV.out (by omega) HSV.out ?_; intro v' w' HO2 HB2')
            have HB3 := Lib.hid (HB2'.out _ _ HBV.out (Nat.le_refl _))
            have HO3 : Hid (w'.ownsRow M 31 2 v' ((L.take (k + 1)).foldl covStep []).length (((L.take (k + 1)).foldl covStep []).flatMap spV)) := Lib.hid (by
              rw [HST.out, List.length_append, HFL.out, List.flatMap_append]
              exact HO2.out)
            clear c4' c5' HO2 HB2'
            go_wp2_with fail
            exact ⟨⟨k + 1, _, rfl, by omega, by go_num, HO3, HB3⟩, by simp only [Go.RowKit.intOf]; omega⟩
      · obtain rfl : k = m := by omega
        have hown := HO.out
        rw [List.take_of_length_le (by rw [HM.out]; exact Nat.le_refl _)] at hown
        have hrow := own_sp hown
        rw [HCOV.out] at hrow
        have HROW := Lib.hid hrow
        have HBF := Lib.hid (HB2.out.trans (HB.out.mono HNM.out))
        clear hown hrow HO HB
        go_wp2_with fail
        go_ret2
        exact ⟨⟨_, rfl, HROW.out⟩, HBF.out⟩
  · have hcb : (c != 0) = true := by simp [h0]
    go_wp2_with fail
    (try rw [HN.out])
    refine HCK.out.mono ?_
    rintro e w1 ⟨rfl, hb1⟩
    have HB1 := Lib.hid hb1
    clear hb1
    go_wp2_with fail
    go_ret2
    exact ⟨⟨_, rfl, Rows.nil _⟩, HB1.out⟩
end Go.Proofs.Ytpkkebojiengpaa
