/-
  WALKS over the reference of interval: Choose at the other kinds.
-/
import Derived.Test.YtpkkebojiengpaaIbQ
namespace Go.Proofs.Ytpkkebojiengpaa
open Go Go.RowKit Go.Shelf Go.Lib
set_option linter.unusedVariables false
set_option linter.unusedSimpArgs false

set_option maxRecDepth 100000 in
set_option maxHeartbeats 8000000 in
theorem refChoose2_any {w : World} {v1 v2 : Value} {a b : List Sp} (h1 : Rows 2 ESp w v1 a) (h2 : Rows 2 ESp w v2 b) :
    Calls Try.prog 22 #[v1, v2, .int .i64 2] w (NorV w (chkSS [a, b]) (choL a b (containL a b))) := by
  have HC1 := Lib.hid (refCheck_any h1)
  have HC2 := Lib.hid (fun W (h : Below w.heap.size w W) => refCheck_any (h2.below stays_sp h))
  have HV1 := Lib.hid (fun W (h : Below w.heap.size w W) => h1.below stays_sp h)
  have HV2 := Lib.hid (fun W (h : Below w.heap.size w W) => h2.below stays_sp h)
  have hok := fun h : chkS a = 0 => (chk_ok h).1
  have hok2 := fun h : chkS b = 0 => (chk_ok h).1
  obtain ⟨A1, cap1, rfl, hc1⟩ := h1.form
  obtain ⟨A2, cap2, rfl, hc2⟩ := h2.form
  obtain ⟨n1, hn1⟩ : ∃ n, a.length = n := ⟨_, rfl⟩
  obtain ⟨n2, hn2⟩ : ∃ n, b.length = n := ⟨_, rfl⟩
  obtain ⟨c1, hcc1⟩ : ∃ c, chkS a = c := ⟨_, rfl⟩
  obtain ⟨c2, hcc2⟩ : ∃ c, chkS b = c := ⟨_, rfl⟩
  have hss : chkSS [a, b] = if c1 = 0 then (if c2 = 0 then 0 else c2) else c1 := by
    unfold chkSS chkSS chkSS
    rw [hcc1, hcc2]
  obtain ⟨N, hN⟩ : ∃ N, w.heap.size = N := ⟨_, rfl⟩
  have hch : containL a b = normS (a.filter fun s => b.any fun y => inB s y) := choose_ref _ _
  obtain ⟨p, hp⟩ : ∃ p : Sp → Bool, p = fun s => b.any fun y => inB s y := ⟨_, rfl⟩
  rw [← hp] at hch
  unfold choL NorV
  rw [hss, hch]
  unfold IntV at HC1 HC2
  rw [hn1] at HC1 HV1 hc1 hok ⊢
  rw [hn2] at HC2 HV2 hc2 hok2 ⊢
  rw [hN] at HC1 HC2 HV1 HV2 ⊢
  rw [hcc1] at HC1 hok
  rw [hcc2] at HC2 hok2
  have HN := Lib.hid hN
  have HN1 := Lib.hid hn1
  have HN2 := Lib.hid hn2
  have HOK := Lib.hid hok
  have HOK2 := Lib.hid hok2
  have HP := Lib.hid hp
  have HSZ0 : Hid (∀ W, Below N w W → N ≤ W.heap.size) := Lib.hid fun W h => by rw [← hN]; exact h.size
  clear h1 h2 hn1 hn2 hcc1 hcc2 hN hok hok2 hss hch hp
  go_enter Try.func22, Try.ntmps22
  by_cases h0 : c1 = 0
  · by_cases h00 : c2 = 0
    · have hl1 : n1 ≤ 4096 := HOK.out h0
      have hl2 : n2 ≤ 4096 := HOK2.out h00
      clear HOK HOK2
      subst h0
      subst h00
      go_wp2_with fail
      refine HC1.out.mono ?_
      rintro e w1 ⟨rfl, hb1⟩
      have HB1 := Lib.hid hb1
      clear hb1
      go_wp2_with fail
      refine (HC2.out w1 HB1.out).mono ?_
      rintro e w2 ⟨rfl, hb2⟩
      have HB2 := Lib.hid (HB1.out.trans (hb2.mono (HSZ0.out _ HB1.out)))
      clear hb2
      go_wp2_with fail
      go_loopw [10, 28] (fun lv kv wr => ∃ (k : Nat) (lw : Value), lw = lv ∧ k ≤ n1 ∧ kv = .int .i64 k ∧ Hid (Rows 2 ESp wr lw (normS ((a.take k).filter p))) ∧ Hid (Below N w wr)) (fun _ kv _ => n1 - (Go.RowKit.intOf kv).toNat)
      case atStart => exact ⟨0, _, rfl, Nat.zero_le _, rfl, Lib.hid (Rows.nil _), HB2⟩
      case round =>
        clear HB2 HB1
        obtain ⟨k, lv, hlv, hk, rfl, HR, HB⟩ := hrel
        subst hlv
        by_cases hlt : k < n1
        · obtain ⟨s, hs⟩ : ∃ x, a[k]? = some x := ⟨_, List.getElem?_eq_getElem (by rw [HN1.out]; omega)⟩
          obtain ⟨bk, off, rfl, hbl, hj⟩ := at_sp (HV1.out wr HB.out) (by rw [HN1.out]; omega)
          obtain ⟨c0, c1⟩ := hj k s hs
          have htk : (a.take (k + 1)).filter p = (a.take k).filter p ++ (if p s = true then [s] else []) := by
            rw [List.take_add_one, hs, List.filter_append]
            by_cases h : p s = true <;> simp [h]
          have hps : p s = b.any fun y => inB s y := by rw [HP.out]
          have hct := fun (y : Sp) (W : World) => refContains_any s y W
          have hlen6 : (normS ((a.take k).filter p)).length ≤ 100000 := by
            have h1 := normS_len ((a.take k).filter p)
            have h2 := List.length_filter_le p (a.take k)
            rw [List.length_take] at h2
            omega
          have hinv := fun (W : World) (u : Value) (hr : Rows 2 ESp W u (normS ((a.take k).filter p))) => insert_any hr hlen6 s
          obtain ⟨q0, hq0⟩ : ∃ q : Sp → Bool, q = fun y => inB s y := ⟨_, rfl⟩
          have hct2 : ∀ (y : Sp) (W : World), Calls Try.prog 38 #[.agg #[.int .i64 s.1, .int .i64 s.2], .agg #[.int .i64 y.1, .int .i64 y.2]] W (BoolV W (q0 y)) := fun y W => by rw [hq0]; exact hct y W
          have hps2 : p s = b.any q0 := by rw [hq0]; exact hps
          unfold BoolV at hct2
          obtain ⟨x1, x2⟩ := s
          simp only at c0 c1 hct2 hinv
          obtain ⟨WB, hWB⟩ : ∃ X, wr.alloc (.cells #[.int .i64 x1, .int .i64 x2] 31) = X := ⟨_, rfl⟩
          obtain ⟨Nx, hNx⟩ : ∃ N, wr.heap.size = N := ⟨_, rfl⟩
          have hbx : WB.heap[Nx]? = some (.cells #[.int .i64 x1, .int .i64 x2] 31 (0, 0)) := by rw [← hWB, ← hNx]; exact block_new _ _
          have hNNx : N ≤ Nx := by rw [← hNx]; exact HSZ0.out _ HB.out
          have hbW : Below Nx wr WB := by rw [← hWB, ← hNx]; exact below_box _ _
          have hWs : WB.heap.size = Nx + 1 := by rw [← hWB, alloc_sz, hNx]
          have HBW := Lib.hid (HB.out.trans (hbW.mono hNNx))
          have HRW : Hid (∀ W, Below (Nx + 1) WB W → Rows 2 ESp W lv (normS ((a.take k).filter p))) := Lib.hid fun W h => HR.out.below stays_sp (by rw [hNx]; exact hbW.trans (h.mono (Nat.le_succ _)))
          have HSB : Hid (∀ W, Below (Nx + 1) WB W → W.cell? ⟨Nx, 0, none⟩ = some (.int .i64 x1) ∧ W.cell? ⟨Nx, 1, none⟩ = some (.int .i64 x2)) := Lib.hid fun W h => by
            have e := block_below hbx h (Nat.lt_succ_self _)
            exact ⟨cell_of e rfl, cell_of e rfl⟩
          have HVB : Hid (∀ W, Below (Nx + 1) WB W → Below N w W) := Lib.hid fun W h => HBW.out.trans (h.mono (by omega))
          have HWB := Lib.hid hWB
          have HNx := Lib.hid hNx
          have HWS := Lib.hid hWs
          have HCT := Lib.hid hct2
          have HPS := Lib.hid hps2
          have HTK := Lib.hid htk
          have HINV := Lib.hid hinv
          have hki : (k : Int) < (n1 : Int) := by omega
          clear hs hj hbl htk hps hct hlen6 hinv hct2 hps2 hWB hNx hbx hNNx hbW hWs HR HB hq0
          go_upto_region 11 with fail
          rw [HWB.out, HNx.out]
          clear c0 c1
          go_wp2_with fail
          go_loopw [13, 34] (fun ov jv wr2 => ∃ (j : Nat) (ok : Bool), ov = .bool ok ∧ j ≤ n2 ∧ jv = .int .i64 j ∧ Hid (ok = (b.take j).any q0) ∧ Hid (Below (Nx + 1) WB wr2)) (fun _ jv _ => n2 - (Go.RowKit.intOf jv).toNat)
          case atStart => exact ⟨0, false, rfl, Nat.zero_le _, rfl, Lib.hid rfl, Lib.hid (Below.refl _ _)⟩
          case round =>
            obtain ⟨j, ok, rfl, hj, rfl, HO, HB⟩ := hrel
            by_cases hlt2 : j < n2
            · obtain ⟨y, hy⟩ : ∃ x, b[j]? = some x := ⟨_, List.getElem?_eq_getElem (by rw [HN2.out]; omega)⟩
              obtain ⟨bk2, off2, rfl, hbl2, hj2⟩ := at_sp (HV2.out wr (HVB.out wr HB.out)) (by rw [HN2.out]; omega)
              obtain ⟨c0, c1⟩ := hj2 j y hy
              have hnx : (b.take (j + 1)).any q0 = ((b.take j).any q0 || q0 y) := by
                rw [List.take_add_one, hy, List.any_append]
                simp
              obtain ⟨q, hq⟩ : ∃ q, q0 y = q := ⟨_, rfl⟩
              have hcy := HCT.out y
              rw [hq] at hnx hcy
              rw [← HO.out] at hnx
              obtain ⟨y1, y2⟩ := y
              simp only at c0 c1 hcy
              obtain ⟨WC, hWC⟩ : ∃ X, wr.alloc (.cells #[.int .i64 y1, .int .i64 y2] 31) = X := ⟨_, rfl⟩
              obtain ⟨Ny, hNy⟩ : ∃ N, wr.heap.size = N := ⟨_, rfl⟩
              have hby : WC.heap[Ny]? = some (.cells #[.int .i64 y1, .int .i64 y2] 31 (0, 0)) := by rw [← hWC, ← hNy]; exact block_new _ _
              have hNxy : Nx + 1 ≤ Ny := by rw [← hNy, ← HWS.out]; exact HB.out.size
              have hbC : Below (Nx + 1) WB WC := HB.out.trans (by rw [← hWC]; exact (below_box wr _).mono (by rw [hNy]; exact hNxy))
              obtain ⟨e0, e1⟩ := HSB.out WC hbC
              have d0 := cell_of (i := 0) hby rfl
              have d1 := cell_of (i := 1) hby rfl
              have HCY := Lib.hid (hcy WC)
              have HBC := Lib.hid hbC
              have HCS : Hid (Nx + 1 ≤ WC.heap.size) := Lib.hid (by rw [← hWC, alloc_sz, hNy]; omega)
              have HNXT := Lib.hid hnx
              have HWC := Lib.hid hWC
              have HNy := Lib.hid hNy
              have hji : (j : Int) < (n2 : Int) := by omega
              clear hy hj2 hbl2 hnx hq hcy hWC hNy hby hNxy hbC HO HB
              cases ok with
              | true =>
                go_upto_region 15 with fail
                rw [HWC.out, HNy.out]
                clear c0 c1
                go_wp2_with fail
                exact ⟨⟨j + 1, true, rfl, by omega, by go_num, Lib.hid (by rw [HNXT.out]; rfl), HBC⟩, by simp only [Go.RowKit.intOf]; omega⟩
              | false =>
                go_upto_region 15 with fail
                rw [HWC.out, HNy.out]
                clear c0 c1
                go_wp2_with fail
                refine HCY.out.mono ?_
                rintro e w4 ⟨rfl, hb4⟩
                have HB4 := Lib.hid (HBC.out.trans (hb4.mono HCS.out))
                clear hb4 d0 d1 e0 e1
                go_wp2_with fail
                exact ⟨⟨j + 1, q, rfl, by omega, by go_num, Lib.hid (by rw [HNXT.out]; simp), HB4⟩, by simp only [Go.RowKit.intOf]; omega⟩
            · obtain rfl : j = n2 := by omega
              have hoo := HO.out
              rw [List.take_of_length_le (by rw [HN2.out]; exact Nat.le_refl _), ← HPS.out] at hoo
              obtain ⟨e0, e1⟩ := HSB.out wr HB.out
              have HRW2 := Lib.hid (HRW.out wr HB.out)
              have HBF := Lib.hid (HVB.out wr HB.out)
              cases ok with
              | false =>
                have htk := HTK.out
                rw [← hoo, if_neg (by simp), List.append_nil] at htk
                have HNX : Hid (Rows 2 ESp wr lv (normS ((a.take (k + 1)).filter p))) := Lib.hid (by rw [htk]; exact HRW2.out)
                clear hoo htk HO e0 e1 HRW2
                go_wp2_with fail
                exact ⟨⟨k + 1, _, rfl, by omega, by go_num, HNX, HBF⟩, by simp only [Go.RowKit.intOf]; omega⟩
              | true =>
                have htk := HTK.out
                rw [← hoo, if_pos rfl] at htk
                have hin := HINV.out wr lv HRW2.out
                rw [← normS_snoc, ← htk] at hin
                unfold RowV at hin
                have HIN := Lib.hid hin
                clear hoo htk HO hin HRW2
                go_wp2_with fail
                refine HIN.out.mono ?_
                rintro e w4 ⟨⟨v4, rfl, hr4⟩, hb4⟩
                have HR4 := Lib.hid hr4
                have HB4 := Lib.hid (HBF.out.trans (hb4.mono (HSZ0.out _ HBF.out)))
                clear hr4 hb4 e0 e1
                go_wp2_with fail
                exact ⟨⟨k + 1, _, rfl, by omega, by go_num, HR4, HB4⟩, by simp only [Go.RowKit.intOf]; omega⟩
        · obtain rfl : k = n1 := by omega
          have hr := HR.out
          rw [List.take_of_length_le (by rw [HN1.out]; exact Nat.le_refl _)] at hr
          have HRR := Lib.hid hr
          clear hr HR
          go_wp2_with fail
          go_ret2
          exact ⟨⟨_, rfl, HRR.out⟩, HB.out⟩
    · have hcb : (c2 != 0) = true := by simp [h00]
      subst h0
      go_wp2_with fail
      refine HC1.out.mono ?_
      rintro e w1 ⟨rfl, hb1⟩
      have HB1 := Lib.hid hb1
      clear hb1
      go_wp2_with fail
      refine (HC2.out w1 HB1.out).mono ?_
      rintro e w2 ⟨rfl, hb2⟩
      have HB2 := Lib.hid (HB1.out.trans (hb2.mono (HSZ0.out _ HB1.out)))
      clear hb2
      go_wp2_with fail
      go_ret2
      exact ⟨⟨_, rfl, Rows.nil _⟩, HB2.out⟩
  · have hcb : (c1 != 0) = true := by simp [h0]
    go_wp2_with fail
    refine HC1.out.mono ?_
    rintro e w1 ⟨rfl, hb1⟩
    have HB1 := Lib.hid hb1
    clear hb1
    go_wp2_with fail
    go_ret2
    exact ⟨⟨_, rfl, Rows.nil _⟩, HB1.out⟩

set_option maxRecDepth 100000 in
set_option maxHeartbeats 8000000 in
theorem refChoose3_any {w : World} {v1 v2 : Value} {a b : List Sp} (h1 : Rows 2 ESp w v1 a) (h2 : Rows 2 ESp w v2 b) :
    Calls Try.prog 22 #[v1, v2, .int .i64 3] w (NorV w (chkSS [a, b]) (choL a b (overL a b))) := by
  have HC1 := Lib.hid (refCheck_any h1)
  have HC2 := Lib.hid (fun W (h : Below w.heap.size w W) => refCheck_any (h2.below stays_sp h))
  have HV1 := Lib.hid (fun W (h : Below w.heap.size w W) => h1.below stays_sp h)
  have HV2 := Lib.hid (fun W (h : Below w.heap.size w W) => h2.below stays_sp h)
  have hok := fun h : chkS a = 0 => (chk_ok h).1
  have hok2 := fun h : chkS b = 0 => (chk_ok h).1
  obtain ⟨A1, cap1, rfl, hc1⟩ := h1.form
  obtain ⟨A2, cap2, rfl, hc2⟩ := h2.form
  obtain ⟨n1, hn1⟩ : ∃ n, a.length = n := ⟨_, rfl⟩
  obtain ⟨n2, hn2⟩ : ∃ n, b.length = n := ⟨_, rfl⟩
  obtain ⟨c1, hcc1⟩ : ∃ c, chkS a = c := ⟨_, rfl⟩
  obtain ⟨c2, hcc2⟩ : ∃ c, chkS b = c := ⟨_, rfl⟩
  have hss : chkSS [a, b] = if c1 = 0 then (if c2 = 0 then 0 else c2) else c1 := by
    unfold chkSS chkSS chkSS
    rw [hcc1, hcc2]
  obtain ⟨N, hN⟩ : ∃ N, w.heap.size = N := ⟨_, rfl⟩
  have hch : overL a b = normS (a.filter fun s => b.any fun y => ovB s y) := choose_ref _ _
  obtain ⟨p, hp⟩ : ∃ p : Sp → Bool, p = fun s => b.any fun y => ovB s y := ⟨_, rfl⟩
  rw [← hp] at hch
  unfold choL NorV
  rw [hss, hch]
  unfold IntV at HC1 HC2
  rw [hn1] at HC1 HV1 hc1 hok ⊢
  rw [hn2] at HC2 HV2 hc2 hok2 ⊢
  rw [hN] at HC1 HC2 HV1 HV2 ⊢
  rw [hcc1] at HC1 hok
  rw [hcc2] at HC2 hok2
  have HN := Lib.hid hN
  have HN1 := Lib.hid hn1
  have HN2 := Lib.hid hn2
  have HOK := Lib.hid hok
  have HOK2 := Lib.hid hok2
  have HP := Lib.hid hp
  have HSZ0 : Hid (∀ W, Below N w W → N ≤ W.heap.size) := Lib.hid fun W h => by rw [← hN]; exact h.size
  clear h1 h2 hn1 hn2 hcc1 hcc2 hN hok hok2 hss hch hp
  go_enter Try.func22, Try.ntmps22
  by_cases h0 : c1 = 0
  · by_cases h00 : c2 = 0
    · have hl1 : n1 ≤ 4096 := HOK.out h0
      have hl2 : n2 ≤ 4096 := HOK2.out h00
      clear HOK HOK2
      subst h0
      subst h00
      go_wp2_with fail
      refine HC1.out.mono ?_
      rintro e w1 ⟨rfl, hb1⟩
      have HB1 := Lib.hid hb1
      clear hb1
      go_wp2_with fail
      refine (HC2.out w1 HB1.out).mono ?_
      rintro e w2 ⟨rfl, hb2⟩
      have HB2 := Lib.hid (HB1.out.trans (hb2.mono (HSZ0.out _ HB1.out)))
      clear hb2
      go_wp2_with fail
      go_loopw [10, 28] (fun lv kv wr => ∃ (k : Nat) (lw : Value), lw = lv ∧ k ≤ n1 ∧ kv = .int .i64 k ∧ Hid (Rows 2 ESp wr lw (normS ((a.take k).filter p))) ∧ Hid (Below N w wr)) (fun _ kv _ => n1 - (Go.RowKit.intOf kv).toNat)
      case atStart => exact ⟨0, _, rfl, Nat.zero_le _, rfl, Lib.hid (Rows.nil _), HB2⟩
      case round =>
        clear HB2 HB1
        obtain ⟨k, lv, hlv, hk, rfl, HR, HB⟩ := hrel
        subst hlv
        by_cases hlt : k < n1
        · obtain ⟨s, hs⟩ : ∃ x, a[k]? = some x := ⟨_, List.getElem?_eq_getElem (by rw [HN1.out]; omega)⟩
          obtain ⟨bk, off, rfl, hbl, hj⟩ := at_sp (HV1.out wr HB.out) (by rw [HN1.out]; omega)
          obtain ⟨c0, c1⟩ := hj k s hs
          have htk : (a.take (k + 1)).filter p = (a.take k).filter p ++ (if p s = true then [s] else []) := by
            rw [List.take_add_one, hs, List.filter_append]
            by_cases h : p s = true <;> simp [h]
          have hps : p s = b.any fun y => ovB s y := by rw [HP.out]
          have hct := fun (y : Sp) (W : World) => refOverlap_any s y W
          have hlen6 : (normS ((a.take k).filter p)).length ≤ 100000 := by
            have h1 := normS_len ((a.take k).filter p)
            have h2 := List.length_filter_le p (a.take k)
            rw [List.length_take] at h2
            omega
          have hinv := fun (W : World) (u : Value) (hr : Rows 2 ESp W u (normS ((a.take k).filter p))) => insert_any hr hlen6 s
          obtain ⟨q0, hq0⟩ : ∃ q : Sp → Bool, q = fun y => ovB s y := ⟨_, rfl⟩
          have hct2 : ∀ (y : Sp) (W : World), Calls Try.prog 39 #[.agg #[.int .i64 s.1, .int .i64 s.2], .agg #[.int .i64 y.1, .int .i64 y.2]] W (BoolV W (q0 y)) := fun y W => by rw [hq0]; exact hct y W
          have hps2 : p s = b.any q0 := by rw [hq0]; exact hps
          unfold BoolV at hct2
          obtain ⟨x1, x2⟩ := s
          simp only at c0 c1 hct2 hinv
          obtain ⟨WB, hWB⟩ : ∃ X, wr.alloc (.cells #[.int .i64 x1, .int .i64 x2] 31) = X := ⟨_, rfl⟩
          obtain ⟨Nx, hNx⟩ : ∃ N, wr.heap.size = N := ⟨_, rfl⟩
          have hbx : WB.heap[Nx]? = some (.cells #[.int .i64 x1, .int .i64 x2] 31 (0, 0)) := by rw [← hWB, ← hNx]; exact block_new _ _
          have hNNx : N ≤ Nx := by rw [← hNx]; exact HSZ0.out _ HB.out
          have hbW : Below Nx wr WB := by rw [← hWB, ← hNx]; exact below_box _ _
          have hWs : WB.heap.size = Nx + 1 := by rw [← hWB, alloc_sz, hNx]
          have HBW := Lib.hid (HB.out.trans (hbW.mono hNNx))
          have HRW : Hid (∀ W, Below (Nx + 1) WB W → Rows 2 ESp W lv (normS ((a.take k).filter p))) := Lib.hid fun W h => HR.out.below stays_sp (by rw [hNx]; exact hbW.trans (h.mono (Nat.le_succ _)))
          have HSB : Hid (∀ W, Below (Nx + 1) WB W → W.cell? ⟨Nx, 0, none⟩ = some (.int .i64 x1) ∧ W.cell? ⟨Nx, 1, none⟩ = some (.int .i64 x2)) := Lib.hid fun W h => by
            have e := block_below hbx h (Nat.lt_succ_self _)
            exact ⟨cell_of e rfl, cell_of e rfl⟩
          have HVB : Hid (∀ W, Below (Nx + 1) WB W → Below N w W) := Lib.hid fun W h => HBW.out.trans (h.mono (by omega))
          have HWB := Lib.hid hWB
          have HNx := Lib.hid hNx
          have HWS := Lib.hid hWs
          have HCT := Lib.hid hct2
          have HPS := Lib.hid hps2
          have HTK := Lib.hid htk
          have HINV := Lib.hid hinv
          have hki : (k : Int) < (n1 : Int) := by omega
          clear hs hj hbl htk hps hct hlen6 hinv hct2 hps2 hWB hNx hbx hNNx hbW hWs HR HB hq0
          go_upto_region 11 with fail
          rw [HWB.out, HNx.out]
          clear c0 c1
          go_wp2_with fail
          go_loopw [13, 34] (fun ov jv wr2 => ∃ (j : Nat) (ok : Bool), ov = .bool ok ∧ j ≤ n2 ∧ jv = .int .i64 j ∧ Hid (ok = (b.take j).any q0) ∧ Hid (Below (Nx + 1) WB wr2)) (fun _ jv _ => n2 - (Go.RowKit.intOf jv).toNat)
          case atStart => exact ⟨0, false, rfl, Nat.zero_le _, rfl, Lib.hid rfl, Lib.hid (Below.refl _ _)⟩
          case round =>
            obtain ⟨j, ok, rfl, hj, rfl, HO, HB⟩ := hrel
            by_cases hlt2 : j < n2
            · obtain ⟨y, hy⟩ : ∃ x, b[j]? = some x := ⟨_, List.getElem?_eq_getElem (by rw [HN2.out]; omega)⟩
              obtain ⟨bk2, off2, rfl, hbl2, hj2⟩ := at_sp (HV2.out wr (HVB.out wr HB.out)) (by rw [HN2.out]; omega)
              obtain ⟨c0, c1⟩ := hj2 j y hy
              have hnx : (b.take (j + 1)).any q0 = ((b.take j).any q0 || q0 y) := by
                rw [List.take_add_one, hy, List.any_append]
                simp
              obtain ⟨q, hq⟩ : ∃ q, q0 y = q := ⟨_, rfl⟩
              have hcy := HCT.out y
              rw [hq] at hnx hcy
              rw [← HO.out] at hnx
              obtain ⟨y1, y2⟩ := y
              simp only at c0 c1 hcy
              obtain ⟨WC, hWC⟩ : ∃ X, wr.alloc (.cells #[.int .i64 y1, .int .i64 y2] 31) = X := ⟨_, rfl⟩
              obtain ⟨Ny, hNy⟩ : ∃ N, wr.heap.size = N := ⟨_, rfl⟩
              have hby : WC.heap[Ny]? = some (.cells #[.int .i64 y1, .int .i64 y2] 31 (0, 0)) := by rw [← hWC, ← hNy]; exact block_new _ _
              have hNxy : Nx + 1 ≤ Ny := by rw [← hNy, ← HWS.out]; exact HB.out.size
              have hbC : Below (Nx + 1) WB WC := HB.out.trans (by rw [← hWC]; exact (below_box wr _).mono (by rw [hNy]; exact hNxy))
              obtain ⟨e0, e1⟩ := HSB.out WC hbC
              have d0 := cell_of (i := 0) hby rfl
              have d1 := cell_of (i := 1) hby rfl
              have HCY := Lib.hid (hcy WC)
              have HBC := Lib.hid hbC
              have HCS : Hid (Nx + 1 ≤ WC.heap.size) := Lib.hid (by rw [← hWC, alloc_sz, hNy]; omega)
              have HNXT := Lib.hid hnx
              have HWC := Lib.hid hWC
              have HNy := Lib.hid hNy
              have hji : (j : Int) < (n2 : Int) := by omega
              clear hy hj2 hbl2 hnx hq hcy hWC hNy hby hNxy hbC HO HB
              cases ok with
              | true =>
                go_upto_region 15 with fail
                rw [HWC.out, HNy.out]
                clear c0 c1
                go_wp2_with fail
                exact ⟨⟨j + 1, true, rfl, by omega, by go_num, Lib.hid (by rw [HNXT.out]; rfl), HBC⟩, by simp only [Go.RowKit.intOf]; omega⟩
              | false =>
                go_upto_region 15 with fail
                rw [HWC.out, HNy.out]
                clear c0 c1
                go_wp2_with fail
                refine HCY.out.mono ?_
                rintro e w4 ⟨rfl, hb4⟩
                have HB4 := Lib.hid (HBC.out.trans (hb4.mono HCS.out))
                clear hb4 d0 d1 e0 e1
                go_wp2_with fail
                exact ⟨⟨j + 1, q, rfl, by omega, by go_num, Lib.hid (by rw [HNXT.out]; simp), HB4⟩, by simp only [Go.RowKit.intOf]; omega⟩
            · obtain rfl : j = n2 := by omega
              have hoo := HO.out
              rw [List.take_of_length_le (by rw [HN2.out]; exact Nat.le_refl _), ← HPS.out] at hoo
              obtain ⟨e0, e1⟩ := HSB.out wr HB.out
              have HRW2 := Lib.hid (HRW.out wr HB.out)
              have HBF := Lib.hid (HVB.out wr HB.out)
              cases ok with
              | false =>
                have htk := HTK.out
                rw [← hoo, if_neg (by simp), List.append_nil] at htk
                have HNX : Hid (Rows 2 ESp wr lv (normS ((a.take (k + 1)).filter p))) := Lib.hid (by rw [htk]; exact HRW2.out)
                clear hoo htk HO e0 e1 HRW2
                go_wp2_with fail
                exact ⟨⟨k + 1, _, rfl, by omega, by go_num, HNX, HBF⟩, by simp only [Go.RowKit.intOf]; omega⟩
              | true =>
                have htk := HTK.out
                rw [← hoo, if_pos rfl] at htk
                have hin := HINV.out wr lv HRW2.out
                rw [← normS_snoc, ← htk] at hin
                unfold RowV at hin
                have HIN := Lib.hid hin
                clear hoo htk HO hin HRW2
                go_wp2_with fail
                refine HIN.out.mono ?_
                rintro e w4 ⟨⟨v4, rfl, hr4⟩, hb4⟩
                have HR4 := Lib.hid hr4
                have HB4 := Lib.hid (HBF.out.trans (hb4.mono (HSZ0.out _ HBF.out)))
                clear hr4 hb4 e0 e1
                go_wp2_with fail
                exact ⟨⟨k + 1, _, rfl, by omega, by go_num, HR4, HB4⟩, by simp only [Go.RowKit.intOf]; omega⟩
        · obtain rfl : k = n1 := by omega
          have hr := HR.out
          rw [List.take_of_length_le (by rw [HN1.out]; exact Nat.le_refl _)] at hr
          have HRR := Lib.hid hr
          clear hr HR
          go_wp2_with fail
          go_ret2
          exact ⟨⟨_, rfl, HRR.out⟩, HB.out⟩
    · have hcb : (c2 != 0) = true := by simp [h00]
      subst h0
      go_wp2_with fail
      refine HC1.out.mono ?_
      rintro e w1 ⟨rfl, hb1⟩
      have HB1 := Lib.hid hb1
      clear hb1
      go_wp2_with fail
      refine (HC2.out w1 HB1.out).mono ?_
      rintro e w2 ⟨rfl, hb2⟩
      have HB2 := Lib.hid (HB1.out.trans (hb2.mono (HSZ0.out _ HB1.out)))
      clear hb2
      go_wp2_with fail
      go_ret2
      exact ⟨⟨_, rfl, Rows.nil _⟩, HB2.out⟩
  · have hcb : (c1 != 0) = true := by simp [h0]
    go_wp2_with fail
    refine HC1.out.mono ?_
    rintro e w1 ⟨rfl, hb1⟩
    have HB1 := Lib.hid hb1
    clear hb1
    go_wp2_with fail
    go_ret2
    exact ⟨⟨_, rfl, Rows.nil _⟩, HB1.out⟩
end Go.Proofs.Ytpkkebojiengpaa
