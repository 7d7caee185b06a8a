/-
  IntervalCovers is proved: for every list of spans the call of the law returns true, and each argument reads afterwards as it read before. It has no condition.
-/
import Derived.Test.YtpkkebojiengpaaRows
import Derived.Test.YtpkkebojiengpaaIoO
import Derived.Test.YtpkkebojiengpaaIbO
import Derived.Test.YtpkkebojiengpaaIbN
import Derived.ProofKit
import Derived.OpenShut
import Derived.Carry
namespace Go.Proofs.Ytpkkebojiengpaa.intervalCovers
open Go.ChangeShapes Go.WideShapes Go.ChangeAt Go.RowKit Go.Shelf Go.Lib
set_option linter.unusedVariables false

theorem cov_chk2 {l : List Sp} (h : chkS l = 0) : chkSS [l, covL l] = 0 := by
  unfold chkSS chkSS chkSS
  rw [if_pos h, if_pos (cov_chk h)]
/-- The law's inner loop: how far the first m spans lead. -/
def goT (l : List Sp) (m : Nat) (a : Int) : Int := goS (l.take m) a
theorem goT_zero (l : List Sp) (a : Int) : goT l 0 a = a := rfl
theorem goT_all {l : List Sp} {m : Nat} (h : l.length ≤ m) (a : Int) : goT l m a = goS l a := by unfold goT; rw [List.take_of_length_le h]
theorem goT_step {l : List Sp} {m : Nat} {t : Sp} (h : l[m]? = some t) (a : Int) : goT l (m + 1) a = if t.1 ≤ goT l m a ∧ goT l m a < t.2 then t.2 else goT l m a := by
  unfold goT goS
  rw [List.take_add_one, h, Option.toList_some, List.foldl_append]
  rfl
set_option maxRecDepth 100000 in
set_option maxHeartbeats 16000000 in
theorem walk {w : World} (v : Value) (l : List Sp) (hv : Rows 2 ESp w v l) (_ : l.length ≤ maxLen) (_ : ∀ x ∈ l, okSp x) :
    Calls Try.prog 9 #[v] w fun e w1 => e = .returned (.bool true) ∧ Below w.heap.size w w1 := by
  have HCV := Lib.hid (cover_any hv)
  have HLG := Lib.hid (fun W (h : Below w.heap.size w W) => long1_any (hv.below stays_sp h))
  have HV := Lib.hid (fun W (h : Below w.heap.size w W) => hv.below stays_sp h)
  have HA := Lib.hid (fun (W : World) => awake_any W)
  have HWI := Lib.hid (fun W u (h : Below w.heap.size w W) (hu : Rows 2 ESp W u (covL l)) => within_any (hv.below stays_sp h) hu)
  have HNM := Lib.hid (fun W (h : Below w.heap.size w W) => normalize_any (hv.below stays_sp h))
  obtain ⟨A, cap, rfl, hc⟩ := hv.form
  obtain ⟨n, hn⟩ : ∃ n, l.length = n := ⟨_, rfl⟩
  obtain ⟨N, hN⟩ : ∃ N, w.heap.size = N := ⟨_, rfl⟩
  obtain ⟨q, hq⟩ : ∃ q, decide (60 < n) = q := ⟨_, rfl⟩
  obtain ⟨c, hcc⟩ : ∃ c, chkS l = c := ⟨_, rfl⟩
  unfold NorV cvL at HCV
  unfold NorV at HWI HNM
  unfold BoolV at HA
  rw [hN, hcc, hn] at HCV
  rw [hN, hn, hq] at HLG
  rw [hN, hn] at HV
  rw [hN, hn] at HWI HNM
  rw [hn] at hc ⊢
  rw [hN]
  have HN := Lib.hid hn
  have HQ := Lib.hid hq
  have HCC := Lib.hid hcc
  have HSZ : Hid (∀ W, Below N w W → N ≤ W.heap.size) := Lib.hid fun W h => by rw [← hN]; exact h.size
  have HLG2 : Hid (∀ W N1, W.heap.size = N1 → Below N w W → Calls Try.prog 11 #[.slice (some ⟨N1, 0, none⟩) 1 1] (W.alloc (.cells #[.slice A n cap] 22)) fun e w' => e = .returned (.bool q) ∧ Below N1 W w') := Lib.hid fun W N1 e h => by subst e; exact HLG.out W h
  clear hv hn hN hq hcc HLG
  go_enter Try.func9, Try.ntmps9
  go_wp2_with fail
  refine HCV.out.mono ?_
  rintro e w2 ⟨⟨v2, rfl, hr2⟩, hb2⟩
  obtain ⟨N2, hN2⟩ : ∃ N, w2.heap.size = N := ⟨_, rfl⟩
  have HLGG := Lib.hid (HLG2.out w2 N2 hN2 hb2)
  have HR2 := Lib.hid (fun W (h : Below N2 w2 W) => hr2.below stays_sp (by rw [hN2]; exact h))
  have HB2 : Hid (Below N w w2 ∧ N ≤ N2) := Lib.hid ⟨hb2, by rw [← hN2]; exact HSZ.out w2 hb2⟩
  have HN2 := Lib.hid hN2
  clear hr2 hb2 hN2 HLG2 HCV
  cases q with
  | true =>
    go_wp2_with fail
    (try rw [HN2.out])
    refine HLGG.out.mono ?_
    rintro e w3 ⟨rfl, hb3⟩
    have HB3 := Lib.hid (HB2.out.1.trans (hb3.mono HB2.out.2))
    clear hb3
    go_wp2_with fail
    go_ret
    exact ⟨rfl, HB3.out⟩
  | false =>
    have hn60 : n ≤ 60 := by
      have := HQ.out
      simp at this
      omega
    by_cases h0 : c = 0
    · subst h0
      have hok := chk_ok HCC.out
      have hend := fun (k : Nat) (s : Sp) (hs : (covL l)[k]? = some s) => goN_end hok.2 (List.mem_of_getElem? hs)
      obtain ⟨hall, hpw, -⟩ := cov_all hok.2
      have HEND := Lib.hid hend
      have HALL := Lib.hid (And.intro hall hpw)
      have hlc := covL_len l
      rw [HN.out] at hlc
      obtain ⟨L, hL⟩ : ∃ L, covL l = L := ⟨_, rfl⟩
      have hwl := cov_within HCC.out
      have hc2 := cov_chk2 HCC.out
      have HLE := Lib.hid hL
      have hnrl : norL l = normS l := by unfold norL; rw [if_pos HCC.out]
      unfold choL at HWI
      rw [hc2, hwl, hL] at HWI
      rw [HCC.out, hnrl] at HNM
      rw [hL] at HEND HALL hlc HR2
      obtain ⟨m, hm⟩ : ∃ m, L.length = m := ⟨_, rfl⟩
      have HM := Lib.hid hm
      rw [hm] at hlc
      have hnl6 : (normS l).length ≤ 1000000 := by have := normS_len l; rw [HN.out] at this; omega
      obtain ⟨L9, hL9⟩ : ∃ L9, normS l = L9 := ⟨_, rfl⟩
      rw [hL9] at HWI HNM hnl6
      have HNL := Lib.hid hnl6
      simp only [if_true] at HWI HR2
      obtain ⟨A2, cap2, rfl, hcp2⟩ := (HR2.out w2 (Below.refl _ _)).form
      rw [hm] at HR2 hcp2 ⊢
      clear hok hend hall hpw hL hwl hc2 hm hnrl hL9 hnl6
      go_wp2_with fail
      (try rw [HN2.out])
      refine HLGG.out.mono ?_
      rintro e w3 ⟨rfl, hb3⟩
      have HB3 := Lib.hid hb3
      clear hb3
      go_wp2_with fail
      go_loopw [5, 28] (fun _ kv wr => ∃ k : Nat, k ≤ m ∧ kv = .int .i64 k ∧ Hid (Below N2 w2 wr)) (fun _ kv _ => m - (Go.RowKit.intOf kv).toNat)
      case atStart => exact ⟨0, Nat.zero_le _, rfl, HB3⟩
      case round =>
        clear HB3
        obtain ⟨k, hk, rfl, HB⟩ := hrel
        by_cases hlt : k < m
        · obtain ⟨s, hs⟩ : ∃ s, L[k]? = some s := ⟨_, List.getElem?_eq_getElem (by rw [HM.out]; exact hlt)⟩
          obtain ⟨bk, off, rfl, hbl, hj⟩ := at_sp (HR2.out wr HB.out) (by rw [HM.out]; omega)
          obtain ⟨c0, c1⟩ := hj k s hs
          have hsok := (okS_iff s).1 (HALL.out.1 s (List.mem_of_getElem? hs)).1
          have hend := HEND.out k s hs
          have hapart : ∀ (p : Nat) (y : Sp), p < k → L[p]? = some y → y.2 < s.1 := fun p y hp hy => by
            obtain ⟨hp1, rfl⟩ := List.getElem?_eq_some_iff.1 hy
            obtain ⟨hk1, rfl⟩ := List.getElem?_eq_some_iff.1 hs
            exact (List.pairwise_iff_getElem.1 HALL.out.2) p k hp1 hk1 hp
          obtain ⟨WB, hWB⟩ : ∃ X, wr.alloc (.cells #[.int .i64 s.1, .int .i64 s.2] 31) = X := ⟨_, rfl⟩
          obtain ⟨Nx, hNx⟩ : ∃ N, wr.heap.size = N := ⟨_, rfl⟩
          have hbx : WB.heap[Nx]? = some (.cells #[.int .i64 s.1, .int .i64 s.2] 31 (0, 0)) := by rw [← hWB, ← hNx]; exact block_new _ _
          have hNNx : N2 ≤ Nx := by rw [← hNx, ← HN2.out]; exact HB.out.size
          have hbW : Below N2 w2 WB := HB.out.trans (by rw [← hWB]; exact (below_box wr _).mono (by rw [hNx]; exact hNNx))
          have hkeepc : ∀ (j : Nat) (x : Sp), L[j]? = some x → WB.cell? ⟨bk, off + j * 2, none⟩ = some (.int .i64 x.1) ∧ WB.cell? ⟨bk, off + j * 2 + 1, none⟩ = some (.int .i64 x.2) := fun j x hx => by
            obtain ⟨b', o', e', _, hj'⟩ := at_sp (HR2.out WB hbW) (by rw [HM.out]; omega)
            cases e'
            exact hj' j x hx
          have hWs : WB.heap.size = Nx + 1 := by rw [← hWB, alloc_sz, hNx]
          obtain ⟨s1, s2⟩ := s
          simp only at c0 c1 hsok hend hapart hWB hbx
          have d0 := cell_of (i := 0) hbx rfl
          have d1 := cell_of (i := 1) hbx rfl
          have HBW := Lib.hid hbW
          have HSB : Hid (∀ W, Below (Nx + 1) WB W → W.cell? ⟨Nx, 0, none⟩ = some (.int .i64 s1) ∧ W.cell? ⟨Nx, 1, none⟩ = some (.int .i64 s2)) := Lib.hid fun W h => by
            have e := block_below hbx h (Nat.lt_succ_self _)
            exact ⟨cell_of e rfl, cell_of e rfl⟩
          have HWB := Lib.hid hWB
          have HNx := Lib.hid hNx
          have HWS := Lib.hid (And.intro hWs hNNx)
          have HE := Lib.hid hend
          have HAP := Lib.hid hapart
          have hki : (k : Int) < (m : Int) := by omega
          have hb0 : decide (s1 < 0) = false := decide_eq_false (by omega)
          have hbe : decide (s2 ≤ s1) = false := decide_eq_false (by omega)
          have hbe2 : ¬ s2 ≤ s1 := by omega
          have HOKS := Lib.hid hsok
          clear hj hbl hend hapart hbx hNNx hbW hWs hWB hNx hsok
          go_upto_region 7 with fail
          rw [HWB.out, HNx.out]
          clear c0 c1
          have HBO : Hid (Below N2 w2 WB) := HBW
          have hnext : Hid (∀ W, Below (Nx + 1) WB W → Below N w W) := Lib.hid fun W h => HB2.out.1.trans ((HBW.out.trans (h.mono (by have := HWS.out.2; omega))).mono HB2.out.2)
          go_cut [57] from 33 to 57 (fun s57 wx => s57 = .bool false ∧ Hid (Below (Nx + 1) WB wx))
          case first =>
            by_cases hk0 : k = 0
            · subst hk0
              clear hkeepc hs
              go_wp2_with fail
              go_quiet (fail)
              go_wp2_with fail
              go_meet
              exact ⟨rfl, Lib.hid (below_drewN (Below.refl _ _) nq)⟩
            · obtain ⟨p, hp⟩ : ∃ p, p + 1 = k := ⟨k - 1, by omega⟩
              obtain ⟨y, hy⟩ : ∃ y, L[p]? = some y := ⟨_, List.getElem?_eq_getElem (by rw [HM.out]; omega)⟩
              have e1 := (hkeepc p y hy).2
              have hys := HAP.out p y (by omega) hy
              obtain ⟨y1, y2⟩ := y
              simp only at e1 hys
              have hp1 : (k : Int) - 1 = (p : Int) := by omega
              have hpi : (p : Int) < (m : Int) := by omega
              have hkpos : (0 : Int) < (k : Int) := by omega
              have hkd : decide ((0 : Int) < (k : Int)) = true := decide_eq_true hkpos
              have hkpos2 : 0 < k := by omega
              have hkd2 : decide (0 < k) = true := decide_eq_true hkpos2
              have hwp : IntKind.i64.wrap (p : Int) = (p : Int) := by rw [IntKind.wrap_i64]; omega
              have hyd : decide (s1 ≤ y2) = false := decide_eq_false (by omega)
              have hyd2 : ¬ s1 ≤ y2 := by omega
              clear hkeepc hs hy
              go_wp2_with fail
              go_quiet (fail)
              go_wp2_with fail
              go_meet
              exact ⟨rfl, Lib.hid (below_drewN (Below.refl _ _) nq)⟩
          case rest =>
            obtain ⟨rfl, HCX⟩ := hcut
            obtain ⟨wx, rfl⟩ : ∃ wx, wx = wc := ⟨_, rfl⟩
            obtain ⟨e0, e1⟩ := HSB.out wx HCX.out
            clear d0 d1 hkeepc hs HAP HBW
            go_wp2_with fail
            go_loopw [7, 62] (fun av jv wr => ∃ j : Nat, j ≤ n ∧ jv = .int .i64 j ∧ av = .int .i64 (goN l j s1) ∧ Hid (Below (Nx + 1) WB wr)) (fun _ jv _ => n - (Go.RowKit.intOf jv).toNat)
            case atStart => exact ⟨0, Nat.zero_le _, rfl, rfl, HCX⟩
            case round =>
              clear HCX e0 e1
              obtain ⟨j, hj, rfl, rfl, HB⟩ := hrel
              by_cases hlt2 : j < n
              · have hji : (j : Int) < (n : Int) := by omega
                obtain ⟨a0, ha0⟩ : ∃ a0, goN l j s1 = a0 := ⟨_, rfl⟩
                have HA0 := Lib.hid ha0
                rw [ha0]
                clear ha0
                go_wp2_with fail
                go_loopw [7, 66] (fun av iv wr => ∃ i : Nat, i ≤ n ∧ iv = .int .i64 i ∧ av = .int .i64 (goT l i a0) ∧ Hid (Below (Nx + 1) WB wr)) (fun _ iv _ => n - (Go.RowKit.intOf iv).toNat)
                case atStart => exact ⟨0, Nat.zero_le _, rfl, by rw [goT_zero], HB⟩
                case round =>
                  clear HB
                  obtain ⟨i, hi, rfl, rfl, HB⟩ := hrel
                  by_cases hlt3 : i < n
                  · obtain ⟨t, ht⟩ : ∃ t, l[i]? = some t := ⟨_, List.getElem?_eq_getElem (by rw [HN.out]; exact hlt3)⟩
                    obtain ⟨bt, ot, rfl, hbt, hjt⟩ := at_sp (HV.out wr (hnext.out wr HB.out)) (by rw [HN.out]; omega)
                    obtain ⟨c0, c1⟩ := hjt i t ht
                    have hst := goT_step ht a0
                    obtain ⟨a, hae⟩ : ∃ a, goT l i a0 = a := ⟨_, rfl⟩
                    rw [hae] at hst ⊢
                    obtain ⟨t1, t2⟩ := t
                    simp only at c0 c1 hst
                    obtain ⟨WC, hWC⟩ : ∃ X, wr.alloc (.cells #[.int .i64 t1, .int .i64 t2] 31) = X := ⟨_, rfl⟩
                    obtain ⟨Ny, hNy⟩ : ∃ N, wr.heap.size = N := ⟨_, rfl⟩
                    have hby : WC.heap[Ny]? = some (.cells #[.int .i64 t1, .int .i64 t2] 31 (0, 0)) := by rw [← hWC, ← hNy]; exact block_new _ _
                    have hsz : Nx + 1 ≤ wr.heap.size := by rw [← HWS.out.1]; exact HB.out.size
                    have HBC : Hid (Below (Nx + 1) WB WC) := Lib.hid (HB.out.trans (by rw [← hWC]; exact (below_box wr _).mono hsz))
                    have d0 := cell_of (i := 0) hby rfl
                    have d1 := cell_of (i := 1) hby rfl
                    have HST := Lib.hid hst
                    have HWC := Lib.hid hWC
                    have HNy := Lib.hid hNy
                    have hii : (i : Int) < (n : Int) := by omega
                    clear ht hjt hbt hst hWC hNy hby hsz hae HB
                    by_cases k1 : t1 ≤ a
                    · by_cases k2 : a < t2
                      · have hst := HST.out
                        rw [if_pos ⟨k1, k2⟩] at hst
                        have HST2 := Lib.hid hst
                        have q1 : decide (t1 ≤ a) = true := decide_eq_true k1
                        have q2 : decide (a < t2) = true := decide_eq_true k2
                        clear hst HST
                        go_upto_region 15 with fail
                        rw [HWC.out, HNy.out]
                        clear c0 c1
                        go_wp2_with fail
                        exact ⟨⟨i + 1, by omega, by go_num, by rw [HST2.out], HBC⟩, by simp only [Go.RowKit.intOf]; omega⟩
                      · have hst := HST.out
                        rw [if_neg (fun h => k2 h.2)] at hst
                        have HST2 := Lib.hid hst
                        have q1 : decide (t1 ≤ a) = true := decide_eq_true k1
                        have q2 : decide (a < t2) = false := decide_eq_false k2
                        clear hst HST
                        go_upto_region 15 with fail
                        rw [HWC.out, HNy.out]
                        clear c0 c1
                        go_wp2_with fail
                        exact ⟨⟨i + 1, by omega, by go_num, by rw [HST2.out], HBC⟩, by simp only [Go.RowKit.intOf]; omega⟩
                    · have hst := HST.out
                      rw [if_neg (fun h => k1 h.1)] at hst
                      have HST2 := Lib.hid hst
                      have q1 : decide (t1 ≤ a) = false := decide_eq_false k1
                      clear hst HST
                      go_upto_region 15 with fail
                      rw [HWC.out, HNy.out]
                      clear c0 c1
                      go_wp2_with fail
                      exact ⟨⟨i + 1, by omega, by go_num, by rw [HST2.out], HBC⟩, by simp only [Go.RowKit.intOf]; omega⟩
                  · obtain rfl : i = n := by omega
                    have hst : goT l i a0 = goN l (j + 1) s1 := by rw [goT_all (by rw [HN.out]; exact Nat.le_refl _), ← HA0.out]; rfl
                    rw [hst]
                    clear hst
                    go_wp2_with fail
                    exact ⟨⟨j + 1, by omega, by go_num, rfl, HB⟩, by simp only [Go.RowKit.intOf]; omega⟩
              · obtain rfl : j = n := by omega
                have he := HE.out
                rw [HN.out] at he
                obtain ⟨e0, e1⟩ := HSB.out wr HB.out
                have hss : (s2 != s2) = false := by simp
                have HBN : Hid (Below N2 w2 wr) := Lib.hid (HBO.out.trans (HB.out.mono (by have := HWS.out.2; omega)))
                rw [he]
                clear he HB
                go_wp2_with fail
                exact ⟨⟨k + 1, by omega, by go_num, HBN⟩, by simp only [Go.RowKit.intOf]; omega⟩
        · obtain rfl : k = m := by omega
          have hBB : Hid (Below N w wr ∧ N ≤ wr.heap.size) := Lib.hid (by have h := HB2.out.1.trans (HB.out.mono HB2.out.2); exact ⟨h, HSZ.out _ h⟩)
          have HWW := Lib.hid (HWI.out wr _ hBB.out.1 (HR2.out wr HB.out))
          have h00 : ((0 : Int) == 0) = true := by simp
          clear HB
          go_wp2_with fail
          refine HWW.out.mono ?_
          rintro e w4 ⟨⟨va, rfl, hra⟩, hb4⟩
          have HB4 : Hid (Below N w w4 ∧ N ≤ w4.heap.size) := Lib.hid ⟨hBB.out.1.trans (hb4.mono hBB.out.2), Nat.le_trans hBB.out.2 hb4.size⟩
          have HRA := Lib.hid hra
          clear hra hb4
          go_wp2_with fail
          refine (HNM.out w4 HB4.out.1).mono ?_
          rintro e w5 ⟨⟨vb, rfl, hrb⟩, hb5⟩
          have hbz : Below w4.heap.size w4 w5 := by
            first | exact hb5 | exact hb5.mono (Nat.le_refl _)
          have HB5 : Hid (Below N w w5 ∧ N ≤ w5.heap.size) := Lib.hid ⟨HB4.out.1.trans (hbz.mono HB4.out.2), Nat.le_trans HB4.out.2 hbz.size⟩
          have hsm := same_any (HRA.out.below stays_sp hbz) hrb HNL.out
          unfold BoolV at hsm
          rw [decide_eq_true rfl] at hsm
          have HSM := Lib.hid hsm
          clear hsm hrb hb5 hbz HRA
          go_wp2_with fail
          refine HSM.out.mono ?_
          rintro e w6 ⟨rfl, hb6⟩
          have HB6 : Hid (Below N w w6 ∧ N ≤ w6.heap.size) := Lib.hid ⟨HB5.out.1.trans (hb6.mono HB5.out.2), Nat.le_trans HB5.out.2 hb6.size⟩
          clear hb6
          go_wp2_with fail
          refine (HA.out w6).mono ?_
          rintro e w7 ⟨rfl, hb7⟩
          have HB7 := Lib.hid (HB6.out.1.trans (hb7.mono HB6.out.2))
          clear hb7
          go_wp2_with fail
          go_ret
          exact ⟨rfl, HB7.out⟩
    · have hcb : (c != 0) = true := by simp [h0]
      go_wp2_with fail
      (try rw [HN2.out])
      refine HLGG.out.mono ?_
      rintro e w3 ⟨rfl, hb3⟩
      have HB3 := Lib.hid (HB2.out.1.trans (hb3.mono HB2.out.2))
      clear hb3
      go_wp2_with fail
      go_ret
      exact ⟨rfl, HB3.out⟩

theorem own : ownKnob Try.prog.godebug = none := by kernel_rfl

set_option maxRecDepth 100000 in
theorem lifted (os : Os) (started : os.Started) (H : Type) (enc : TypeId × Value → H) :
    ReturnsInHanded {} Try.checked os 9 .any (Rows.intervalCoversSpec.pre6 enc Try.prog Try.f9 Rows.intervalCoversRow.domain false) (Rows.intervalCoversSpec.post enc Try.prog Try.f9 false true false false) := by
  refine returnsInHanded_of_change (C := Try.checked) own started (by kernel_rfl) Try.func9
    (ChangeSpec.witness6 (enc := enc) (C := Try.checked) false ⟨#[], #[.slice none 0 0], []⟩ 8 (by kernel_rfl) (by kernel_rfl) (by kernel_rfl) (by kernel_rfl)) ?_
  intro W base args ds gs before hval0 hW hcnd _
  have hval : ∀ (j : Nat) t v, Try.f9.params[j]? = some t → args[j]? = some v → Value.okWide Try.prog W .any base t v := hval0
  have hW' := hW
  have hplt : ∀ x ∈ before, x.block < W.heap.size := fun x hx => hW.lt x hx
  obtain ⟨p, q, hA0, hV, rfl, hfz, hnd⟩ := hW
  have hA : DataW.TrodAll enc Try.prog W 0 (fun _ => true) true Try.f9.params.toList args.toList ds p := hA0
  rw [Try.params9] at hA hval
  obtain ⟨v0, vs0, d0, ds0, p0, q0, hargs, rfl, rfl, h0, r0⟩ := trodAll_cons hA
  obtain ⟨rfl, rfl, rfl⟩ := trodAll_nil r0
  obtain rfl : args = #[v0] := by cases args; simp_all
  obtain ⟨rfl, rfl⟩ := trodVars_none hV
  obtain ⟨l0, s0, m0, n0⟩ := open_sps (hval 0 22 v0 rfl rfl) h0
  clear hA0 hval0
  refine (walk v0 l0 s0 m0 n0).mono fun e W' ⟨he, bel⟩ => ?_
  subst he
  exact ⟨_, rfl, _, _, _, [], _, [], hW', trodAll_mk1 (shut_bool Try.underlying4 _), (trodAll_cons_mk (Below.trod Try.laidOut (by kernel_rfl) (of_decide_eq_true (by kernel_rfl)) h0 bel (fun x hx => hplt x (by simp [hx]))) trodAll_mk0), rfl, World.keptBut_mono (fun x hx => ⟨hx, Or.inr (by simpa using hx)⟩) (bel.frame (· ∈ _)), fun h => by cases h⟩

theorem over : Rows.intervalCoversRow.holds Try.pinned (OpenSpec.ofChange Rows.intervalCoversSpec) :=
  OpenClaim.holds_of_wide 9 Try.f9 rfl rfl rfl rfl rfl rfl rfl ⟨rfl, rfl, rfl, rfl, rfl⟩ rfl rfl rfl rfl rfl (by kernel_rfl) Try.func9 (by kernel_rfl)
    (of_decide_eq_true (by kernel_rfl)) (by unfold Func.isWrapper; first | (rw [if_pos (by decide +kernel)]; kernel_rfl) | (rw [if_neg (by decide +kernel)]; exact ⟨rfl, rfl⟩))
    (fun os started H enc _ => lifted os started H enc)

/-- THE STATEMENT. -/
theorem proved : Rows.IntervalCoversSaid := over
end Go.Proofs.Ytpkkebojiengpaa.intervalCovers
