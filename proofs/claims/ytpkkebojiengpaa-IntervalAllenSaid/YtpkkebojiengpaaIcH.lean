/-
  IntervalAllen is proved: for every list of spans and every list of spans the call of the law returns true, and each argument reads afterwards as it read before. It has no condition.
-/
import Derived.Test.YtpkkebojiengpaaRows
import Derived.Test.YtpkkebojiengpaaIoO
import Derived.Test.YtpkkebojiengpaaIbT
import Derived.Test.YtpkkebojiengpaaIbM
import Derived.ProofKit
import Derived.OpenShut
import Derived.Carry
namespace Go.Proofs.Ytpkkebojiengpaa.intervalAllen
open Go.ChangeShapes Go.WideShapes Go.ChangeAt Go.RowKit Go.Shelf Go.Lib
set_option linter.unusedVariables false

theorem choL_le {a b L : List Sp} (h : ∀ x ∈ L, x ∈ normS a) (hs : SortS L) : (choL a b L).length ≤ a.length := by
  unfold choL
  split
  · exact Nat.le_trans (sort_len hs h) (normS_len a)
  · simp
theorem mem_choice {p : Sp → Bool} {a : List Sp} {s : Sp} (hs : s ∈ a) : decide (s ∈ (normS a).filter p) = p s := by
  rw [Bool.eq_iff_iff, decide_eq_true_eq, List.mem_filter, normS_mem]
  exact ⟨fun h => h.2, fun h => ⟨hs, h⟩⟩
set_option maxRecDepth 100000 in
set_option maxHeartbeats 16000000 in
theorem walk {w : World} (v : Value) (a : List Sp) (hv : Rows 2 ESp w v a) (_ : a.length ≤ maxLen) (hrg : ∀ x ∈ a, okSp x) (u : Value) (b : List Sp) (hu : Rows 2 ESp w u b) (_ : b.length ≤ maxLen) (_ : ∀ x ∈ b, okSp x) :
    Calls Try.prog 8 #[v, u] w fun e w1 => e = .returned (.bool true) ∧ Below w.heap.size w w1 := by
  have HA := Lib.hid (fun (W : World) => awake_any W)
  have hr2 : ∀ s ∈ a, s.2 ≤ 9223372036854775807 := fun s hs => (hrg s hs).2.2
  have HV := Lib.hid (fun W (h : Below w.heap.size w W) => hv.below stays_sp h)
  have HU := Lib.hid (fun W (h : Below w.heap.size w W) => hu.below stays_sp h)
  have H1 := Lib.hid (fun W (h : Below w.heap.size w W) => within_any (hv.below stays_sp h) (hu.below stays_sp h))
  have H3 := Lib.hid (fun W (h : Below w.heap.size w W) => containing_any (hv.below stays_sp h) (hu.below stays_sp h))
  have H5 := Lib.hid (fun W (h : Below w.heap.size w W) => overlapping_any (hv.below stays_sp h) (hu.below stays_sp h) hr2)
  have k1 : (choL a b (withinL a b)).length ≤ a.length := choL_le (fun x hx => (List.mem_filter.1 hx).1) ((normS_sort a).filter _)
  have k2 : (choL a b (containL a b)).length ≤ a.length := choL_le (fun x hx => (List.mem_filter.1 hx).1) ((normS_sort a).filter _)
  have k3 : (choL a b (overL a b)).length ≤ a.length := choL_le (fun x hx => (List.mem_filter.1 hx).1) ((normS_sort a).filter _)
  have hok := fun h : chkSS [a, b] = 0 => And.intro (chk_ok (chk2_ok h).1).2 (chk_ok (chk2_ok h).2).2
  have hm1 : chkSS [a, b] = 0 → ∀ s ∈ a, decide (s ∈ choL a b (withinL a b)) = b.any fun t => inB t s := fun h s hs => by unfold choL; rw [if_pos h]; exact mem_choice hs
  have hm2 : chkSS [a, b] = 0 → ∀ s ∈ a, decide (s ∈ choL a b (containL a b)) = b.any fun t => inB s t := fun h s hs => by unfold choL; rw [if_pos h]; exact mem_choice hs
  have hm3 : chkSS [a, b] = 0 → ∀ s ∈ a, decide (s ∈ choL a b (overL a b)) = b.any fun t => ovB s t := fun h s hs => by unfold choL; rw [if_pos h]; exact mem_choice hs
  obtain ⟨A1, cap1, rfl, hc1⟩ := hv.form
  obtain ⟨A2, cap2, rfl, hc2⟩ := hu.form
  obtain ⟨n1, hn1⟩ : ∃ n, a.length = n := ⟨_, rfl⟩
  obtain ⟨n2, hn2⟩ : ∃ n, b.length = n := ⟨_, rfl⟩
  obtain ⟨N, hN⟩ : ∃ N, w.heap.size = N := ⟨_, rfl⟩
  obtain ⟨L1, hL1⟩ : ∃ L, choL a b (withinL a b) = L := ⟨_, rfl⟩
  obtain ⟨L2, hL2⟩ : ∃ L, choL a b (containL a b) = L := ⟨_, rfl⟩
  obtain ⟨L3, hL3⟩ : ∃ L, choL a b (overL a b) = L := ⟨_, rfl⟩
  obtain ⟨c, hcc⟩ : ∃ c, chkSS [a, b] = c := ⟨_, rfl⟩
  unfold NorV at H1 H3 H5
  unfold BoolV at HA
  rw [hL1, hcc, hn1, hn2, hN] at H1
  rw [hL2, hcc, hn1, hn2, hN] at H3
  rw [hL3, hcc, hn1, hn2, hN] at H5
  rw [hcc] at hok hm1 hm2 hm3
  rw [hL1] at hm1
  rw [hL2] at hm2
  rw [hL3] at hm3
  rw [hL1, hn1] at k1
  rw [hL2, hn1] at k2
  rw [hL3, hn1] at k3
  rw [hN, hn1] at HV
  rw [hN, hn2] at HU
  rw [hn1] at hc1 ⊢
  rw [hn2] at hc2 ⊢
  rw [hN]
  have HN := Lib.hid hN
  have HN1 := Lib.hid hn1
  have HN2 := Lib.hid hn2
  have HL := Lib.hid (And.intro k1 (And.intro k2 k3))
  have HOK := Lib.hid (And.intro hok (And.intro hm1 (And.intro hm2 hm3)))
  have HB0 : Hid (Below N w w ∧ N ≤ w.heap.size) := Lib.hid ⟨Below.refl _ _, by rw [hN]; exact Nat.le_refl _⟩
  have hccb : (c == c) = true := by simp
  clear hv hu hrg hr2 hn1 hn2 hN hL1 hL2 hL3 hcc k1 k2 k3 hok hm1 hm2 hm3
  by_cases h1 : 12 < n1
  · have q1 : decide ((12 : Int) < (n1 : Int)) = true := decide_eq_true (by omega)
    have q2 : (12 : Int) < (n1 : Int) := by omega
    go_enter Try.func8, Try.ntmps8
    go_wp2_with fail
    go_ret
    exact ⟨rfl, Below.refl _ _⟩
  · have q1 : decide ((12 : Int) < (n1 : Int)) = false := decide_eq_false (by omega)
    have q2 : ¬ (12 : Int) < (n1 : Int) := by omega
    by_cases h2 : 12 < n2
    · have q3 : decide ((12 : Int) < (n2 : Int)) = true := decide_eq_true (by omega)
      have q4 : (12 : Int) < (n2 : Int) := by omega
      go_enter Try.func8, Try.ntmps8
      go_wp2_with fail
      go_ret
      exact ⟨rfl, Below.refl _ _⟩
    · have q3 : decide ((12 : Int) < (n2 : Int)) = false := decide_eq_false (by omega)
      have q4 : ¬ (12 : Int) < (n2 : Int) := by omega
      go_enter Try.func8, Try.ntmps8
      go_wp2_with fail
      refine (H1.out w HB0.out.1).mono ?_
      rintro e w1 ⟨⟨va, rfl, hra⟩, hb1⟩
      have HB1 : Hid (Below N w w1 ∧ N ≤ w1.heap.size) := Lib.hid ⟨HB0.out.1.trans (hb1.mono HB0.out.2), Nat.le_trans HB0.out.2 hb1.size⟩
      have HRA := Lib.hid hra
      clear hra hb1
      go_wp2_with fail
      refine (H3.out w1 HB1.out.1).mono ?_
      rintro e w2 ⟨⟨vb, rfl, hrb⟩, hb2⟩
      have HB2 : Hid (Below N w w2 ∧ N ≤ w2.heap.size) := Lib.hid ⟨HB1.out.1.trans (hb2.mono HB1.out.2), Nat.le_trans HB1.out.2 hb2.size⟩
      have HRA2 := Lib.hid (HRA.out.below stays_sp hb2)
      have HRB := Lib.hid hrb
      clear hrb hb2 HRA
      go_wp2_with fail
      refine (H5.out w2 HB2.out.1).mono ?_
      rintro e w3 ⟨⟨vc, rfl, hrc⟩, hb3⟩
      obtain ⟨M, hM⟩ : ∃ M, w3.heap.size = M := ⟨_, rfl⟩
      have HB3 : Hid (Below N w w3 ∧ N ≤ w3.heap.size) := Lib.hid ⟨HB2.out.1.trans (hb3.mono HB2.out.2), Nat.le_trans HB2.out.2 hb3.size⟩
      have hra3 := HRA2.out.below stays_sp hb3
      have hrb3 := HRB.out.below stays_sp hb3
      obtain ⟨Aa, ca, rfl, hca⟩ := hra3.form
      obtain ⟨Ab, cb, rfl, hcb⟩ := hrb3.form
      obtain ⟨Ac, cc, rfl, hcc⟩ := hrc.form
      obtain ⟨m1, hm1⟩ : ∃ m, L1.length = m := ⟨_, rfl⟩
      obtain ⟨m2, hm2⟩ : ∃ m, L2.length = m := ⟨_, rfl⟩
      obtain ⟨m3, hm3⟩ : ∃ m, L3.length = m := ⟨_, rfl⟩
      have HRa := Lib.hid (fun W (h : Below M w3 W) => hra3.below stays_sp (by rw [hM]; exact h))
      have HRb := Lib.hid (fun W (h : Below M w3 W) => hrb3.below stays_sp (by rw [hM]; exact h))
      have HRc := Lib.hid (fun W (h : Below M w3 W) => hrc.below stays_sp (by rw [hM]; exact h))
      have HLL := HL.out
      rw [hm1, hm2, hm3] at HLL
      obtain ⟨g1, g2, g3⟩ := HLL
      rw [hm1] at HRa ⊢
      rw [hm2] at HRb ⊢
      rw [hm3] at HRc ⊢
      have HM1 := Lib.hid (And.intro hm1 (And.intro hm2 hm3))
      have HMS : Hid (N ≤ M) := Lib.hid (by rw [← hM]; exact HB3.out.2)
      have HMM := Lib.hid hM
      clear hra3 hrb3 hrc hca hcb hcc hm1 hm2 hm3 hb3 HRA2 HRB hM HB1 HB2 H1 H3 H5
      by_cases h0 : c = 0
      · obtain ⟨⟨ha, hb⟩, e1, e2, e3⟩ := And.intro (HOK.out.1 h0) (And.intro (HOK.out.2.1 h0) (And.intro (HOK.out.2.2.1 h0) (HOK.out.2.2.2 h0)))
        have HAB := Lib.hid (And.intro ha hb)
        have HE := Lib.hid (And.intro e1 (And.intro e2 e3))
        clear HOK ha hb e1 e2 e3
        subst h0
        go_wp2_with fail
        go_loopw [68] (fun kv wr => ∃ k : Nat, k ≤ n1 ∧ kv = .int .i64 k ∧ Hid (Below M w3 wr)) (fun kv _ => n1 - (Go.RowKit.intOf kv).toNat)
        case atStart => exact ⟨0, Nat.zero_le _, rfl, Lib.hid (Below.refl _ _)⟩
        case round =>
          obtain ⟨k, hk, rfl, HB⟩ := hrel
          by_cases hlt : k < n1
          · obtain ⟨s, hs⟩ : ∃ s, a[k]? = some s := ⟨_, List.getElem?_eq_getElem (by rw [HN1.out]; exact hlt)⟩
            have HBN := Lib.hid (HB3.out.1.trans (HB.out.mono HMS.out))
            obtain ⟨bk, off, rfl, hbl, hj⟩ := at_sp (HV.out wr HBN.out) (by rw [HN1.out]; omega)
            obtain ⟨c0, c1⟩ := hj k s hs
            have hsm := List.mem_of_getElem? hs
            have hsok := List.all_eq_true.1 HAB.out.1 s hsm
            have hx1 := HE.out.1 s hsm
            have hx2 := HE.out.2.1 s hsm
            have hx3 := HE.out.2.2 s hsm
            obtain ⟨p1, hp1⟩ : ∃ p : Sp → Bool, p = fun t => inB t s := ⟨_, rfl⟩
            obtain ⟨p2, hp2⟩ : ∃ p : Sp → Bool, p = fun t => inB s t := ⟨_, rfl⟩
            obtain ⟨p3, hp3⟩ : ∃ p : Sp → Bool, p = fun t => ovB s t := ⟨_, rfl⟩
            rw [← hp1] at hx1
            rw [← hp2] at hx2
            rw [← hp3] at hx3
            have hrel : ∀ t ∈ b, ((relZ s t = 6 ∨ relZ s t = 7 ∨ relZ s t = 9 ∨ relZ s t = 10) ↔ p1 t = true) ∧ ((relZ s t = 4 ∨ relZ s t = 5 ∨ relZ s t = 7 ∨ relZ s t = 8) ↔ p2 t = true) ∧ ((3 ≤ relZ s t ∧ relZ s t ≤ 11) ↔ p3 t = true) := fun t ht => by
              have hto := List.all_eq_true.1 HAB.out.2 t ht
              rw [hp1, hp2, hp3]
              exact ⟨rel_within hsok hto, rel_contain hsok hto, rel_over hsok hto⟩
            have hcall := fun (t : Sp) (W : World) => relation_any s t W
            have hh1 := fun (W : World) (h : Below M w3 W) => has_any (HRa.out W h) (by rw [HM1.out.1]; omega) s
            have hh2 := fun (W : World) (h : Below M w3 W) => has_any (HRb.out W h) (by rw [HM1.out.2.1]; omega) s
            have hh3 := fun (W : World) (h : Below M w3 W) => has_any (HRc.out W h) (by rw [HM1.out.2.2]; omega) s
            unfold IntV at hcall
            unfold BoolV at hh1 hh2 hh3
            rw [hx1] at hh1
            rw [hx2] at hh2
            rw [hx3] at hh3
            obtain ⟨WB, hWB⟩ : ∃ X, wr.alloc (.cells #[.int .i64 s.1, .int .i64 s.2] 31) = X := ⟨_, rfl⟩
            obtain ⟨Nx, hNx⟩ : ∃ N, wr.heap.size = N := ⟨_, rfl⟩
            have hbx : WB.heap[Nx]? = some (.cells #[.int .i64 s.1, .int .i64 s.2] 31 (0, 0)) := by rw [← hWB, ← hNx]; exact block_new _ _
            have hMx : M ≤ Nx := by rw [← hNx, ← HMM.out]; exact HB.out.size
            have hWs : WB.heap.size = Nx + 1 := by rw [← hWB, alloc_sz, hNx]
            have HBW : Hid (Below M w3 WB) := Lib.hid (HB.out.trans (by rw [← hWB]; exact (below_box wr _).mono (by rw [hNx]; exact hMx)))
            have HTO : Hid (∀ W, Below (Nx + 1) WB W → Below M w3 W) := Lib.hid fun W h => HBW.out.trans (h.mono (by omega))
            obtain ⟨x1, x2⟩ := s
            simp only at c0 c1 hcall hh1 hh2 hh3 hWB hbx
            have HSB : Hid (∀ W, Below (Nx + 1) WB W → W.cell? ⟨Nx, 0, none⟩ = some (.int .i64 x1) ∧ W.cell? ⟨Nx, 1, none⟩ = some (.int .i64 x2)) := Lib.hid fun W h => by
              have e := block_below hbx h (Nat.lt_succ_self _)
              exact ⟨cell_of e rfl, cell_of e rfl⟩
            have HREL := Lib.hid hrel
            have HCALL := Lib.hid hcall
            have HH := Lib.hid (And.intro hh1 (And.intro hh2 hh3))
            have HWB := Lib.hid hWB
            have HNx := Lib.hid hNx
            have HWS := Lib.hid hWs
            have hki : (k : Int) < (n1 : Int) := by omega
            clear hs hj hbl hsm hsok hx1 hx2 hx3 hp1 hp2 hp3 hrel hcall hh1 hh2 hh3 hWB hNx hbx hMx hWs HB HBN
            go_upto_region 11 with fail
            rw [HWB.out, HNx.out]
            clear c0 c1
            go_wp2_with fail
            go_loopw [13, 14, 15, 74] (fun xv yv zv jv wr => ∃ (j : Nat) (x y z : Bool), xv = .bool x ∧ yv = .bool y ∧ zv = .bool z ∧ j ≤ n2 ∧ jv = .int .i64 j ∧ Hid (x = (b.take j).any p1 ∧ y = (b.take j).any p2 ∧ z = (b.take j).any p3) ∧ Hid (Below (Nx + 1) WB wr)) (fun _ _ _ jv _ => n2 - (Go.RowKit.intOf jv).toNat)
            case atStart => exact ⟨0, false, false, false, rfl, rfl, rfl, Nat.zero_le _, rfl, Lib.hid ⟨rfl, rfl, rfl⟩, Lib.hid (Below.refl _ _)⟩
            case round =>
              obtain ⟨j, x, y, z, rfl, rfl, rfl, hj, rfl, HO, HB⟩ := hrel
              by_cases hlt2 : j < n2
              · obtain ⟨t, ht⟩ : ∃ t, b[j]? = some t := ⟨_, List.getElem?_eq_getElem (by rw [HN2.out]; omega)⟩
                obtain ⟨bt, ot, rfl, hbt, hjt⟩ := at_sp (HU.out wr (HB3.out.1.trans ((HTO.out wr HB.out).mono HMS.out))) (by rw [HN2.out]; omega)
                obtain ⟨c0, c1⟩ := hjt j t ht
                have hst : ∀ p : Sp → Bool, (b.take (j + 1)).any p = ((b.take j).any p || p t) := fun p => by
                  rw [List.take_add_one, ht, List.any_append]
                  simp
                have hrl := HREL.out t (List.mem_of_getElem? ht)
                have hct := HCALL.out t
                obtain ⟨r, hr⟩ : ∃ r, relZ (x1, x2) t = r := ⟨_, rfl⟩
                rw [hr] at hrl hct
                obtain ⟨u1, hu1⟩ : ∃ q, p1 t = q := ⟨_, rfl⟩
                obtain ⟨u2, hu2⟩ : ∃ q, p2 t = q := ⟨_, rfl⟩
                obtain ⟨u3, hu3⟩ : ∃ q, p3 t = q := ⟨_, rfl⟩
                rw [hu1, hu2, hu3] at hrl
                have HNX : Hid ((x || u1) = (b.take (j + 1)).any p1 ∧ (y || u2) = (b.take (j + 1)).any p2 ∧ (z || u3) = (b.take (j + 1)).any p3) := Lib.hid ⟨by rw [hst, hu1, ← HO.out.1], by rw [hst, hu2, ← HO.out.2.1], by rw [hst, hu3, ← HO.out.2.2]⟩
                obtain ⟨t1, t2⟩ := t
                simp only at c0 c1 hct
                obtain ⟨WC, hWC⟩ : ∃ X, wr.alloc (.cells #[.int .i64 t1, .int .i64 t2] 31) = X := ⟨_, rfl⟩
                obtain ⟨Ny, hNy⟩ : ∃ N, wr.heap.size = N := ⟨_, rfl⟩
                have hby : WC.heap[Ny]? = some (.cells #[.int .i64 t1, .int .i64 t2] 31 (0, 0)) := by rw [← hWC, ← hNy]; exact block_new _ _
                have hsz : Nx + 1 ≤ wr.heap.size := by rw [← HWS.out]; exact HB.out.size
                have HBC : Hid (Below (Nx + 1) WB WC ∧ Nx + 1 ≤ WC.heap.size) := Lib.hid ⟨HB.out.trans (by rw [← hWC]; exact (below_box wr _).mono hsz), by rw [← hWC, alloc_sz]; omega⟩
                obtain ⟨e0, e1⟩ := HSB.out WC HBC.out.1
                have d0 := cell_of (i := 0) hby rfl
                have d1 := cell_of (i := 1) hby rfl
                have HRL := Lib.hid hrl
                have HCT := Lib.hid (hct WC)
                have HWC := Lib.hid hWC
                have HNy := Lib.hid hNy
                have hji : (j : Int) < (n2 : Int) := by omega
                clear ht hjt hbt hst hrl hct hr hu1 hu2 hu3 hWC hNy hby hsz HO HB
                go_upto_region 15 with fail
                rw [HWC.out, HNy.out]
                clear c0 c1
                go_wp2_with fail
                refine HCT.out.mono ?_
                rintro e w4 ⟨rfl, hb4⟩
                have HB4 := Lib.hid (HBC.out.1.trans (hb4.mono HBC.out.2))
                clear hb4 d0 d1 e0 e1
                go_upto_region 16 with fail
                go_cut [13] from 81 to 97 (fun sv wx => sv = .bool (x || u1) ∧ Hid (Below (Nx + 1) WB wx))
                case first =>
                  have hh := HRL.out.1
                  cases x with
                  | true =>
                    clear hh
                    go_wp2_with fail
                    go_meet
                    exact ⟨by simp, HB4⟩
                  | false =>
                    by_cases k6 : r = 6
                    · obtain rfl : u1 = true := hh.1 (by omega)
                      subst k6
                      clear hh
                      go_wp2_with fail
                      go_meet
                      exact ⟨by simp, HB4⟩
                    · have j6 : (r == 6) = false := beq_eq_false_iff_ne.2 k6
                      by_cases k7 : r = 7
                      · obtain rfl : u1 = true := hh.1 (by omega)
                        subst k7
                        clear hh
                        go_wp2_with fail
                        go_meet
                        exact ⟨by simp, HB4⟩
                      · have j7 : (r == 7) = false := beq_eq_false_iff_ne.2 k7
                        by_cases k9 : r = 9
                        · obtain rfl : u1 = true := hh.1 (by omega)
                          subst k9
                          clear hh
                          go_wp2_with fail
                          go_meet
                          exact ⟨by simp, HB4⟩
                        · have j9 : (r == 9) = false := beq_eq_false_iff_ne.2 k9
                          by_cases k10 : r = 10
                          · obtain rfl : u1 = true := hh.1 (by omega)
                            subst k10
                            clear hh
                            go_wp2_with fail
                            go_meet
                            exact ⟨by simp, HB4⟩
                          · have j10 : (r == 10) = false := beq_eq_false_iff_ne.2 k10
                            obtain rfl : u1 = false := by
                              cases u1 with
                              | false => rfl
                              | true => exact absurd (hh.2 rfl) (by omega)
                            clear hh
                            go_wp2_with fail
                            go_meet
                            exact ⟨by simp, HB4⟩
                case rest =>
                  clear HB4
                  obtain ⟨rfl, HB4⟩ := hcut
                  go_upto_region 17 with fail
                  go_cut [14] from 98 to 114 (fun sv wx => sv = .bool (y || u2) ∧ Hid (Below (Nx + 1) WB wx))
                  case first =>
                    have hh := HRL.out.2.1
                    cases y with
                    | true =>
                      clear hh
                      go_wp2_with fail
                      go_meet
                      exact ⟨by simp, HB4⟩
                    | false =>
                      by_cases k4 : r = 4
                      · obtain rfl : u2 = true := hh.1 (by omega)
                        subst k4
                        clear hh
                        go_wp2_with fail
                        go_meet
                        exact ⟨by simp, HB4⟩
                      · have j4 : (r == 4) = false := beq_eq_false_iff_ne.2 k4
                        by_cases k5 : r = 5
                        · obtain rfl : u2 = true := hh.1 (by omega)
                          subst k5
                          clear hh
                          go_wp2_with fail
                          go_meet
                          exact ⟨by simp, HB4⟩
                        · have j5 : (r == 5) = false := beq_eq_false_iff_ne.2 k5
                          by_cases k7 : r = 7
                          · obtain rfl : u2 = true := hh.1 (by omega)
                            subst k7
                            clear hh
                            go_wp2_with fail
                            go_meet
                            exact ⟨by simp, HB4⟩
                          · have j7 : (r == 7) = false := beq_eq_false_iff_ne.2 k7
                            by_cases k8 : r = 8
                            · obtain rfl : u2 = true := hh.1 (by omega)
                              subst k8
                              clear hh
                              go_wp2_with fail
                              go_meet
                              exact ⟨by simp, HB4⟩
                            · have j8 : (r == 8) = false := beq_eq_false_iff_ne.2 k8
                              obtain rfl : u2 = false := by
                                cases u2 with
                                | false => rfl
                                | true => exact absurd (hh.2 rfl) (by omega)
                              clear hh
                              go_wp2_with fail
                              go_meet
                              exact ⟨by simp, HB4⟩
                  case rest =>
                    clear HB4
                    obtain ⟨rfl, HB4⟩ := hcut
                    go_upto_region 18 with fail
                    have hh := HRL.out.2.2
                    cases z with
                    | true =>
                      clear hh
                      go_wp2_with fail
                      exact ⟨⟨j + 1, _, _, _, rfl, rfl, rfl, by omega, by go_num, Lib.hid (by have := HNX.out; simpa using this), HB4⟩, by simp only [Go.RowKit.intOf]; omega⟩
                    | false =>
                      by_cases k3 : 3 ≤ r
                      · have j3 : decide ((3 : Int) ≤ r) = true := decide_eq_true k3
                        by_cases k11 : r ≤ 11
                        · have j11 : decide (r ≤ (11 : Int)) = true := decide_eq_true k11
                          obtain rfl : u3 = true := hh.1 ⟨k3, k11⟩
                          clear hh
                          go_wp2_with fail
                          exact ⟨⟨j + 1, _, _, _, rfl, rfl, rfl, by omega, by go_num, Lib.hid (by have := HNX.out; simpa using this), HB4⟩, by simp only [Go.RowKit.intOf]; omega⟩
                        · have j11 : decide (r ≤ (11 : Int)) = false := decide_eq_false k11
                          obtain rfl : u3 = false := by
                            cases u3 with
                            | false => rfl
                            | true => exact absurd (hh.2 rfl).2 k11
                          clear hh
                          go_wp2_with fail
                          exact ⟨⟨j + 1, _, _, _, rfl, rfl, rfl, by omega, by go_num, Lib.hid (by have := HNX.out; simpa using this), HB4⟩, by simp only [Go.RowKit.intOf]; omega⟩
                      · have j3 : decide ((3 : Int) ≤ r) = false := decide_eq_false k3
                        obtain rfl : u3 = false := by
                          cases u3 with
                          | false => rfl
                          | true => exact absurd (hh.2 rfl).1 k3
                        clear hh
                        go_wp2_with fail
                        exact ⟨⟨j + 1, _, _, _, rfl, rfl, rfl, by omega, by go_num, Lib.hid (by have := HNX.out; simpa using this), HB4⟩, by simp only [Go.RowKit.intOf]; omega⟩
              · obtain rfl : j = n2 := by omega
                have hoo := HO.out
                rw [List.take_of_length_le (by rw [HN2.out]; exact Nat.le_refl _)] at hoo
                obtain ⟨ho1, ho2, ho3⟩ := hoo
                have f1 := HH.out.1
                have f2 := HH.out.2.1
                have f3 := HH.out.2.2
                rw [← ho1] at f1
                rw [← ho2] at f2
                rw [← ho3] at f3
                have HF := Lib.hid (And.intro f1 (And.intro f2 f3))
                have hxx : (x != x) = false := by simp
                have hyy : (y != y) = false := by simp
                have hzz : (z != z) = false := by simp
                have HB5 : Hid (Below (Nx + 1) WB wr ∧ Nx + 1 ≤ wr.heap.size) := Lib.hid ⟨HB.out, by rw [← HWS.out]; exact HB.out.size⟩
                obtain ⟨e0, e1⟩ := HSB.out wr HB5.out.1
                clear ho1 ho2 ho3 f1 f2 f3 HO HB HH
                go_wp2_with fail
                refine (HF.out.1 wr (HTO.out wr HB5.out.1)).mono ?_
                rintro e w6 ⟨rfl, hb6⟩
                have HB6 : Hid (Below (Nx + 1) WB w6 ∧ Nx + 1 ≤ w6.heap.size) := Lib.hid ⟨HB5.out.1.trans (hb6.mono HB5.out.2), Nat.le_trans HB5.out.2 hb6.size⟩
                clear hb6 e0 e1
                obtain ⟨e0, e1⟩ := HSB.out w6 HB6.out.1
                go_wp2_with fail
                refine (HF.out.2.1 w6 (HTO.out w6 HB6.out.1)).mono ?_
                rintro e w7 ⟨rfl, hb7⟩
                have HB7 : Hid (Below (Nx + 1) WB w7 ∧ Nx + 1 ≤ w7.heap.size) := Lib.hid ⟨HB6.out.1.trans (hb7.mono HB6.out.2), Nat.le_trans HB6.out.2 hb7.size⟩
                clear hb7 e0 e1
                obtain ⟨e0, e1⟩ := HSB.out w7 HB7.out.1
                go_wp2_with fail
                refine (HF.out.2.2 w7 (HTO.out w7 HB7.out.1)).mono ?_
                rintro e w8 ⟨rfl, hb8⟩
                have HB8 := Lib.hid (HTO.out _ (HB7.out.1.trans (hb8.mono HB7.out.2)))
                clear hb8 e0 e1
                go_wp2_with fail
                exact ⟨⟨k + 1, by omega, by go_num, HB8⟩, by simp only [Go.RowKit.intOf]; omega⟩
          · obtain rfl : k = n1 := by omega
            have HBF : Hid (Below N w wr ∧ N ≤ wr.heap.size) := Lib.hid ⟨HB3.out.1.trans (HB.out.mono HMS.out), Nat.le_trans HMS.out (by rw [← HMM.out]; exact HB.out.size)⟩
            have z1 : decide ((m1 : Int) ≤ (k : Int)) = true := decide_eq_true (by omega)
            have z2 : decide ((m2 : Int) ≤ (k : Int)) = true := decide_eq_true (by omega)
            have z3 : decide ((m3 : Int) ≤ (k : Int)) = true := decide_eq_true (by omega)
            clear HB
            go_wp2_with fail
            refine (HA.out wr).mono ?_
            rintro e w9 ⟨rfl, hb9⟩
            have HB9 := Lib.hid (HBF.out.1.trans (hb9.mono HBF.out.2))
            clear hb9
            go_wp2_with fail
            go_ret
            exact ⟨rfl, HB9.out⟩
      · have hcb : (c != 0) = true := by simp [h0]
        go_wp2_with fail
        refine (HA.out w3).mono ?_
        rintro e w9 ⟨rfl, hb9⟩
        have HB9 := Lib.hid (HB3.out.1.trans (hb9.mono HB3.out.2))
        clear hb9
        go_wp2_with fail
        go_ret
        exact ⟨rfl, HB9.out⟩

theorem own : ownKnob Try.prog.godebug = none := by kernel_rfl

set_option maxRecDepth 100000 in
theorem lifted (os : Os) (started : os.Started) (H : Type) (enc : TypeId × Value → H) :
    ReturnsInHanded {} Try.checked os 8 .any (Rows.intervalAllenSpec.pre6 enc Try.prog Try.f8 Rows.intervalAllenRow.domain false) (Rows.intervalAllenSpec.post enc Try.prog Try.f8 false true false false) := by
  refine returnsInHanded_of_change (C := Try.checked) own started (by kernel_rfl) Try.func8
    (ChangeSpec.witness6 (enc := enc) (C := Try.checked) false ⟨#[], #[.slice none 0 0, .slice none 0 0], []⟩ 8 (by kernel_rfl) (by kernel_rfl) (by kernel_rfl) (by kernel_rfl)) ?_
  intro W base args ds gs before hval0 hW hcnd _
  have hval : ∀ (j : Nat) t v, Try.f8.params[j]? = some t → args[j]? = some v → Value.okWide Try.prog W .any base t v := hval0
  have hW' := hW
  have hplt : ∀ x ∈ before, x.block < W.heap.size := fun x hx => hW.lt x hx
  obtain ⟨p, q, hA0, hV, rfl, hfz, hnd⟩ := hW
  have hA : DataW.TrodAll enc Try.prog W 0 (fun _ => true) true Try.f8.params.toList args.toList ds p := hA0
  rw [Try.params8] at hA hval
  obtain ⟨v0, vs0, d0, ds0, p0, q0, hargs, rfl, rfl, h0, r0⟩ := trodAll_cons hA
  obtain ⟨v1, vs1, d1, ds1, p1, q1, rfl, rfl, rfl, h1, r1⟩ := trodAll_cons r0
  obtain ⟨rfl, rfl, rfl⟩ := trodAll_nil r1
  obtain rfl : args = #[v0, v1] := by cases args; simp_all
  obtain ⟨rfl, rfl⟩ := trodVars_none hV
  obtain ⟨l0, s0, m0, n0⟩ := open_sps (hval 0 22 v0 rfl rfl) h0
  obtain ⟨l1, s1, m1, n1⟩ := open_sps (hval 1 22 v1 rfl rfl) h1
  clear hA0 hval0
  refine (walk v0 l0 s0 m0 n0 v1 l1 s1 m1 n1).mono fun e W' ⟨he, bel⟩ => ?_
  subst he
  exact ⟨_, rfl, _, _, _, [], _, [], hW', trodAll_mk1 (shut_bool Try.underlying4 _), (trodAll_cons_mk (Below.trod Try.laidOut (by kernel_rfl) (of_decide_eq_true (by kernel_rfl)) h0 bel (fun x hx => hplt x (by simp [hx]))) (trodAll_cons_mk (Below.trod Try.laidOut (by kernel_rfl) (of_decide_eq_true (by kernel_rfl)) h1 bel (fun x hx => hplt x (by simp [hx]))) trodAll_mk0)), rfl, World.keptBut_mono (fun x hx => ⟨hx, Or.inr (by simpa using hx)⟩) (bel.frame (· ∈ _)), fun h => by cases h⟩

theorem over : Rows.intervalAllenRow.holds Try.pinned (OpenSpec.ofChange Rows.intervalAllenSpec) :=
  OpenClaim.holds_of_wide 8 Try.f8 rfl rfl rfl rfl rfl rfl rfl ⟨rfl, rfl, rfl, rfl, rfl⟩ rfl rfl rfl rfl rfl (by kernel_rfl) Try.func8 (by kernel_rfl)
    (of_decide_eq_true (by kernel_rfl)) (by unfold Func.isWrapper; first | (rw [if_pos (by decide +kernel)]; kernel_rfl) | (rw [if_neg (by decide +kernel)]; exact ⟨rfl, rfl⟩))
    (fun os started H enc _ => lifted os started H enc)

/-- THE STATEMENT. -/
theorem proved : Rows.IntervalAllenSaid := over
end Go.Proofs.Ytpkkebojiengpaa.intervalAllen
