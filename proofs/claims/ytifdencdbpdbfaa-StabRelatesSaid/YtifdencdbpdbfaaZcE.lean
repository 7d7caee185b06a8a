/-
  StabRelates is proved: for every list of spans and every span the call of the law returns true, and each argument reads afterwards as it read before. It has no condition.
-/
import Derived.Test.YtifdencdbpdbfaaRows
import Derived.Test.YtifdencdbpdbfaaIoO
import Derived.Test.YtifdencdbpdbfaaZaC
import Derived.ProofKit
import Derived.OpenShut
import Derived.Carry
namespace Go.Proofs.Ytifdencdbpdbfaa.stabRelates
open Go.ChangeShapes Go.WideShapes Go.ChangeAt Go.RowKit Go.Shelf Go.Lib
set_option linter.unusedVariables false

theorem below_chain {N : Nat} {w X W : World} (h : Below N w X) (hN : N ≤ X.heap.size) (k : Below X.heap.size X W) : Below N w W := h.trans (k.mono hN)
set_option maxRecDepth 100000 in
set_option maxHeartbeats 16000000 in
theorem walk {w : World} (v : Value) (l : List Sp) (hv : Rows 2 ESp w v l) (_ : l.length ≤ maxLen) (_ : ∀ x ∈ l, okSp x) (s : Sp) (hs : okSp s) :
    Calls Try.prog 7 #[v, .agg #[.int .i64 s.1, .int .i64 s.2]] w fun e w1 => e = .returned (.bool true) ∧ Below w.heap.size w w1 := by
  have hs2 : s.2 ≤ 9223372036854775807 := hs.2.2
  have hb0 := below_box w (.cells #[.int .i64 s.1, .int .i64 s.2] 35)
  obtain ⟨X, hX⟩ : ∃ X, w.alloc (.cells #[.int .i64 s.1, .int .i64 s.2] 35) = X := ⟨_, rfl⟩
  obtain ⟨N, hN⟩ : ∃ N, w.heap.size = N := ⟨_, rfl⟩
  have hbx : X.heap[N]? = some (.cells #[.int .i64 s.1, .int .i64 s.2] 35 (0, 0)) := by rw [← hX, ← hN]; exact block_new _ _
  rw [hX] at hb0
  have hXs : X.heap.size = N + 1 := by rw [← hX, alloc_sz, hN]
  have hvX := hv.below stays_sp hb0
  have HBD := Lib.hid (built_any hvX)
  have HA := Lib.hid (fun (W : World) => awake_any W)
  obtain ⟨A, cap, rfl, hc⟩ := hv.form
  obtain ⟨n, hn⟩ : ∃ n, l.length = n := ⟨_, rfl⟩
  have HVX := Lib.hid (fun W (h : Below (N + 1) X W) => hvX.below stays_sp (by rw [hXs]; exact h))
  have HRS := Lib.hid (fun W => relation_any s s W)
  have HRT := Lib.hid (fun (t : Sp) W => relation_any t s W)
  unfold BuiltV at HBD
  unfold BoolV at HA
  unfold IntV at HRS HRT
  rw [rel_same] at HRS
  have HSM := Lib.hid (show True from trivial)
  have HALL := Lib.hid (fun (h : chkT l = 0) => show ∀ x ∈ l, okS x = true from fun x hx => by
    unfold chkT at h
    split at h
    · cases h
    · split at h
      · have := List.all_eq_true.1 (by assumption) x hx
        unfold okT at this
        simp at this
        exact this.1
      · cases h)
  rw [hn] at HBD HVX ⊢
  have hbN : Below N w X := by rw [← hN]; exact hb0
  have HB0 := Lib.hid hbN
  have HXS := Lib.hid hXs
  have HLN := Lib.hid hn
  have HX := Lib.hid hX
  have HN := Lib.hid hN
  have HD := Lib.hid (fun W (h : Below (N + 1) X W) => show W.cell? ⟨N, 0, none⟩ = some (.int .i64 s.1) ∧ W.cell? ⟨N, 1, none⟩ = some (.int .i64 s.2) from And.intro ((h.cell (p := ⟨N, 0, none⟩) (Nat.lt_succ_self _)).trans (cell_of (i := 0) hbx rfl)) ((h.cell (p := ⟨N, 1, none⟩) (Nat.lt_succ_self _)).trans (cell_of (i := 1) hbx rfl)))
  rw [hXs] at HBD
  have HPQ := Lib.hid (And.intro (fun (k : Nat) (x : Sp) (h : l[k]? = some x) => idxs_step (P := fun t => ovB t s) h) (And.intro (fun (k : Nat) (x : Sp) (h : l[k]? = some x) => idxs_step (P := fun t => inB s t) h) (fun (k : Nat) (x : Sp) (h : l[k]? = some x) => idxs_step (P := fun t => inB t s) h)))
  have HLEN := Lib.hid (fun (P : Sp → Bool) (k : Nat) => show (idxs P (l.take k)).length ≤ n from Nat.le_trans (idxs_len P (l.take k)) (by rw [List.length_take]; omega))
  obtain ⟨b, e⟩ := s
  simp only at HRS HRT hs2 hX HD ⊢
  rw [hN]
  clear hv hvX hc hn hb0 hbN hX hN hbx hXs hs
  by_cases hl : 40 < n
  · go_enter Try.func7, Try.ntmps7
    go_upto_region 1 with fail
    rw [HX.out, HN.out]
    go_wp2_with fail
    go_ret
    exact ⟨rfl, HB0.out⟩
  · have HL4 := Lib.hid (show n ≤ 40 by omega)
    go_enter Try.func7, Try.ntmps7
    go_upto_region 1 with fail
    rw [HX.out, HN.out]
    go_wp2_with fail
    refine HBD.out.mono ?_
    rintro e' w1 ⟨⟨p, rfl, hp⟩, hb1⟩
    have HB1 : Hid (Below (N + 1) X w1) := Lib.hid hb1
    have HS1 : Hid (N + 1 ≤ w1.heap.size) := Lib.hid (by rw [← HXS.out]; exact HB1.out.size)
    clear hb1
    rcases hp with ⟨h0, B, rfl, hI⟩ | ⟨h0, rfl⟩
    · obtain ⟨d0, d1⟩ := HD.out w1 HB1.out
      obtain ⟨q, hq⟩ : ∃ q, okS (b, e) = q := ⟨_, rfl⟩
      rw [hq] at HRS
      cases q with
      | false =>
        rw [if_neg (by simp)] at HRS
        clear hI h0
        go_wp2_with fail
        refine (HRS.out _).mono ?_
        rintro e' w2 ⟨rfl, hb2⟩
        have HB2 := Lib.hid (HB1.out.trans (hb2.mono HS1.out))
        have HS2 := Lib.hid (Nat.le_trans HS1.out hb2.size)
        clear hb2 d0 d1
        go_wp2_with fail
        refine (HA.out _).mono ?_
        rintro e' w3 ⟨rfl, hb3⟩
        have HB3 := Lib.hid (HB0.out.trans ((HB2.out.trans (hb3.mono HS2.out)).mono (Nat.le_succ _)))
        clear hb3
        go_wp2_with fail
        go_ret
        exact ⟨rfl, HB3.out⟩
      | true =>
        rw [if_pos rfl] at HRS
        have hok := (okS_iff (b, e)).1 hq
        have HALLO := Lib.hid (HALL.out h0)
        have HI := Lib.hid hI
        have HQ := Lib.hid hq
        have HOKS := Lib.hid hok
        clear hI h0 HALL hq hok
        go_wp2_with fail
        refine (HRS.out _).mono ?_
        rintro e' w2 ⟨rfl, hb2⟩
        have HB2 := Lib.hid (HB1.out.trans (hb2.mono HS1.out))
        have HS2 : Hid (N + 1 ≤ w2.heap.size) := Lib.hid (Nat.le_trans HS1.out hb2.size)
        have HI2 := Lib.hid (HI.out.below hb2)
        clear hb2 d0 d1 HI HRS
        go_wp2_with fail
        go_loopw [7, 8, 9, 40] (fun l1 l2 l3 kv wr => ∃ (k : Nat) (u1 u2 u3 : Value), u1 = l1 ∧ u2 = l2 ∧ u3 = l3 ∧ k ≤ n ∧ kv = .int .i64 k ∧ Hid (T3 wr w2.heap.size u1 u2 u3 (idxs (fun t => ovB t (b, e)) (l.take k)) (idxs (fun t => inB (b, e) t) (l.take k)) (idxs (fun t => inB t (b, e)) (l.take k))) ∧ Hid (Below w2.heap.size w2 wr)) (fun _ _ _ kv _ => n - (Go.RowKit.intOf kv).toNat)
        case atStart => exact ⟨0, _, _, _, rfl, rfl, rfl, Nat.zero_le _, rfl, Lib.hid (T3.nil _ _), Lib.hid (Below.refl _ _)⟩
        case round =>
          obtain ⟨k, u1, u2, u3, hu1, hu2, hu3, hk, rfl, HT, HB⟩ := hrel
          subst hu1 hu2 hu3
          have hbX : Below (N + 1) X wr := HB2.out.trans (HB.out.mono HS2.out)
          by_cases hlt : k < n
          · obtain ⟨x, hx⟩ : ∃ x, l[k]? = some x := ⟨_, List.getElem?_eq_getElem (by rw [HLN.out]; omega)⟩
            obtain ⟨bk, off, rfl, hbl, hj⟩ := at_sp (HVX.out wr hbX) (by rw [HLN.out]; omega)
            obtain ⟨c0, c1⟩ := hj k x hx
            have hxo := HALLO.out x (List.mem_of_getElem? hx)
            have h13 := rel_thirteen hxo HQ.out
            have hr1 := rel_over hxo HQ.out
            have hr2 := rel_within hxo HQ.out
            have hr3 := rel_contain hxo HQ.out
            have hrel := HRT.out x
            have hst := And.intro (HPQ.out.1 k x hx) (And.intro (HPQ.out.2.1 k x hx) (HPQ.out.2.2 k x hx))
            obtain ⟨z, hz⟩ : ∃ z, relZ x (b, e) = z := ⟨_, rfl⟩
            rw [hz] at h13 hr1 hr2 hr3 hrel
            obtain ⟨WB, hWB⟩ : ∃ X, wr.alloc (.cells #[.int .i64 x.1, .int .i64 x.2] 35) = X := ⟨_, rfl⟩
            obtain ⟨Nx, hNx⟩ : ∃ N, wr.heap.size = N := ⟨_, rfl⟩
            have hbx : WB.heap[Nx]? = some (.cells #[.int .i64 x.1, .int .i64 x.2] 35 (0, 0)) := by rw [← hWB, ← hNx]; exact block_new _ _
            have hbW : Below wr.heap.size wr WB := by rw [← hWB]; exact below_box _ _
            have hS : w2.heap.size ≤ WB.heap.size := Nat.le_trans HB.out.size hbW.size
            obtain ⟨g0, g1⟩ := HD.out WB (hbX.trans (hbW.mono (Nat.le_trans HS2.out HB.out.size)))
            have HTB := Lib.hid (HT.out.below hbW)
            have HBW := Lib.hid (HB.out.trans (hbW.mono HB.out.size))
            have HSB := Lib.hid hS
            have HST := Lib.hid hst
            obtain ⟨x1, x2⟩ := x
            simp only at c0 c1 hrel hWB hbx
            have e0 := cell_of (i := 0) hbx rfl
            have e1 := cell_of (i := 1) hbx rfl
            have HREL := Lib.hid hrel
            have HWB := Lib.hid hWB
            have HNx := Lib.hid hNx
            have hki : (k : Int) < (n : Int) := by omega
            have HLL := Lib.hid (And.intro (HLEN.out (fun t => ovB t (b, e)) k) (And.intro (HLEN.out (fun t => inB (b, e) t) k) (HLEN.out (fun t => inB t (b, e)) k)))
            have HH := Lib.hid (And.intro hr1 (And.intro hr2 hr3))
            clear hx hj hbl hxo hst hz hWB hNx hbx hbW hS hrel HT HB hbX hr1 hr2 hr3
            obtain ⟨h13a, h13b⟩ := h13
            rcases (by omega : z = 1 ∨ z = 2 ∨ z = 3 ∨ z = 4 ∨ z = 5 ∨ z = 6 ∨ z = 7 ∨ z = 8 ∨ z = 9 ∨ z = 10 ∨ z = 11 ∨ z = 12 ∨ z = 13) with rfl | rfl | rfl | rfl | rfl | rfl | rfl | rfl | rfl | rfl | rfl | rfl | rfl
            · have hp1 : ovB (x1, x2) (b, e) = false := by
                rw [← Bool.not_eq_true]
                intro hh
                have := HH.out.1.2 hh
                omega
              have hp2 : inB (b, e) (x1, x2) = false := by
                rw [← Bool.not_eq_true]
                intro hh
                have := HH.out.2.1.2 hh
                omega
              have hp3 : inB (x1, x2) (b, e) = false := by
                rw [← Bool.not_eq_true]
                intro hh
                have := HH.out.2.2.2 hh
                omega
              have HE1 : Hid (idxs (fun t => ovB t (b, e)) (l.take (k + 1)) = idxs (fun t => ovB t (b, e)) (l.take k)) := Lib.hid (by have := HST.out.1; simp only [hp1] at this; simpa using this)
              have HE2 : Hid (idxs (fun t => inB (b, e) t) (l.take (k + 1)) = idxs (fun t => inB (b, e) t) (l.take k)) := Lib.hid (by have := HST.out.2.1; simp only [hp2] at this; simpa using this)
              have HE3 : Hid (idxs (fun t => inB t (b, e)) (l.take (k + 1)) = idxs (fun t => inB t (b, e)) (l.take k)) := Lib.hid (by have := HST.out.2.2; simp only [hp3] at this; simpa using this)
              clear hp1 hp2 hp3 HST HH h13a h13b
              go_upto_region 10 with fail
              rw [HWB.out, HNx.out]
              clear c0 c1
              go_wp2_with fail
              refine (HREL.out _).mono ?_
              rintro e' w3 ⟨rfl, hb3⟩
              have HT0 := Lib.hid (HTB.out.below hb3)
              have HB0' := Lib.hid (HBW.out.trans (hb3.mono HSB.out))
              have HS0 := Lib.hid (Nat.le_trans HSB.out hb3.size)
              clear hb3 g0 g1 e0 e1
              go_wp2_with fail
              refine ⟨⟨k + 1, _, _, _, rfl, rfl, rfl, by omega, by go_num, Lib.hid ?_, HB0'⟩, by simp only [Go.RowKit.intOf]; omega⟩
              rw [HE1.out, HE2.out, HE3.out]
              exact HT0.out
            · have hp1 : ovB (x1, x2) (b, e) = false := by
                rw [← Bool.not_eq_true]
                intro hh
                have := HH.out.1.2 hh
                omega
              have hp2 : inB (b, e) (x1, x2) = false := by
                rw [← Bool.not_eq_true]
                intro hh
                have := HH.out.2.1.2 hh
                omega
              have hp3 : inB (x1, x2) (b, e) = false := by
                rw [← Bool.not_eq_true]
                intro hh
                have := HH.out.2.2.2 hh
                omega
              have HE1 : Hid (idxs (fun t => ovB t (b, e)) (l.take (k + 1)) = idxs (fun t => ovB t (b, e)) (l.take k)) := Lib.hid (by have := HST.out.1; simp only [hp1] at this; simpa using this)
              have HE2 : Hid (idxs (fun t => inB (b, e) t) (l.take (k + 1)) = idxs (fun t => inB (b, e) t) (l.take k)) := Lib.hid (by have := HST.out.2.1; simp only [hp2] at this; simpa using this)
              have HE3 : Hid (idxs (fun t => inB t (b, e)) (l.take (k + 1)) = idxs (fun t => inB t (b, e)) (l.take k)) := Lib.hid (by have := HST.out.2.2; simp only [hp3] at this; simpa using this)
              clear hp1 hp2 hp3 HST HH h13a h13b
              go_upto_region 10 with fail
              rw [HWB.out, HNx.out]
              clear c0 c1
              go_wp2_with fail
              refine (HREL.out _).mono ?_
              rintro e' w3 ⟨rfl, hb3⟩
              have HT0 := Lib.hid (HTB.out.below hb3)
              have HB0' := Lib.hid (HBW.out.trans (hb3.mono HSB.out))
              have HS0 := Lib.hid (Nat.le_trans HSB.out hb3.size)
              clear hb3 g0 g1 e0 e1
              go_wp2_with fail
              refine ⟨⟨k + 1, _, _, _, rfl, rfl, rfl, by omega, by go_num, Lib.hid ?_, HB0'⟩, by simp only [Go.RowKit.intOf]; omega⟩
              rw [HE1.out, HE2.out, HE3.out]
              exact HT0.out
            · have hp1 : ovB (x1, x2) (b, e) = true := by
                exact HH.out.1.1 (by omega)
              have hp2 : inB (b, e) (x1, x2) = false := by
                rw [← Bool.not_eq_true]
                intro hh
                have := HH.out.2.1.2 hh
                omega
              have hp3 : inB (x1, x2) (b, e) = false := by
                rw [← Bool.not_eq_true]
                intro hh
                have := HH.out.2.2.2 hh
                omega
              have HE1 : Hid (idxs (fun t => ovB t (b, e)) (l.take (k + 1)) = idxs (fun t => ovB t (b, e)) (l.take k) ++ [(k : Int)]) := Lib.hid (by have := HST.out.1; simp only [hp1] at this; simpa using this)
              have HE2 : Hid (idxs (fun t => inB (b, e) t) (l.take (k + 1)) = idxs (fun t => inB (b, e) t) (l.take k)) := Lib.hid (by have := HST.out.2.1; simp only [hp2] at this; simpa using this)
              have HE3 : Hid (idxs (fun t => inB t (b, e)) (l.take (k + 1)) = idxs (fun t => inB t (b, e)) (l.take k)) := Lib.hid (by have := HST.out.2.2; simp only [hp3] at this; simpa using this)
              clear hp1 hp2 hp3 HST HH h13a h13b
              go_upto_region 10 with fail
              rw [HWB.out, HNx.out]
              clear c0 c1
              go_wp2_with fail
              refine (HREL.out _).mono ?_
              rintro e' w3 ⟨rfl, hb3⟩
              have HT0 := Lib.hid (HTB.out.below hb3)
              have HB0' := Lib.hid (HBW.out.trans (hb3.mono HSB.out))
              have HS0 := Lib.hid (Nat.le_trans HSB.out hb3.size)
              clear hb3 g0 g1 e0 e1
              go_wp2_with (first
                | (at_builtin; refine wpList_push1 rfl (.tmp 54) (.tmp 56) rfl w2.heap.size _ _ _ (k : Int) rfl rfl HT0.out.o1 (by have := HLL.out.1; have := HL4.out; omega) HS0.out ?_; intro y1 x1 ho hg hl; have HT1 := Lib.hid (HT0.out.push1 ho.out hg.out hl.out); have HB1' := Lib.hid (below_grown HB0'.out HS0.out hg.out (fun i hi => (own_low HT0.out.o1 i hi).1)); have HS1 := Lib.hid (Nat.le_trans HS0.out hg.out.size); clear ho hg hl)
                | fail)
              refine ⟨⟨k + 1, _, _, _, rfl, rfl, rfl, by omega, by go_num, Lib.hid ?_, HB1'⟩, by simp only [Go.RowKit.intOf]; omega⟩
              rw [HE1.out, HE2.out, HE3.out]
              exact HT1.out
            · have hp1 : ovB (x1, x2) (b, e) = true := by
                exact HH.out.1.1 (by omega)
              have hp2 : inB (b, e) (x1, x2) = false := by
                rw [← Bool.not_eq_true]
                intro hh
                have := HH.out.2.1.2 hh
                omega
              have hp3 : inB (x1, x2) (b, e) = true := by
                exact HH.out.2.2.1 (by omega)
              have HE1 : Hid (idxs (fun t => ovB t (b, e)) (l.take (k + 1)) = idxs (fun t => ovB t (b, e)) (l.take k) ++ [(k : Int)]) := Lib.hid (by have := HST.out.1; simp only [hp1] at this; simpa using this)
              have HE2 : Hid (idxs (fun t => inB (b, e) t) (l.take (k + 1)) = idxs (fun t => inB (b, e) t) (l.take k)) := Lib.hid (by have := HST.out.2.1; simp only [hp2] at this; simpa using this)
              have HE3 : Hid (idxs (fun t => inB t (b, e)) (l.take (k + 1)) = idxs (fun t => inB t (b, e)) (l.take k) ++ [(k : Int)]) := Lib.hid (by have := HST.out.2.2; simp only [hp3] at this; simpa using this)
              clear hp1 hp2 hp3 HST HH h13a h13b
              go_upto_region 10 with fail
              rw [HWB.out, HNx.out]
              clear c0 c1
              go_wp2_with fail
              refine (HREL.out _).mono ?_
              rintro e' w3 ⟨rfl, hb3⟩
              have HT0 := Lib.hid (HTB.out.below hb3)
              have HB0' := Lib.hid (HBW.out.trans (hb3.mono HSB.out))
              have HS0 := Lib.hid (Nat.le_trans HSB.out hb3.size)
              clear hb3 g0 g1 e0 e1
              go_wp2_with (first
                | (at_builtin; refine wpList_push1 rfl (.tmp 90) (.tmp 92) rfl w2.heap.size _ _ _ (k : Int) rfl rfl HT1.out.o3 (by have := HLL.out.2.2; have := HL4.out; omega) HS1.out ?_; intro y2 x2 ho hg hl; have HT2 := Lib.hid (HT1.out.push3 ho.out hg.out hl.out); have HB2' := Lib.hid (below_grown HB1'.out HS1.out hg.out (fun i hi => (own_low HT1.out.o3 i hi).1)); have HS2 := Lib.hid (Nat.le_trans HS1.out hg.out.size); clear ho hg hl)
                | (at_builtin; refine wpList_push1 rfl (.tmp 54) (.tmp 56) rfl w2.heap.size _ _ _ (k : Int) rfl rfl HT0.out.o1 (by have := HLL.out.1; have := HL4.out; omega) HS0.out ?_; intro y1 x1 ho hg hl; have HT1 := Lib.hid (HT0.out.push1 ho.out hg.out hl.out); have HB1' := Lib.hid (below_grown HB0'.out HS0.out hg.out (fun i hi => (own_low HT0.out.o1 i hi).1)); have HS1 := Lib.hid (Nat.le_trans HS0.out hg.out.size); clear ho hg hl)
                | fail)
              refine ⟨⟨k + 1, _, _, _, rfl, rfl, rfl, by omega, by go_num, Lib.hid ?_, HB2'⟩, by simp only [Go.RowKit.intOf]; omega⟩
              rw [HE1.out, HE2.out, HE3.out]
              exact HT2.out
            · have hp1 : ovB (x1, x2) (b, e) = true := by
                exact HH.out.1.1 (by omega)
              have hp2 : inB (b, e) (x1, x2) = false := by
                rw [← Bool.not_eq_true]
                intro hh
                have := HH.out.2.1.2 hh
                omega
              have hp3 : inB (x1, x2) (b, e) = true := by
                exact HH.out.2.2.1 (by omega)
              have HE1 : Hid (idxs (fun t => ovB t (b, e)) (l.take (k + 1)) = idxs (fun t => ovB t (b, e)) (l.take k) ++ [(k : Int)]) := Lib.hid (by have := HST.out.1; simp only [hp1] at this; simpa using this)
              have HE2 : Hid (idxs (fun t => inB (b, e) t) (l.take (k + 1)) = idxs (fun t => inB (b, e) t) (l.take k)) := Lib.hid (by have := HST.out.2.1; simp only [hp2] at this; simpa using this)
              have HE3 : Hid (idxs (fun t => inB t (b, e)) (l.take (k + 1)) = idxs (fun t => inB t (b, e)) (l.take k) ++ [(k : Int)]) := Lib.hid (by have := HST.out.2.2; simp only [hp3] at this; simpa using this)
              clear hp1 hp2 hp3 HST HH h13a h13b
              go_upto_region 10 with fail
              rw [HWB.out, HNx.out]
              clear c0 c1
              go_wp2_with fail
              refine (HREL.out _).mono ?_
              rintro e' w3 ⟨rfl, hb3⟩
              have HT0 := Lib.hid (HTB.out.below hb3)
              have HB0' := Lib.hid (HBW.out.trans (hb3.mono HSB.out))
              have HS0 := Lib.hid (Nat.le_trans HSB.out hb3.size)
              clear hb3 g0 g1 e0 e1
              go_wp2_with (first
                | (at_builtin; refine wpList_push1 rfl (.tmp 90) (.tmp 92) rfl w2.heap.size _ _ _ (k : Int) rfl rfl HT1.out.o3 (by have := HLL.out.2.2; have := HL4.out; omega) HS1.out ?_; intro y2 x2 ho hg hl; have HT2 := Lib.hid (HT1.out.push3 ho.out hg.out hl.out); have HB2' := Lib.hid (below_grown HB1'.out HS1.out hg.out (fun i hi => (own_low HT1.out.o3 i hi).1)); have HS2 := Lib.hid (Nat.le_trans HS1.out hg.out.size); clear ho hg hl)
                | (at_builtin; refine wpList_push1 rfl (.tmp 54) (.tmp 56) rfl w2.heap.size _ _ _ (k : Int) rfl rfl HT0.out.o1 (by have := HLL.out.1; have := HL4.out; omega) HS0.out ?_; intro y1 x1 ho hg hl; have HT1 := Lib.hid (HT0.out.push1 ho.out hg.out hl.out); have HB1' := Lib.hid (below_grown HB0'.out HS0.out hg.out (fun i hi => (own_low HT0.out.o1 i hi).1)); have HS1 := Lib.hid (Nat.le_trans HS0.out hg.out.size); clear ho hg hl)
                | fail)
              refine ⟨⟨k + 1, _, _, _, rfl, rfl, rfl, by omega, by go_num, Lib.hid ?_, HB2'⟩, by simp only [Go.RowKit.intOf]; omega⟩
              rw [HE1.out, HE2.out, HE3.out]
              exact HT2.out
            · have hp1 : ovB (x1, x2) (b, e) = true := by
                exact HH.out.1.1 (by omega)
              have hp2 : inB (b, e) (x1, x2) = true := by
                exact HH.out.2.1.1 (by omega)
              have hp3 : inB (x1, x2) (b, e) = false := by
                rw [← Bool.not_eq_true]
                intro hh
                have := HH.out.2.2.2 hh
                omega
              have HE1 : Hid (idxs (fun t => ovB t (b, e)) (l.take (k + 1)) = idxs (fun t => ovB t (b, e)) (l.take k) ++ [(k : Int)]) := Lib.hid (by have := HST.out.1; simp only [hp1] at this; simpa using this)
              have HE2 : Hid (idxs (fun t => inB (b, e) t) (l.take (k + 1)) = idxs (fun t => inB (b, e) t) (l.take k) ++ [(k : Int)]) := Lib.hid (by have := HST.out.2.1; simp only [hp2] at this; simpa using this)
              have HE3 : Hid (idxs (fun t => inB t (b, e)) (l.take (k + 1)) = idxs (fun t => inB t (b, e)) (l.take k)) := Lib.hid (by have := HST.out.2.2; simp only [hp3] at this; simpa using this)
              clear hp1 hp2 hp3 HST HH h13a h13b
              go_upto_region 10 with fail
              rw [HWB.out, HNx.out]
              clear c0 c1
              go_wp2_with fail
              refine (HREL.out _).mono ?_
              rintro e' w3 ⟨rfl, hb3⟩
              have HT0 := Lib.hid (HTB.out.below hb3)
              have HB0' := Lib.hid (HBW.out.trans (hb3.mono HSB.out))
              have HS0 := Lib.hid (Nat.le_trans HSB.out hb3.size)
              clear hb3 g0 g1 e0 e1
              go_wp2_with (first
                | (at_builtin; refine wpList_push1 rfl (.tmp 72) (.tmp 74) rfl w2.heap.size _ _ _ (k : Int) rfl rfl HT1.out.o2 (by have := HLL.out.2.1; have := HL4.out; omega) HS1.out ?_; intro y2 x2 ho hg hl; have HT2 := Lib.hid (HT1.out.push2 ho.out hg.out hl.out); have HB2' := Lib.hid (below_grown HB1'.out HS1.out hg.out (fun i hi => (own_low HT1.out.o2 i hi).1)); have HS2 := Lib.hid (Nat.le_trans HS1.out hg.out.size); clear ho hg hl)
                | (at_builtin; refine wpList_push1 rfl (.tmp 54) (.tmp 56) rfl w2.heap.size _ _ _ (k : Int) rfl rfl HT0.out.o1 (by have := HLL.out.1; have := HL4.out; omega) HS0.out ?_; intro y1 x1 ho hg hl; have HT1 := Lib.hid (HT0.out.push1 ho.out hg.out hl.out); have HB1' := Lib.hid (below_grown HB0'.out HS0.out hg.out (fun i hi => (own_low HT0.out.o1 i hi).1)); have HS1 := Lib.hid (Nat.le_trans HS0.out hg.out.size); clear ho hg hl)
                | fail)
              refine ⟨⟨k + 1, _, _, _, rfl, rfl, rfl, by omega, by go_num, Lib.hid ?_, HB2'⟩, by simp only [Go.RowKit.intOf]; omega⟩
              rw [HE1.out, HE2.out, HE3.out]
              exact HT2.out
            · have hp1 : ovB (x1, x2) (b, e) = true := by
                exact HH.out.1.1 (by omega)
              have hp2 : inB (b, e) (x1, x2) = true := by
                exact HH.out.2.1.1 (by omega)
              have hp3 : inB (x1, x2) (b, e) = true := by
                exact HH.out.2.2.1 (by omega)
              have HE1 : Hid (idxs (fun t => ovB t (b, e)) (l.take (k + 1)) = idxs (fun t => ovB t (b, e)) (l.take k) ++ [(k : Int)]) := Lib.hid (by have := HST.out.1; simp only [hp1] at this; simpa using this)
              have HE2 : Hid (idxs (fun t => inB (b, e) t) (l.take (k + 1)) = idxs (fun t => inB (b, e) t) (l.take k) ++ [(k : Int)]) := Lib.hid (by have := HST.out.2.1; simp only [hp2] at this; simpa using this)
              have HE3 : Hid (idxs (fun t => inB t (b, e)) (l.take (k + 1)) = idxs (fun t => inB t (b, e)) (l.take k) ++ [(k : Int)]) := Lib.hid (by have := HST.out.2.2; simp only [hp3] at this; simpa using this)
              clear hp1 hp2 hp3 HST HH h13a h13b
              go_upto_region 10 with fail
              rw [HWB.out, HNx.out]
              clear c0 c1
              go_wp2_with fail
              refine (HREL.out _).mono ?_
              rintro e' w3 ⟨rfl, hb3⟩
              have HT0 := Lib.hid (HTB.out.below hb3)
              have HB0' := Lib.hid (HBW.out.trans (hb3.mono HSB.out))
              have HS0 := Lib.hid (Nat.le_trans HSB.out hb3.size)
              clear hb3 g0 g1 e0 e1
              go_wp2_with (first
                | (at_builtin; refine wpList_push1 rfl (.tmp 90) (.tmp 92) rfl w2.heap.size _ _ _ (k : Int) rfl rfl HT2.out.o3 (by have := HLL.out.2.2; have := HL4.out; omega) HS2.out ?_; intro y3 x3 ho hg hl; have HT3 := Lib.hid (HT2.out.push3 ho.out hg.out hl.out); have HB3' := Lib.hid (below_grown HB2'.out HS2.out hg.out (fun i hi => (own_low HT2.out.o3 i hi).1)); have HS3 := Lib.hid (Nat.le_trans HS2.out hg.out.size); clear ho hg hl)
                | (at_builtin; refine wpList_push1 rfl (.tmp 72) (.tmp 74) rfl w2.heap.size _ _ _ (k : Int) rfl rfl HT1.out.o2 (by have := HLL.out.2.1; have := HL4.out; omega) HS1.out ?_; intro y2 x2 ho hg hl; have HT2 := Lib.hid (HT1.out.push2 ho.out hg.out hl.out); have HB2' := Lib.hid (below_grown HB1'.out HS1.out hg.out (fun i hi => (own_low HT1.out.o2 i hi).1)); have HS2 := Lib.hid (Nat.le_trans HS1.out hg.out.size); clear ho hg hl)
                | (at_builtin; refine wpList_push1 rfl (.tmp 54) (.tmp 56) rfl w2.heap.size _ _ _ (k : Int) rfl rfl HT0.out.o1 (by have := HLL.out.1; have := HL4.out; omega) HS0.out ?_; intro y1 x1 ho hg hl; have HT1 := Lib.hid (HT0.out.push1 ho.out hg.out hl.out); have HB1' := Lib.hid (below_grown HB0'.out HS0.out hg.out (fun i hi => (own_low HT0.out.o1 i hi).1)); have HS1 := Lib.hid (Nat.le_trans HS0.out hg.out.size); clear ho hg hl)
                | fail)
              refine ⟨⟨k + 1, _, _, _, rfl, rfl, rfl, by omega, by go_num, Lib.hid ?_, HB3'⟩, by simp only [Go.RowKit.intOf]; omega⟩
              rw [HE1.out, HE2.out, HE3.out]
              exact HT3.out
            · have hp1 : ovB (x1, x2) (b, e) = true := by
                exact HH.out.1.1 (by omega)
              have hp2 : inB (b, e) (x1, x2) = false := by
                rw [← Bool.not_eq_true]
                intro hh
                have := HH.out.2.1.2 hh
                omega
              have hp3 : inB (x1, x2) (b, e) = true := by
                exact HH.out.2.2.1 (by omega)
              have HE1 : Hid (idxs (fun t => ovB t (b, e)) (l.take (k + 1)) = idxs (fun t => ovB t (b, e)) (l.take k) ++ [(k : Int)]) := Lib.hid (by have := HST.out.1; simp only [hp1] at this; simpa using this)
              have HE2 : Hid (idxs (fun t => inB (b, e) t) (l.take (k + 1)) = idxs (fun t => inB (b, e) t) (l.take k)) := Lib.hid (by have := HST.out.2.1; simp only [hp2] at this; simpa using this)
              have HE3 : Hid (idxs (fun t => inB t (b, e)) (l.take (k + 1)) = idxs (fun t => inB t (b, e)) (l.take k) ++ [(k : Int)]) := Lib.hid (by have := HST.out.2.2; simp only [hp3] at this; simpa using this)
              clear hp1 hp2 hp3 HST HH h13a h13b
              go_upto_region 10 with fail
              rw [HWB.out, HNx.out]
              clear c0 c1
              go_wp2_with fail
              refine (HREL.out _).mono ?_
              rintro e' w3 ⟨rfl, hb3⟩
              have HT0 := Lib.hid (HTB.out.below hb3)
              have HB0' := Lib.hid (HBW.out.trans (hb3.mono HSB.out))
              have HS0 := Lib.hid (Nat.le_trans HSB.out hb3.size)
              clear hb3 g0 g1 e0 e1
              go_wp2_with (first
                | (at_builtin; refine wpList_push1 rfl (.tmp 90) (.tmp 92) rfl w2.heap.size _ _ _ (k : Int) rfl rfl HT1.out.o3 (by have := HLL.out.2.2; have := HL4.out; omega) HS1.out ?_; intro y2 x2 ho hg hl; have HT2 := Lib.hid (HT1.out.push3 ho.out hg.out hl.out); have HB2' := Lib.hid (below_grown HB1'.out HS1.out hg.out (fun i hi => (own_low HT1.out.o3 i hi).1)); have HS2 := Lib.hid (Nat.le_trans HS1.out hg.out.size); clear ho hg hl)
                | (at_builtin; refine wpList_push1 rfl (.tmp 54) (.tmp 56) rfl w2.heap.size _ _ _ (k : Int) rfl rfl HT0.out.o1 (by have := HLL.out.1; have := HL4.out; omega) HS0.out ?_; intro y1 x1 ho hg hl; have HT1 := Lib.hid (HT0.out.push1 ho.out hg.out hl.out); have HB1' := Lib.hid (below_grown HB0'.out HS0.out hg.out (fun i hi => (own_low HT0.out.o1 i hi).1)); have HS1 := Lib.hid (Nat.le_trans HS0.out hg.out.size); clear ho hg hl)
                | fail)
              refine ⟨⟨k + 1, _, _, _, rfl, rfl, rfl, by omega, by go_num, Lib.hid ?_, HB2'⟩, by simp only [Go.RowKit.intOf]; omega⟩
              rw [HE1.out, HE2.out, HE3.out]
              exact HT2.out
            · have hp1 : ovB (x1, x2) (b, e) = true := by
                exact HH.out.1.1 (by omega)
              have hp2 : inB (b, e) (x1, x2) = true := by
                exact HH.out.2.1.1 (by omega)
              have hp3 : inB (x1, x2) (b, e) = false := by
                rw [← Bool.not_eq_true]
                intro hh
                have := HH.out.2.2.2 hh
                omega
              have HE1 : Hid (idxs (fun t => ovB t (b, e)) (l.take (k + 1)) = idxs (fun t => ovB t (b, e)) (l.take k) ++ [(k : Int)]) := Lib.hid (by have := HST.out.1; simp only [hp1] at this; simpa using this)
              have HE2 : Hid (idxs (fun t => inB (b, e) t) (l.take (k + 1)) = idxs (fun t => inB (b, e) t) (l.take k) ++ [(k : Int)]) := Lib.hid (by have := HST.out.2.1; simp only [hp2] at this; simpa using this)
              have HE3 : Hid (idxs (fun t => inB t (b, e)) (l.take (k + 1)) = idxs (fun t => inB t (b, e)) (l.take k)) := Lib.hid (by have := HST.out.2.2; simp only [hp3] at this; simpa using this)
              clear hp1 hp2 hp3 HST HH h13a h13b
              go_upto_region 10 with fail
              rw [HWB.out, HNx.out]
              clear c0 c1
              go_wp2_with fail
              refine (HREL.out _).mono ?_
              rintro e' w3 ⟨rfl, hb3⟩
              have HT0 := Lib.hid (HTB.out.below hb3)
              have HB0' := Lib.hid (HBW.out.trans (hb3.mono HSB.out))
              have HS0 := Lib.hid (Nat.le_trans HSB.out hb3.size)
              clear hb3 g0 g1 e0 e1
              go_wp2_with (first
                | (at_builtin; refine wpList_push1 rfl (.tmp 72) (.tmp 74) rfl w2.heap.size _ _ _ (k : Int) rfl rfl HT1.out.o2 (by have := HLL.out.2.1; have := HL4.out; omega) HS1.out ?_; intro y2 x2 ho hg hl; have HT2 := Lib.hid (HT1.out.push2 ho.out hg.out hl.out); have HB2' := Lib.hid (below_grown HB1'.out HS1.out hg.out (fun i hi => (own_low HT1.out.o2 i hi).1)); have HS2 := Lib.hid (Nat.le_trans HS1.out hg.out.size); clear ho hg hl)
                | (at_builtin; refine wpList_push1 rfl (.tmp 54) (.tmp 56) rfl w2.heap.size _ _ _ (k : Int) rfl rfl HT0.out.o1 (by have := HLL.out.1; have := HL4.out; omega) HS0.out ?_; intro y1 x1 ho hg hl; have HT1 := Lib.hid (HT0.out.push1 ho.out hg.out hl.out); have HB1' := Lib.hid (below_grown HB0'.out HS0.out hg.out (fun i hi => (own_low HT0.out.o1 i hi).1)); have HS1 := Lib.hid (Nat.le_trans HS0.out hg.out.size); clear ho hg hl)
                | fail)
              refine ⟨⟨k + 1, _, _, _, rfl, rfl, rfl, by omega, by go_num, Lib.hid ?_, HB2'⟩, by simp only [Go.RowKit.intOf]; omega⟩
              rw [HE1.out, HE2.out, HE3.out]
              exact HT2.out
            · have hp1 : ovB (x1, x2) (b, e) = true := by
                exact HH.out.1.1 (by omega)
              have hp2 : inB (b, e) (x1, x2) = true := by
                exact HH.out.2.1.1 (by omega)
              have hp3 : inB (x1, x2) (b, e) = false := by
                rw [← Bool.not_eq_true]
                intro hh
                have := HH.out.2.2.2 hh
                omega
              have HE1 : Hid (idxs (fun t => ovB t (b, e)) (l.take (k + 1)) = idxs (fun t => ovB t (b, e)) (l.take k) ++ [(k : Int)]) := Lib.hid (by have := HST.out.1; simp only [hp1] at this; simpa using this)
              have HE2 : Hid (idxs (fun t => inB (b, e) t) (l.take (k + 1)) = idxs (fun t => inB (b, e) t) (l.take k) ++ [(k : Int)]) := Lib.hid (by have := HST.out.2.1; simp only [hp2] at this; simpa using this)
              have HE3 : Hid (idxs (fun t => inB t (b, e)) (l.take (k + 1)) = idxs (fun t => inB t (b, e)) (l.take k)) := Lib.hid (by have := HST.out.2.2; simp only [hp3] at this; simpa using this)
              clear hp1 hp2 hp3 HST HH h13a h13b
              go_upto_region 10 with fail
              rw [HWB.out, HNx.out]
              clear c0 c1
              go_wp2_with fail
              refine (HREL.out _).mono ?_
              rintro e' w3 ⟨rfl, hb3⟩
              have HT0 := Lib.hid (HTB.out.below hb3)
              have HB0' := Lib.hid (HBW.out.trans (hb3.mono HSB.out))
              have HS0 := Lib.hid (Nat.le_trans HSB.out hb3.size)
              clear hb3 g0 g1 e0 e1
              go_wp2_with (first
                | (at_builtin; refine wpList_push1 rfl (.tmp 72) (.tmp 74) rfl w2.heap.size _ _ _ (k : Int) rfl rfl HT1.out.o2 (by have := HLL.out.2.1; have := HL4.out; omega) HS1.out ?_; intro y2 x2 ho hg hl; have HT2 := Lib.hid (HT1.out.push2 ho.out hg.out hl.out); have HB2' := Lib.hid (below_grown HB1'.out HS1.out hg.out (fun i hi => (own_low HT1.out.o2 i hi).1)); have HS2 := Lib.hid (Nat.le_trans HS1.out hg.out.size); clear ho hg hl)
                | (at_builtin; refine wpList_push1 rfl (.tmp 54) (.tmp 56) rfl w2.heap.size _ _ _ (k : Int) rfl rfl HT0.out.o1 (by have := HLL.out.1; have := HL4.out; omega) HS0.out ?_; intro y1 x1 ho hg hl; have HT1 := Lib.hid (HT0.out.push1 ho.out hg.out hl.out); have HB1' := Lib.hid (below_grown HB0'.out HS0.out hg.out (fun i hi => (own_low HT0.out.o1 i hi).1)); have HS1 := Lib.hid (Nat.le_trans HS0.out hg.out.size); clear ho hg hl)
                | fail)
              refine ⟨⟨k + 1, _, _, _, rfl, rfl, rfl, by omega, by go_num, Lib.hid ?_, HB2'⟩, by simp only [Go.RowKit.intOf]; omega⟩
              rw [HE1.out, HE2.out, HE3.out]
              exact HT2.out
            · have hp1 : ovB (x1, x2) (b, e) = true := by
                exact HH.out.1.1 (by omega)
              have hp2 : inB (b, e) (x1, x2) = false := by
                rw [← Bool.not_eq_true]
                intro hh
                have := HH.out.2.1.2 hh
                omega
              have hp3 : inB (x1, x2) (b, e) = false := by
                rw [← Bool.not_eq_true]
                intro hh
                have := HH.out.2.2.2 hh
                omega
              have HE1 : Hid (idxs (fun t => ovB t (b, e)) (l.take (k + 1)) = idxs (fun t => ovB t (b, e)) (l.take k) ++ [(k : Int)]) := Lib.hid (by have := HST.out.1; simp only [hp1] at this; simpa using this)
              have HE2 : Hid (idxs (fun t => inB (b, e) t) (l.take (k + 1)) = idxs (fun t => inB (b, e) t) (l.take k)) := Lib.hid (by have := HST.out.2.1; simp only [hp2] at this; simpa using this)
              have HE3 : Hid (idxs (fun t => inB t (b, e)) (l.take (k + 1)) = idxs (fun t => inB t (b, e)) (l.take k)) := Lib.hid (by have := HST.out.2.2; simp only [hp3] at this; simpa using this)
              clear hp1 hp2 hp3 HST HH h13a h13b
              go_upto_region 10 with fail
              rw [HWB.out, HNx.out]
              clear c0 c1
              go_wp2_with fail
              refine (HREL.out _).mono ?_
              rintro e' w3 ⟨rfl, hb3⟩
              have HT0 := Lib.hid (HTB.out.below hb3)
              have HB0' := Lib.hid (HBW.out.trans (hb3.mono HSB.out))
              have HS0 := Lib.hid (Nat.le_trans HSB.out hb3.size)
              clear hb3 g0 g1 e0 e1
              go_wp2_with (first
                | (at_builtin; refine wpList_push1 rfl (.tmp 54) (.tmp 56) rfl w2.heap.size _ _ _ (k : Int) rfl rfl HT0.out.o1 (by have := HLL.out.1; have := HL4.out; omega) HS0.out ?_; intro y1 x1 ho hg hl; have HT1 := Lib.hid (HT0.out.push1 ho.out hg.out hl.out); have HB1' := Lib.hid (below_grown HB0'.out HS0.out hg.out (fun i hi => (own_low HT0.out.o1 i hi).1)); have HS1 := Lib.hid (Nat.le_trans HS0.out hg.out.size); clear ho hg hl)
                | fail)
              refine ⟨⟨k + 1, _, _, _, rfl, rfl, rfl, by omega, by go_num, Lib.hid ?_, HB1'⟩, by simp only [Go.RowKit.intOf]; omega⟩
              rw [HE1.out, HE2.out, HE3.out]
              exact HT1.out
            · have hp1 : ovB (x1, x2) (b, e) = false := by
                rw [← Bool.not_eq_true]
                intro hh
                have := HH.out.1.2 hh
                omega
              have hp2 : inB (b, e) (x1, x2) = false := by
                rw [← Bool.not_eq_true]
                intro hh
                have := HH.out.2.1.2 hh
                omega
              have hp3 : inB (x1, x2) (b, e) = false := by
                rw [← Bool.not_eq_true]
                intro hh
                have := HH.out.2.2.2 hh
                omega
              have HE1 : Hid (idxs (fun t => ovB t (b, e)) (l.take (k + 1)) = idxs (fun t => ovB t (b, e)) (l.take k)) := Lib.hid (by have := HST.out.1; simp only [hp1] at this; simpa using this)
              have HE2 : Hid (idxs (fun t => inB (b, e) t) (l.take (k + 1)) = idxs (fun t => inB (b, e) t) (l.take k)) := Lib.hid (by have := HST.out.2.1; simp only [hp2] at this; simpa using this)
              have HE3 : Hid (idxs (fun t => inB t (b, e)) (l.take (k + 1)) = idxs (fun t => inB t (b, e)) (l.take k)) := Lib.hid (by have := HST.out.2.2; simp only [hp3] at this; simpa using this)
              clear hp1 hp2 hp3 HST HH h13a h13b
              go_upto_region 10 with fail
              rw [HWB.out, HNx.out]
              clear c0 c1
              go_wp2_with fail
              refine (HREL.out _).mono ?_
              rintro e' w3 ⟨rfl, hb3⟩
              have HT0 := Lib.hid (HTB.out.below hb3)
              have HB0' := Lib.hid (HBW.out.trans (hb3.mono HSB.out))
              have HS0 := Lib.hid (Nat.le_trans HSB.out hb3.size)
              clear hb3 g0 g1 e0 e1
              go_wp2_with fail
              refine ⟨⟨k + 1, _, _, _, rfl, rfl, rfl, by omega, by go_num, Lib.hid ?_, HB0'⟩, by simp only [Go.RowKit.intOf]; omega⟩
              rw [HE1.out, HE2.out, HE3.out]
              exact HT0.out
            · have hp1 : ovB (x1, x2) (b, e) = false := by
                rw [← Bool.not_eq_true]
                intro hh
                have := HH.out.1.2 hh
                omega
              have hp2 : inB (b, e) (x1, x2) = false := by
                rw [← Bool.not_eq_true]
                intro hh
                have := HH.out.2.1.2 hh
                omega
              have hp3 : inB (x1, x2) (b, e) = false := by
                rw [← Bool.not_eq_true]
                intro hh
                have := HH.out.2.2.2 hh
                omega
              have HE1 : Hid (idxs (fun t => ovB t (b, e)) (l.take (k + 1)) = idxs (fun t => ovB t (b, e)) (l.take k)) := Lib.hid (by have := HST.out.1; simp only [hp1] at this; simpa using this)
              have HE2 : Hid (idxs (fun t => inB (b, e) t) (l.take (k + 1)) = idxs (fun t => inB (b, e) t) (l.take k)) := Lib.hid (by have := HST.out.2.1; simp only [hp2] at this; simpa using this)
              have HE3 : Hid (idxs (fun t => inB t (b, e)) (l.take (k + 1)) = idxs (fun t => inB t (b, e)) (l.take k)) := Lib.hid (by have := HST.out.2.2; simp only [hp3] at this; simpa using this)
              clear hp1 hp2 hp3 HST HH h13a h13b
              go_upto_region 10 with fail
              rw [HWB.out, HNx.out]
              clear c0 c1
              go_wp2_with fail
              refine (HREL.out _).mono ?_
              rintro e' w3 ⟨rfl, hb3⟩
              have HT0 := Lib.hid (HTB.out.below hb3)
              have HB0' := Lib.hid (HBW.out.trans (hb3.mono HSB.out))
              have HS0 := Lib.hid (Nat.le_trans HSB.out hb3.size)
              clear hb3 g0 g1 e0 e1
              go_wp2_with fail
              refine ⟨⟨k + 1, _, _, _, rfl, rfl, rfl, by omega, by go_num, Lib.hid ?_, HB0'⟩, by simp only [Go.RowKit.intOf]; omega⟩
              rw [HE1.out, HE2.out, HE3.out]
              exact HT0.out
          · obtain rfl : k = n := by omega
            have ht := HT.out
            rw [List.take_of_length_le (by rw [HLN.out]; exact Nat.le_refl _)] at ht
            have hS : w2.heap.size ≤ wr.heap.size := HB.out.size
            have hs1 : N + 1 ≤ wr.heap.size := Nat.le_trans HS2.out hS
            obtain ⟨d0, d1⟩ := HD.out wr hbX
            have hok : 0 ≤ b ∧ b < e := HOKS.out
            have hw : IntKind.i64.wrap (b + 1) = b + 1 := by rw [IntKind.wrap_i64]; omega
            obtain ⟨WB, hWB⟩ : ∃ X, wr.alloc (.cells #[.int .i64 b, .int .i64 (b + 1)] 35) = X := ⟨_, rfl⟩
            obtain ⟨Nx, hNx⟩ : ∃ N, wr.heap.size = N := ⟨_, rfl⟩
            have hbx : WB.heap[Nx]? = some (.cells #[.int .i64 b, .int .i64 (b + 1)] 35 (0, 0)) := by rw [← hWB, ← hNx]; exact block_new _ _
            have hbW : Below wr.heap.size wr WB := by rw [← hWB]; exact below_box _ _
            have hNW : Nx < WB.drew.heap.size := (Array.getElem?_eq_some_iff.1 hbx).1
            have hbWd : Below wr.heap.size wr WB.drew := hbW.drew
            have hbXd : Below (N + 1) X WB.drew := hbX.trans (hbWd.mono hs1)
            have hIW : IdxAt WB.drew B l := HI2.out.below (HB.out.trans (hbWd.mono hS))
            have hO1 := (own_rows ht.o1).below stays_int hbWd
            have hO2 := (own_rows ht.o2).below stays_int hbWd
            have hO3 := (own_rows ht.o3).below stays_int hbWd
            have hone : okS (b, b + 1) = true := (okS_iff _).2 ⟨hok.1, by show b < b + 1; omega⟩
            have hall := HALLO.out
            have hq := HQ.out
            have hC1 := fun W (h : Below WB.drew.heap.size WB.drew W) => overlap_any (hIW.below h) (b, e) hs2
            have hC2 := fun W (h : Below WB.drew.heap.size WB.drew W) => inside_any (hIW.below h) (b, e) hs2 hall
            have hC3 := fun W (h : Below WB.drew.heap.size WB.drew W) => around_any (hIW.below h) (b, e) hs2
            have hC4 := fun W (h : Below WB.drew.heap.size WB.drew W) => overlap_any (hIW.below h) (b, b + 1) (by show b + 1 ≤ 9223372036854775807; omega)
            have hC5 := fun W (h : Below WB.drew.heap.size WB.drew W) => stab_any (hIW.below h) b
            have hl1 := idxs_len (fun t => ovB t (b, e)) l
            have hl2 := idxs_len (fun t => inB (b, e) t) l
            have hl3 := idxs_len (fun t => inB t (b, e)) l
            have hl4 := idxs_len (stabP b) l
            have heq : idxs (fun t => ovB t (b, b + 1)) l = idxs (stabP b) l := idxs_eq fun t _ => by unfold ovB stabP; simp; omega
            unfold askL at hC1 hC2 hC3 hC4
            rw [hone, if_pos rfl, heq] at hC4
            rw [hq, if_pos rfl] at hC1 hC2 hC3
            obtain ⟨xs, hxs⟩ : ∃ xs, idxs (fun t => ovB t (b, e)) l = xs := ⟨_, rfl⟩
            obtain ⟨ys, hys⟩ : ∃ xs, idxs (fun t => inB (b, e) t) l = xs := ⟨_, rfl⟩
            obtain ⟨zs, hzs⟩ : ∃ xs, idxs (fun t => inB t (b, e)) l = xs := ⟨_, rfl⟩
            obtain ⟨ss, hss⟩ : ∃ xs, idxs (stabP b) l = xs := ⟨_, rfl⟩
            rw [hxs] at hC1 hO1 hl1
            rw [hys] at hC2 hO2 hl2
            rw [hzs] at hC3 hO3 hl3
            rw [hss] at hC4 hC5 hl4
            unfold spA ListV at hC1 hC2 hC3 hC4
            unfold ListV at hC5
            simp only at hC1 hC2 hC3 hC4
            rw [HLN.out] at hl1 hl2 hl3 hl4
            have hlm : xs.length ≤ maxLen ∧ ys.length ≤ maxLen ∧ zs.length ≤ maxLen ∧ ss.length ≤ maxLen := by unfold maxLen; omega
            have HLM := Lib.hid hlm
            have HS := Lib.hid (fun W (h : Below WB.drew.heap.size WB.drew W) => show W.cell? ⟨N, 0, none⟩ = some (.int .i64 b) ∧ W.cell? ⟨N, 1, none⟩ = some (.int .i64 e) ∧ W.cell? ⟨Nx, 0, none⟩ = some (.int .i64 b) ∧ W.cell? ⟨Nx, 1, none⟩ = some (.int .i64 (b + 1)) from by
              obtain ⟨a0, a1⟩ := HD.out W (hbXd.trans (h.mono (Nat.le_trans hs1 hbWd.size)))
              exact ⟨a0, a1, (h.cell (p := ⟨Nx, 0, none⟩) hNW).trans (cell_of (i := 0) hbx rfl), (h.cell (p := ⟨Nx, 1, none⟩) hNW).trans (cell_of (i := 1) hbx rfl)⟩)
            have HC1 := Lib.hid hC1
            have HC2 := Lib.hid hC2
            have HC3 := Lib.hid hC3
            have HC4 := Lib.hid hC4
            have HC5 := Lib.hid hC5
            have HO1 := Lib.hid (fun W (h : Below WB.drew.heap.size WB.drew W) => hO1.below stays_int h)
            have HO2 := Lib.hid (fun W (h : Below WB.drew.heap.size WB.drew W) => hO2.below stays_int h)
            have HO3 := Lib.hid (fun W (h : Below WB.drew.heap.size WB.drew W) => hO3.below stays_int h)
            have HX0 := Lib.hid (Below.refl WB.drew.heap.size WB.drew)
            have HFIN0 := Lib.hid (show Below N w WB.drew from HB0.out.trans (hbXd.mono (Nat.le_succ _)))
            have HFS : Hid (N ≤ WB.drew.heap.size) := Lib.hid (Nat.le_trans (Nat.le_trans (Nat.le_succ _) hs1) hbWd.size)
            have HWB := Lib.hid hWB
            have HNx := Lib.hid hNx
            obtain ⟨O1, oc1, rfl, -⟩ := hO1.form
            obtain ⟨O2, oc2, rfl, -⟩ := hO2.form
            obtain ⟨O3, oc3, rfl, -⟩ := hO3.form
            clear ht hS hs1 hok hWB hNx hbx hbW hNW hbWd hbXd hIW hO1 hO2 hO3 hone hall hq hC1 hC2 hC3 hC4 hC5 hl1 hl2 hl3 hl4 heq hxs hys hzs hss hlm hbX HT HB
            go_upto_region 19 with fail
            rw [HWB.out, HNx.out]
            clear d0 d1 hw
            go_wp2_with fail
            go_region_held3 (fun W' => W'.cell? ⟨N, 0, none⟩ = some (.int .i64 b) ∧ W'.cell? ⟨N, 1, none⟩ = some (.int .i64 e) ∧ W'.cell? ⟨Nx, 0, none⟩ = some (.int .i64 b) ∧ W'.cell? ⟨Nx, 1, none⟩ = some (.int .i64 (b + 1)))
              (first
                | (with_reducible exact HS.out _ HX10.out)
                | (with_reducible exact HS.out _ HX9.out)
                | (with_reducible exact HS.out _ HX8.out)
                | (with_reducible exact HS.out _ HX7.out)
                | (with_reducible exact HS.out _ HX6.out)
                | (with_reducible exact HS.out _ HX5.out)
                | (with_reducible exact HS.out _ HX4.out)
                | (with_reducible exact HS.out _ HX3.out)
                | (with_reducible exact HS.out _ HX2.out)
                | (with_reducible exact HS.out _ HX1.out)
                | (with_reducible exact HS.out _ HX0.out)
                | fail)
              ((first
                | (go_at_call 10; (with_reducible refine (HA.out _).mono ?_); rintro e' x10 ⟨rfl, hb10⟩; have HX10 := Lib.hid (below_chain HX9.out HX9.out.size hb10); clear hb10)
                | (go_at_call 11; (with_reducible refine (HS4.out).mono ?_); rintro e' x9 ⟨rfl, hb9⟩; have HX9 := Lib.hid (below_chain HX8.out HX8.out.size hb9); clear hb9)
                | (go_at_call 12; (with_reducible refine (HC5.out _ HX7.out).mono ?_); rintro e' x8 ⟨⟨v8, rfl, hr8⟩, hb8⟩; have HS4 := Lib.hid (sameInts_any (HR7.out.below stays_int hb8) hr8 HLM.out.2.2.2 HLM.out.2.2.2); rw [decide_eq_true (rfl : ss = ss)] at HS4; obtain ⟨A8, c8, rfl, -⟩ := hr8.form; have HX8 := Lib.hid (below_chain HX7.out HX7.out.size hb8); clear hb8 hr8)
                | (go_at_call 14; (with_reducible refine (HC4.out _ HX6.out).mono ?_); rintro e' x7 ⟨⟨v7, rfl, hr7⟩, hb7⟩; have HR7 := Lib.hid hr7; obtain ⟨A7, c7, rfl, -⟩ := hr7.form; have HX7 := Lib.hid (below_chain HX6.out HX6.out.size hb7); clear hb7 hr7)
                | (go_at_call 11; (with_reducible refine (HS3.out).mono ?_); rintro e' x6 ⟨rfl, hb6⟩; have HX6 := Lib.hid (below_chain HX5.out HX5.out.size hb6); clear hb6)
                | (go_at_call 17; (with_reducible refine (HC3.out _ HX4.out).mono ?_); rintro e' x5 ⟨⟨v5, rfl, hr5⟩, hb5⟩; have HX5 := Lib.hid (below_chain HX4.out HX4.out.size hb5); have HS3 := Lib.hid (sameInts_any hr5 (HO3.out _ HX5.out) HLM.out.2.2.1 HLM.out.2.2.1); rw [decide_eq_true (rfl : zs = zs)] at HS3; obtain ⟨A5, c5, rfl, -⟩ := hr5.form; clear hb5 hr5)
                | (go_at_call 11; (with_reducible refine (HS2.out).mono ?_); rintro e' x4 ⟨rfl, hb4⟩; have HX4 := Lib.hid (below_chain HX3.out HX3.out.size hb4); clear hb4)
                | (go_at_call 16; (with_reducible refine (HC2.out _ HX2.out).mono ?_); rintro e' x3 ⟨⟨v3, rfl, hr3⟩, hb3⟩; have HX3 := Lib.hid (below_chain HX2.out HX2.out.size hb3); have HS2 := Lib.hid (sameInts_any hr3 (HO2.out _ HX3.out) HLM.out.2.1 HLM.out.2.1); rw [decide_eq_true (rfl : ys = ys)] at HS2; obtain ⟨A3, c3, rfl, -⟩ := hr3.form; clear hb3 hr3)
                | (go_at_call 11; (with_reducible refine (HS1'.out).mono ?_); rintro e' x2 ⟨rfl, hb2⟩; have HX2 := Lib.hid (below_chain HX1.out HX1.out.size hb2); clear hb2)
                | (go_at_call 14; (with_reducible refine (HC1.out _ HX0.out).mono ?_); rintro e' x1 ⟨⟨v1, rfl, hr1⟩, hb1⟩; have HX1 := Lib.hid (below_chain HX0.out HX0.out.size hb1); have HS1' := Lib.hid (sameInts_any hr1 (HO1.out _ HX1.out) HLM.out.1 HLM.out.1); rw [decide_eq_true (rfl : xs = xs)] at HS1'; obtain ⟨A1, c1, rfl, -⟩ := hr1.form; clear hb1 hr1)
                | fail))
            have HFIN := Lib.hid (HFIN0.out.trans (HX10.out.mono HFS.out))
            go_wp2_with fail
            go_ret
            exact ⟨rfl, HFIN.out⟩
    · clear h0
      go_wp2_with fail
      refine (HA.out _).mono ?_
      rintro e' w3 ⟨rfl, hb3⟩
      have HB3 := Lib.hid (HB0.out.trans ((HB1.out.trans (hb3.mono HS1.out)).mono (Nat.le_succ _)))
      clear hb3
      go_wp2_with fail
      go_ret
      exact ⟨rfl, HB3.out⟩

theorem own : ownKnob Try.prog.godebug = none := by kernel_rfl

set_option maxRecDepth 100000 in
theorem lifted (os : Os) (started : os.Started) (H : Type) (enc : TypeId × Value → H) :
    ReturnsInHanded {} Try.checked os 7 .any (Rows.stabRelatesSpec.pre6 enc Try.prog Try.f7 Rows.stabRelatesRow.domain false) (Rows.stabRelatesSpec.post enc Try.prog Try.f7 false true false false) := by
  refine returnsInHanded_of_change (C := Try.checked) own started (by kernel_rfl) Try.func7
    (ChangeSpec.witness6 (enc := enc) (C := Try.checked) false ⟨#[], #[.slice none 0 0, .agg #[.int .i64 0, .int .i64 0]], []⟩ 8 (by kernel_rfl) (by kernel_rfl) (by kernel_rfl) (by kernel_rfl)) ?_
  intro W base args ds gs before hval0 hW hcnd _
  have hval : ∀ (j : Nat) t v, Try.f7.params[j]? = some t → args[j]? = some v → Value.okWide Try.prog W .any base t v := hval0
  have hW' := hW
  have hplt : ∀ x ∈ before, x.block < W.heap.size := fun x hx => hW.lt x hx
  obtain ⟨p, q, hA0, hV, rfl, hfz, hnd⟩ := hW
  have hA : DataW.TrodAll enc Try.prog W 0 (fun _ => true) true Try.f7.params.toList args.toList ds p := hA0
  rw [Try.params7] at hA hval
  obtain ⟨v0, vs0, d0, ds0, p0, q0, hargs, rfl, rfl, h0, r0⟩ := trodAll_cons hA
  obtain ⟨v1, vs1, d1, ds1, p1, q1, rfl, rfl, rfl, h1, r1⟩ := trodAll_cons r0
  obtain ⟨rfl, rfl, rfl⟩ := trodAll_nil r1
  obtain rfl : args = #[v0, v1] := by cases args; simp_all
  obtain ⟨rfl, rfl⟩ := trodVars_none hV
  obtain ⟨l0, s0, m0, n0⟩ := open_sps (hval 0 22 v0 rfl rfl) h0
  obtain ⟨x1, rfl, m1⟩ := open_sp (hval 1 35 v1 rfl rfl) h1
  clear hA0 hval0
  refine (walk v0 l0 s0 m0 n0 x1 m1).mono fun e W' ⟨he, bel⟩ => ?_
  subst he
  exact ⟨_, rfl, _, _, _, [], _, [], hW', trodAll_mk1 (shut_bool Try.underlying4 _), (trodAll_cons_mk (Below.trod Try.laidOut (by kernel_rfl) (of_decide_eq_true (by kernel_rfl)) h0 bel (fun x hx => hplt x (by simp [hx]))) (trodAll_cons_mk (Below.trod Try.laidOut (by kernel_rfl) (of_decide_eq_true (by kernel_rfl)) h1 bel (fun x hx => hplt x (by simp [hx]))) trodAll_mk0)), rfl, World.keptBut_mono (fun x hx => ⟨hx, Or.inr (by simpa using hx)⟩) (bel.frame (· ∈ _)), fun h => by cases h⟩

theorem over : Rows.stabRelatesRow.holds Try.pinned (OpenSpec.ofChange Rows.stabRelatesSpec) :=
  OpenClaim.holds_of_wide 7 Try.f7 rfl rfl rfl rfl rfl rfl rfl ⟨rfl, rfl, rfl, rfl, rfl⟩ rfl rfl rfl rfl rfl (by kernel_rfl) Try.func7 (by kernel_rfl)
    (of_decide_eq_true (by kernel_rfl)) (by unfold Func.isWrapper; first | (rw [if_pos (by decide +kernel)]; kernel_rfl) | (rw [if_neg (by decide +kernel)]; exact ⟨rfl, rfl⟩))
    (fun os started H enc _ => lifted os started H enc)

/-- THE STATEMENT. -/
theorem proved : Rows.StabRelatesSaid := over
end Go.Proofs.Ytifdencdbpdbfaa.stabRelates
