/-
  IntervalLimits is proved: for both truth values and every span the call of the law returns true, and each argument reads afterwards as it read before. It has no condition.
-/
import Derived.Test.YtpkkebojiengpaaRows
import Derived.Test.YtpkkebojiengpaaIoO
import Derived.Test.YtpkkebojiengpaaIbO
import Derived.Test.YtpkkebojiengpaaIbN
import Derived.ProofKit
import Derived.OpenShut
import Derived.Carry
namespace Go.Proofs.Ytpkkebojiengpaa.intervalLimits
open Go.ChangeShapes Go.WideShapes Go.ChangeAt Go.RowKit Go.Shelf Go.Lib
set_option linter.unusedVariables false

theorem chk_rep {s : Sp} {n : Nat} (h : 0 < n) : chkS (List.replicate n s) = if 4096 < n then 2 else if okS s = true then 0 else 8 := by
  unfold chkS
  rw [List.length_replicate]
  have : (List.replicate n s).all okS = okS s := by
    rw [Bool.eq_iff_iff, List.all_eq_true]
    exact ⟨fun h1 => h1 s (List.mem_replicate.2 ⟨by omega, rfl⟩), fun h1 x hx => by rw [(List.mem_replicate.1 hx).2]; exact h1⟩
  rw [this]
set_option maxRecDepth 100000 in
set_option maxHeartbeats 8000000 in
theorem walk {w : World} (more : Bool) (s : Sp) (_ : okSp s) :
    Calls Try.prog 4 #[.bool more, .agg #[.int .i64 s.1, .int .i64 s.2]] w fun e w1 => e = .returned (.bool true) ∧ Below w.heap.size w w1 := by
  have HA := Lib.hid (fun (W : World) => awake_any W)
  have HRV := Lib.hid (fun (W : World) => refValid_any s W)
  unfold BoolV at HA HRV
  obtain ⟨q, hq⟩ : ∃ q, okS s = q := ⟨_, rfl⟩
  have HQ := Lib.hid hq
  rw [hq] at HRV
  obtain ⟨s1, s2⟩ := s
  simp only at HRV ⊢
  obtain ⟨X, B, hX, hB, hbX, hBX, hcell⟩ := box1 w s1 s2
  have HX := Lib.hid hX
  have HB := Lib.hid hB
  have HBX := Lib.hid (And.intro hbX hBX)
  have HC := Lib.hid hcell
  rw [hB]
  clear hq hX hB hbX hBX hcell
  obtain ⟨i1, hi1, hy0, hy1, hy2⟩ := info_parts' Try.infoSp
  obtain ⟨l0, hl0⟩ : ∃ l0 : Nat → List Sp, l0 = fun n => List.replicate n (0, 0) := ⟨_, rfl⟩
  have hmk : ∀ (n : Nat) (W : World), n ≤ 5000 → (Instr.makeSlice 22 (.int .i64 n) (.int .i64 n)).run Try.prog W = .ok (.slice (some ⟨W.heap.size, 0, none⟩) n n) (W.alloc (.cells (spRow (fillL (fun _ => (s1, s2)) (l0 n) 0)) 31)) := fun n W hn5 => by
    have := run_make (P := Try.prog) W 22 31 i1 _ Try.underlying22 hi1 hy0 .i64 .i64 n n (by omega) (by omega) (by rw [hy2]; omega) (by omega)
    rw [Int.toNat_natCast, hy1] at this
    rw [fillL_zero, hl0]
    simp only [List.length_replicate]
    rw [← made_sp]
    exact this
  have hlen : ∀ n, (l0 n).length = n := fun n => by rw [hl0]; simp
  have hall : ∀ n, fillL (fun _ => (s1, s2)) (l0 n) n = List.replicate n (s1, s2) := fun n => by
    have := fillL_all (fun _ => ((s1, s2) : Sp)) (l0 n)
    rw [hlen] at this
    rw [this, hl0]
    simp
  have HMK := Lib.hid hmk
  have HLEN := Lib.hid hlen
  have HALL := Lib.hid hall
  clear hi1 hy0 hy1 hy2 hl0 hmk hlen hall
  go_enter Try.func4, Try.ntmps4
  cases more with
  | false =>
    obtain ⟨n, hn⟩ : ∃ n : Nat, n = 4096 := ⟨_, rfl⟩
    have hni : (4096 : Int) = (n : Int) := by omega
    have HNI := Lib.hid hni
    have HNN := Lib.hid hn
    have hn5 : n ≤ 5000 := by omega
    have hn0 : 0 < n := by omega
    clear hn hni
    go_upto_region 4 with fail
    rw [HX.out, HB.out, HNI.out]
    obtain ⟨N1, hN1⟩ : ∃ N1, X.heap.size = N1 := ⟨_, rfl⟩
    obtain ⟨W0, hW0⟩ : ∃ W0, X.alloc (.cells (spRow (fillL (fun _ => (s1, s2)) (l0 n) 0)) 31) = W0 := ⟨_, rfl⟩
    have hmk : (Instr.makeSlice 22 (.int .i64 n) (.int .i64 n)).run Try.prog X = .ok (.slice (some ⟨N1, 0, none⟩) n n) W0 := by rw [← hW0, ← hN1]; exact HMK.out n X hn5
    have hb0 : W0.heap[N1]? = some (.cells (spRow (fillL (fun _ => (s1, s2)) (l0 n) 0)) 31 (0, 0)) := by rw [← hW0, ← hN1]; exact block_new _ _
    have hbw : Below N1 X W0 := by rw [← hW0, ← hN1]; exact below_box _ _
    have HN1 := Lib.hid hN1
    have HB0 := Lib.hid hb0
    have HBW := Lib.hid hbw
    clear hN1 hW0 hb0 hbw
    go_wp2_with fail
    clear hmk
    go_loopw [7, 19] (fun _ kv wr => ∃ i : Nat, i ≤ n ∧ kv = .int .i64 i ∧ Hid (wr.heap[N1]? = some (.cells (spRow (fillL (fun _ => (s1, s2)) (l0 n) i)) 31 (0, 0))) ∧ Hid (Below N1 X wr)) (fun _ kv _ => n - (Go.RowKit.intOf kv).toNat)
    case atStart => exact ⟨0, Nat.zero_le _, rfl, HB0, HBW⟩
    case round =>
      clear HB0 HBW HMK
      obtain ⟨i, hi, rfl, HR, HL⟩ := hrel
      by_cases hlt : i < n
      · have hst := fillL_step (pt := fun _ => ((s1, s2) : Sp)) (l := l0 n) (i := i) (x := (l0 n)[i]'(by rw [HLEN.out]; exact hlt)) (List.getElem?_eq_getElem _)
        obtain ⟨c0, c1⟩ := HC.out wr (by rw [HN1.out]; exact HL.out)
        obtain ⟨u0, hu0⟩ : ∃ u, (spRow (fillL (fun _ => (s1, s2)) (l0 n) i))[i * 2]? = some u := ⟨_, Array.getElem?_eq_getElem (by rw [spRow_size, fillL_len, HLEN.out]; omega)⟩
        obtain ⟨u1, hu1⟩ : ∃ u, (spRow (fillL (fun _ => (s1, s2)) (l0 n) i))[i * 2 + 1]? = some u := ⟨_, Array.getElem?_eq_getElem (by rw [spRow_size, fillL_len, HLEN.out]; omega)⟩
        have k0 := cell_of HR.out hu0
        have k1 := cell_of HR.out hu1
        have f0 : wr.frozen? ⟨N1, i * 2, none⟩ = false := frozen_of HR.out
        have f1 : wr.frozen? ⟨N1, i * 2 + 1, none⟩ = false := frozen_of HR.out
        have HST := Lib.hid hst
        have hii : (i : Int) < (n : Int) := by omega
        clear hst hu0 hu1
        go_wp2_with fail
        refine ⟨⟨i + 1, by omega, by go_num, Lib.hid ?_, Lib.hid ((HL.out.setCell (p := ⟨N1, i * 2, none⟩) (Nat.le_refl _) _).setCell (p := ⟨N1, i * 2 + 1, none⟩) (Nat.le_refl _) _)⟩, by simp only [Go.RowKit.intOf]; omega⟩
        rw [set_of (set_of HR.out _) _, HST.out, ← spRow_set2 (by rw [fillL_len, HLEN.out]; exact hlt)]
      · obtain rfl : i = n := by omega
        have hrow := HR.out
        rw [HALL.out] at hrow
        have hr := rows_sp (n := i) (cap := i) (by simp) (Nat.le_refl _) hrow
        have hN1l : N1 < wr.heap.size := (Array.getElem?_eq_some_iff.1 hrow).1
        have HB0 : Hid (Below B w wr ∧ B ≤ wr.heap.size) := Lib.hid ⟨HBX.out.1.trans (HL.out.mono (by rw [← HN1.out]; exact HBX.out.2)), by have h2 := HBX.out.2; have := HN1.out; omega⟩
        have HBC := Lib.hid (fun W (h : Below wr.heap.size wr W) => HC.out W (by rw [HN1.out]; exact HL.out.trans (h.mono (Nat.le_of_lt hN1l))))
        have HNM := Lib.hid (normalize_any hr)
        have HCV := Lib.hid (fun W (h : Below wr.heap.size wr W) => cover_any (hr.below stays_sp h))
        have hck := chk_rep (s := (s1, s2)) hn0
        unfold NorV norL at HNM
        unfold NorV cvL at HCV
        rw [norm_rep (s := (s1, s2)) hn0, hck] at HNM
        rw [cov_rep (s := (s1, s2)) hn0, hck] at HCV
        clear hrow hr hck HR hN1l
        cases q with
        | false =>
          have e2 : (if 4096 < i then (2 : Int) else if okS (s1, s2) = true then 0 else 8) = 8 := by rw [if_neg (by have := HNN.out; omega), HQ.out]; rfl
          have e3 : (if (8 : Int) = 0 then [((s1, s2) : Sp)] else []) = [] := if_neg (by decide)
          rw [e2, e3] at HNM HCV
          clear e2 e3
          go_wp2_with fail
          refine HNM.out.mono ?_
          rintro e w1 ⟨⟨va, rfl, hra⟩, hb1⟩
          have HB1 : Hid (Below B w w1 ∧ B ≤ w1.heap.size ∧ Below wr.heap.size wr w1) := Lib.hid ⟨HB0.out.1.trans (hb1.mono HB0.out.2), Nat.le_trans HB0.out.2 hb1.size, hb1⟩
          have HRA := Lib.hid hra
          clear hra hb1 HNM
          go_wp2_with fail
          refine (HCV.out w1 HB1.out.2.2).mono ?_
          rintro e w2 ⟨⟨vb, rfl, hrb⟩, hb2⟩
          have HB2 : Hid (Below B w w2 ∧ B ≤ w2.heap.size ∧ Below wr.heap.size wr w2) := Lib.hid ⟨HB1.out.1.trans (hb2.mono HB1.out.2.1), Nat.le_trans HB1.out.2.1 hb2.size, HB1.out.2.2.trans (hb2.mono HB1.out.2.2.size)⟩
          have hra := HRA.out.below stays_sp hb2
          obtain ⟨Aa, ca, rfl, -⟩ := hra.form
          obtain ⟨Ab, cb, rfl, -⟩ := hrb.form
          simp only [List.length_nil]
          clear hra hrb hb2 HRA HCV
          obtain ⟨c0, c1⟩ := HBC.out w2 HB2.out.2.2
          go_wp2_with fail
          refine (HRV.out w2).mono ?_
          rintro e w3 ⟨rfl, hb3⟩
          have HB3 : Hid (Below B w w3 ∧ B ≤ w3.heap.size ∧ True) := Lib.hid ⟨HB2.out.1.trans (hb3.mono HB2.out.2.1), Nat.le_trans HB2.out.2.1 hb3.size, trivial⟩
          clear hb3 c0 c1
          go_wp2_with fail
          refine (HA.out w3).mono ?_
          rintro e w5 ⟨rfl, hb5⟩
          have HB5 := Lib.hid (HB3.out.1.trans (hb5.mono HB3.out.2.1))
          clear hb5
          go_wp2_with fail
          go_ret
          exact ⟨rfl, HB5.out⟩
        | true =>
          have e2 : (if 4096 < i then (2 : Int) else if okS (s1, s2) = true then 0 else 8) = 0 := by rw [if_neg (by have := HNN.out; omega), HQ.out]; rfl
          have e3 : (if (0 : Int) = 0 then [((s1, s2) : Sp)] else []) = [(s1, s2)] := if_pos rfl
          rw [e2, e3] at HNM HCV
          clear e2 e3
          go_wp2_with fail
          refine HNM.out.mono ?_
          rintro e w1 ⟨⟨va, rfl, hra⟩, hb1⟩
          have HB1 : Hid (Below B w w1 ∧ B ≤ w1.heap.size ∧ Below wr.heap.size wr w1) := Lib.hid ⟨HB0.out.1.trans (hb1.mono HB0.out.2), Nat.le_trans HB0.out.2 hb1.size, hb1⟩
          have HRA := Lib.hid hra
          clear hra hb1 HNM
          go_wp2_with fail
          refine (HCV.out w1 HB1.out.2.2).mono ?_
          rintro e w2 ⟨⟨vb, rfl, hrb⟩, hb2⟩
          have HB2 : Hid (Below B w w2 ∧ B ≤ w2.heap.size ∧ Below wr.heap.size wr w2) := Lib.hid ⟨HB1.out.1.trans (hb2.mono HB1.out.2.1), Nat.le_trans HB1.out.2.1 hb2.size, HB1.out.2.2.trans (hb2.mono HB1.out.2.2.size)⟩
          have hra := HRA.out.below stays_sp hb2
          obtain ⟨c0, c1⟩ := HBC.out w2 HB2.out.2.2
          have HRA2 := Lib.hid hra
          have HRB2 := Lib.hid hrb
          clear hra hrb hb2 HRA HCV
          obtain ⟨Aa, ca, rfl, -⟩ := HRA2.out.form
          obtain ⟨Ab, cb, rfl, -⟩ := HRB2.out.form
          simp only [List.length_cons, List.length_nil, Nat.zero_add] at HRA2 HRB2 ⊢
          go_wp2_with fail
          refine (HRV.out w2).mono ?_
          rintro e w3 ⟨rfl, hb3⟩
          have HB3 : Hid (Below B w w3 ∧ B ≤ w3.heap.size ∧ Below wr.heap.size wr w3) := Lib.hid ⟨HB2.out.1.trans (hb3.mono HB2.out.2.1), Nat.le_trans HB2.out.2.1 hb3.size, HB2.out.2.2.trans (hb3.mono HB2.out.2.2.size)⟩
          have hra := HRA2.out.below stays_sp hb3
          have hrb := HRB2.out.below stays_sp hb3
          obtain ⟨b1, o1, rfl, _, hj1⟩ := at_sp hra (by simp)
          obtain ⟨b2, o2, rfl, _, hj2⟩ := at_sp hrb (by simp)
          obtain ⟨a0, a1⟩ := hj1 0 (s1, s2) rfl
          obtain ⟨d0, d1⟩ := hj2 0 (s1, s2) rfl
          rw [Nat.zero_mul, Nat.add_zero] at a0 a1 d0 d1
          simp only at a0 a1 d0 d1
          clear c0 c1
          obtain ⟨c0, c1⟩ := HBC.out w3 HB3.out.2.2
          clear hb3 hra hrb hj1 hj2 HRA2 HRB2
          go_wp2_with fail
          go_still_tail 31, (by kernel_rfl)
          change wpList _ _ _ _ _ w3.drew
          obtain ⟨w4, hw4⟩ : ∃ w4, w3.drew = w4 := ⟨_, rfl⟩
          have HB4 : Hid (Below B w w4 ∧ B ≤ w4.heap.size ∧ True) := Lib.hid (by rw [← hw4]; exact ⟨HB3.out.1.drew, HB3.out.2.1, trivial⟩)
          rw [hw4]
          clear hw4 a0 a1 d0 d1 c0 c1
          go_wp2_with fail
          refine (HA.out w4).mono ?_
          rintro e w5 ⟨rfl, hb5⟩
          have HB5 := Lib.hid (HB4.out.1.trans (hb5.mono HB4.out.2.1))
          clear hb5
          go_wp2_with fail
          go_ret
          exact ⟨rfl, HB5.out⟩
  | true =>
    obtain ⟨n, hn⟩ : ∃ n : Nat, n = 4097 := ⟨_, rfl⟩
    have hni : (4097 : Int) = (n : Int) := by omega
    have HNI := Lib.hid hni
    have HNN := Lib.hid hn
    have hn5 : n ≤ 5000 := by omega
    have hn0 : 0 < n := by omega
    clear hn hni
    go_upto_region 4 with fail
    rw [HX.out, HB.out, HNI.out]
    obtain ⟨N1, hN1⟩ : ∃ N1, X.heap.size = N1 := ⟨_, rfl⟩
    obtain ⟨W0, hW0⟩ : ∃ W0, X.alloc (.cells (spRow (fillL (fun _ => (s1, s2)) (l0 n) 0)) 31) = W0 := ⟨_, rfl⟩
    have hmk : (Instr.makeSlice 22 (.int .i64 n) (.int .i64 n)).run Try.prog X = .ok (.slice (some ⟨N1, 0, none⟩) n n) W0 := by rw [← hW0, ← hN1]; exact HMK.out n X hn5
    have hb0 : W0.heap[N1]? = some (.cells (spRow (fillL (fun _ => (s1, s2)) (l0 n) 0)) 31 (0, 0)) := by rw [← hW0, ← hN1]; exact block_new _ _
    have hbw : Below N1 X W0 := by rw [← hW0, ← hN1]; exact below_box _ _
    have HN1 := Lib.hid hN1
    have HB0 := Lib.hid hb0
    have HBW := Lib.hid hbw
    clear hN1 hW0 hb0 hbw
    go_wp2_with fail
    clear hmk
    go_loopw [7, 19] (fun _ kv wr => ∃ i : Nat, i ≤ n ∧ kv = .int .i64 i ∧ Hid (wr.heap[N1]? = some (.cells (spRow (fillL (fun _ => (s1, s2)) (l0 n) i)) 31 (0, 0))) ∧ Hid (Below N1 X wr)) (fun _ kv _ => n - (Go.RowKit.intOf kv).toNat)
    case atStart => exact ⟨0, Nat.zero_le _, rfl, HB0, HBW⟩
    case round =>
      clear HB0 HBW HMK
      obtain ⟨i, hi, rfl, HR, HL⟩ := hrel
      by_cases hlt : i < n
      · have hst := fillL_step (pt := fun _ => ((s1, s2) : Sp)) (l := l0 n) (i := i) (x := (l0 n)[i]'(by rw [HLEN.out]; exact hlt)) (List.getElem?_eq_getElem _)
        obtain ⟨c0, c1⟩ := HC.out wr (by rw [HN1.out]; exact HL.out)
        obtain ⟨u0, hu0⟩ : ∃ u, (spRow (fillL (fun _ => (s1, s2)) (l0 n) i))[i * 2]? = some u := ⟨_, Array.getElem?_eq_getElem (by rw [spRow_size, fillL_len, HLEN.out]; omega)⟩
        obtain ⟨u1, hu1⟩ : ∃ u, (spRow (fillL (fun _ => (s1, s2)) (l0 n) i))[i * 2 + 1]? = some u := ⟨_, Array.getElem?_eq_getElem (by rw [spRow_size, fillL_len, HLEN.out]; omega)⟩
        have k0 := cell_of HR.out hu0
        have k1 := cell_of HR.out hu1
        have f0 : wr.frozen? ⟨N1, i * 2, none⟩ = false := frozen_of HR.out
        have f1 : wr.frozen? ⟨N1, i * 2 + 1, none⟩ = false := frozen_of HR.out
        have HST := Lib.hid hst
        have hii : (i : Int) < (n : Int) := by omega
        clear hst hu0 hu1
        go_wp2_with fail
        refine ⟨⟨i + 1, by omega, by go_num, Lib.hid ?_, Lib.hid ((HL.out.setCell (p := ⟨N1, i * 2, none⟩) (Nat.le_refl _) _).setCell (p := ⟨N1, i * 2 + 1, none⟩) (Nat.le_refl _) _)⟩, by simp only [Go.RowKit.intOf]; omega⟩
        rw [set_of (set_of HR.out _) _, HST.out, ← spRow_set2 (by rw [fillL_len, HLEN.out]; exact hlt)]
      · obtain rfl : i = n := by omega
        have hrow := HR.out
        rw [HALL.out] at hrow
        have hr := rows_sp (n := i) (cap := i) (by simp) (Nat.le_refl _) hrow
        have hN1l : N1 < wr.heap.size := (Array.getElem?_eq_some_iff.1 hrow).1
        have HB0 : Hid (Below B w wr ∧ B ≤ wr.heap.size) := Lib.hid ⟨HBX.out.1.trans (HL.out.mono (by rw [← HN1.out]; exact HBX.out.2)), by have h2 := HBX.out.2; have := HN1.out; omega⟩
        have HBC := Lib.hid (fun W (h : Below wr.heap.size wr W) => HC.out W (by rw [HN1.out]; exact HL.out.trans (h.mono (Nat.le_of_lt hN1l))))
        have HNM := Lib.hid (normalize_any hr)
        have HCV := Lib.hid (fun W (h : Below wr.heap.size wr W) => cover_any (hr.below stays_sp h))
        have hck := chk_rep (s := (s1, s2)) hn0
        unfold NorV norL at HNM
        unfold NorV cvL at HCV
        rw [norm_rep (s := (s1, s2)) hn0, hck] at HNM
        rw [cov_rep (s := (s1, s2)) hn0, hck] at HCV
        clear hrow hr hck HR hN1l
        have e2 : (if 4096 < i then (2 : Int) else if okS (s1, s2) = true then 0 else 8) = 2 := if_pos (by have := HNN.out; omega)
        have e3 : (if (2 : Int) = 0 then [((s1, s2) : Sp)] else []) = [] := if_neg (by decide)
        rw [e2, e3] at HNM HCV
        clear e2 e3
        go_wp2_with fail
        refine HNM.out.mono ?_
        rintro e w1 ⟨⟨va, rfl, hra⟩, hb1⟩
        have HB1 : Hid (Below B w w1 ∧ B ≤ w1.heap.size ∧ Below wr.heap.size wr w1) := Lib.hid ⟨HB0.out.1.trans (hb1.mono HB0.out.2), Nat.le_trans HB0.out.2 hb1.size, hb1⟩
        have HRA := Lib.hid hra
        clear hra hb1 HNM
        go_wp2_with fail
        refine (HCV.out w1 HB1.out.2.2).mono ?_
        rintro e w2 ⟨⟨vb, rfl, hrb⟩, hb2⟩
        have HB2 : Hid (Below B w w2 ∧ B ≤ w2.heap.size ∧ Below wr.heap.size wr w2) := Lib.hid ⟨HB1.out.1.trans (hb2.mono HB1.out.2.1), Nat.le_trans HB1.out.2.1 hb2.size, HB1.out.2.2.trans (hb2.mono HB1.out.2.2.size)⟩
        have hra := HRA.out.below stays_sp hb2
        obtain ⟨Aa, ca, rfl, -⟩ := hra.form
        obtain ⟨Ab, cb, rfl, -⟩ := hrb.form
        simp only [List.length_nil]
        clear hra hrb hb2 HRA HCV
        go_wp2_with fail
        refine (HA.out w2).mono ?_
        rintro e w5 ⟨rfl, hb5⟩
        have HB5 := Lib.hid (HB2.out.1.trans (hb5.mono HB2.out.2.1))
        clear hb5
        go_wp2_with fail
        go_ret
        exact ⟨rfl, HB5.out⟩

theorem own : ownKnob Try.prog.godebug = none := by kernel_rfl

set_option maxRecDepth 100000 in
theorem lifted (os : Os) (started : os.Started) (H : Type) (enc : TypeId × Value → H) :
    ReturnsInHanded {} Try.checked os 4 .any (Rows.intervalLimitsSpec.pre6 enc Try.prog Try.f4 Rows.intervalLimitsRow.domain false) (Rows.intervalLimitsSpec.post enc Try.prog Try.f4 false true false false) := by
  refine returnsInHanded_of_change (C := Try.checked) own started (by kernel_rfl) Try.func4
    (ChangeSpec.witness6 (enc := enc) (C := Try.checked) false ⟨#[], #[.bool false, .agg #[.int .i64 0, .int .i64 0]], []⟩ 8 (by kernel_rfl) (by kernel_rfl) (by kernel_rfl) (by kernel_rfl)) ?_
  intro W base args ds gs before hval0 hW hcnd _
  have hval : ∀ (j : Nat) t v, Try.f4.params[j]? = some t → args[j]? = some v → Value.okWide Try.prog W .any base t v := hval0
  have hW' := hW
  have hplt : ∀ x ∈ before, x.block < W.heap.size := fun x hx => hW.lt x hx
  obtain ⟨p, q, hA0, hV, rfl, hfz, hnd⟩ := hW
  have hA : DataW.TrodAll enc Try.prog W 0 (fun _ => true) true Try.f4.params.toList args.toList ds p := hA0
  rw [Try.params4] at hA hval
  obtain ⟨v0, vs0, d0, ds0, p0, q0, hargs, rfl, rfl, h0, r0⟩ := trodAll_cons hA
  obtain ⟨v1, vs1, d1, ds1, p1, q1, rfl, rfl, rfl, h1, r1⟩ := trodAll_cons r0
  obtain ⟨rfl, rfl, rfl⟩ := trodAll_nil r1
  obtain rfl : args = #[v0, v1] := by cases args; simp_all
  obtain ⟨rfl, rfl⟩ := trodVars_none hV
  obtain ⟨b0, rfl⟩ := open_bl (hval 0 4 v0 rfl rfl) h0
  obtain ⟨x1, rfl, m1⟩ := open_sp (hval 1 31 v1 rfl rfl) h1
  clear hA0 hval0
  refine (walk b0 x1 m1).mono fun e W' ⟨he, bel⟩ => ?_
  subst he
  exact ⟨_, rfl, _, _, _, [], _, [], hW', trodAll_mk1 (shut_bool Try.underlying4 _), (trodAll_cons_mk (Below.trod Try.laidOut (by kernel_rfl) (of_decide_eq_true (by kernel_rfl)) h0 bel (fun x hx => hplt x (by simp [hx]))) (trodAll_cons_mk (Below.trod Try.laidOut (by kernel_rfl) (of_decide_eq_true (by kernel_rfl)) h1 bel (fun x hx => hplt x (by simp [hx]))) trodAll_mk0)), rfl, World.keptBut_mono (fun x hx => ⟨hx, Or.inr (by simpa using hx)⟩) (bel.frame (· ∈ _)), fun h => by cases h⟩

theorem over : Rows.intervalLimitsRow.holds Try.pinned (OpenSpec.ofChange Rows.intervalLimitsSpec) :=
  OpenClaim.holds_of_wide 4 Try.f4 rfl rfl rfl rfl rfl rfl rfl ⟨rfl, rfl, rfl, rfl, rfl⟩ rfl rfl rfl rfl rfl (by kernel_rfl) Try.func4 (by kernel_rfl)
    (of_decide_eq_true (by kernel_rfl)) (by unfold Func.isWrapper; first | (rw [if_pos (by decide +kernel)]; kernel_rfl) | (rw [if_neg (by decide +kernel)]; exact ⟨rfl, rfl⟩))
    (fun os started H enc _ => lifted os started H enc)

/-- THE STATEMENT. -/
theorem proved : Rows.IntervalLimitsSaid := over
end Go.Proofs.Ytpkkebojiengpaa.intervalLimits
