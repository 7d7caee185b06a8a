/-
  CorpusEquals is proved: for every corpus and every corpus the call of the law returns true, and each argument reads afterwards as it read before. It has no condition.
-/
import Derived.Test.YtfcnihmfmbmmjaaGreatRows
import Derived.Test.YtfcnihmfmbmmjaaGreatOqU
import Derived.Test.YtfcnihmfmbmmjaaGreatQtZ
import Derived.Test.YtfcnihmfmbmmjaaGreatQsB
import Derived.Test.YtfcnihmfmbmmjaaGreatQmE
import Derived.ProofKit
import Derived.OpenShut
import Derived.Carry
namespace Go.Proofs.YtfcnihmfmbmmjaaGreat.corpusEquals
open Go.ChangeShapes Go.WideShapes Go.ChangeAt Go.RowKit Go.Shelf Go.Lib
set_option linter.unusedVariables false

attribute [local go_sem ↓] Go.wp_at_zero Go.wp_at_succ
theorem lenC_of {c : Cor} (h : rCor c) : LenC c := ⟨h.a.1, ⟨h.t.1, fun t ht => (h.t.2 t ht).1⟩, ⟨h.x.1, fun x hx => (h.x.2 x hx).2.2.2.1⟩, ⟨h.r.1, fun x hx => (h.r.2 x hx).2.2.2.1⟩, h.n.1, h.l.1⟩
set_option maxRecDepth 1000000 in
set_option maxHeartbeats 16000000 in
theorem walk {w : World} (s : Sv) (c : Cor) (hC : CorAt w s c) (hr : rCor c) (s2 : Sv) (d : Cor) (hD : CorAt w s2 d) (hr2 : rCor d) :
    Calls Tryz.prog 10 #[.agg s.arr, .agg s2.arr] w fun e w1 => e = .returned (.bool true) ∧ Below w.heap.size w w1 := by
  have hh1 := hr.h.1
  have hh2 := hr2.h.1
  have hlc := lenC_of hr
  have hld := lenC_of hr2
  have hm1 := fun W (h : Below w.heap.size w W) => corpusEqual_any (w := W) s s2 (hC.below h) (hD.below h) hlc hld hh1 hh2
  have hm2 := fun W (h : Below w.heap.size w W) => refEqual_any (w := W) s s2 (hC.below h) (hD.below h) hlc hld hh1
  have hm3 := fun W (h : Below w.heap.size w W) => corpusEqual_any (w := W) s2 s (hD.below h) (hC.below h) hld hlc hh2 hh1
  have hm4 := fun W (h : Below w.heap.size w W) => corpusEqual_any (w := W) s s (hC.below h) (hC.below h) hlc hlc hh1 hh1
  have hsw : decide (d = c) = decide (c = d) := decide_eq_decide.2 eq_comm
  have hsf : decide (c = c) = true := decide_eq_true rfl
  rw [hsw] at hm3
  rw [hsf] at hm4
  obtain ⟨q, hq⟩ : ∃ q, decide (c = d) = q := ⟨_, rfl⟩
  rw [hq] at hm1 hm2 hm3
  have hhv := fun (W : World) (v : Value) (hv : Rows 7 ECr W v [c, d]) => heavyW_any hv (by simp) (fun x hx => by
    rcases List.mem_cons.1 hx with h | h
    · rw [h]; exact hlc
    · rw [List.mem_singleton.1 h]; exact hld)
  obtain ⟨va, vt, vx, vr, vn, vh, vl⟩ := s
  obtain ⟨ya, yt, yx, yr, yn, yh, yl⟩ := s2
  obtain ⟨A0, p0, h0, q0⟩ := hC.a.form
  obtain ⟨B0, r0, k0, t0⟩ := hD.a.form
  obtain ⟨A1, p1, h1, q1⟩ := hC.t.form
  obtain ⟨B1, r1, k1, t1⟩ := hD.t.form
  obtain ⟨A2, p2, h2, q2⟩ := hC.x.form
  obtain ⟨B2, r2, k2, t2⟩ := hD.x.form
  obtain ⟨A3, p3, h3, q3⟩ := hC.r.form
  obtain ⟨B3, r3, k3, t3⟩ := hD.r.form
  obtain ⟨A4, p4, h4, q4⟩ := hC.n.form
  obtain ⟨B4, r4, k4, t4⟩ := hD.n.form
  obtain ⟨A5, p5, h5, q5⟩ := hC.h.form
  obtain ⟨B5, r5, k5, t5⟩ := hD.h.form
  obtain ⟨A6, p6, h6, q6⟩ := hC.l.form
  obtain ⟨B6, r6, k6, t6⟩ := hD.l.form
  simp only at h0 k0 h1 k1 h2 k2 h3 k3 h4 k4 h5 k5 h6 k6
  subst h0 k0 h1 k1 h2 k2 h3 k3 h4 k4 h5 k5 h6 k6
  obtain ⟨n0, e0⟩ : ∃ n, c.attrs.length = n := ⟨_, rfl⟩
  obtain ⟨m0, g0⟩ : ∃ n, d.attrs.length = n := ⟨_, rfl⟩
  obtain ⟨n1, e1⟩ : ∃ n, c.toks.length = n := ⟨_, rfl⟩
  obtain ⟨m1, g1⟩ : ∃ n, d.toks.length = n := ⟨_, rfl⟩
  obtain ⟨n2, e2⟩ : ∃ n, c.texts.length = n := ⟨_, rfl⟩
  obtain ⟨m2, g2⟩ : ∃ n, d.texts.length = n := ⟨_, rfl⟩
  obtain ⟨n3, e3⟩ : ∃ n, c.regs.length = n := ⟨_, rfl⟩
  obtain ⟨m3, g3⟩ : ∃ n, d.regs.length = n := ⟨_, rfl⟩
  obtain ⟨n4, e4⟩ : ∃ n, c.nodes.length = n := ⟨_, rfl⟩
  obtain ⟨m4, g4⟩ : ∃ n, d.nodes.length = n := ⟨_, rfl⟩
  obtain ⟨n5, e5⟩ : ∃ n, c.heads.length = n := ⟨_, rfl⟩
  obtain ⟨m5, g5⟩ : ∃ n, d.heads.length = n := ⟨_, rfl⟩
  obtain ⟨n6, e6⟩ : ∃ n, c.rels.length = n := ⟨_, rfl⟩
  obtain ⟨m6, g6⟩ : ∃ n, d.rels.length = n := ⟨_, rfl⟩
  simp only [e0, g0, e1, g1, e2, g2, e3, g3, e4, g4, e5, g5, e6, g6, Sv.arr] at hC hD hm1 hm2 hm3 hm4 ⊢
  obtain ⟨N0, hN0⟩ : ∃ N0, w.heap.size = N0 := ⟨_, rfl⟩
  obtain ⟨Y, hY⟩ : ∃ Y, (w.alloc (.cells #[.slice A0 n0 p0, .slice A1 n1 p1, .slice A2 n2 p2, .slice A3 n3 p3, .slice A4 n4 p4, .slice A5 n5 p5, .slice A6 n6 p6] 30)).alloc (.cells #[.slice B0 m0 r0, .slice B1 m1 r1, .slice B2 m2 r2, .slice B3 m3 r3, .slice B4 m4 r4, .slice B5 m5 r5, .slice B6 m6 r6] 30) = Y := ⟨_, rfl⟩
  have hbY : Below w.heap.size w Y := by rw [← hY]; exact (below_box w _).trans ((below_box _ _).mono (by simp))
  have hYs : Y.heap.size = N0 + 1 + 1 := by rw [← hY, ← hN0]; simp
  have y1 : Y.heap[N0]? = some (.cells #[.slice A0 n0 p0, .slice A1 n1 p1, .slice A2 n2 p2, .slice A3 n3 p3, .slice A4 n4 p4, .slice A5 n5 p5, .slice A6 n6 p6] 30 (0, 0)) := by rw [← hY, ← hN0]; exact block_alloc _ (block_new w _)
  have y2 : Y.heap[N0 + 1]? = some (.cells #[.slice B0 m0 r0, .slice B1 m1 r1, .slice B2 m2 r2, .slice B3 m3 r3, .slice B4 m4 r4, .slice B5 m5 r5, .slice B6 m6 r6] 30 (0, 0)) := by
    have := block_new (w.alloc (.cells #[.slice A0 n0 p0, .slice A1 n1 p1, .slice A2 n2 p2, .slice A3 n3 p3, .slice A4 n4 p4, .slice A5 n5 p5, .slice A6 n6 p6] 30)) (.cells #[.slice B0 m0 r0, .slice B1 m1 r1, .slice B2 m2 r2, .slice B3 m3 r3, .slice B4 m4 r4, .slice B5 m5 r5, .slice B6 m6 r6] 30)
    rw [alloc_sz, hN0] at this
    rw [← hY]
    exact this
  obtain ⟨X, hX⟩ : ∃ X, Y.alloc (.cells #[.slice A0 n0 p0, .slice A1 n1 p1, .slice A2 n2 p2, .slice A3 n3 p3, .slice A4 n4 p4, .slice A5 n5 p5, .slice A6 n6 p6, .slice B0 m0 r0, .slice B1 m1 r1, .slice B2 m2 r2, .slice B3 m3 r3, .slice B4 m4 r4, .slice B5 m5 r5, .slice B6 m6 r6] 30) = X := ⟨_, rfl⟩
  have hbYX : Below Y.heap.size Y X := by rw [← hX]; exact below_box Y _
  have hbX : Below w.heap.size w X := hbY.trans (hbYX.mono hbY.size)
  have x1 := block_below y1 hbYX (Array.getElem?_eq_some_iff.1 y1).1
  have x2 := block_below y2 hbYX (Array.getElem?_eq_some_iff.1 y2).1
  have x3 : X.heap[N0 + 1 + 1]? = some (.cells #[.slice A0 n0 p0, .slice A1 n1 p1, .slice A2 n2 p2, .slice A3 n3 p3, .slice A4 n4 p4, .slice A5 n5 p5, .slice A6 n6 p6, .slice B0 m0 r0, .slice B1 m1 r1, .slice B2 m2 r2, .slice B3 m3 r3, .slice B4 m4 r4, .slice B5 m5 r5, .slice B6 m6 r6] 30 (0, 0)) := by
    have := block_new Y (.cells #[.slice A0 n0 p0, .slice A1 n1 p1, .slice A2 n2 p2, .slice A3 n3 p3, .slice A4 n4 p4, .slice A5 n5 p5, .slice A6 n6 p6, .slice B0 m0 r0, .slice B1 m1 r1, .slice B2 m2 r2, .slice B3 m3 r3, .slice B4 m4 r4, .slice B5 m5 r5, .slice B6 m6 r6] 30)
    rw [hYs] at this
    rw [← hX]
    exact this
  have hrow : Rows 7 ECr X (.slice (some ⟨N0 + 1 + 1, 0, none⟩) 2 2) [c, d] := rows_block x3 _ _ rfl fun j x hx => by
    match j, hx with
    | 0, hx => cases hx; exact ⟨_, rfl, ⟨⟨.slice A0 n0 p0, .slice A1 n1 p1, .slice A2 n2 p2, .slice A3 n3 p3, .slice A4 n4 p4, .slice A5 n5 p5, .slice A6 n6 p6⟩, rfl, hC.below hbX⟩, rfl⟩
    | 1, hx => cases hx; exact ⟨_, rfl, ⟨⟨.slice B0 m0 r0, .slice B1 m1 r1, .slice B2 m2 r2, .slice B3 m3 r3, .slice B4 m4 r4, .slice B5 m5 r5, .slice B6 m6 r6⟩, rfl, hD.below hbX⟩, rfl⟩
  rw [← hY] at hX
  have HHV := Lib.hid (hhv X _ hrow)
  have HX := Lib.hid hX
  have HBX0 := Lib.hid hbX
  have HN0 := Lib.hid hN0
  have HX1 := Lib.hid (And.intro x1 x2)
  have HM1 := Lib.hid hm1
  have HM2 := Lib.hid hm2
  have HM3 := Lib.hid hm3
  have HM4 := Lib.hid hm4
  clear hm1 hm2 hm3 hm4 hsw hsf hq hhv hC hr hD hr2 hlc hld hh1 hh2 hrow hX hbX hY hbY hYs y1 y2 hbYX hN0 x1 x2 x3 e0 g0 q0 t0 e1 g1 q1 t1 e2 g2 q2 t2 e3 g3 q3 t3 e4 g4 q4 t4 e5 g5 q5 t5 e6 g6 q6 t6
  go_enter Tryz.func10, Tryz.ntmps10
  go_wp2_with fail
  rw [HX.out, HN0.out]
  refine HHV.out.mono ?_
  rintro e w2 ⟨z, rfl, hb2, hz⟩
  have HB2 := Lib.hid (HBX0.out.trans (hb2.mono HBX0.out.size))
  cases z with
  | true =>
    clear hb2 hz
    go_wp2_with fail
    go_ret
    exact ⟨rfl, HB2.out⟩
  | false =>
    have e1 := block_below HX1.out.1 hb2 (lt_blk HX1.out.1)
    have e2 := block_below HX1.out.2 hb2 (lt_blk HX1.out.2)
    obtain ⟨X1, hX1'⟩ : ∃ X1, w2.drew = X1 := ⟨_, rfl⟩
    have hbX1 : Below w2.heap.size w2 X1 := by rw [← hX1']; exact (Below.refl w2.heap.size w2).drew
    have f1 := block_below e1 hbX1 (lt_blk e1)
    have f2 := block_below e2 hbX1 (lt_blk e2)
    have HS := Lib.hid (fun W (h : Below X1.heap.size X1 W) => show W.cell? ⟨N0, 0, none⟩ = some (.slice A0 n0 p0) ∧ W.cell? ⟨N0, 1, none⟩ = some (.slice A1 n1 p1) ∧ W.cell? ⟨N0, 2, none⟩ = some (.slice A2 n2 p2) ∧ W.cell? ⟨N0, 3, none⟩ = some (.slice A3 n3 p3) ∧ W.cell? ⟨N0, 4, none⟩ = some (.slice A4 n4 p4) ∧ W.cell? ⟨N0, 5, none⟩ = some (.slice A5 n5 p5) ∧ W.cell? ⟨N0, 6, none⟩ = some (.slice A6 n6 p6) ∧ W.cell? ⟨N0 + 1, 0, none⟩ = some (.slice B0 m0 r0) ∧ W.cell? ⟨N0 + 1, 1, none⟩ = some (.slice B1 m1 r1) ∧ W.cell? ⟨N0 + 1, 2, none⟩ = some (.slice B2 m2 r2) ∧ W.cell? ⟨N0 + 1, 3, none⟩ = some (.slice B3 m3 r3) ∧ W.cell? ⟨N0 + 1, 4, none⟩ = some (.slice B4 m4 r4) ∧ W.cell? ⟨N0 + 1, 5, none⟩ = some (.slice B5 m5 r5) ∧ W.cell? ⟨N0 + 1, 6, none⟩ = some (.slice B6 m6 r6) from
      ⟨cell_of (block_below f1 h (lt_blk f1)) rfl, cell_of (block_below f1 h (lt_blk f1)) rfl, cell_of (block_below f1 h (lt_blk f1)) rfl, cell_of (block_below f1 h (lt_blk f1)) rfl, cell_of (block_below f1 h (lt_blk f1)) rfl, cell_of (block_below f1 h (lt_blk f1)) rfl, cell_of (block_below f1 h (lt_blk f1)) rfl, cell_of (block_below f2 h (lt_blk f2)) rfl, cell_of (block_below f2 h (lt_blk f2)) rfl, cell_of (block_below f2 h (lt_blk f2)) rfl, cell_of (block_below f2 h (lt_blk f2)) rfl, cell_of (block_below f2 h (lt_blk f2)) rfl, cell_of (block_below f2 h (lt_blk f2)) rfl, cell_of (block_below f2 h (lt_blk f2)) rfl⟩)
    have hwX : Below w.heap.size w X1 := HB2.out.trans (hbX1.mono HB2.out.size)
    have H1 := Lib.hid (fun W (h : Below X1.heap.size X1 W) => HM1.out W (hwX.trans (h.mono hwX.size)))
    have H2 := Lib.hid (fun W (h : Below X1.heap.size X1 W) => HM2.out W (hwX.trans (h.mono hwX.size)))
    have H3 := Lib.hid (fun W (h : Below X1.heap.size X1 W) => HM3.out W (hwX.trans (h.mono hwX.size)))
    have H4 := Lib.hid (fun W (h : Below X1.heap.size X1 W) => HM4.out W (hwX.trans (h.mono hwX.size)))
    have HAW := Lib.hid (fun (W : World) (_ : Below X1.heap.size X1 W) => awake_any W)
    have HBX := Lib.hid hwX
    have HB0 := Lib.hid (Below.refl X1.heap.size X1)
    replace HX1 := Lib.hid hX1'
    clear hb2 hz e1 e2 f1 f2 hX1' hbX1 hwX HM1 HM2 HM3 HM4
    go_wp2_with fail
    refine wp_region_held_drew (S := (fun w' => w'.cell? ⟨N0, 0, none⟩ = some (.slice A0 n0 p0) ∧ w'.cell? ⟨N0, 1, none⟩ = some (.slice A1 n1 p1) ∧ w'.cell? ⟨N0, 2, none⟩ = some (.slice A2 n2 p2) ∧ w'.cell? ⟨N0, 3, none⟩ = some (.slice A3 n3 p3) ∧ w'.cell? ⟨N0, 4, none⟩ = some (.slice A4 n4 p4) ∧ w'.cell? ⟨N0, 5, none⟩ = some (.slice A5 n5 p5) ∧ w'.cell? ⟨N0, 6, none⟩ = some (.slice A6 n6 p6) ∧ w'.cell? ⟨N0 + 1, 0, none⟩ = some (.slice B0 m0 r0) ∧ w'.cell? ⟨N0 + 1, 1, none⟩ = some (.slice B1 m1 r1) ∧ w'.cell? ⟨N0 + 1, 2, none⟩ = some (.slice B2 m2 r2) ∧ w'.cell? ⟨N0 + 1, 3, none⟩ = some (.slice B3 m3 r3) ∧ w'.cell? ⟨N0 + 1, 4, none⟩ = some (.slice B4 m4 r4) ∧ w'.cell? ⟨N0 + 1, 5, none⟩ = some (.slice B5 m5 r5) ∧ w'.cell? ⟨N0 + 1, 6, none⟩ = some (.slice B6 m6 r6))) (by kernel_rfl) ?_ (fun hHeld => ?_)
    · (try dsimp only); (rw [HX1.out]; exact HS.out X1 HB0.out)
    rw [HX1.out] at hHeld ⊢
    refine wpAnyH_take (i := 0) (oi := ?oi1) (v := ?v1) ?hi1 (by kernel_rfl) (by kernel_rfl) (by kernel_rfl) ?hq1 ?hy1 (by assumption) ?hr1
    case hi1 => (simp only [List.getElem?_toArray, List.getElem?_cons_zero]; rfl)
    case hq1 => exact fun _ _ _ h => h
    case hy1 => exact Or.inl ⟨by rfl, by intro whSw hSw'; (try dsimp only at hSw'); (first | (go_simp; done) | (go_simp; with_reducible rfl))⟩
    try simp only [Act.put, List.setIfInBounds_toArray, List.set_cons_zero, List.set_cons_succ]
    refine wpAnyH_take (i := 1) (oi := ?oi2) (v := ?v2) ?hi2 (by kernel_rfl) (by kernel_rfl) (by kernel_rfl) ?hq2 ?hy2 (by assumption) ?hr2
    case hi2 => (simp only [List.getElem?_toArray, List.getElem?_cons_succ, List.getElem?_cons_zero]; rfl)
    case hq2 => exact fun _ _ _ h => h
    case hy2 => exact Or.inl ⟨by rfl, by intro whSw hSw'; (try dsimp only at hSw'); (first | (go_simp; done) | (go_simp; with_reducible rfl))⟩
    try simp only [Act.put, List.setIfInBounds_toArray, List.set_cons_zero, List.set_cons_succ]
    refine wpAnyH_take (i := 3) (oi := ?oi3) (v := ?v3) ?hi3 (by kernel_rfl) (by kernel_rfl) (by kernel_rfl) ?hq3 ?hy3 (by assumption) ?hr3
    case hi3 => (simp only [List.getElem?_toArray, List.getElem?_cons_succ, List.getElem?_cons_zero]; rfl)
    case hq3 => exact fun _ _ _ h => h
    case hy3 => exact Or.inl ⟨by rfl, by intro whSw hSw'; (try dsimp only at hSw'); (first | (go_simp; done) | (go_simp; with_reducible rfl))⟩
    try simp only [Act.put, List.setIfInBounds_toArray, List.set_cons_zero, List.set_cons_succ]
    refine wpAnyH_take (i := 4) (oi := ?oi4) (v := ?v4) ?hi4 (by kernel_rfl) (by kernel_rfl) (by kernel_rfl) ?hq4 ?hy4 (by assumption) ?hr4
    case hi4 => (simp only [List.getElem?_toArray, List.getElem?_cons_succ, List.getElem?_cons_zero]; rfl)
    case hq4 => exact fun _ _ _ h => h
    case hy4 => exact Or.inl ⟨by rfl, by intro whSw hSw'; (try dsimp only at hSw'); (first | (go_simp; done) | (go_simp; with_reducible rfl))⟩
    try simp only [Act.put, List.setIfInBounds_toArray, List.set_cons_zero, List.set_cons_succ]
    refine wpAnyH_ready (rs := [2]) (by kernel_rfl) (by simp) ?_
    refine AllReadyH.cons (o := ?oo5) ?hi5 (fun K hK => ?hs5) ?hm5
    case hi5 => (simp only [List.getElem?_toArray, List.getElem?_cons_succ, List.getElem?_cons_zero]; rfl)
    · go_simp
      refine (H1.out X1 HB0.out).mono ?_
      rintro e x1 ⟨rfl, hbx1⟩
      have HBx1 := Lib.hid (HB0.out.trans (hbx1.mono HB0.out.size))
      clear hbx1
      (try go_wp2_with fail)
      refine hK.out _ _ ?_ (fun hHeld => ?_)
      · (try dsimp only); exact HS.out x1 HBx1.out
      clear hK K
      try simp only [Act.put, List.setIfInBounds_toArray, List.set_cons_zero, List.set_cons_succ]
      refine wpAnyH_ready (rs := [5]) (by kernel_rfl) (by simp) ?_
      refine AllReadyH.cons (o := ?oo6) ?hi6 (fun K hK => ?hs6) ?hm6
      case hi6 => (simp only [List.getElem?_toArray, List.getElem?_cons_succ, List.getElem?_cons_zero]; rfl)
      · go_simp
        refine (H2.out x1 HBx1.out).mono ?_
        rintro e x2 ⟨rfl, hbx2⟩
        have HBx2 := Lib.hid (HBx1.out.trans (hbx2.mono HBx1.out.size))
        clear hbx2
        (try go_wp2_with fail)
        refine hK.out _ _ ?_ (fun hHeld => ?_)
        · (try dsimp only); exact HS.out x2 HBx2.out
        clear hK K
        try simp only [Act.put, List.setIfInBounds_toArray, List.set_cons_zero, List.set_cons_succ]
        refine wpAnyH_take (i := 6) (oi := ?oi7) (v := ?v7) ?hi7 (by kernel_rfl) (by kernel_rfl) (by kernel_rfl) ?hq7 ?hy7 (by assumption) ?hr7
        case hi7 => (simp only [List.getElem?_toArray, List.getElem?_cons_succ, List.getElem?_cons_zero]; rfl)
        case hq7 => exact fun _ _ _ h => h
        case hy7 => exact Or.inl ⟨by rfl, by intro whSw hSw'; (try dsimp only at hSw'); (first | (go_simp; done) | (go_simp; with_reducible rfl))⟩
        try simp only [Act.put, List.setIfInBounds_toArray, List.set_cons_zero, List.set_cons_succ]
        refine wpAnyH_take (i := 7) (oi := ?oi8) (v := ?v8) ?hi8 (by kernel_rfl) (by kernel_rfl) (by kernel_rfl) ?hq8 ?hy8 (by assumption) ?hr8
        case hi8 => (simp only [List.getElem?_toArray, List.getElem?_cons_succ, List.getElem?_cons_zero]; rfl)
        case hq8 => exact fun _ _ _ h => h
        case hy8 => exact Or.inl ⟨by rfl, by intro whSw hSw'; (try dsimp only at hSw'); (first | (go_simp; done) | (go_simp; with_reducible rfl))⟩
        try simp only [Act.put, List.setIfInBounds_toArray, List.set_cons_zero, List.set_cons_succ]
        refine wpAnyH_take (i := 8) (oi := ?oi9) (v := ?v9) ?hi9 (by kernel_rfl) (by kernel_rfl) (by kernel_rfl) ?hq9 ?hy9 (by assumption) ?hr9
        case hi9 => (simp only [List.getElem?_toArray, List.getElem?_cons_succ, List.getElem?_cons_zero]; rfl)
        case hq9 => exact fun _ _ _ h => h
        case hy9 => exact Or.inl ⟨by rfl, by intro whSw hSw'; (try dsimp only at hSw'); (first | (go_simp; done) | (go_simp; with_reducible rfl))⟩
        try simp only [Act.put, List.setIfInBounds_toArray, List.set_cons_zero, List.set_cons_succ]
        refine wpAnyH_take (i := 9) (oi := ?oi10) (v := ?v10) ?hi10 (by kernel_rfl) (by kernel_rfl) (by kernel_rfl) ?hq10 ?hy10 (by assumption) ?hr10
        case hi10 => (simp only [List.getElem?_toArray, List.getElem?_cons_succ, List.getElem?_cons_zero]; rfl)
        case hq10 => exact fun _ _ _ h => h
        case hy10 => exact Or.inl ⟨by rfl, by intro whSw hSw'; (try dsimp only at hSw'); (first | (go_simp; done) | (go_simp; with_reducible rfl))⟩
        try simp only [Act.put, List.setIfInBounds_toArray, List.set_cons_zero, List.set_cons_succ]
        refine wpAnyH_take (i := 11) (oi := ?oi11) (v := ?v11) ?hi11 (by kernel_rfl) (by kernel_rfl) (by kernel_rfl) ?hq11 ?hy11 (by assumption) ?hr11
        case hi11 => (simp only [List.getElem?_toArray, List.getElem?_cons_succ, List.getElem?_cons_zero]; rfl)
        case hq11 => exact fun _ _ _ h => h
        case hy11 => exact Or.inl ⟨by rfl, by intro whSw hSw'; (try dsimp only at hSw'); (first | (go_simp; done) | (go_simp; with_reducible rfl))⟩
        try simp only [Act.put, List.setIfInBounds_toArray, List.set_cons_zero, List.set_cons_succ]
        refine wpAnyH_take (i := 12) (oi := ?oi12) (v := ?v12) ?hi12 (by kernel_rfl) (by kernel_rfl) (by kernel_rfl) ?hq12 ?hy12 (by assumption) ?hr12
        case hi12 => (simp only [List.getElem?_toArray, List.getElem?_cons_succ, List.getElem?_cons_zero]; rfl)
        case hq12 => exact fun _ _ _ h => h
        case hy12 => exact Or.inl ⟨by rfl, by intro whSw hSw'; (try dsimp only at hSw'); (first | (go_simp; done) | (go_simp; with_reducible rfl))⟩
        try simp only [Act.put, List.setIfInBounds_toArray, List.set_cons_zero, List.set_cons_succ]
        refine wpAnyH_ready (rs := [10]) (by kernel_rfl) (by simp) ?_
        refine AllReadyH.cons (o := ?oo13) ?hi13 (fun K hK => ?hs13) ?hm13
        case hi13 => (simp only [List.getElem?_toArray, List.getElem?_cons_succ, List.getElem?_cons_zero]; rfl)
        · go_simp
          refine (H3.out x2 HBx2.out).mono ?_
          rintro e x3 ⟨rfl, hbx3⟩
          have HBx3 := Lib.hid (HBx2.out.trans (hbx3.mono HBx2.out.size))
          clear hbx3
          (try go_wp2_with fail)
          refine hK.out _ _ ?_ (fun hHeld => ?_)
          · (try dsimp only); exact HS.out x3 HBx3.out
          clear hK K
          try simp only [Act.put, List.setIfInBounds_toArray, List.set_cons_zero, List.set_cons_succ]
          refine wpAnyH_ready (rs := [13]) (by kernel_rfl) (by simp) ?_
          refine AllReadyH.cons (o := ?oo14) ?hi14 (fun K hK => ?hs14) ?hm14
          case hi14 => (simp only [List.getElem?_toArray, List.getElem?_cons_succ, List.getElem?_cons_zero]; rfl)
          · go_simp
            refine (H1.out x3 HBx3.out).mono ?_
            rintro e x4 ⟨rfl, hbx4⟩
            have HBx4 := Lib.hid (HBx3.out.trans (hbx4.mono HBx3.out.size))
            clear hbx4
            (try go_wp2_with fail)
            refine hK.out _ _ ?_ (fun hHeld => ?_)
            · (try dsimp only); exact HS.out x4 HBx4.out
            clear hK K
            try simp only [Act.put, List.setIfInBounds_toArray, List.set_cons_zero, List.set_cons_succ]
            refine wpAnyH_take (i := 14) (oi := ?oi15) (v := ?v15) ?hi15 (by kernel_rfl) (by kernel_rfl) (by kernel_rfl) ?hq15 ?hy15 (by assumption) ?hr15
            case hi15 => (simp only [List.getElem?_toArray, List.getElem?_cons_succ, List.getElem?_cons_zero]; rfl)
            case hq15 => exact fun _ _ _ h => h
            case hy15 => exact Or.inl ⟨by rfl, by intro whSw hSw'; (try dsimp only at hSw'); (first | (go_simp; done) | (go_simp; with_reducible rfl))⟩
            try simp only [Act.put, List.setIfInBounds_toArray, List.set_cons_zero, List.set_cons_succ]
            refine wpAnyH_take (i := 15) (oi := ?oi16) (v := ?v16) ?hi16 (by kernel_rfl) (by kernel_rfl) (by kernel_rfl) ?hq16 ?hy16 (by assumption) ?hr16
            case hi16 => (simp only [List.getElem?_toArray, List.getElem?_cons_succ, List.getElem?_cons_zero]; rfl)
            case hq16 => exact fun _ _ _ h => h
            case hy16 => exact Or.inl ⟨by rfl, by intro whSw hSw'; (try dsimp only at hSw'); (first | (go_simp; done) | (go_simp; with_reducible rfl))⟩
            try simp only [Act.put, List.setIfInBounds_toArray, List.set_cons_zero, List.set_cons_succ]
            refine wpAnyH_take (i := 16) (oi := ?oi17) (v := ?v17) ?hi17 (by kernel_rfl) (by kernel_rfl) (by kernel_rfl) ?hq17 ?hy17 (by assumption) ?hr17
            case hi17 => (simp only [List.getElem?_toArray, List.getElem?_cons_succ, List.getElem?_cons_zero]; rfl)
            case hq17 => exact fun _ _ _ h => h
            case hy17 => exact Or.inl ⟨by rfl, by intro whSw hSw'; (try dsimp only at hSw'); (first | (go_simp; done) | (go_simp; with_reducible rfl))⟩
            try simp only [Act.put, List.setIfInBounds_toArray, List.set_cons_zero, List.set_cons_succ]
            refine wpAnyH_take (i := 17) (oi := ?oi18) (v := ?v18) ?hi18 (by kernel_rfl) (by kernel_rfl) (by kernel_rfl) ?hq18 ?hy18 (by assumption) ?hr18
            case hi18 => (simp only [List.getElem?_toArray, List.getElem?_cons_succ, List.getElem?_cons_zero]; rfl)
            case hq18 => exact fun _ _ _ h => h
            case hy18 => exact Or.inl ⟨by rfl, by intro whSw hSw'; (try dsimp only at hSw'); (first | (go_simp; done) | (go_simp; with_reducible rfl))⟩
            try simp only [Act.put, List.setIfInBounds_toArray, List.set_cons_zero, List.set_cons_succ]
            refine wpAnyH_take (i := 18) (oi := ?oi19) (v := ?v19) ?hi19 (by kernel_rfl) (by kernel_rfl) (by kernel_rfl) ?hq19 ?hy19 (by assumption) ?hr19
            case hi19 => (simp only [List.getElem?_toArray, List.getElem?_cons_succ, List.getElem?_cons_zero]; rfl)
            case hq19 => exact fun _ _ _ h => h
            case hy19 => exact Or.inl ⟨by rfl, by intro whSw hSw'; (try dsimp only at hSw'); (first | (go_simp; done) | (go_simp; with_reducible rfl))⟩
            try simp only [Act.put, List.setIfInBounds_toArray, List.set_cons_zero, List.set_cons_succ]
            refine wpAnyH_ready (rs := [19]) (by kernel_rfl) (by simp) ?_
            refine AllReadyH.cons (o := ?oo20) ?hi20 (fun K hK => ?hs20) ?hm20
            case hi20 => (simp only [List.getElem?_toArray, List.getElem?_cons_succ, List.getElem?_cons_zero]; rfl)
            · go_simp
              refine (H4.out x4 HBx4.out).mono ?_
              rintro e x5 ⟨rfl, hbx5⟩
              have HBx5 := Lib.hid (HBx4.out.trans (hbx5.mono HBx4.out.size))
              clear hbx5
              (try go_wp2_with fail)
              refine hK.out _ _ ?_ (fun hHeld => ?_)
              · (try dsimp only); exact HS.out x5 HBx5.out
              clear hK K
              try simp only [Act.put, List.setIfInBounds_toArray, List.set_cons_zero, List.set_cons_succ]
              refine wpAnyH_take (i := 20) (oi := ?oi21) (v := ?v21) ?hi21 (by kernel_rfl) (by kernel_rfl) (by kernel_rfl) ?hq21 ?hy21 (by assumption) ?hr21
              case hi21 => (simp only [List.getElem?_toArray, List.getElem?_cons_succ, List.getElem?_cons_zero]; rfl)
              case hq21 => exact fun _ _ _ h => h
              case hy21 => exact Or.inl ⟨by rfl, by intro whSw hSw'; (try dsimp only at hSw'); (first | (go_simp; done) | (go_simp; with_reducible rfl))⟩
              try simp only [Act.put, List.setIfInBounds_toArray, List.set_cons_zero, List.set_cons_succ]
              refine wpAnyH_take (i := 21) (oi := ?oi22) (v := ?v22) ?hi22 (by kernel_rfl) (by kernel_rfl) (by kernel_rfl) ?hq22 ?hy22 (by assumption) ?hr22
              case hi22 => (simp only [List.getElem?_toArray, List.getElem?_cons_succ, List.getElem?_cons_zero]; rfl)
              case hq22 => exact fun _ _ _ h => h
              case hy22 => exact Or.inl ⟨by rfl, by intro whSw hSw'; (try dsimp only at hSw'); (first | (go_simp; done) | (go_simp; with_reducible rfl))⟩
              try simp only [Act.put, List.setIfInBounds_toArray, List.set_cons_zero, List.set_cons_succ]
              refine wpAnyH_ready (rs := [22]) (by kernel_rfl) (by simp) ?_
              refine AllReadyH.cons (o := ?oo23) ?hi23 (fun K hK => ?hs23) ?hm23
              case hi23 => (simp only [List.getElem?_toArray, List.getElem?_cons_succ, List.getElem?_cons_zero]; rfl)
              · go_simp
                refine (HAW.out x5 HBx5.out).mono ?_
                rintro e x6 ⟨rfl, hbx6⟩
                have HBx6 := Lib.hid (HBx5.out.trans (hbx6.mono HBx5.out.size))
                clear hbx6
                (try go_wp2_with fail)
                refine hK.out _ _ ?_ (fun hHeld => ?_)
                · (try dsimp only); exact HS.out x6 HBx6.out
                clear hK K
                try simp only [Act.put, List.setIfInBounds_toArray, List.set_cons_zero, List.set_cons_succ]
                refine wpAnyH_take (i := 23) (oi := ?oi24) (v := ?v24) ?hi24 (by kernel_rfl) (by kernel_rfl) (by kernel_rfl) ?hq24 ?hy24 (by assumption) ?hr24
                case hi24 => (simp only [List.getElem?_toArray, List.getElem?_cons_succ, List.getElem?_cons_zero]; rfl)
                case hq24 => exact fun _ _ _ h => h
                case hy24 => exact Or.inl ⟨by rfl, by intro whSw hSw'; (try dsimp only at hSw'); (first | (go_simp; done) | (go_simp; with_reducible rfl))⟩
                try simp only [Act.put, List.setIfInBounds_toArray, List.set_cons_zero, List.set_cons_succ]
                refine wpAnyH_take (i := 24) (oi := ?oi25) (v := ?v25) ?hi25 (by kernel_rfl) (by kernel_rfl) (by kernel_rfl) ?hq25 ?hy25 (by assumption) ?hr25
                case hi25 => (simp only [List.getElem?_toArray, List.getElem?_cons_succ, List.getElem?_cons_zero]; rfl)
                case hq25 => exact fun _ _ _ h => h
                case hy25 => exact Or.inl ⟨by rfl, by intro whSw hSw'; (try dsimp only at hSw'); (first | (go_simp; done) | (go_simp; with_reducible rfl))⟩
                try simp only [Act.put, List.setIfInBounds_toArray, List.set_cons_zero, List.set_cons_succ]
                refine wpAnyH_done (by kernel_rfl) ?_ _
                go_wp2_with fail
                go_ret
                exact ⟨rfl, HBX.out.trans (HBx6.out.mono HBX.out.size)⟩
              exact AllReadyH.nil
            exact AllReadyH.nil
          exact AllReadyH.nil
        exact AllReadyH.nil
      exact AllReadyH.nil
    exact AllReadyH.nil

theorem own : ownKnob Tryz.prog.godebug = none := by kernel_rfl

set_option maxRecDepth 100000 in
theorem lifted (os : Os) (started : os.Started) (H : Type) (enc : TypeId × Value → H) :
    ReturnsInHanded {} Tryz.checked os 10 .any (Rows.corpusEqualsSpec.pre6 enc Tryz.prog Tryz.f10 Rows.corpusEqualsRow.domain false) (Rows.corpusEqualsSpec.post enc Tryz.prog Tryz.f10 false true false false) := by
  refine returnsInHanded_of_change (C := Tryz.checked) own started (by kernel_rfl) Tryz.func10
    (ChangeSpec.witness6 (enc := enc) (C := Tryz.checked) false ⟨#[], #[.agg #[.slice none 0 0, .slice none 0 0, .slice none 0 0, .slice none 0 0, .slice none 0 0, .slice none 0 0, .slice none 0 0], .agg #[.slice none 0 0, .slice none 0 0, .slice none 0 0, .slice none 0 0, .slice none 0 0, .slice none 0 0, .slice none 0 0]], []⟩ 8 (by kernel_rfl) (by kernel_rfl) (by kernel_rfl) (by kernel_rfl)) ?_
  intro W base args ds gs before hval0 hW hcnd _
  have hval : ∀ (j : Nat) t v, Tryz.f10.params[j]? = some t → args[j]? = some v → Value.okWide Tryz.prog W .any base t v := hval0
  have hW' := hW
  have hplt : ∀ x ∈ before, x.block < W.heap.size := fun x hx => hW.lt x hx
  obtain ⟨p, q, hA0, hV, rfl, hfz, hnd⟩ := hW
  have hA : DataW.TrodAll enc Tryz.prog W 0 (fun _ => true) true Tryz.f10.params.toList args.toList ds p := hA0
  rw [Tryz.params10] at hA hval
  obtain ⟨v0, vs0, d0, ds0, p0, q0, hargs, rfl, rfl, h0, r0⟩ := trodAll_cons hA
  obtain ⟨v1, vs1, d1, ds1, p1, q1, rfl, rfl, rfl, h1, r1⟩ := trodAll_cons r0
  obtain ⟨rfl, rfl, rfl⟩ := trodAll_nil r1
  obtain rfl : args = #[v0, v1] := by cases args; simp_all
  obtain ⟨rfl, rfl⟩ := trodVars_none hV
  obtain ⟨s0, c0, rfl, k0, m0, -⟩ := open_cor (hval 0 30 v0 rfl rfl) h0
  obtain ⟨s1, c1, rfl, k1, m1, -⟩ := open_cor (hval 1 30 v1 rfl rfl) h1
  clear hA0 hval0
  refine (walk s0 c0 k0 m0 s1 c1 k1 m1).mono fun e W' ⟨he, bel⟩ => ?_
  subst he
  exact ⟨_, rfl, _, _, _, [], _, [], hW', trodAll_mk1 (shut_bool Tryz.underlying4 _), (trodAll_cons_mk (Below.trod Tryz.laidOut (by kernel_rfl) (of_decide_eq_true (by kernel_rfl)) h0 bel (fun x hx => hplt x (by simp [hx]))) (trodAll_cons_mk (Below.trod Tryz.laidOut (by kernel_rfl) (of_decide_eq_true (by kernel_rfl)) h1 bel (fun x hx => hplt x (by simp [hx]))) trodAll_mk0)), rfl, World.keptBut_mono (fun x hx => ⟨hx, Or.inr (by simpa using hx)⟩) (bel.frame (· ∈ _)), fun h => by cases h⟩

theorem over : Rows.corpusEqualsRow.holds Tryz.pinned (OpenSpec.ofChange Rows.corpusEqualsSpec) :=
  OpenClaim.holds_of_wide 10 Tryz.f10 rfl rfl rfl rfl rfl rfl rfl ⟨rfl, rfl, rfl, rfl, rfl⟩ rfl rfl rfl rfl rfl (by kernel_rfl) Tryz.func10 (by kernel_rfl)
    (of_decide_eq_true (by kernel_rfl)) (by unfold Func.isWrapper; first | (rw [if_pos (by decide +kernel)]; kernel_rfl) | (rw [if_neg (by decide +kernel)]; exact ⟨rfl, rfl⟩))
    (fun os started H enc _ => lifted os started H enc)

/-- THE STATEMENT. -/
theorem proved : Rows.CorpusEqualsSaid := over
end Go.Proofs.YtfcnihmfmbmmjaaGreat.corpusEquals
