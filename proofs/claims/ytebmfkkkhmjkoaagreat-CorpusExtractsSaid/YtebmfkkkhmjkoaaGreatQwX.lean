/-
 CorpusExtracts is proved: for every corpus and every number the call of the law returns true, and each argument reads afterwards as it read before. It has no condition.
-/
import Derived.Test.YtebmfkkkhmjkoaaGreatRows
import Derived.Test.YtebmfkkkhmjkoaaGreatOqU
import Derived.Test.YtebmfkkkhmjkoaaGreatQyE
import Derived.Test.YtebmfkkkhmjkoaaGreatQmV
import Derived.Test.YtebmfkkkhmjkoaaGreatQsB
import Derived.Test.YtebmfkkkhmjkoaaGreatQmE
import Derived.ProofKit
import Derived.OpenShut
import Derived.Carry
namespace Go.Proofs.YtebmfkkkhmjkoaaGreat.corpusExtracts
open Go.ChangeShapes Go.WideShapes Go.ChangeAt Go.RowKit Go.Shelf Go.Lib
set_option linter.unusedVariables false

attribute [local go_sem ↓] Go.wp_at_zero Go.wp_at_succ
theorem lenC_of {c : Cor} (h : rCor c) : LenC c := ⟨h.a.1, ⟨h.t.1, fun t ht => (h.t.2 t ht).1⟩, ⟨h.x.1, fun x hx => (h.x.2 x hx).2.2.2.1⟩, ⟨h.r.1, fun x hx => (h.r.2 x hx).2.2.2.1⟩, h.n.1, h.l.1⟩
theorem fits_of {c : Cor} (h : rCor c) (b : Bnd c) : Fits c :=
 ⟨by have := b.2.2.2.2; omega, h.a.2, by have := b.1; omega, h.t.2, by have := b.2.1; omega, fun x hx => ⟨(h.x.2 x hx).1, (h.x.2 x hx).2.2.2.1, (h.x.2 x hx).2.2.2.2⟩, by have := b.2.2.1; omega, fun x hx => ⟨(h.r.2 x hx).1, (h.r.2 x hx).2.2.2.1, (h.r.2 x hx).2.2.2.2⟩, by have := b.2.2.2.1; omega, fun x hx => (h.n.2 x hx).1, h.h.1, h.l.1, h.l.2⟩
set_option maxRecDepth 1000000 in
set_option maxHeartbeats 8000000 in
theorem walk {w : World} (s : Sv) (c : Cor) (hC : CorAt w s c) (hr : rCor c)  (pos : Int) (hp1 : -9223372036854775808 ≤ pos) (hp2 : pos ≤ 9223372036854775807):
 Calls Tryz.prog 5 #[.agg s.arr, .int .i64 pos] w fun e w1 => e = .returned (.bool true) ∧ Below w.heap.size w w1 := by
 have hm1 := fun (hF : Fits c) W (h : Below w.heap.size w W) => extract_any (w := W) s pos (hC.below h) hF
 have hm2 := fun (hF : Fits c) W (h : Below w.heap.size w W) => refExtract_any (w := W) s pos (hC.below h) hF
 rw [extractC_ref] at hm1
 have hrl := lenC_refExtract (lenC_of hr) hr.h.1 pos
 obtain ⟨⟨rc, ze⟩, hz⟩ : ∃ z, refExtractC c pos = z := ⟨_, rfl⟩
 rw [hz] at hm1 hm2 hrl
 have hlen := lenC_of hr
 have hfit := fun b => fits_of hr b
 have hhv := fun (W : World) (v : Value) (hv : Rows 7 ECr W v [c]) => heavyW_any hv (by simp) (fun x hx => by rw [List.mem_singleton.1 hx]; exact hlen)
 obtain ⟨va, vt, vx, vr, vn, vh, vl⟩ := s
 obtain ⟨A0, p0, h0, q0⟩ := hC.a.form
 obtain ⟨A1, p1, h1, q1⟩ := hC.t.form
 obtain ⟨A2, p2, h2, q2⟩ := hC.x.form
 obtain ⟨A3, p3, h3, q3⟩ := hC.r.form
 obtain ⟨A4, p4, h4, q4⟩ := hC.n.form
 obtain ⟨A5, p5, h5, q5⟩ := hC.h.form
 obtain ⟨A6, p6, h6, q6⟩ := hC.l.form
 simp only at h0 h1 h2 h3 h4 h5 h6
 subst h0 h1 h2 h3 h4 h5 h6
 obtain ⟨n0, e0⟩ : ∃ n, c.attrs.length = n := ⟨_, rfl⟩
 obtain ⟨n1, e1⟩ : ∃ n, c.toks.length = n := ⟨_, rfl⟩
 obtain ⟨n2, e2⟩ : ∃ n, c.texts.length = n := ⟨_, rfl⟩
 obtain ⟨n3, e3⟩ : ∃ n, c.regs.length = n := ⟨_, rfl⟩
 obtain ⟨n4, e4⟩ : ∃ n, c.nodes.length = n := ⟨_, rfl⟩
 obtain ⟨n5, e5⟩ : ∃ n, c.heads.length = n := ⟨_, rfl⟩
 obtain ⟨n6, e6⟩ : ∃ n, c.rels.length = n := ⟨_, rfl⟩
 simp only [e0, e1, e2, e3, e4, e5, e6, Sv.arr] at hC hm1 hm2 hrl ⊢
 obtain ⟨N0, hN0⟩ : ∃ N0, w.heap.size = N0 := ⟨_, rfl⟩
 obtain ⟨X, hX⟩ : ∃ X, (w.alloc (.cells #[.slice A0 n0 p0, .slice A1 n1 p1, .slice A2 n2 p2, .slice A3 n3 p3, .slice A4 n4 p4, .slice A5 n5 p5, .slice A6 n6 p6] 30)).alloc (.cells #[.slice A0 n0 p0, .slice A1 n1 p1, .slice A2 n2 p2, .slice A3 n3 p3, .slice A4 n4 p4, .slice A5 n5 p5, .slice A6 n6 p6] 30) = X := ⟨_, rfl⟩
 have hbX : Below w.heap.size w X := by rw [← hX]; exact (below_box w _).trans ((below_box _ _).mono (by simp))
 have x1 : X.heap[N0]? = some (.cells #[.slice A0 n0 p0, .slice A1 n1 p1, .slice A2 n2 p2, .slice A3 n3 p3, .slice A4 n4 p4, .slice A5 n5 p5, .slice A6 n6 p6] 30 (0, 0)) := by rw [← hX, ← hN0]; exact block_alloc _ (block_new w _)
 have x2 : X.heap[N0 + 1]? = some (.cells #[.slice A0 n0 p0, .slice A1 n1 p1, .slice A2 n2 p2, .slice A3 n3 p3, .slice A4 n4 p4, .slice A5 n5 p5, .slice A6 n6 p6] 30 (0, 0)) := by
  have := block_new (w.alloc (.cells #[.slice A0 n0 p0, .slice A1 n1 p1, .slice A2 n2 p2, .slice A3 n3 p3, .slice A4 n4 p4, .slice A5 n5 p5, .slice A6 n6 p6] 30)) (.cells #[.slice A0 n0 p0, .slice A1 n1 p1, .slice A2 n2 p2, .slice A3 n3 p3, .slice A4 n4 p4, .slice A5 n5 p5, .slice A6 n6 p6] 30)
  rw [alloc_sz, hN0] at this
  rw [← hX]
  exact this
 have hrow : Rows 7 ECr X (.slice (some ⟨N0 + 1, 0, none⟩) 1 1) [c] := rows_block x2 _ _ rfl fun j x hx => by
  match j, hx with
  | 0, hx => cases hx; exact ⟨_, rfl, ⟨⟨.slice A0 n0 p0, .slice A1 n1 p1, .slice A2 n2 p2, .slice A3 n3 p3, .slice A4 n4 p4, .slice A5 n5 p5, .slice A6 n6 p6⟩, rfl, hC.below hbX⟩, rfl⟩
 have HHV := Lib.hid (hhv X _ hrow)
 have HX := Lib.hid hX
 have HBX0 := Lib.hid hbX
 have HN0 := Lib.hid hN0
 have HX1 := Lib.hid x1
 have HFIT := Lib.hid hfit
 have HM1 := Lib.hid hm1
 have HM2 := Lib.hid hm2
 have HRL := Lib.hid hrl
 clear hm1 hm2 hrl hlen hfit hhv hC hr hrow hX hbX hN0 x1 x2 hz hp1 hp2 e0 q0 e1 q1 e2 q2 e3 q3 e4 q4 e5 q5 e6 q6
 go_enter Tryz.func5, Tryz.ntmps5
 go_wp2_with fail
 rw [HX.out, HN0.out]
 refine HHV.out.mono ?_
 rintro e w2 ⟨q, rfl, hb2, hq⟩
 have HB2 := Lib.hid (HBX0.out.trans (hb2.mono HBX0.out.size))
 cases q with
 | true =>
   clear hb2 hq
   go_wp2_with fail
   go_ret
   exact ⟨rfl, HB2.out⟩
 | false =>
   have HFT := Lib.hid (HFIT.out (hq rfl c (by simp)))
   have f1 := block_below HX1.out hb2 (lt_blk HX1.out)
   have HF1 := Lib.hid f1
   have c0 : w2.cell? ⟨N0, 0, none⟩ = some (.slice A0 n0 p0) := cell_of f1 rfl
   have c1 : w2.cell? ⟨N0, 1, none⟩ = some (.slice A1 n1 p1) := cell_of f1 rfl
   have c2 : w2.cell? ⟨N0, 2, none⟩ = some (.slice A2 n2 p2) := cell_of f1 rfl
   have c3 : w2.cell? ⟨N0, 3, none⟩ = some (.slice A3 n3 p3) := cell_of f1 rfl
   have c4 : w2.cell? ⟨N0, 4, none⟩ = some (.slice A4 n4 p4) := cell_of f1 rfl
   have c5 : w2.cell? ⟨N0, 5, none⟩ = some (.slice A5 n5 p5) := cell_of f1 rfl
   have c6 : w2.cell? ⟨N0, 6, none⟩ = some (.slice A6 n6 p6) := cell_of f1 rfl
   clear hb2 hq f1 HHV HFIT
   go_wp2_with fail
   refine (HM1.out HFT.out _ HB2.out).mono ?_
   rintro e w3 ⟨s3, rfl, hcf, hfull, hb3⟩
   have h3 := hcf.at'
   clear hcf hfull
   obtain ⟨vra, vrt, vrx, vrr, vrn, vrh, vrl⟩ := s3
   obtain ⟨B0, r0, z0, -⟩ := h3.a.form
   obtain ⟨B1, r1, z1, -⟩ := h3.t.form
   obtain ⟨B2, r2, z2, -⟩ := h3.x.form
   obtain ⟨B3, r3, z3, -⟩ := h3.r.form
   obtain ⟨B4, r4, z4, -⟩ := h3.n.form
   obtain ⟨B5, r5, z5, -⟩ := h3.h.form
   obtain ⟨B6, r6, z6, -⟩ := h3.l.form
   simp only at z0 z1 z2 z3 z4 z5 z6
   subst z0 z1 z2 z3 z4 z5 z6
   obtain ⟨m0, z0⟩ : ∃ n, rc.attrs.length = n := ⟨_, rfl⟩
   obtain ⟨m1, z1⟩ : ∃ n, rc.toks.length = n := ⟨_, rfl⟩
   obtain ⟨m2, z2⟩ : ∃ n, rc.texts.length = n := ⟨_, rfl⟩
   obtain ⟨m3, z3⟩ : ∃ n, rc.regs.length = n := ⟨_, rfl⟩
   obtain ⟨m4, z4⟩ : ∃ n, rc.nodes.length = n := ⟨_, rfl⟩
   obtain ⟨m5, z5⟩ : ∃ n, rc.heads.length = n := ⟨_, rfl⟩
   obtain ⟨m6, z6⟩ : ∃ n, rc.rels.length = n := ⟨_, rfl⟩
   simp only [z0, z1, z2, z3, z4, z5, z6] at h3 ⊢
   clear z0 z1 z2 z3 z4 z5 z6
   have HB3 := Lib.hid (HB2.out.trans (hb3.mono HB2.out.size))
   have f3 := block_below HF1.out hb3 (lt_blk HF1.out)
   obtain ⟨M3, hM3⟩ : ∃ M, w3.heap.size = M := ⟨_, rfl⟩
   obtain ⟨w4, hw4⟩ : ∃ W, w3.alloc (.cells #[.slice B0 m0 r0, .slice B1 m1 r1, .slice B2 m2 r2, .slice B3 m3 r3, .slice B4 m4 r4, .slice B5 m5 r5, .slice B6 m6 r6] 30) = W := ⟨_, rfl⟩
   have hb4 : Below w3.heap.size w3 w4 := hw4 ▸ below_box w3 _
   have f4 := block_below f3 hb4 (lt_blk f3)
   have g4 : w4.heap[M3]? = some (.cells #[.slice B0 m0 r0, .slice B1 m1 r1, .slice B2 m2 r2, .slice B3 m3 r3, .slice B4 m4 r4, .slice B5 m5 r5, .slice B6 m6 r6] 30 (0, 0)) := by rw [← hw4, ← hM3]; exact block_new w3 _
   have HB4 := Lib.hid (HB3.out.trans (hb4.mono HB3.out.size))
   have H3 := Lib.hid (h3.below hb4)
   have HF4 := Lib.hid (And.intro f4 g4)
   have HW4 := Lib.hid hw4
   have HM3 := Lib.hid hM3
   clear c0 c1 c2 c3 c4 c5 c6 hb3 f3 hb4 h3 hM3 hw4
   simp only [Sv.arr]
   have c0 : w4.cell? ⟨N0, 0, none⟩ = some (.slice A0 n0 p0) := cell_of f4 rfl
   have c1 : w4.cell? ⟨N0, 1, none⟩ = some (.slice A1 n1 p1) := cell_of f4 rfl
   have c2 : w4.cell? ⟨N0, 2, none⟩ = some (.slice A2 n2 p2) := cell_of f4 rfl
   have c3 : w4.cell? ⟨N0, 3, none⟩ = some (.slice A3 n3 p3) := cell_of f4 rfl
   have c4 : w4.cell? ⟨N0, 4, none⟩ = some (.slice A4 n4 p4) := cell_of f4 rfl
   have c5 : w4.cell? ⟨N0, 5, none⟩ = some (.slice A5 n5 p5) := cell_of f4 rfl
   have c6 : w4.cell? ⟨N0, 6, none⟩ = some (.slice A6 n6 p6) := cell_of f4 rfl
   clear f4 g4
   go_upto_region 4 with fail
   rw [HM3.out] at *
   rw [HW4.out]
   go_wp2_with fail
   refine (HM2.out HFT.out _ HB4.out).mono ?_
   rintro e w5 ⟨s5, rfl, h5, hb5⟩
   obtain ⟨vua, vut, vux, vur, vun, vuh, vul⟩ := s5
   obtain ⟨D0, u0, z0, -⟩ := h5.a.form
   obtain ⟨D1, u1, z1, -⟩ := h5.t.form
   obtain ⟨D2, u2, z2, -⟩ := h5.x.form
   obtain ⟨D3, u3, z3, -⟩ := h5.r.form
   obtain ⟨D4, u4, z4, -⟩ := h5.n.form
   obtain ⟨D5, u5, z5, -⟩ := h5.h.form
   obtain ⟨D6, u6, z6, -⟩ := h5.l.form
   simp only at z0 z1 z2 z3 z4 z5 z6
   subst z0 z1 z2 z3 z4 z5 z6
   obtain ⟨q0, z0⟩ : ∃ n, rc.attrs.length = n := ⟨_, rfl⟩
   obtain ⟨q1, z1⟩ : ∃ n, rc.toks.length = n := ⟨_, rfl⟩
   obtain ⟨q2, z2⟩ : ∃ n, rc.texts.length = n := ⟨_, rfl⟩
   obtain ⟨q3, z3⟩ : ∃ n, rc.regs.length = n := ⟨_, rfl⟩
   obtain ⟨q4, z4⟩ : ∃ n, rc.nodes.length = n := ⟨_, rfl⟩
   obtain ⟨q5, z5⟩ : ∃ n, rc.heads.length = n := ⟨_, rfl⟩
   obtain ⟨q6, z6⟩ : ∃ n, rc.rels.length = n := ⟨_, rfl⟩
   simp only [z0, z1, z2, z3, z4, z5, z6] at h5 ⊢
   clear z0 z1 z2 z3 z4 z5 z6
   have HB5 := Lib.hid (HB4.out.trans (hb5.mono HB4.out.size))
   obtain ⟨M5, hM5⟩ : ∃ M, w5.heap.size = M := ⟨_, rfl⟩
   obtain ⟨w6, hw6⟩ : ∃ W, w5.alloc (.cells #[.slice D0 q0 u0, .slice D1 q1 u1, .slice D2 q2 u2, .slice D3 q3 u3, .slice D4 q4 u4, .slice D5 q5 u5, .slice D6 q6 u6] 30) = W := ⟨_, rfl⟩
   have hb6 : Below w5.heap.size w5 w6 := hw6 ▸ below_box w5 _
   have g5 := block_below HF4.out.2 hb5 (lt_blk HF4.out.2)
   have g6 := block_below g5 hb6 (lt_blk g5)
   have k6 : w6.heap[M5]? = some (.cells #[.slice D0 q0 u0, .slice D1 q1 u1, .slice D2 q2 u2, .slice D3 q3 u3, .slice D4 q4 u4, .slice D5 q5 u5, .slice D6 q6 u6] 30 (0, 0)) := by rw [← hw6, ← hM5]; exact block_new w5 _
   have HB6 := Lib.hid (HB5.out.trans (hb6.mono HB5.out.size))
   have heq := refEqual_any (w := w6) ⟨.slice B0 m0 r0, .slice B1 m1 r1, .slice B2 m2 r2, .slice B3 m3 r3, .slice B4 m4 r4, .slice B5 m5 r5, .slice B6 m6 r6⟩ ⟨.slice D0 q0 u0, .slice D1 q1 u1, .slice D2 q2 u2, .slice D3 q3 u3, .slice D4 q4 u4, .slice D5 q5 u5, .slice D6 q6 u6⟩ ((H3.out.below hb5).below hb6) (h5.below hb6) HRL.out.1 HRL.out.1 HRL.out.2
   rw [decide_eq_true (rfl : rc = rc)] at heq
   simp only [Sv.arr] at heq ⊢
   have HEQ := Lib.hid heq
   have HW6 := Lib.hid hw6
   have HM5 := Lib.hid hM5
   have b0 : w6.cell? ⟨M3, 0, none⟩ = some (.slice B0 m0 r0) := cell_of g6 rfl
   have b1 : w6.cell? ⟨M3, 1, none⟩ = some (.slice B1 m1 r1) := cell_of g6 rfl
   have b2 : w6.cell? ⟨M3, 2, none⟩ = some (.slice B2 m2 r2) := cell_of g6 rfl
   have b3 : w6.cell? ⟨M3, 3, none⟩ = some (.slice B3 m3 r3) := cell_of g6 rfl
   have b4 : w6.cell? ⟨M3, 4, none⟩ = some (.slice B4 m4 r4) := cell_of g6 rfl
   have b5 : w6.cell? ⟨M3, 5, none⟩ = some (.slice B5 m5 r5) := cell_of g6 rfl
   have b6 : w6.cell? ⟨M3, 6, none⟩ = some (.slice B6 m6 r6) := cell_of g6 rfl
   have d0 : w6.cell? ⟨M5, 0, none⟩ = some (.slice D0 q0 u0) := cell_of k6 rfl
   have d1 : w6.cell? ⟨M5, 1, none⟩ = some (.slice D1 q1 u1) := cell_of k6 rfl
   have d2 : w6.cell? ⟨M5, 2, none⟩ = some (.slice D2 q2 u2) := cell_of k6 rfl
   have d3 : w6.cell? ⟨M5, 3, none⟩ = some (.slice D3 q3 u3) := cell_of k6 rfl
   have d4 : w6.cell? ⟨M5, 4, none⟩ = some (.slice D4 q4 u4) := cell_of k6 rfl
   have d5 : w6.cell? ⟨M5, 5, none⟩ = some (.slice D5 q5 u5) := cell_of k6 rfl
   have d6 : w6.cell? ⟨M5, 6, none⟩ = some (.slice D6 q6 u6) := cell_of k6 rfl
   clear c0 c1 c2 c3 c4 c5 c6 hb5 hb6 g5 g6 k6 h5 heq hw6 hM5
   go_upto_region 5 with fail
   rw [HW6.out, HM5.out]
   go_wp2_with fail
   refine HEQ.out.mono ?_
   rintro e w7 ⟨rfl, hb7⟩
   have HB7 := Lib.hid (HB6.out.trans (hb7.mono HB6.out.size))
   clear hb7 b0 b1 b2 b3 b4 b5 b6 d0 d1 d2 d3 d4 d5 d6
   go_wp2_with fail
   refine (awake_any w7).mono ?_
   rintro e w8 ⟨rfl, hb8⟩
   have HB8 := Lib.hid (HB7.out.trans (hb8.mono HB7.out.size))
   clear hb8
   go_wp2_with fail
   go_ret
   exact ⟨rfl, HB8.out⟩

theorem own : ownKnob Tryz.prog.godebug = none := by kernel_rfl

set_option maxRecDepth 100000 in
theorem lifted (os : Os) (started : os.Started) (H : Type) (enc : TypeId × Value → H) :
 ReturnsInHanded {} Tryz.checked os 5 .any (Rows.corpusExtractsSpec.pre6 enc Tryz.prog Tryz.f5 Rows.corpusExtractsRow.domain false) (Rows.corpusExtractsSpec.post enc Tryz.prog Tryz.f5 false true false false) := by
 refine returnsInHanded_of_change (C := Tryz.checked) own started (by kernel_rfl) Tryz.func5
  (ChangeSpec.witness6 (enc := enc) (C := Tryz.checked) false ⟨#[], #[.agg #[.slice none 0 0, .slice none 0 0, .slice none 0 0, .slice none 0 0, .slice none 0 0, .slice none 0 0, .slice none 0 0], .int .i64 0], []⟩ 8 (by kernel_rfl) (by kernel_rfl) (by kernel_rfl) (by kernel_rfl)) ?_
 intro W base args ds gs before hval0 hW hcnd _
 have hval : ∀ (j : Nat) t v, Tryz.f5.params[j]? = some t → args[j]? = some v → Value.okWide Tryz.prog W .any base t v := hval0
 have hW' := hW
 have hplt : ∀ x ∈ before, x.block < W.heap.size := fun x hx => hW.lt x hx
 obtain ⟨p, q, hA0, hV, rfl, hfz, hnd⟩ := hW
 have hA : DataW.TrodAll enc Tryz.prog W 0 (fun _ => true) true Tryz.f5.params.toList args.toList ds p := hA0
 rw [Tryz.params5] at hA hval
 obtain ⟨v0, vs0, d0, ds0, p0, q0, hargs, rfl, rfl, h0, r0⟩ := trodAll_cons hA
 obtain ⟨v1, vs1, d1, ds1, p1, q1, rfl, rfl, rfl, h1, r1⟩ := trodAll_cons r0
 obtain ⟨rfl, rfl, rfl⟩ := trodAll_nil r1
 obtain rfl : args = #[v0, v1] := by cases args; simp_all
 obtain ⟨rfl, rfl⟩ := trodVars_none hV
 obtain ⟨s0, c0, rfl, k0, m0, -⟩ := open_cor (hval 0 30 v0 rfl rfl) h0
 obtain ⟨x1, rfl, m1, n1⟩ := open_i64 (hval 1 3 v1 rfl rfl) h1
 clear hA0 hval0
 refine (walk s0 c0 k0 m0 x1 m1 n1).mono fun e W' ⟨he, bel⟩ => ?_
 subst he
 exact ⟨_, rfl, _, _, _, [], _, [], hW', trodAll_mk1 (shut_bool Tryz.underlying4 _), (trodAll_cons_mk (Below.trod Tryz.laidOut (by kernel_rfl) (of_decide_eq_true (by kernel_rfl)) h0 bel (fun x hx => hplt x (by simp [hx]))) (trodAll_cons_mk (Below.trod Tryz.laidOut (by kernel_rfl) (of_decide_eq_true (by kernel_rfl)) h1 bel (fun x hx => hplt x (by simp [hx]))) trodAll_mk0)), rfl, World.keptBut_mono (fun x hx => ⟨hx, Or.inr (by simpa using hx)⟩) (bel.frame (· ∈ _)), fun h => by cases h⟩

theorem over : Rows.corpusExtractsRow.holds Tryz.pinned (OpenSpec.ofChange Rows.corpusExtractsSpec) :=
 OpenClaim.holds_of_wide 5 Tryz.f5 rfl rfl rfl rfl rfl rfl rfl ⟨rfl, rfl, rfl, rfl, rfl⟩ rfl rfl rfl rfl rfl (by kernel_rfl) Tryz.func5 (by kernel_rfl)
  (of_decide_eq_true (by kernel_rfl)) (by unfold Func.isWrapper; first | (rw [if_pos (by decide +kernel)]; kernel_rfl) | (rw [if_neg (by decide +kernel)]; exact ⟨rfl, rfl⟩))
  (fun os started H enc _ => lifted os started H enc)

/-- THE STATEMENT. -/
theorem proved : Rows.CorpusExtractsSaid := over
end Go.Proofs.YtebmfkkkhmjkoaaGreat.corpusExtracts
