/-
  CorpusValidates is proved: for every corpus the call of the law returns true, and each argument reads afterwards as it read before. It has no condition.
-/
import Derived.Test.YtfcnihmfmbmmjaaGreatRows
import Derived.Test.YtfcnihmfmbmmjaaGreatOqU
import Derived.Test.YtfcnihmfmbmmjaaGreatQuV
import Derived.Test.YtfcnihmfmbmmjaaGreatQmV
import Derived.Test.YtfcnihmfmbmmjaaGreatQmE
import Derived.ProofKit
import Derived.OpenShut
import Derived.Carry
namespace Go.Proofs.YtfcnihmfmbmmjaaGreat.corpusValidates
open Go.ChangeShapes Go.WideShapes Go.ChangeAt Go.RowKit Go.Shelf Go.Lib
set_option linter.unusedVariables false

attribute [local go_sem ↓] Go.wp_at_zero Go.wp_at_succ
theorem lenC_of {c : Cor} (h : rCor c) : LenC c := ⟨h.a.1, ⟨h.t.1, fun t ht => (h.t.2 t ht).1⟩, ⟨h.x.1, fun x hx => (h.x.2 x hx).2.2.2.1⟩, ⟨h.r.1, fun x hx => (h.r.2 x hx).2.2.2.1⟩, h.n.1, h.l.1⟩
theorem fits_of {c : Cor} (h : rCor c) (b : Bnd c) : Fits c :=
  ⟨by have := b.2.2.2.2; omega, h.a.2, by have := b.1; omega, h.t.2, by have := b.2.1; omega, fun x hx => ⟨(h.x.2 x hx).1, (h.x.2 x hx).2.2.2.1, (h.x.2 x hx).2.2.2.2⟩, by have := b.2.2.1; omega, fun x hx => ⟨(h.r.2 x hx).1, (h.r.2 x hx).2.2.2.1, (h.r.2 x hx).2.2.2.2⟩, by have := b.2.2.2.1; omega, fun x hx => (h.n.2 x hx).1, h.h.1, h.l.1, h.l.2⟩
set_option maxRecDepth 1000000 in
set_option maxHeartbeats 8000000 in
theorem walk {w : World} (s : Sv) (c : Cor) (hC : CorAt w s c) (hr : rCor c) :
    Calls Tryz.prog 3 #[.agg s.arr] w fun e w1 => e = .returned (.bool true) ∧ Below w.heap.size w w1 := by
  have hm1 := fun (hF : Fits c) W (h : Below w.heap.size w W) => validate_any (w := W) s (hC.below h) hF
  have hm2 := fun (hF : Fits c) W (h : Below w.heap.size w W) => refValidate_any (w := W) s (hC.below h) hF
  obtain ⟨⟨zp, zi, ze⟩, hz⟩ : ∃ z, validate c = z := ⟨_, rfl⟩
  rw [hz] at hm1 hm2
  have hlen := lenC_of hr
  have hfit := fun b => fits_of hr b
  have hhv := fun (W : World) (v : Value) (hv : Rows 7 ECr W v [c]) => heavyW_any hv (by simp) (fun x hx => by rw [List.mem_singleton.1 hx]; exact hlen)
  obtain ⟨va, vt, vx, vr, vn, vh, vl⟩ := s
  obtain ⟨A0, p0, h0, q0⟩ := hC.a.form
  obtain ⟨A1, p1, h1, q1⟩ := hC.t.form
  obtain ⟨A2, p2, h2, q2⟩ := hC.x.form
  obtain ⟨A3, p3, h3, q3⟩ := hC.r.form
  obtain ⟨A4, p4, h4, q4⟩ := hC.n.form
  obtain ⟨A5, p5, h5, q5⟩ := hC.h.form
  obtain ⟨A6, p6, h6, q6⟩ := hC.l.form
  simp only at h0 h1 h2 h3 h4 h5 h6
  subst h0 h1 h2 h3 h4 h5 h6
  obtain ⟨n0, e0⟩ : ∃ n, c.attrs.length = n := ⟨_, rfl⟩
  obtain ⟨n1, e1⟩ : ∃ n, c.toks.length = n := ⟨_, rfl⟩
  obtain ⟨n2, e2⟩ : ∃ n, c.texts.length = n := ⟨_, rfl⟩
  obtain ⟨n3, e3⟩ : ∃ n, c.regs.length = n := ⟨_, rfl⟩
  obtain ⟨n4, e4⟩ : ∃ n, c.nodes.length = n := ⟨_, rfl⟩
  obtain ⟨n5, e5⟩ : ∃ n, c.heads.length = n := ⟨_, rfl⟩
  obtain ⟨n6, e6⟩ : ∃ n, c.rels.length = n := ⟨_, rfl⟩
  simp only [e0, e1, e2, e3, e4, e5, e6, Sv.arr] at hC hm1 hm2 ⊢
  obtain ⟨N0, hN0⟩ : ∃ N0, w.heap.size = N0 := ⟨_, rfl⟩
  obtain ⟨X, hX⟩ : ∃ X, (w.alloc (.cells #[.slice A0 n0 p0, .slice A1 n1 p1, .slice A2 n2 p2, .slice A3 n3 p3, .slice A4 n4 p4, .slice A5 n5 p5, .slice A6 n6 p6] 30)).alloc (.cells #[.slice A0 n0 p0, .slice A1 n1 p1, .slice A2 n2 p2, .slice A3 n3 p3, .slice A4 n4 p4, .slice A5 n5 p5, .slice A6 n6 p6] 30) = X := ⟨_, rfl⟩
  have hbX : Below w.heap.size w X := by rw [← hX]; exact (below_box w _).trans ((below_box _ _).mono (by simp))
  have x1 : X.heap[N0]? = some (.cells #[.slice A0 n0 p0, .slice A1 n1 p1, .slice A2 n2 p2, .slice A3 n3 p3, .slice A4 n4 p4, .slice A5 n5 p5, .slice A6 n6 p6] 30 (0, 0)) := by rw [← hX, ← hN0]; exact block_alloc _ (block_new w _)
  have x2 : X.heap[N0 + 1]? = some (.cells #[.slice A0 n0 p0, .slice A1 n1 p1, .slice A2 n2 p2, .slice A3 n3 p3, .slice A4 n4 p4, .slice A5 n5 p5, .slice A6 n6 p6] 30 (0, 0)) := by
    have := block_new (w.alloc (.cells #[.slice A0 n0 p0, .slice A1 n1 p1, .slice A2 n2 p2, .slice A3 n3 p3, .slice A4 n4 p4, .slice A5 n5 p5, .slice A6 n6 p6] 30)) (.cells #[.slice A0 n0 p0, .slice A1 n1 p1, .slice A2 n2 p2, .slice A3 n3 p3, .slice A4 n4 p4, .slice A5 n5 p5, .slice A6 n6 p6] 30)
    rw [alloc_sz, hN0] at this
    rw [← hX]
    exact this
  have hrow : Rows 7 ECr X (.slice (some ⟨N0 + 1, 0, none⟩) 1 1) [c] := rows_block x2 _ _ rfl fun j x hx => by
    match j, hx with
    | 0, hx => cases hx; exact ⟨_, rfl, ⟨⟨.slice A0 n0 p0, .slice A1 n1 p1, .slice A2 n2 p2, .slice A3 n3 p3, .slice A4 n4 p4, .slice A5 n5 p5, .slice A6 n6 p6⟩, rfl, hC.below hbX⟩, rfl⟩
  have HHV := Lib.hid (hhv X _ hrow)
  have HX := Lib.hid hX
  have HBX0 := Lib.hid hbX
  have HN0 := Lib.hid hN0
  have HX1 := Lib.hid x1
  have HFIT := Lib.hid hfit
  have HM1 := Lib.hid hm1
  have HM2 := Lib.hid hm2
  clear hm1 hm2 hlen hfit hhv hC hr hrow hX hbX hN0 x1 x2 hz e0 q0 e1 q1 e2 q2 e3 q3 e4 q4 e5 q5 e6 q6
  go_enter Tryz.func3, Tryz.ntmps3
  go_wp2_with fail
  rw [HX.out, HN0.out]
  refine HHV.out.mono ?_
  rintro e w2 ⟨q, rfl, hb2, hq⟩
  have HB2 := Lib.hid (HBX0.out.trans (hb2.mono HBX0.out.size))
  cases q with
  | true =>
    clear hb2 hq
    go_wp2_with fail
    go_ret
    exact ⟨rfl, HB2.out⟩
  | false =>
    have HFT := Lib.hid (HFIT.out (hq rfl c (by simp)))
    have f1 := block_below HX1.out hb2 (lt_blk HX1.out)
    have HF1 := Lib.hid f1
    have c0 : w2.cell? ⟨N0, 0, none⟩ = some (.slice A0 n0 p0) := cell_of f1 rfl
    have c1 : w2.cell? ⟨N0, 1, none⟩ = some (.slice A1 n1 p1) := cell_of f1 rfl
    have c2 : w2.cell? ⟨N0, 2, none⟩ = some (.slice A2 n2 p2) := cell_of f1 rfl
    have c3 : w2.cell? ⟨N0, 3, none⟩ = some (.slice A3 n3 p3) := cell_of f1 rfl
    have c4 : w2.cell? ⟨N0, 4, none⟩ = some (.slice A4 n4 p4) := cell_of f1 rfl
    have c5 : w2.cell? ⟨N0, 5, none⟩ = some (.slice A5 n5 p5) := cell_of f1 rfl
    have c6 : w2.cell? ⟨N0, 6, none⟩ = some (.slice A6 n6 p6) := cell_of f1 rfl
    clear hb2 hq f1 HHV HFIT
    go_wp2_with fail
    refine (HM1.out HFT.out _ HB2.out).mono ?_
    rintro e w3 ⟨rfl, hb3⟩
    have HB3 := Lib.hid (HB2.out.trans (hb3.mono HB2.out.size))
    have f3 := block_below HF1.out hb3 (lt_blk HF1.out)
    clear c0 c1 c2 c3 c4 c5 c6
    have c0 : w3.cell? ⟨N0, 0, none⟩ = some (.slice A0 n0 p0) := cell_of f3 rfl
    have c1 : w3.cell? ⟨N0, 1, none⟩ = some (.slice A1 n1 p1) := cell_of f3 rfl
    have c2 : w3.cell? ⟨N0, 2, none⟩ = some (.slice A2 n2 p2) := cell_of f3 rfl
    have c3 : w3.cell? ⟨N0, 3, none⟩ = some (.slice A3 n3 p3) := cell_of f3 rfl
    have c4 : w3.cell? ⟨N0, 4, none⟩ = some (.slice A4 n4 p4) := cell_of f3 rfl
    have c5 : w3.cell? ⟨N0, 5, none⟩ = some (.slice A5 n5 p5) := cell_of f3 rfl
    have c6 : w3.cell? ⟨N0, 6, none⟩ = some (.slice A6 n6 p6) := cell_of f3 rfl
    clear hb3 f3
    go_wp2_with fail
    refine (HM2.out HFT.out _ HB3.out).mono ?_
    rintro e w4 ⟨rfl, hb4⟩
    have HB4 := Lib.hid (HB3.out.trans (hb4.mono HB3.out.size))
    clear hb4 c0 c1 c2 c3 c4 c5 c6
    go_wp2_with fail
    refine (awake_any w4).mono ?_
    rintro e w5 ⟨rfl, hb5⟩
    have HB5 := Lib.hid (HB4.out.trans (hb5.mono HB4.out.size))
    clear hb5
    go_wp2_with fail
    go_ret
    exact ⟨rfl, HB5.out⟩

theorem own : ownKnob Tryz.prog.godebug = none := by kernel_rfl

set_option maxRecDepth 100000 in
theorem lifted (os : Os) (started : os.Started) (H : Type) (enc : TypeId × Value → H) :
    ReturnsInHanded {} Tryz.checked os 3 .any (Rows.corpusValidatesSpec.pre6 enc Tryz.prog Tryz.f3 Rows.corpusValidatesRow.domain false) (Rows.corpusValidatesSpec.post enc Tryz.prog Tryz.f3 false true false false) := by
  refine returnsInHanded_of_change (C := Tryz.checked) own started (by kernel_rfl) Tryz.func3
    (ChangeSpec.witness6 (enc := enc) (C := Tryz.checked) false ⟨#[], #[.agg #[.slice none 0 0, .slice none 0 0, .slice none 0 0, .slice none 0 0, .slice none 0 0, .slice none 0 0, .slice none 0 0]], []⟩ 8 (by kernel_rfl) (by kernel_rfl) (by kernel_rfl) (by kernel_rfl)) ?_
  intro W base args ds gs before hval0 hW hcnd _
  have hval : ∀ (j : Nat) t v, Tryz.f3.params[j]? = some t → args[j]? = some v → Value.okWide Tryz.prog W .any base t v := hval0
  have hW' := hW
  have hplt : ∀ x ∈ before, x.block < W.heap.size := fun x hx => hW.lt x hx
  obtain ⟨p, q, hA0, hV, rfl, hfz, hnd⟩ := hW
  have hA : DataW.TrodAll enc Tryz.prog W 0 (fun _ => true) true Tryz.f3.params.toList args.toList ds p := hA0
  rw [Tryz.params3] at hA hval
  obtain ⟨v0, vs0, d0, ds0, p0, q0, hargs, rfl, rfl, h0, r0⟩ := trodAll_cons hA
  obtain ⟨rfl, rfl, rfl⟩ := trodAll_nil r0
  obtain rfl : args = #[v0] := by cases args; simp_all
  obtain ⟨rfl, rfl⟩ := trodVars_none hV
  obtain ⟨s0, c0, rfl, k0, m0, -⟩ := open_cor (hval 0 30 v0 rfl rfl) h0
  clear hA0 hval0
  refine (walk s0 c0 k0 m0).mono fun e W' ⟨he, bel⟩ => ?_
  subst he
  exact ⟨_, rfl, _, _, _, [], _, [], hW', trodAll_mk1 (shut_bool Tryz.underlying4 _), (trodAll_cons_mk (Below.trod Tryz.laidOut (by kernel_rfl) (of_decide_eq_true (by kernel_rfl)) h0 bel (fun x hx => hplt x (by simp [hx]))) trodAll_mk0), rfl, World.keptBut_mono (fun x hx => ⟨hx, Or.inr (by simpa using hx)⟩) (bel.frame (· ∈ _)), fun h => by cases h⟩

theorem over : Rows.corpusValidatesRow.holds Tryz.pinned (OpenSpec.ofChange Rows.corpusValidatesSpec) :=
  OpenClaim.holds_of_wide 3 Tryz.f3 rfl rfl rfl rfl rfl rfl rfl ⟨rfl, rfl, rfl, rfl, rfl⟩ rfl rfl rfl rfl rfl (by kernel_rfl) Tryz.func3 (by kernel_rfl)
    (of_decide_eq_true (by kernel_rfl)) (by unfold Func.isWrapper; first | (rw [if_pos (by decide +kernel)]; kernel_rfl) | (rw [if_neg (by decide +kernel)]; exact ⟨rfl, rfl⟩))
    (fun os started H enc _ => lifted os started H enc)

/-- THE STATEMENT. -/
theorem proved : Rows.CorpusValidatesSaid := over
end Go.Proofs.YtfcnihmfmbmmjaaGreat.corpusValidates
