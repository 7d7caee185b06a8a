/-
 WALKS over the reference of corpus: Validate, Valid.
-/
import Derived.Test.YtebmfkkkhmjkoaaGreatQuB
import Derived.Test.YtebmfkkkhmjkoaaGreatQuY
import Derived.Test.YtebmfkkkhmjkoaaGreatQuH
namespace Go.Proofs.YtebmfkkkhmjkoaaGreat
open Go.RowKit Go.Shelf Go.Lib
set_option linter.unusedVariables false
attribute [local go_sem ↓] Go.wp_at_zero Go.wp_at_succ

theorem fp_zero {p i : Nat} {r : List (Nat × (Nat × Nat))} : firstPart ((p, (i, 0)) :: r) = firstPart r := by rw [firstPart, if_pos rfl]
theorem fp_some {p i e : Nat} {r : List (Nat × (Nat × Nat))} (h : e ≠ 0) : firstPart ((p, (i, e)) :: r) = (p, i, e) := by rw [firstPart, if_neg h]

set_option maxRecDepth 100000 in
set_option maxHeartbeats 16000000 in
theorem refValidate_any {w : World} (s : Sv) {c : Cor} (hC : CorAt w s c) (hF : Fits c) :
 Calls Tryz.prog 58 #[.agg s.arr] w fun e w' => e = .returned (.tuple #[.int .i64 ((validate c).1 : Int), .int .i64 ((validate c).2.1 : Int), .int .i64 ((validate c).2.2 : Int)]) ∧ Below w.heap.size w w' := by
 have hmx : (1000000 : Nat) ≤ maxLen := by unfold maxLen; omega
 have k1 := fun W (h : Below w.heap.size w W) => refAttributes_any c (hC.below h).a (Nat.le_trans hF.a hmx) hF.a2
 have k2 := fun W (h : Below w.heap.size w W) => refTokens_any s c (hC.below h).a (hC.below h).t (Nat.le_trans hF.a hmx) (Nat.le_trans hF.t hmx) hF.t2
 have k3 := fun W (h : Below w.heap.size w W) => refTexts_any s c (hC.below h).x (hC.below h).t (Nat.le_trans hF.x hmx) (Nat.le_trans hF.t hmx) hF.x2
 have k4 := fun W (h : Below w.heap.size w W) => refRegions_any s c (hC.below h).r (hC.below h).x (Nat.le_trans hF.r hmx) (Nat.le_trans hF.x hmx) hF.r2
 have k5 := fun W (h : Below w.heap.size w W) => refNodes_any s c s.vn (hC.below h).n (hC.below h).x (Nat.le_trans hF.n hmx) (Nat.le_trans hF.x hmx) hF.n2
 have k6 := fun (h0 : (partE (textsE c) (textE c) c.texts.length).2 = 0) W (h : Below w.heap.size w W) => refHeads_any s c (hC.below h) hF (partE_zero.1 h0).1 (partE_zero.1 h0).2
 have hval : validate c = firstPart [(1, partE (attrsE c) (attrE c) c.attrs.length), (2, partE (toksE c) (tokE c) c.toks.length), (3, partE (textsE c) (textE c) c.texts.length), (4, partE (regsE c) (regE c) c.regs.length), (5, partE (nodesE c) (nodeE c) c.nodes.length), (6, partE (headsE c) (headE c) c.heads.length)] := rfl
 obtain ⟨q1, hq1⟩ : ∃ q, partE (attrsE c) (attrE c) c.attrs.length = q := ⟨_, rfl⟩
 obtain ⟨q2, hq2⟩ : ∃ q, partE (toksE c) (tokE c) c.toks.length = q := ⟨_, rfl⟩
 obtain ⟨q3, hq3⟩ : ∃ q, partE (textsE c) (textE c) c.texts.length = q := ⟨_, rfl⟩
 obtain ⟨q4, hq4⟩ : ∃ q, partE (regsE c) (regE c) c.regs.length = q := ⟨_, rfl⟩
 obtain ⟨q5, hq5⟩ : ∃ q, partE (nodesE c) (nodeE c) c.nodes.length = q := ⟨_, rfl⟩
 obtain ⟨q6, hq6⟩ : ∃ q, partE (headsE c) (headE c) c.heads.length = q := ⟨_, rfl⟩
 rw [hq1, hq2, hq3, hq4, hq5, hq6] at hval
 rw [hq1] at k1
 rw [hq2] at k2
 rw [hq4] at k4
 rw [hq5] at k5
 rw [hq3] at k3 k6
 rw [hq6] at k6
 obtain ⟨r, hr⟩ : ∃ r, validate c = r := ⟨_, rfl⟩
 rw [hr] at hval ⊢
 clear hr hq1 hq2 hq3 hq4 hq5 hq6 hF hC hmx
 obtain ⟨i1, e1⟩ := q1
 obtain ⟨i2, e2⟩ := q2
 obtain ⟨i3, e3⟩ := q3
 obtain ⟨i4, e4⟩ := q4
 obtain ⟨i5, e5⟩ := q5
 obtain ⟨i6, e6⟩ := q6
 obtain ⟨va, vt, vx, vr, vn, vh, vl⟩ := s
 simp only [Sv.arr, two] at k1 k2 k3 k4 k5 k6 ⊢
 obtain ⟨N0, hN0⟩ : ∃ N, w.heap.size = N := ⟨_, rfl⟩
 obtain ⟨X, hX⟩ : ∃ X, w.alloc (.cells #[va, vt, vx, vr, vn, vh, vl] 30) = X := ⟨_, rfl⟩
 have hbX : Below w.heap.size w X := by rw [← hX]; exact below_box w _
 have x1 : X.heap[N0]? = some (.cells #[va, vt, vx, vr, vn, vh, vl] 30 (0, 0)) := by rw [← hX, ← hN0]; exact block_new w _
 have z0 : (w.alloc (.cells #[va, vt, vx, vr, vn, vh, vl] 30)).cell? ⟨w.heap.size, 0, none⟩ = some va := cell_of (block_new w _) rfl
 have HK := Lib.hid (fun W (h : Below X.heap.size X W) => block_below x1 h (Array.getElem?_eq_some_iff.1 x1).1)
 have K1 := Lib.hid (fun W (h : Below X.heap.size X W) => k1 W (hbX.trans (h.mono hbX.size)))
 have K2 := Lib.hid (fun W (h : Below X.heap.size X W) => k2 W (hbX.trans (h.mono hbX.size)))
 have K3 := Lib.hid (fun W (h : Below X.heap.size X W) => k3 W (hbX.trans (h.mono hbX.size)))
 have K4 := Lib.hid (fun W (h : Below X.heap.size X W) => k4 W (hbX.trans (h.mono hbX.size)))
 have K5 := Lib.hid (fun W (h : Below X.heap.size X W) => k5 W (hbX.trans (h.mono hbX.size)))
 have K6 := Lib.hid (fun h0 W (h : Below X.heap.size X W) => k6 h0 W (hbX.trans (h.mono hbX.size)))
 have HVAL := Lib.hid hval
 have HX := Lib.hid hX
 have HN0 := Lib.hid hN0
 have HBX := Lib.hid hbX
 have HB0 := Lib.hid (Below.refl X.heap.size X)
 clear k1 k2 k3 k4 k5 k6 hval hX hN0 hbX x1
 go_enter Tryz.func58, Tryz.ntmps58
 go_wp2_with fail
 rw [HX.out, HN0.out]
 refine (K1.out _ HB0.out).mono ?_
 rintro e w1 ⟨rfl, hb1⟩
 have HB1 := Lib.hid (HB0.out.trans (hb1.mono HB0.out.size))
 clear hb1 z0
 by_cases h0 : e1 = 0
 ·
  subst h0
  have hv := HVAL.out
  rw [fp_zero] at hv
  replace HVAL := Lib.hid hv
  clear hv
  have hz := HK.out w1 HB1.out
  have z0 : w1.cell? ⟨N0, 0, none⟩ = some va := cell_of hz rfl
  have z1 : w1.cell? ⟨N0, 1, none⟩ = some vt := cell_of hz rfl
  have z2 : w1.cell? ⟨N0, 2, none⟩ = some vx := cell_of hz rfl
  have z3 : w1.cell? ⟨N0, 3, none⟩ = some vr := cell_of hz rfl
  have z4 : w1.cell? ⟨N0, 4, none⟩ = some vn := cell_of hz rfl
  have z5 : w1.cell? ⟨N0, 5, none⟩ = some vh := cell_of hz rfl
  have z6 : w1.cell? ⟨N0, 6, none⟩ = some vl := cell_of hz rfl
  clear hz
  go_wp2_with fail
  refine (K2.out _ HB1.out).mono ?_
  rintro e w2 ⟨rfl, hb2⟩
  have HB2 := Lib.hid (HB1.out.trans (hb2.mono HB1.out.size))
  clear hb2 z0 z1 z2 z3 z4 z5 z6
  by_cases h0 : e2 = 0
  ·
   subst h0
   have hv := HVAL.out
   rw [fp_zero] at hv
   replace HVAL := Lib.hid hv
   clear hv
   have hz := HK.out w2 HB2.out
   have z0 : w2.cell? ⟨N0, 0, none⟩ = some va := cell_of hz rfl
   have z1 : w2.cell? ⟨N0, 1, none⟩ = some vt := cell_of hz rfl
   have z2 : w2.cell? ⟨N0, 2, none⟩ = some vx := cell_of hz rfl
   have z3 : w2.cell? ⟨N0, 3, none⟩ = some vr := cell_of hz rfl
   have z4 : w2.cell? ⟨N0, 4, none⟩ = some vn := cell_of hz rfl
   have z5 : w2.cell? ⟨N0, 5, none⟩ = some vh := cell_of hz rfl
   have z6 : w2.cell? ⟨N0, 6, none⟩ = some vl := cell_of hz rfl
   clear hz
   go_wp2_with fail
   refine (K3.out _ HB2.out).mono ?_
   rintro e w3 ⟨rfl, hb3⟩
   have HB3 := Lib.hid (HB2.out.trans (hb3.mono HB2.out.size))
   clear hb3 z0 z1 z2 z3 z4 z5 z6
   by_cases h0 : e3 = 0
   ·
    subst h0
    have hv := HVAL.out
    rw [fp_zero] at hv
    replace HVAL := Lib.hid hv
    clear hv
    have hz := HK.out w3 HB3.out
    have z0 : w3.cell? ⟨N0, 0, none⟩ = some va := cell_of hz rfl
    have z1 : w3.cell? ⟨N0, 1, none⟩ = some vt := cell_of hz rfl
    have z2 : w3.cell? ⟨N0, 2, none⟩ = some vx := cell_of hz rfl
    have z3 : w3.cell? ⟨N0, 3, none⟩ = some vr := cell_of hz rfl
    have z4 : w3.cell? ⟨N0, 4, none⟩ = some vn := cell_of hz rfl
    have z5 : w3.cell? ⟨N0, 5, none⟩ = some vh := cell_of hz rfl
    have z6 : w3.cell? ⟨N0, 6, none⟩ = some vl := cell_of hz rfl
    clear hz
    go_wp2_with fail
    refine (K4.out _ HB3.out).mono ?_
    rintro e w4 ⟨rfl, hb4⟩
    have HB4 := Lib.hid (HB3.out.trans (hb4.mono HB3.out.size))
    clear hb4 z0 z1 z2 z3 z4 z5 z6
    by_cases h0 : e4 = 0
    ·
     subst h0
     have hv := HVAL.out
     rw [fp_zero] at hv
     replace HVAL := Lib.hid hv
     clear hv
     have hz := HK.out w4 HB4.out
     have z0 : w4.cell? ⟨N0, 0, none⟩ = some va := cell_of hz rfl
     have z1 : w4.cell? ⟨N0, 1, none⟩ = some vt := cell_of hz rfl
     have z2 : w4.cell? ⟨N0, 2, none⟩ = some vx := cell_of hz rfl
     have z3 : w4.cell? ⟨N0, 3, none⟩ = some vr := cell_of hz rfl
     have z4 : w4.cell? ⟨N0, 4, none⟩ = some vn := cell_of hz rfl
     have z5 : w4.cell? ⟨N0, 5, none⟩ = some vh := cell_of hz rfl
     have z6 : w4.cell? ⟨N0, 6, none⟩ = some vl := cell_of hz rfl
     clear hz
     go_wp2_with fail
     refine (K5.out _ HB4.out).mono ?_
     rintro e w5 ⟨rfl, hb5⟩
     have HB5 := Lib.hid (HB4.out.trans (hb5.mono HB4.out.size))
     clear hb5 z0 z1 z2 z3 z4 z5 z6
     by_cases h0 : e5 = 0
     ·
      subst h0
      have hv := HVAL.out
      rw [fp_zero] at hv
      replace HVAL := Lib.hid hv
      clear hv
      have hz := HK.out w5 HB5.out
      have z0 : w5.cell? ⟨N0, 0, none⟩ = some va := cell_of hz rfl
      have z1 : w5.cell? ⟨N0, 1, none⟩ = some vt := cell_of hz rfl
      have z2 : w5.cell? ⟨N0, 2, none⟩ = some vx := cell_of hz rfl
      have z3 : w5.cell? ⟨N0, 3, none⟩ = some vr := cell_of hz rfl
      have z4 : w5.cell? ⟨N0, 4, none⟩ = some vn := cell_of hz rfl
      have z5 : w5.cell? ⟨N0, 5, none⟩ = some vh := cell_of hz rfl
      have z6 : w5.cell? ⟨N0, 6, none⟩ = some vl := cell_of hz rfl
      clear hz
      go_wp2_with fail
      refine (K6.out trivial _ HB5.out).mono ?_
      rintro e w6 ⟨rfl, hb6⟩
      have HB6 := Lib.hid (HB5.out.trans (hb6.mono HB5.out.size))
      clear hb6 z0 z1 z2 z3 z4 z5 z6
      by_cases h0 : e6 = 0
      ·
       subst h0
       have hv := HVAL.out
       rw [fp_zero] at hv
       replace HVAL := Lib.hid hv
       clear hv
       have hv := HVAL.out
       subst hv
       go_wp2_with fail
       exact bodyPost_ret (results_three rfl _ _ _) rfl ⟨rfl, HBX.out.trans (HB6.out.mono HBX.out.size)⟩
      have hv := HVAL.out
      rw [fp_some h0] at hv
      subst hv
      have h0i : ¬ ((e6 : Int) = 0) := by omega
      have h0b : ((e6 : Int) != 0) = true := by simp [h0]
      clear h0
      go_wp2_with fail
      exact bodyPost_ret (results_three rfl _ _ _) rfl ⟨rfl, HBX.out.trans (HB6.out.mono HBX.out.size)⟩
     have hv := HVAL.out
     rw [fp_some h0] at hv
     subst hv
     have h0i : ¬ ((e5 : Int) = 0) := by omega
     have h0b : ((e5 : Int) != 0) = true := by simp [h0]
     clear h0
     go_wp2_with fail
     exact bodyPost_ret (results_three rfl _ _ _) rfl ⟨rfl, HBX.out.trans (HB5.out.mono HBX.out.size)⟩
    have hv := HVAL.out
    rw [fp_some h0] at hv
    subst hv
    have h0i : ¬ ((e4 : Int) = 0) := by omega
    have h0b : ((e4 : Int) != 0) = true := by simp [h0]
    clear h0
    go_wp2_with fail
    exact bodyPost_ret (results_three rfl _ _ _) rfl ⟨rfl, HBX.out.trans (HB4.out.mono HBX.out.size)⟩
   have hv := HVAL.out
   rw [fp_some h0] at hv
   subst hv
   have h0i : ¬ ((e3 : Int) = 0) := by omega
   have h0b : ((e3 : Int) != 0) = true := by simp [h0]
   clear h0
   go_wp2_with fail
   exact bodyPost_ret (results_three rfl _ _ _) rfl ⟨rfl, HBX.out.trans (HB3.out.mono HBX.out.size)⟩
  have hv := HVAL.out
  rw [fp_some h0] at hv
  subst hv
  have h0i : ¬ ((e2 : Int) = 0) := by omega
  have h0b : ((e2 : Int) != 0) = true := by simp [h0]
  clear h0
  go_wp2_with fail
  exact bodyPost_ret (results_three rfl _ _ _) rfl ⟨rfl, HBX.out.trans (HB2.out.mono HBX.out.size)⟩
 have hv := HVAL.out
 rw [fp_some h0] at hv
 subst hv
 have h0i : ¬ ((e1 : Int) = 0) := by omega
 have h0b : ((e1 : Int) != 0) = true := by simp [h0]
 clear h0
 go_wp2_with fail
 exact bodyPost_ret (results_three rfl _ _ _) rfl ⟨rfl, HBX.out.trans (HB1.out.mono HBX.out.size)⟩

set_option maxRecDepth 100000 in
set_option maxHeartbeats 4000000 in
theorem refValidC_any {w : World} (s : Sv) {c : Cor} (hC : CorAt w s c) (hF : Fits c) :
 Calls Tryz.prog 21 #[.agg s.arr] w fun e w' => e = .returned (.bool (validC c)) ∧ Below w.heap.size w w' := by
 have hb := below_box w (.cells s.arr 30)
 have HV := Lib.hid (refValidate_any s (hC.below hb) hF)
 have HB := Lib.hid hb
 have hvc : validC c = decide ((validate c).2.2 = 0) := rfl
 obtain ⟨⟨p, i, e⟩, hr⟩ : ∃ r, validate c = r := ⟨_, rfl⟩
 rw [hr] at HV hvc
 rw [hvc]
 obtain ⟨q, hq⟩ : ∃ q, decide (e = 0) = q := ⟨_, rfl⟩
 simp only at HV ⊢
 rw [hq]
 have hqi : ((e : Int) == 0) = q := by rw [← hq]; by_cases h : e = 0 <;> simp [h]
 obtain ⟨va, vt, vx, vr, vn, vh, vl⟩ := s
 simp only [Sv.arr] at HV HB ⊢
 clear hC hF hb hvc hr hq
 go_enter Tryz.func21, Tryz.ntmps21
 go_wp2_with fail
 refine HV.out.mono ?_
 rintro e2 w2 ⟨rfl, hb2⟩
 have HB2 := Lib.hid (HB.out.trans (hb2.mono HB.out.size))
 clear hb2
 go_wp2_with fail
 go_ret
 exact ⟨rfl, HB2.out⟩
end Go.Proofs.YtebmfkkkhmjkoaaGreat
