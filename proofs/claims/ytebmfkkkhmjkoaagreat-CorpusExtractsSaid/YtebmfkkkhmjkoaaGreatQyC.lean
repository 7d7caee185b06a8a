/-
 WALKS over the reference of corpus: Extract, one text as a corpus of its own.
-/
import Derived.Test.YtebmfkkkhmjkoaaGreatQyX
import Derived.Test.YtebmfkkkhmjkoaaGreatQyZ
import Derived.Deep.RegionHeld3
import Derived.Deep.DeepCutAuto
import Derived.Deep.RegionLaw
import Derived.Shelf.RegionOpen
namespace Go.Proofs.YtebmfkkkhmjkoaaGreat
open Go.RowKit Go.Shelf Go.Lib
set_option linter.unusedVariables false
set_option linter.unusedSimpArgs false
attribute [local go_sem ↓] Go.wp_at_zero Go.wp_at_succ

theorem below_seven {M B : Nat} {X W : World} {v0 v1 v2 v3 v4 v5 v6 : Value} (h : Below M X W) (hB : M ≤ B) : Below M X (((((((W.setCell ⟨B, 0, none⟩ v0).setCell ⟨B, 1, none⟩ v1).setCell ⟨B, 2, none⟩ v2).setCell ⟨B, 3, none⟩ v3).setCell ⟨B, 4, none⟩ v4).setCell ⟨B, 5, none⟩ v5).setCell ⟨B, 6, none⟩ v6) := ((((((h.setCell hB _).setCell hB _).setCell hB _).setCell hB _).setCell hB _).setCell hB _).setCell hB _
set_option maxRecDepth 1000000 in
set_option maxHeartbeats 8000000 in
theorem refExtract_doc {w : World} (s : Sv) {c : Cor} (hC : CorAt w s c) (hF : Fits c) (hvv : Valid c) (hv : validC c = true) (k : Nat) {t : Ex} (ht : c.texts[k]? = some t) (lo hi : Nat) (hlo : t.b = (lo : Int)) (hhi : t.e = (hi : Int)) (hlh : lo < hi) (hht : hi ≤ c.toks.length) (hkl : k < c.texts.length) :
 Calls Tryz.prog 16 #[.agg s.arr, .int .i64 (k : Int)] w (RxV w (refDoc c t, 0)) := by
 obtain ⟨va, vt, vx, vr, vn, vh, vl⟩ := s
 obtain ⟨A0, k0, h0, q0⟩ := hC.a.form
 obtain ⟨A1, k1, h1, q1⟩ := hC.t.form
 obtain ⟨A2, k2, h2, q2⟩ := hC.x.form
 obtain ⟨A3, k3, h3, q3⟩ := hC.r.form
 obtain ⟨A4, k4, h4, q4⟩ := hC.n.form
 obtain ⟨A5, k5, h5, q5⟩ := hC.h.form
 obtain ⟨A6, k6, h6, q6⟩ := hC.l.form
 simp only at h0 h1 h2 h3 h4 h5 h6
 subst h0 h1 h2 h3 h4 h5 h6
 obtain ⟨n0, e0⟩ : ∃ n, c.attrs.length = n := ⟨_, rfl⟩
 obtain ⟨n1, e1⟩ : ∃ n, c.toks.length = n := ⟨_, rfl⟩
 obtain ⟨n2, e2⟩ : ∃ n, c.texts.length = n := ⟨_, rfl⟩
 obtain ⟨n3, e3⟩ : ∃ n, c.regs.length = n := ⟨_, rfl⟩
 obtain ⟨n4, e4⟩ : ∃ n, c.nodes.length = n := ⟨_, rfl⟩
 obtain ⟨n5, e5⟩ : ∃ n, c.heads.length = n := ⟨_, rfl⟩
 obtain ⟨n6, e6⟩ : ∃ n, c.rels.length = n := ⟨_, rfl⟩
 have hvl := valid_len hvv
 obtain ⟨hrh, hhh⟩ := valid_heads hvv
 rw [e0, e1, e2, e3, e4] at hvl
 rw [e5, e6] at hrh
 rw [e5, e1] at hhh
 rw [e0] at q0
 rw [e1] at q1
 rw [e2] at q2
 rw [e3] at q3
 rw [e4] at q4
 rw [e5] at q5
 rw [e6] at q6
 simp only [e0, e1, e2, e3, e4, e5, e6, Sv.arr] at hC hkl ⊢
 obtain ⟨N0, hN0⟩ : ∃ N0, w.heap.size = N0 := ⟨_, rfl⟩
 obtain ⟨X, hX⟩ : ∃ X, (w.alloc (.cells #[.slice A0 n0 k0, .slice A1 n1 k1, .slice A2 n2 k2, .slice A3 n3 k3, .slice A4 n4 k4, .slice A5 n5 k5, .slice A6 n6 k6] 30)).alloc (.cells #[.slice none 0 0, .slice none 0 0, .slice none 0 0, .slice none 0 0, .slice none 0 0, .slice none 0 0, .slice none 0 0] 30) = X := ⟨_, rfl⟩
 have hbX : Below w.heap.size w X := by rw [← hX]; exact (below_box w _).trans ((below_box _ _).mono (by simp))
 have hXs : X.heap.size = N0 + 1 + 1 := by rw [← hX, ← hN0]; simp
 have x1 : X.heap[N0]? = some (.cells #[.slice A0 n0 k0, .slice A1 n1 k1, .slice A2 n2 k2, .slice A3 n3 k3, .slice A4 n4 k4, .slice A5 n5 k5, .slice A6 n6 k6] 30 (0, 0)) := by rw [← hX, ← hN0]; exact block_alloc _ (block_new w _)
 have x2 : X.heap[N0 + 1]? = some (.cells #[.slice none 0 0, .slice none 0 0, .slice none 0 0, .slice none 0 0, .slice none 0 0, .slice none 0 0, .slice none 0 0] 30 (0, 0)) := by
  have := block_new (w.alloc (.cells #[.slice A0 n0 k0, .slice A1 n1 k1, .slice A2 n2 k2, .slice A3 n3 k3, .slice A4 n4 k4, .slice A5 n5 k5, .slice A6 n6 k6] 30)) (.cells #[.slice none 0 0, .slice none 0 0, .slice none 0 0, .slice none 0 0, .slice none 0 0, .slice none 0 0, .slice none 0 0] 30)
  rw [alloc_sz, hN0] at this
  rw [← hX]
  exact this
 have hva := refValidC_any ⟨.slice A0 n0 k0, .slice A1 n1 k1, .slice A2 n2 k2, .slice A3 n3 k3, .slice A4 n4 k4, .slice A5 n5 k5, .slice A6 n6 k6⟩ (hC.below hbX) hF
 simp only [Sv.arr] at hva
 rw [hv] at hva
 obtain ⟨bx, ox, hAx, hbl, hjx⟩ := at_ex hC.x (by rw [e2]; omega)
 subst hAx
 obtain ⟨u, ru, u0, u1, u2, u3⟩ := hjx k t ht
 rw [hlo] at u1
 rw [hhi] at u2
 have hex : EEx w [.string ⟨t.name.toArray⟩, .int .i64 0, .int .i64 ((hi : Int) - (lo : Int)), u] ⟨t.name, 0, (hi : Int) - (lo : Int), t.ps⟩ := ⟨u, rfl, ru⟩
 obtain ⟨Au, pu, rfl, -⟩ := ru.form
 obtain ⟨nu, hnu⟩ : ∃ n, t.ps.length = n := ⟨_, rfl⟩
 obtain ⟨P, hP⟩ : ∃ s : ByteArray, (⟨t.name.toArray⟩ : ByteArray) = s := ⟨_, rfl⟩
 rw [hP, hnu] at hex
 rw [hP] at u0
 rw [hnu] at u3
 obtain ⟨At, ct, ht1, ht2⟩ := slice_rows (sz := 1) (sl := 23) (by kernel_rfl) (fun W => by kernel_rfl) A1 n1 k1 e1 q1 lo hi (by omega) (by omega)
 have htr := ht2 ETok w hC.t
 have HU := Lib.hid (fun W (h : Below w.heap.size w W) => show W.cell? ⟨bx, ox + k * 4, none⟩ = some (.string P) ∧ W.cell? ⟨bx, ox + k * 4 + 1, none⟩ = some (.int .i64 (lo : Int)) ∧ W.cell? ⟨bx, ox + k * 4 + 2, none⟩ = some (.int .i64 (hi : Int)) ∧ W.cell? ⟨bx, ox + k * 4 + 3, none⟩ = some (.slice Au nu pu) from ⟨keepC u0 h, keepC u1 h, keepC u2 h, keepC u3 h⟩)
 have HVA := Lib.hid hva
 have HX := Lib.hid hX
 have HXS := Lib.hid hXs
 have HN0 := Lib.hid hN0
 have HBX := Lib.hid hbX
 have HX12 := Lib.hid (And.intro x1 x2)
 have HC := Lib.hid hC
 have HEX := Lib.hid hex
 have HTR := Lib.hid htr
 have HLEN := Lib.hid (And.intro e0 (And.intro e1 (And.intro e3 (And.intro e4 (And.intro e5 e6)))))
 have HVV := Lib.hid hvv
 have HT := Lib.hid (And.intro ht (And.intro hlo hhi))
 have hk1 : ¬ (k : Int) < 0 := by omega
 have hk2 : ¬ (n2 : Int) ≤ (k : Int) := by omega
 have hk3 : (k : Int) < (n2 : Int) := by omega
 have HVL := Lib.hid hvl
 have HHH := Lib.hid (And.intro hrh hhh)
 have HST := Lib.hid ht1
 have HQ56 := Lib.hid (And.intro q5 q6)
 clear hva hX hXs hN0 hbX x1 x2 hC hF hv hkl e0 e1 e2 e3 e4 e5 e6 hvv ht hlo hhi hjx hbl ru u0 u1 u2 u3 hex hP hnu htr ht2 hvl hrh hhh q0 q1 q2 q3 q4 q5 q6 ht1
 go_enter Tryz.func16, Tryz.ntmps16
 go_wp2_with fail
 rw [HX.out, HN0.out]
 refine HVA.out.mono ?_
 rintro e w2 ⟨rfl, hb2⟩
 have hbw2 : Below w.heap.size w w2 := HBX.out.trans (hb2.mono HBX.out.size)
 have y1 := block_below HX12.out.1 hb2 (lt_blk HX12.out.1)
 have y2 := block_below HX12.out.2 hb2 (lt_blk HX12.out.2)
 have hs2 : N0 + 1 < w2.heap.size := lt_blk y2
 obtain ⟨u0, u1, u2, u3⟩ := HU.out w2 hbw2
 have c2 : w2.cell? ⟨N0, 2, none⟩ = some (.slice (some ⟨bx, ox, none⟩) n2 k2) := cell_of y1 rfl
 obtain ⟨B6, hB6⟩ : ∃ B, w2.heap.size = B := ⟨_, rfl⟩
 obtain ⟨W3, hW3⟩ : ∃ W, w2.alloc (.cells #[.string P, .int .i64 (lo : Int), .int .i64 (hi : Int), .slice Au nu pu] 51) = W := ⟨_, rfl⟩
 have hbW3 : Below w.heap.size w W3 := hW3 ▸ hbw2.trans ((below_box w2 _).mono hbw2.size)
 have z1 : W3.heap[N0]? = some (.cells #[.slice A0 n0 k0, .slice A1 n1 k1, .slice (some ⟨bx, ox, none⟩) n2 k2, .slice A3 n3 k3, .slice A4 n4 k4, .slice A5 n5 k5, .slice A6 n6 k6] 30 (0, 0)) := hW3 ▸ block_alloc _ y1
 have z2 : W3.heap[N0 + 1]? = some (.cells #[.slice none 0 0, .slice none 0 0, .slice none 0 0, .slice none 0 0, .slice none 0 0, .slice none 0 0, .slice none 0 0] 30 (0, 0)) := hW3 ▸ block_alloc _ y2
 have z3 : W3.heap[B6]? = some (.cells #[.string P, .int .i64 (lo : Int), .int .i64 (hi : Int), .slice Au nu pu] 51 (0, 0)) := by rw [← hW3, ← hB6]; exact block_new w2 _
 have d0 : W3.cell? ⟨N0, 0, none⟩ = some (.slice A0 n0 k0) := cell_of z1 rfl
 have d1 : W3.cell? ⟨N0, 1, none⟩ = some (.slice A1 n1 k1) := cell_of z1 rfl
 have d2 : W3.cell? ⟨B6, 1, none⟩ = some (.int .i64 (lo : Int)) := cell_of z3 rfl
 have d3 : W3.cell? ⟨B6, 2, none⟩ = some (.int .i64 (hi : Int)) := cell_of z3 rfl
 have HW3 := Lib.hid hW3
 have HB6 := Lib.hid hB6
 have HBW3 := Lib.hid hbW3
 have HZ := Lib.hid (And.intro z1 (And.intro z2 z3))
 have HLT : Hid (N0 + 1 < B6 ∧ B6 < W3.heap.size) := Lib.hid ⟨by omega, lt_blk z3⟩
 have HSS := Lib.hid (fun W (h : Below W3.heap.size W3 W) => show W.cell? ⟨N0, 0, none⟩ = some (.slice A0 n0 k0) ∧ W.cell? ⟨N0, 1, none⟩ = some (.slice A1 n1 k1) ∧ W.cell? ⟨B6, 1, none⟩ = some (.int .i64 (lo : Int)) ∧ W.cell? ⟨B6, 2, none⟩ = some (.int .i64 (hi : Int)) from ⟨keepC d0 h, keepC d1 h, keepC d2 h, keepC d3 h⟩)
 clear hb2 hbw2 y1 y2 hB6 hW3 hbW3 z1 z2 z3 hs2
 have HAA := Lib.hid (fun W (h : Below w.heap.size w W) => Rows.addX (w := W) HC.out.a (by decide) h)
 have HAT := Lib.hid (fun W (h : Below w.heap.size w W) => Rows.addX (w := W) HTR.out (by decide) h)
 obtain ⟨BW, hBW⟩ : ∃ B, W3.heap.size = B := ⟨_, rfl⟩
 have HBWE := Lib.hid hBW
 have hcl1 : (cutL lo hi c.toks).length = hi - lo := cutL_len (by have := HLEN.out.2.1; omega)
 have hcl0 : c.attrs.length ≤ 8 := by have := HLEN.out.1; have := HVL.out.1; omega
 have hhi4 : hi ≤ 4096 := by have := HVL.out.2.1; have := HLEN.out.2.1; omega
 have HCL := Lib.hid (And.intro hcl0 (And.intro hcl1 hhi4))
 have HW0 := Lib.hid (fun W (h : Below W3.heap.size W3 W) => HBW3.out.trans (h.mono HBW3.out.size))
 clear hcl0 hcl1 hBW
 have hnum1 : (0 : Int) ≤ (lo : Int) := by omega
 have hst := HST.out
 go_upto_region 6 with fail
 rw [HW3.out, HB6.out]
 clear u0 u1 u2 u3 c2
 go_cut [7] (fun s7 wx => R6S BW w W3 n0 (hi - lo) c.attrs (cutL lo hi c.toks) s7 wx)
 case first =>
  as_aux_lemma =>
  have hdr : Below W3.heap.size W3 W3.drew := (Below.refl _ W3).drew
  have hds : W3.heap.size ≤ W3.drew.heap.size := Nat.le_refl _
  have hda : ∀ o, Below W3.heap.size W3 ((W3.alloc o).drew) := fun o => ((Below.refl _ W3).alloc (Nat.le_refl _) o).drew
  have hdb : ((W3.alloc (.cells #[.slice none 0 0, .slice none 0 0, .slice none 0 0, .slice none 0 0, .slice none 0 0, .slice none 0 0, .slice none 0 0] 30)).drew).heap[W3.heap.size]? = some (.cells #[.slice none 0 0, .slice none 0 0, .slice none 0 0, .slice none 0 0, .slice none 0 0, .slice none 0 0, .slice none 0 0] 30 (0, 0)) := block_new W3 _
  go_region_held3 (fun w' => w'.cell? ⟨N0, 0, none⟩ = some (.slice A0 n0 k0) ∧ w'.cell? ⟨N0, 1, none⟩ = some (.slice A1 n1 k1) ∧ w'.cell? ⟨B6, 1, none⟩ = some (.int .i64 (lo : Int)) ∧ w'.cell? ⟨B6, 2, none⟩ = some (.int .i64 (hi : Int)))
   (first
    | go_keep
    | exact HSS.out _ (show Below W3.heap.size W3 _ from (by with_reducible first | exact hxB | exact hxA | exact hdr | exact hda _ | exact hxA.alloc hxA.size _ | exact hxB.alloc hxB.size _ | (refine below_seven ?_ ?_ <;> first | exact hxB | exact hxA | exact Nat.le_refl _ | exact hds | exact hxA.size | exact hxB.size)))
    | fail)
   ((first
     | (refine step_addO Tryz.infoC_attr rfl (by decide) one_attr 22 Tryz.underlying22 rfl (.const (.slice none 0 0)) (.tmp 35) rfl (.slice none 0 0) (.slice A0 n0 k0) [] (c.attrs) (by simp [Act.eval, Act.put]) (by simp [Act.eval, Act.put]) (OwnO.nil BW _ _ _ w _) (HAA.out _ (HW0.out _ (by with_reducible first | exact hxB | exact hxA | exact hdr | exact hda _ | exact hxA.alloc hxA.size _ | exact hxB.alloc hxB.size _ | (refine below_seven ?_ ?_ <;> first | exact hxB | exact hxA | exact Nat.le_refl _ | exact hds | exact hxA.size | exact hxB.size)))) (by simp; unfold maxLen; have := HCL.out; omega) (by simp; have := HCL.out; omega) (by rw [← HBWE.out]; exact (show Below W3.heap.size W3 _ from (by with_reducible first | exact hxB | exact hxA | exact hdr | exact hda _ | exact hxA.alloc hxA.size _ | exact hxB.alloc hxB.size _ | (refine below_seven ?_ ?_ <;> first | exact hxB | exact hxA | exact Nat.le_refl _ | exact hds | exact hxA.size | exact hxB.size))).size) ?_; intro vA wA hoA hkA hbA; rw [List.nil_append] at hoA; have hxA : Below W3.heap.size W3 wA := hbA.out _ _ (by with_reducible first | exact hxB | exact hxA | exact hdr | exact hda _ | exact hxA.alloc hxA.size _ | exact hxB.alloc hxB.size _ | (refine below_seven ?_ ?_ <;> first | exact hxB | exact hxA | exact Nat.le_refl _ | exact hds | exact hxA.size | exact hxB.size)) (by rw [HBWE.out]; exact Nat.le_refl _); (first | ((have hqA : wA.heap[W3.heap.size]? = some (.cells #[.slice none 0 0, .slice none 0 0, .slice none 0 0, .slice none 0 0, .slice none 0 0, .slice none 0 0, .slice none 0 0] 30 (0, 0)) := hkA.out _ _ _ _ hdb (by decide)); obtain ⟨⟨bA0, bA1, bA2, bA3, bA4, bA5, bA6⟩, fA0, fA1, fA2, fA3, fA4, fA5, fA6⟩ := seven_f hqA) | ((have hqA : wA.heap[wB.heap.size]? = some (.cells #[.slice none 0 0, .slice none 0 0, .slice none 0 0, .slice none 0 0, .slice none 0 0, .slice none 0 0, .slice none 0 0] 30 (0, 0)) := hkA.out _ _ _ _ (block_new wB _) (by decide)); obtain ⟨⟨bA0, bA1, bA2, bA3, bA4, bA5, bA6⟩, fA0, fA1, fA2, fA3, fA4, fA5, fA6⟩ := seven_f hqA) | ((have hqA := hkA.out _ _ _ _ hqB (by decide)); obtain ⟨⟨bA0, bA1, bA2, bA3, bA4, bA5, bA6⟩, fA0, fA1, fA2, fA3, fA4, fA5, fA6⟩ := seven_f hqA) | skip); obtain ⟨AA, cA, eA, _⟩ := OwnO.form hoA.out; rw [show (c.attrs).length = n0 from HLEN.out.1] at eA; subst eA)
     | (refine step_addO Tryz.infoE_tok rfl (by decide) one_tok 23 Tryz.underlying23 rfl (.const (.slice none 0 0)) (.tmp 43) rfl (.slice none 0 0) (.slice At (hi - lo) ct) [] (cutL lo hi c.toks) (by simp [Act.eval, Act.put]) (by simp [Act.eval, Act.put]) (OwnO.nil BW _ _ _ w _) (HAT.out _ (HW0.out _ (by with_reducible first | exact hxB | exact hxA | exact hdr | exact hda _ | exact hxA.alloc hxA.size _ | exact hxB.alloc hxB.size _ | (refine below_seven ?_ ?_ <;> first | exact hxB | exact hxA | exact Nat.le_refl _ | exact hds | exact hxA.size | exact hxB.size)))) (by simp; unfold maxLen; have := HCL.out; omega) (by simp; have := HCL.out; omega) (by rw [← HBWE.out]; exact (show Below W3.heap.size W3 _ from (by with_reducible first | exact hxB | exact hxA | exact hdr | exact hda _ | exact hxA.alloc hxA.size _ | exact hxB.alloc hxB.size _ | (refine below_seven ?_ ?_ <;> first | exact hxB | exact hxA | exact Nat.le_refl _ | exact hds | exact hxA.size | exact hxB.size))).size) ?_; intro vB wB hoB hkB hbB; rw [List.nil_append] at hoB; have hxB : Below W3.heap.size W3 wB := hbB.out _ _ (by with_reducible first | exact hxB | exact hxA | exact hdr | exact hda _ | exact hxA.alloc hxA.size _ | exact hxB.alloc hxB.size _ | (refine below_seven ?_ ?_ <;> first | exact hxB | exact hxA | exact Nat.le_refl _ | exact hds | exact hxA.size | exact hxB.size)) (by rw [HBWE.out]; exact Nat.le_refl _); (first | ((have hqB : wB.heap[W3.heap.size]? = some (.cells #[.slice none 0 0, .slice none 0 0, .slice none 0 0, .slice none 0 0, .slice none 0 0, .slice none 0 0, .slice none 0 0] 30 (0, 0)) := hkB.out _ _ _ _ hdb (by decide)); obtain ⟨⟨bB0, bB1, bB2, bB3, bB4, bB5, bB6⟩, fB0, fB1, fB2, fB3, fB4, fB5, fB6⟩ := seven_f hqB) | ((have hqB : wB.heap[wA.heap.size]? = some (.cells #[.slice none 0 0, .slice none 0 0, .slice none 0 0, .slice none 0 0, .slice none 0 0, .slice none 0 0, .slice none 0 0] 30 (0, 0)) := hkB.out _ _ _ _ (block_new wA _) (by decide)); obtain ⟨⟨bB0, bB1, bB2, bB3, bB4, bB5, bB6⟩, fB0, fB1, fB2, fB3, fB4, fB5, fB6⟩ := seven_f hqB) | ((have hqB := hkB.out _ _ _ _ hqA (by decide)); obtain ⟨⟨bB0, bB1, bB2, bB3, bB4, bB5, bB6⟩, fB0, fB1, fB2, fB3, fB4, fB5, fB6⟩ := seven_f hqB) | skip); obtain ⟨AB, cB, eB, _⟩ := OwnO.form hoB.out; rw [show (cutL lo hi c.toks).length = hi - lo from HCL.out.2.1] at eB; subst eB)
     | fail))
  all_goals go_wp2_with fail
  all_goals go_meet
  all_goals have hbB' : Below BW W3 wB := by rw [← HBWE.out]; exact hxB
  all_goals have hszB : BW ≤ wB.heap.size := by rw [← HBWE.out]; exact hxB.size
  all_goals first
   | with_reducible exact r6_alloc hbB' hszB (hoA.out.keptT hkB.out (by decide)) hoB.out
   | with_reducible exact r6_set hqB (by rw [← HBWE.out]; exact Nat.le_refl _) hbB' (hoA.out.keptT hkB.out (by decide)) hoB.out
   | with_reducible exact r6_set hqB (by rw [← HBWE.out]; exact hxA.size) hbB' ((hoA.out.below (below_box wA _)).keptT hkB.out (by decide)) hoB.out
 obtain ⟨B7, AA, AB, cA, cB, rfl, hB7, hb7, hoa, hot, hbc⟩ := hcut
 obtain ⟨z1, z2, z3⟩ := HZ.out
 have hlt6 : B6 < BW := by rw [← HBWE.out]; exact HLT.out.2
 have hlt0 := HLT.out.1
 have y1 := block_below z1 hbc (by omega)
 have y2 := block_below z2 hbc (by omega)
 have y3 := block_below z3 hbc hlt6
 have c1 : wc.cell? ⟨B6, 1, none⟩ = some (.int .i64 (lo : Int)) := cell_of y3 rfl
 have c2 : wc.cell? ⟨B6, 2, none⟩ = some (.int .i64 (hi : Int)) := cell_of y3 rfl
 have f1 : wc.frozen? ⟨B6, 1, none⟩ = false := frozen_of y3
 have f2 : wc.frozen? ⟨B6, 2, none⟩ = false := frozen_of y3
 have s1 := set_of (i := 1) y3 (.int .i64 0)
 have s2 := set_of (i := 2) s1 (.int .i64 ((hi : Int) - (lo : Int)))
 obtain ⟨W8, hW8⟩ : ∃ W, (wc.setCell ⟨B6, 1, none⟩ (.int .i64 0)).setCell ⟨B6, 2, none⟩ (.int .i64 ((hi : Int) - (lo : Int))) = W := ⟨_, rfl⟩
 have hwr : IntKind.i64.wrap ((hi : Int) - (lo : Int)) = (hi : Int) - (lo : Int) := by have := HCL.out; rw [IntKind.wrap_i64]; omega
 have keep8 : ∀ k, k ≠ B6 → W8.heap[k]? = wc.heap[k]? := fun k hk => by rw [← hW8]; exact (Below.heap_setCell _ ⟨B6, 2, none⟩ _ k hk).trans (Below.heap_setCell _ ⟨B6, 1, none⟩ _ k hk)
 have s8 : W8.heap.size = wc.heap.size := by rw [← hW8]; simp [World.setCell]
 rw [hW8] at s2
 have w70 : W8.heap[B7]? = _ := (keep8 B7 (by omega)).trans hb7
 have w10 := (keep8 N0 (by omega)).trans y1
 have w20 := (keep8 (N0 + 1) (by omega)).trans y2
 have hoa8 : OwnO BW 61 2 EAttr w W8 (.slice AA n0 cA) c.attrs := hoa.keep fun k hk => keep8 k (by have := (hoa.block k hk).1; omega)
 have hot8 : OwnO BW 28 1 ETok w W8 (.slice AB (hi - lo) cB) (cutL lo hi c.toks) := hot.keep fun k hk => keep8 k (by have := (hot.block k hk).1; omega)
 have hbe0 : Below N0 w wc := by
  have h0 := HBW3.out
  rw [HN0.out] at h0
  exact h0.trans (hbc.mono (by omega))
 have hbe8 : Below N0 w W8 := by rw [← hW8]; exact (hbe0.setCell (by show N0 ≤ B6; omega) _).setCell (by show N0 ≤ B6; omega) _
 have e0 : W8.cell? ⟨B6, 0, none⟩ = some (.string P) := cell_of s2 rfl
 have e1 : W8.cell? ⟨B6, 1, none⟩ = some (.int .i64 0) := cell_of s2 rfl
 have e2 : W8.cell? ⟨B6, 2, none⟩ = some (.int .i64 ((hi : Int) - (lo : Int))) := cell_of s2 rfl
 have e3 : W8.cell? ⟨B6, 3, none⟩ = some (.slice Au nu pu) := cell_of s2 rfl
 have s7a := block_alloc (.cells #[.string P, .int .i64 0, .int .i64 ((hi : Int) - (lo : Int)), .slice Au nu pu] 51) w70
 have e4 : (W8.alloc (.cells #[.string P, .int .i64 0, .int .i64 ((hi : Int) - (lo : Int)), .slice Au nu pu] 51)).cell? ⟨B7, 2, none⟩ = some (.slice none 0 0) := cell_of s7a rfl
 have f4 : (W8.alloc (.cells #[.string P, .int .i64 0, .int .i64 ((hi : Int) - (lo : Int)), .slice Au nu pu] 51)).frozen? ⟨B7, 2, none⟩ = false := frozen_of s7a
 obtain ⟨W9, hW9⟩ : ∃ W, (W8.alloc (.cells #[.string P, .int .i64 0, .int .i64 ((hi : Int) - (lo : Int)), .slice Au nu pu] 51)).setCell ⟨B7, 2, none⟩ (.slice (some ⟨W8.heap.size, 0, none⟩) 1 1) = W := ⟨_, rfl⟩
 have hdoc : DocS w N0 B6 B7 BW #[.slice A0 n0 k0, .slice A1 n1 k1, .slice (some ⟨bx, ox, none⟩) n2 k2, .slice A3 n3 k3, .slice A4 n4 k4, .slice A5 n5 k5, .slice A6 n6 k6] #[.string P, .int .i64 0, .int .i64 ((hi : Int) - (lo : Int)), .slice Au nu pu] W9 ⟨.slice AA n0 cA, .slice AB (hi - lo) cB, .slice (some ⟨W8.heap.size, 0, none⟩) 1 1, .slice none 0 0, .slice none 0 0, .slice none 0 0, .slice none 0 0⟩ ⟨c.attrs, cutL lo hi c.toks, [⟨t.name, 0, (hi : Int) - (lo : Int), t.ps⟩], [], [], [], []⟩ := by
  have kA : ∀ k, k < W8.heap.size → k ≠ B7 → W9.heap[k]? = W8.heap[k]? := fun k h1 h2 => by rw [← hW9]; exact (Below.heap_setCell _ ⟨B7, 2, none⟩ _ k h2).trans (heap_alloc_old W8 _ h1)
  have hn9 : W9.heap[W8.heap.size]? = some (.cells #[.string P, .int .i64 0, .int .i64 ((hi : Int) - (lo : Int)), .slice Au nu pu] 51 (0, 0)) := by
   rw [← hW9, Below.heap_setCell _ ⟨B7, 2, none⟩ _ _ (by have := lt_blk w70; show W8.heap.size ≠ B7; omega)]
   exact block_new W8 _
  have hB7' := lt_blk w70
  refine ⟨(kA _ (lt_blk w10) (by omega)).trans w10, (kA _ (lt_blk w20) (by omega)).trans w20, (kA _ (lt_blk s2) (by omega)).trans s2, by rw [← hW9]; exact set_of (i := 2) s7a _, ⟨by omega, hB7, by omega⟩, by rw [← hW9]; exact (hbe8.alloc (by have := lt_blk w10; omega) _).setCell (by show N0 ≤ B7; omega) _, ?_, ?_, ?_, OwnO.nil _ _ _ _ _ _, OwnO.nil _ _ _ _ _ _, OwnO.nil _ _ _ _ _ _, OwnO.nil _ _ _ _ _ _⟩
  · exact hoa8.keep fun k hk => by
     obtain ⟨h1, cur, h2⟩ := hoa8.block k hk
     exact kA k (lt_blk h2) (blk_ne h2 w70 (by decide))
  · exact hot8.keep fun k hk => by
     obtain ⟨h1, cur, h2⟩ := hot8.block k hk
     exact kA k (lt_blk h2) (blk_ne h2 w70 (by decide))
  refine ⟨[⟨[.string P, .int .i64 0, .int .i64 ((hi : Int) - (lo : Int)), .slice Au nu pu], rfl⟩], rfl, ⟨rfl, .inr ⟨W8.heap.size, 1, _, rfl, by omega, hn9, Nat.le_refl _, by unfold maxLen; omega, rfl, rfl⟩⟩, fun j y d h1 h2 => ?_⟩
  cases j with
  | zero => cases h1; cases h2; exact HEX.out
  | succ j => simp at h1
 have HDOC := Lib.hid hdoc
 have HW8 := Lib.hid hW8
 have HW9 := Lib.hid hW9
 clear hdoc hW8 hW9 keep8 w70 w10 w20 hoa8 hot8 hbe0 hbe8 s1 s2 s8 s7a y1 y2 y3 z1 z2 z3 hb7 hoa hot hbc
 go_upto_region 9 with fail
 rw [HW8.out]
 clear c1 c2 f1 f2
 go_upto_region 10 with fail
 rw [HW9.out]
 clear e0 e1 e2 e3 e4 f4 hwr
 have c3 : W9.cell? ⟨N0, 3, none⟩ = some (.slice A3 n3 k3) := cell_of HDOC.out.b0 rfl
 go_wp2_with fail
 clear c3
 go_loopw [60] (fun v60 wr => ∃ (j : Nat) (s' : Sv), j ≤ n3 ∧ v60 = .int .i64 j ∧ Hid (DocS w N0 B6 B7 BW #[.slice A0 n0 k0, .slice A1 n1 k1, .slice (some ⟨bx, ox, none⟩) n2 k2, .slice A3 n3 k3, .slice A4 n4 k4, .slice A5 n5 k5, .slice A6 n6 k6] #[.string P, .int .i64 0, .int .i64 ((hi : Int) - (lo : Int)), .slice Au nu pu] wr s' ⟨c.attrs, cutL lo hi c.toks, [⟨t.name, 0, (hi : Int) - (lo : Int), t.ps⟩], ((c.regs.take j).filter fun x => inT t x.b x.e).map (mvEx (-t.b)), [], [], []⟩)) (fun v60 _ => n3 - (Go.RowKit.intOf v60).toNat)
 case atStart => exact ⟨0, _, Nat.zero_le _, rfl, HDOC⟩
 clear HDOC
 obtain ⟨j, s', hj, rfl, hs⟩ := hrel
 by_cases hjn : j < n3
 ·
  obtain ⟨x, hx⟩ : ∃ x, c.regs[j]? = some x := ⟨_, List.getElem?_eq_getElem (by have := HLEN.out.2.2.1; omega)⟩
  obtain ⟨br, oo, hA3, hbl3, hj3⟩ := at_ex HC.out.r (by have := HLEN.out.2.2.1; omega)
  subst hA3
  obtain ⟨ux, rx, x0, x1, x2, x3⟩ := hj3 j x hx
  have hwi := within_range HVV.out.text (regs_in HVV.out x (List.mem_of_getElem? hx))
  have hvl := HVL.out
  have hle1 := HLEN.out.2.1
  have hbw : Below w.heap.size w wr := by rw [HN0.out]; exact hs.out.be
  have hexx : EEx w [.string ⟨x.name.toArray⟩, .int .i64 (x.b - (lo : Int)), .int .i64 (x.e - (lo : Int)), ux] (mvEx (-t.b) x) := ⟨ux, by rw [HT.out.2.1]; rfl, rx⟩
  have hstep := filter_step hx (fun x => inT t x.b x.e) (mvEx (-t.b))
  have hin : inT t x.b x.e = (decide ((lo : Int) ≤ x.b) && decide (x.e ≤ (hi : Int))) := by unfold inT; rw [HT.out.2.1, HT.out.2.2]
  have hlenj : (((c.regs.take j).filter fun x => inT t x.b x.e).map (mvEx (-t.b))).length ≤ 1024 := by
   rw [List.length_map]
   refine Nat.le_trans (List.length_filter_le _ _) ?_
   rw [List.length_take]
   omega
  simp only [hin] at hstep
  obtain ⟨Ax, px, rfl, -⟩ := rx.form
  obtain ⟨nx, hnx⟩ : ∃ n, x.ps.length = n := ⟨_, rfl⟩
  obtain ⟨Q, hQ⟩ : ∃ s : ByteArray, (⟨x.name.toArray⟩ : ByteArray) = s := ⟨_, rfl⟩
  obtain ⟨xb, hxb⟩ : ∃ z, x.b = z := ⟨_, rfl⟩
  obtain ⟨xe, hxe⟩ : ∃ z, x.e = z := ⟨_, rfl⟩
  rw [hQ] at x0 hexx
  rw [hxb] at x1 hexx hwi hstep
  rw [hxe] at x2 hexx hwi hstep
  rw [hnx] at x3 hexx
  have r0 := keepC x0 hbw
  have r1 := keepC x1 hbw
  have r2 := keepC x2 hbw
  have r3 := keepC x3 hbw
  have d1 := cell_of (i := 1) (block_new wr (.cells #[.string Q, .int .i64 xb, .int .i64 xe, .slice Ax nx px] 54)) rfl
  have d2 := cell_of (i := 2) (block_new wr (.cells #[.string Q, .int .i64 xb, .int .i64 xe, .slice Ax nx px] 54)) rfl
  have g1 : (wr.alloc (.cells #[.string Q, .int .i64 xb, .int .i64 xe, .slice Ax nx px] 54)).frozen? ⟨wr.heap.size, 1, none⟩ = false := frozen_of (block_new wr _)
  have g2 : (wr.alloc (.cells #[.string Q, .int .i64 xb, .int .i64 xe, .slice Ax nx px] 54)).frozen? ⟨wr.heap.size, 2, none⟩ = false := frozen_of (block_new wr _)
  have e2 : (wr.alloc (.cells #[.string Q, .int .i64 xb, .int .i64 xe, .slice Ax nx px] 54)).cell? ⟨B6, 2, none⟩ = some (.int .i64 ((hi : Int) - (lo : Int))) := cell_of (block_alloc _ hs.out.b6) rfl
  have hws : IntKind.i64.wrap ((lo : Int) + ((hi : Int) - (lo : Int))) = (hi : Int) := by rw [IntKind.wrap_i64]; omega
  have hwb : IntKind.i64.wrap (xb - (lo : Int)) = xb - (lo : Int) := by rw [IntKind.wrap_i64]; omega
  have hwe : IntKind.i64.wrap (xe - (lo : Int)) = xe - (lo : Int) := by rw [IntKind.wrap_i64]; omega
  have hls : (lo : Int) + ((hi : Int) - (lo : Int)) = (hi : Int) := by omega
  have HSTEP := Lib.hid hstep
  have HEXX := Lib.hid hexx
  have HLJ := Lib.hid hlenj
  clear hj3 hbl3 rx x0 x1 x2 x3 hbw hexx hstep hin hlenj hx hnx hQ hxb hxe hle1
  by_cases p1 : (lo : Int) ≤ xb
  ·
   by_cases p2 : xe ≤ (hi : Int)
   ·
    rw [decide_eq_true p1, decide_eq_true p2] at HSTEP
    have hn3 : n3 ≤ 1024 := hvl.2.2.2.1
    clear hwi hvl
    go_upto_region 15 with fail
    have s2 := block_new wr (.cells #[.string Q, .int .i64 (xb - (lo : Int)), .int .i64 (xe - (lo : Int)), .slice Ax nx px] 54)
    obtain ⟨W14, hW14⟩ : ∃ W, wr.alloc (.cells #[.string Q, .int .i64 (xb - (lo : Int)), .int .i64 (xe - (lo : Int)), .slice Ax nx px] 54) = W := ⟨_, rfl⟩
    have hb14 : Below wr.heap.size wr W14 := hW14 ▸ below_box wr _
    rw [hW14] at s2 ⊢
    have h14 := hs.out.below hb14
    have h14a := h14.below (below_box W14 (.cells #[.string Q, .int .i64 (xb - (lo : Int)), .int .i64 (xe - (lo : Int)), .slice Ax nx px] 54))
    have hadd := AddX.one (w0 := w) (E := EEx) (c := ⟨[.string Q, .int .i64 (xb - (lo : Int)), .int .i64 (xe - (lo : Int)), .slice Ax nx px], rfl⟩) (block_new W14 (.cells #[.string Q, .int .i64 (xb - (lo : Int)), .int .i64 (xe - (lo : Int)), .slice Ax nx px] 54)) HEXX.out 1
    have k0 : W14.cell? ⟨wr.heap.size, 0, none⟩ = some (.string Q) := cell_of s2 rfl
    have k1 : W14.cell? ⟨wr.heap.size, 1, none⟩ = some (.int .i64 (xb - (lo : Int))) := cell_of s2 rfl
    have k2 : W14.cell? ⟨wr.heap.size, 2, none⟩ = some (.int .i64 (xe - (lo : Int))) := cell_of s2 rfl
    have k3 : W14.cell? ⟨wr.heap.size, 3, none⟩ = some (.slice Ax nx px) := cell_of s2 rfl
    have k7 : W14.cell? ⟨B7, 3, none⟩ = some s'.vr := cell_of h14.b7 rfl
    have hbwa : BW ≤ (W14.alloc (.cells #[.string Q, .int .i64 (xb - (lo : Int)), .int .i64 (xe - (lo : Int)), .slice Ax nx px] 54)).heap.size := by have := lt_blk h14a.b7; have := h14a.lt; omega
    have H14A := Lib.hid h14a
    have HADD := Lib.hid hadd
    have HBWA := Lib.hid hbwa
    clear s2 hW14 hb14 h14 h14a hadd hbwa d1 d2 g1 g2 e2 r0 r1 r2 r3
    go_wp2_with (at_builtin; refine wpList_addO Tryz.infoE_reg rfl (by decide) one_ex 25 Tryz.underlying25 rfl (.tmp 88) (.tmp 90) rfl _ _ _ [mvEx (-t.b) x] rfl rfl H14A.out.r HADD.out (by have := HLJ.out; simp only [List.length_cons, List.length_nil]; unfold maxLen; omega) (by have := HLJ.out; simp only [List.length_cons, List.length_nil]; omega) HBWA.out ?_)
    intro v91 wb ho hk hb
    have h7b := hk.out _ _ _ _ H14A.out.b7 (by decide)
    have hnew := H14A.out.addR hk.out (hb.out _ _ H14A.out.be (by have := H14A.out.lt; omega)) ho.out
    obtain ⟨Av, m9, cv, hv9⟩ := OwnO.sl ho.out
    subst hv9
    have m7 : wb.cell? ⟨B7, 3, none⟩ = some s'.vr := cell_of h7b rfl
    have mf : wb.frozen? ⟨B7, 3, none⟩ = false := frozen_of h7b
    have HNEW := Lib.hid hnew
    clear h7b hnew ho hk hb k0 k1 k2 k3 k7
    go_wp2_with fail
    exact ⟨⟨j + 1, _, by omega, by go_num, Lib.hid (by rw [HSTEP.out]; exact HNEW.out)⟩, by simp only [Go.RowKit.intOf]; omega⟩
   rw [decide_eq_true p1, decide_eq_false p2] at HSTEP
   go_wp2_with fail
   exact ⟨⟨j + 1, s', by omega, by go_num, Lib.hid (by rw [HSTEP.out]; exact hs.out.below (below_box wr _))⟩, by simp only [Go.RowKit.intOf]; omega⟩
  rw [decide_eq_false p1] at HSTEP
  go_wp2_with fail
  exact ⟨⟨j + 1, s', by omega, by go_num, Lib.hid (by rw [HSTEP.out]; exact hs.out.below (below_box wr _))⟩, by simp only [Go.RowKit.intOf]; omega⟩
 obtain rfl : n3 = j := by omega
 have htk : c.regs.take n3 = c.regs := List.take_of_length_le (by have := HLEN.out.2.2.1; omega)
 rw [htk] at hs
 obtain ⟨RF, hRF⟩ : ∃ R, (c.regs.filter fun x => inT t x.b x.e).map (mvEx (-t.b)) = R := ⟨_, rfl⟩
 rw [hRF] at hs
 have HRF := Lib.hid hRF
 obtain ⟨fn, hfn⟩ : ∃ m, firstN c t = m := ⟨_, rfl⟩
 have hfl : fn ≤ n4 := by rw [← hfn]; have := cntL_le (fun x : Nd => decide (x.b < (t.b.toNat : Int))) c.nodes; have := HLEN.out.2.2.2.1; unfold firstN; omega
 have HFN := Lib.hid hfn
 have HFL := Lib.hid hfl
 have c4 : wr.cell? ⟨N0, 4, none⟩ = some (.slice A4 n4 k4) := cell_of hs.out.b0 rfl
 clear htk hRF hfn hfl
 go_wp2_with fail
 clear c4
 go_loopw [11, 97] (fun v11 v97 wr => ∃ (j2 : Nat) (f : Int) (s' : Sv), j2 ≤ n4 ∧ v11 = .int .i64 f ∧ v97 = .int .i64 j2 ∧ Hid (f = if ((c.nodes.take j2).any fun x => inT t x.b x.e) = true then (fn : Int) else -1) ∧ Hid (DocS w N0 B6 B7 BW #[.slice A0 n0 k0, .slice A1 n1 k1, .slice (some ⟨bx, ox, none⟩) n2 k2, .slice A3 n3 k3, .slice A4 n4 k4, .slice A5 n5 k5, .slice A6 n6 k6] #[.string P, .int .i64 0, .int .i64 ((hi : Int) - (lo : Int)), .slice Au nu pu] wr s' ⟨c.attrs, cutL lo hi c.toks, [⟨t.name, 0, (hi : Int) - (lo : Int), t.ps⟩], RF, ((c.nodes.take j2).filter fun x => inT t x.b x.e).map (mvNd (-t.b) (-(fn : Int))), [], []⟩)) (fun _ v97 _ => n4 - (Go.RowKit.intOf v97).toNat)
 case atStart => exact ⟨0, -1, _, Nat.zero_le _, rfl, rfl, Lib.hid rfl, hs⟩
 clear hs
 obtain ⟨j2, f, s', hj2, rfl, rfl, hf, hs⟩ := hrel
 by_cases hjn2 : j2 < n4
 ·
  obtain ⟨y, hy⟩ : ∃ y, c.nodes[j2]? = some y := ⟨_, List.getElem?_eq_getElem (by have := HLEN.out.2.2.2.1; omega)⟩
  obtain ⟨bn, on, hA4, hbl4, hj4⟩ := at_nd HC.out.n (by have := HLEN.out.2.2.2.1; omega)
  subst hA4
  obtain ⟨y0, y1, y2, y3⟩ := hj4 j2 y hy
  have hwi := within_range HVV.out.text (nodes_in HVV.out y (List.mem_of_getElem? hy))
  have hpar := valid_parent HVV.out hy
  have hvl := HVL.out
  have hle1 := HLEN.out.2.1
  have hn4 : n4 ≤ 2048 := hvl.2.2.2.2
  have hbw : Below w.heap.size w wr := by rw [HN0.out]; exact hs.out.be
  have hstep := filter_step hy (fun x => inT t x.b x.e) (mvNd (-t.b) (-(fn : Int)))
  have hany : ((c.nodes.take (j2 + 1)).any fun x => inT t x.b x.e) = (((c.nodes.take j2).any fun x => inT t x.b x.e) || inT t y.b y.e) := by rw [List.take_add_one, hy]; simp
  have hin : inT t y.b y.e = (decide ((lo : Int) ≤ y.b) && decide (y.e ≤ (hi : Int))) := by unfold inT; rw [HT.out.2.1, HT.out.2.2]
  have hfk : inT t y.b y.e = true → ((c.nodes.take j2).any fun x => inT t x.b x.e) = false → j2 = fn := fun h1 h2 => by
   rw [← HFN.out]
   refine first_kept HVV.out HT.out.1 hy h1 (fun i z hi hz => ?_)
   have := List.any_eq_false.1 h2 z (List.mem_of_getElem? (i := i) (by rw [List.getElem?_take, if_pos hi]; exact hz))
   simpa using this
  have hlenj : (((c.nodes.take j2).filter fun x => inT t x.b x.e).map (mvNd (-t.b) (-(fn : Int)))).length ≤ 2048 := by
   rw [List.length_map]
   refine Nat.le_trans (List.length_filter_le _ _) ?_
   rw [List.length_take]
   omega
  have hmv : ∀ q : Int, q = incZ (-(fn : Int)) y.parent → ENd w [.string ⟨y.label.toArray⟩, .int .i64 (y.b - (lo : Int)), .int .i64 (y.e - (lo : Int)), .int .i64 q] (mvNd (-t.b) (-(fn : Int)) y) := fun q hq => by rw [hq, HT.out.2.1]; rfl
  rw [hin] at hany hfk
  simp only [hin] at hstep
  obtain ⟨L, hL⟩ : ∃ s : ByteArray, (⟨y.label.toArray⟩ : ByteArray) = s := ⟨_, rfl⟩
  obtain ⟨yb, hyb⟩ : ∃ z, y.b = z := ⟨_, rfl⟩
  obtain ⟨ye, hye⟩ : ∃ z, y.e = z := ⟨_, rfl⟩
  obtain ⟨yp, hyp⟩ : ∃ z, y.parent = z := ⟨_, rfl⟩
  rw [hL] at y0
  rw [hyb] at y1 hwi
  rw [hye] at y2 hwi
  rw [hyp] at y3 hpar
  rw [hyb, hye] at hany hstep hfk
  simp only [hL, hyb, hye, hyp] at hmv
  have r0 := keepC y0 hbw
  have r1 := keepC y1 hbw
  have r2 := keepC y2 hbw
  have r3 := keepC y3 hbw
  have d1 := cell_of (i := 1) (block_new wr (.cells #[.string L, .int .i64 yb, .int .i64 ye, .int .i64 yp] 56)) rfl
  have d2 := cell_of (i := 2) (block_new wr (.cells #[.string L, .int .i64 yb, .int .i64 ye, .int .i64 yp] 56)) rfl
  have d3 := cell_of (i := 3) (block_new wr (.cells #[.string L, .int .i64 yb, .int .i64 ye, .int .i64 yp] 56)) rfl
  have g1 : (wr.alloc (.cells #[.string L, .int .i64 yb, .int .i64 ye, .int .i64 yp] 56)).frozen? ⟨wr.heap.size, 1, none⟩ = false := frozen_of (block_new wr _)
  have g2 : (wr.alloc (.cells #[.string L, .int .i64 yb, .int .i64 ye, .int .i64 yp] 56)).frozen? ⟨wr.heap.size, 2, none⟩ = false := frozen_of (block_new wr _)
  have g3 : (wr.alloc (.cells #[.string L, .int .i64 yb, .int .i64 ye, .int .i64 yp] 56)).frozen? ⟨wr.heap.size, 3, none⟩ = false := frozen_of (block_new wr _)
  have e2 : (wr.alloc (.cells #[.string L, .int .i64 yb, .int .i64 ye, .int .i64 yp] 56)).cell? ⟨B6, 2, none⟩ = some (.int .i64 ((hi : Int) - (lo : Int))) := cell_of (block_alloc _ hs.out.b6) rfl
  have hws : IntKind.i64.wrap ((lo : Int) + ((hi : Int) - (lo : Int))) = (hi : Int) := by rw [IntKind.wrap_i64]; omega
  have hwb : IntKind.i64.wrap (yb - (lo : Int)) = yb - (lo : Int) := by rw [IntKind.wrap_i64]; omega
  have hwe : IntKind.i64.wrap (ye - (lo : Int)) = ye - (lo : Int) := by rw [IntKind.wrap_i64]; omega
  have hls : (lo : Int) + ((hi : Int) - (lo : Int)) = (hi : Int) := by omega
  have HSTEP := Lib.hid hstep
  have HANY := Lib.hid hany
  have HMV := Lib.hid hmv
  have HLJ := Lib.hid hlenj
  have HFK := Lib.hid hfk
  clear hj4 hbl4 y0 y1 y2 y3 hbw hstep hany hin hmv hlenj hy hL hyb hye hyp hle1 hfk hvl
  by_cases p1 : (lo : Int) ≤ yb
  ·
   have p1' : ¬ yb < (lo : Int) := by omega
   by_cases p2 : ye ≤ (hi : Int)
   ·
    have p2' : ¬ (hi : Int) < ye := by omega
    rw [decide_eq_true p1, decide_eq_true p2] at HSTEP HANY HFK
    clear hwi
    by_cases hq0 : ((c.nodes.take j2).any fun x => inT t x.b x.e) = true
    ·
     obtain rfl : f = (fn : Int) := by rw [hf.out, if_pos hq0]
     have hf0 : ¬ (fn : Int) < 0 := by omega
     have hfl := HFL.out
     have hwp : IntKind.i64.wrap (yp - (fn : Int)) = yp - (fn : Int) := by rw [IntKind.wrap_i64]; omega
     clear hf
     by_cases p3 : (0 : Int) ≤ yp
     ·
      have p3' : ¬ yp < (0 : Int) := by omega
      go_upto_region 27 with fail
      have s2 := block_new wr (.cells #[.string L, .int .i64 (yb - (lo : Int)), .int .i64 (ye - (lo : Int)), .int .i64 (yp - (fn : Int))] 56)
      obtain ⟨W26, hW26⟩ : ∃ W, wr.alloc (.cells #[.string L, .int .i64 (yb - (lo : Int)), .int .i64 (ye - (lo : Int)), .int .i64 (yp - (fn : Int))] 56) = W := ⟨_, rfl⟩
      have hb26 : Below wr.heap.size wr W26 := hW26 ▸ below_box wr _
      rw [hW26] at s2 ⊢
      have h26 := hs.out.below hb26
      have h26a := h26.below (below_box W26 (.cells #[.string L, .int .i64 (yb - (lo : Int)), .int .i64 (ye - (lo : Int)), .int .i64 (yp - (fn : Int))] 56))
      have hen := HMV.out (yp - (fn : Int)) (by unfold incZ; rw [if_neg (by omega)]; omega)
      have hadd := AddX.one (w0 := w) (E := ENd) (c := ⟨[.string L, .int .i64 (yb - (lo : Int)), .int .i64 (ye - (lo : Int)), .int .i64 (yp - (fn : Int))], rfl⟩) (block_new W26 (.cells #[.string L, .int .i64 (yb - (lo : Int)), .int .i64 (ye - (lo : Int)), .int .i64 (yp - (fn : Int))] 56)) hen 1
      have k0 : W26.cell? ⟨wr.heap.size, 0, none⟩ = some (.string L) := cell_of s2 rfl
      have k1 : W26.cell? ⟨wr.heap.size, 1, none⟩ = some (.int .i64 (yb - (lo : Int))) := cell_of s2 rfl
      have k2 : W26.cell? ⟨wr.heap.size, 2, none⟩ = some (.int .i64 (ye - (lo : Int))) := cell_of s2 rfl
      have k3 : W26.cell? ⟨wr.heap.size, 3, none⟩ = some (.int .i64 (yp - (fn : Int))) := cell_of s2 rfl
      have k7 : W26.cell? ⟨B7, 4, none⟩ = some s'.vn := cell_of h26.b7 rfl
      have hbwa : BW ≤ (W26.alloc (.cells #[.string L, .int .i64 (yb - (lo : Int)), .int .i64 (ye - (lo : Int)), .int .i64 (yp - (fn : Int))] 56)).heap.size := by have := lt_blk h26a.b7; have := h26a.lt; omega
      have H26A := Lib.hid h26a
      have HADD := Lib.hid hadd
      have HBWA := Lib.hid hbwa
      clear s2 hW26 hb26 h26 h26a hadd hbwa hen d1 d2 d3 g1 g2 g3 e2
      go_wp2_with (at_builtin; refine wpList_addO Tryz.infoE_nd rfl (by decide) one_nd 26 Tryz.underlying26 rfl (.tmp 137) (.tmp 139) rfl _ _ _ [mvNd (-t.b) (-(fn : Int)) y] rfl rfl H26A.out.n HADD.out (by have := HLJ.out; simp only [List.length_cons, List.length_nil]; unfold maxLen; omega) (by have := HLJ.out; simp only [List.length_cons, List.length_nil]; omega) HBWA.out ?_)
      intro v140 wb ho hk hb
      have h7b := hk.out _ _ _ _ H26A.out.b7 (by decide)
      have hnew := H26A.out.addN hk.out (hb.out _ _ H26A.out.be (by have := H26A.out.lt; omega)) ho.out
      obtain ⟨Av, m9, cv, hv9⟩ := OwnO.sl ho.out
      subst hv9
      have m7 : wb.cell? ⟨B7, 4, none⟩ = some s'.vn := cell_of h7b rfl
      have mf : wb.frozen? ⟨B7, 4, none⟩ = false := frozen_of h7b
      have HNEW := Lib.hid hnew
      clear h7b hnew ho hk hb k0 k1 k2 k3 k7
      go_wp2_with fail
      exact ⟨⟨j2 + 1, (fn : Int), _, by omega, rfl, by go_num, Lib.hid (by rw [HANY.out, hq0]; simp), Lib.hid (by rw [HSTEP.out]; exact HNEW.out)⟩, by simp only [Go.RowKit.intOf]; omega⟩
     have p3' : yp < (0 : Int) := by omega
     go_upto_region 27 with fail
     have s2 := block_new wr (.cells #[.string L, .int .i64 (yb - (lo : Int)), .int .i64 (ye - (lo : Int)), .int .i64 (yp)] 56)
     obtain ⟨W26, hW26⟩ : ∃ W, wr.alloc (.cells #[.string L, .int .i64 (yb - (lo : Int)), .int .i64 (ye - (lo : Int)), .int .i64 (yp)] 56) = W := ⟨_, rfl⟩
     have hb26 : Below wr.heap.size wr W26 := hW26 ▸ below_box wr _
     rw [hW26] at s2 ⊢
     have h26 := hs.out.below hb26
     have h26a := h26.below (below_box W26 (.cells #[.string L, .int .i64 (yb - (lo : Int)), .int .i64 (ye - (lo : Int)), .int .i64 (yp)] 56))
     have hen := HMV.out (yp) (by unfold incZ; rw [if_pos (by omega)]; omega)
     have hadd := AddX.one (w0 := w) (E := ENd) (c := ⟨[.string L, .int .i64 (yb - (lo : Int)), .int .i64 (ye - (lo : Int)), .int .i64 (yp)], rfl⟩) (block_new W26 (.cells #[.string L, .int .i64 (yb - (lo : Int)), .int .i64 (ye - (lo : Int)), .int .i64 (yp)] 56)) hen 1
     have k0 : W26.cell? ⟨wr.heap.size, 0, none⟩ = some (.string L) := cell_of s2 rfl
     have k1 : W26.cell? ⟨wr.heap.size, 1, none⟩ = some (.int .i64 (yb - (lo : Int))) := cell_of s2 rfl
     have k2 : W26.cell? ⟨wr.heap.size, 2, none⟩ = some (.int .i64 (ye - (lo : Int))) := cell_of s2 rfl
     have k3 : W26.cell? ⟨wr.heap.size, 3, none⟩ = some (.int .i64 (yp)) := cell_of s2 rfl
     have k7 : W26.cell? ⟨B7, 4, none⟩ = some s'.vn := cell_of h26.b7 rfl
     have hbwa : BW ≤ (W26.alloc (.cells #[.string L, .int .i64 (yb - (lo : Int)), .int .i64 (ye - (lo : Int)), .int .i64 (yp)] 56)).heap.size := by have := lt_blk h26a.b7; have := h26a.lt; omega
     have H26A := Lib.hid h26a
     have HADD := Lib.hid hadd
     have HBWA := Lib.hid hbwa
     clear s2 hW26 hb26 h26 h26a hadd hbwa hen d1 d2 d3 g1 g2 g3 e2
     go_wp2_with (at_builtin; refine wpList_addO Tryz.infoE_nd rfl (by decide) one_nd 26 Tryz.underlying26 rfl (.tmp 137) (.tmp 139) rfl _ _ _ [mvNd (-t.b) (-(fn : Int)) y] rfl rfl H26A.out.n HADD.out (by have := HLJ.out; simp only [List.length_cons, List.length_nil]; unfold maxLen; omega) (by have := HLJ.out; simp only [List.length_cons, List.length_nil]; omega) HBWA.out ?_)
     intro v140 wb ho hk hb
     have h7b := hk.out _ _ _ _ H26A.out.b7 (by decide)
     have hnew := H26A.out.addN hk.out (hb.out _ _ H26A.out.be (by have := H26A.out.lt; omega)) ho.out
     obtain ⟨Av, m9, cv, hv9⟩ := OwnO.sl ho.out
     subst hv9
     have m7 : wb.cell? ⟨B7, 4, none⟩ = some s'.vn := cell_of h7b rfl
     have mf : wb.frozen? ⟨B7, 4, none⟩ = false := frozen_of h7b
     have HNEW := Lib.hid hnew
     clear h7b hnew ho hk hb k0 k1 k2 k3 k7
     go_wp2_with fail
     exact ⟨⟨j2 + 1, (fn : Int), _, by omega, rfl, by go_num, Lib.hid (by rw [HANY.out, hq0]; simp), Lib.hid (by rw [HSTEP.out]; exact HNEW.out)⟩, by simp only [Go.RowKit.intOf]; omega⟩
    have hq1 : ((c.nodes.take j2).any fun x => inT t x.b x.e) = false := by simpa using hq0
    obtain rfl : f = -1 := by rw [hf.out, hq1]; rfl
    obtain rfl := HFK.out rfl hq1
    have hwp : IntKind.i64.wrap (yp - (j2 : Int)) = yp - (j2 : Int) := by rw [IntKind.wrap_i64]; omega
    clear hf hq0 hq1
    by_cases p3 : (0 : Int) ≤ yp
    ·
     have p3' : ¬ yp < (0 : Int) := by omega
     go_upto_region 27 with fail
     have s2 := block_new wr (.cells #[.string L, .int .i64 (yb - (lo : Int)), .int .i64 (ye - (lo : Int)), .int .i64 (yp - (j2 : Int))] 56)
     obtain ⟨W26, hW26⟩ : ∃ W, wr.alloc (.cells #[.string L, .int .i64 (yb - (lo : Int)), .int .i64 (ye - (lo : Int)), .int .i64 (yp - (j2 : Int))] 56) = W := ⟨_, rfl⟩
     have hb26 : Below wr.heap.size wr W26 := hW26 ▸ below_box wr _
     rw [hW26] at s2 ⊢
     have h26 := hs.out.below hb26
     have h26a := h26.below (below_box W26 (.cells #[.string L, .int .i64 (yb - (lo : Int)), .int .i64 (ye - (lo : Int)), .int .i64 (yp - (j2 : Int))] 56))
     have hen := HMV.out (yp - (j2 : Int)) (by unfold incZ; rw [if_neg (by omega)]; omega)
     have hadd := AddX.one (w0 := w) (E := ENd) (c := ⟨[.string L, .int .i64 (yb - (lo : Int)), .int .i64 (ye - (lo : Int)), .int .i64 (yp - (j2 : Int))], rfl⟩) (block_new W26 (.cells #[.string L, .int .i64 (yb - (lo : Int)), .int .i64 (ye - (lo : Int)), .int .i64 (yp - (j2 : Int))] 56)) hen 1
     have k0 : W26.cell? ⟨wr.heap.size, 0, none⟩ = some (.string L) := cell_of s2 rfl
     have k1 : W26.cell? ⟨wr.heap.size, 1, none⟩ = some (.int .i64 (yb - (lo : Int))) := cell_of s2 rfl
     have k2 : W26.cell? ⟨wr.heap.size, 2, none⟩ = some (.int .i64 (ye - (lo : Int))) := cell_of s2 rfl
     have k3 : W26.cell? ⟨wr.heap.size, 3, none⟩ = some (.int .i64 (yp - (j2 : Int))) := cell_of s2 rfl
     have k7 : W26.cell? ⟨B7, 4, none⟩ = some s'.vn := cell_of h26.b7 rfl
     have hbwa : BW ≤ (W26.alloc (.cells #[.string L, .int .i64 (yb - (lo : Int)), .int .i64 (ye - (lo : Int)), .int .i64 (yp - (j2 : Int))] 56)).heap.size := by have := lt_blk h26a.b7; have := h26a.lt; omega
     have H26A := Lib.hid h26a
     have HADD := Lib.hid hadd
     have HBWA := Lib.hid hbwa
     clear s2 hW26 hb26 h26 h26a hadd hbwa hen d1 d2 d3 g1 g2 g3 e2
     go_wp2_with (at_builtin; refine wpList_addO Tryz.infoE_nd rfl (by decide) one_nd 26 Tryz.underlying26 rfl (.tmp 137) (.tmp 139) rfl _ _ _ [mvNd (-t.b) (-(j2 : Int)) y] rfl rfl H26A.out.n HADD.out (by have := HLJ.out; simp only [List.length_cons, List.length_nil]; unfold maxLen; omega) (by have := HLJ.out; simp only [List.length_cons, List.length_nil]; omega) HBWA.out ?_)
     intro v140 wb ho hk hb
     have h7b := hk.out _ _ _ _ H26A.out.b7 (by decide)
     have hnew := H26A.out.addN hk.out (hb.out _ _ H26A.out.be (by have := H26A.out.lt; omega)) ho.out
     obtain ⟨Av, m9, cv, hv9⟩ := OwnO.sl ho.out
     subst hv9
     have m7 : wb.cell? ⟨B7, 4, none⟩ = some s'.vn := cell_of h7b rfl
     have mf : wb.frozen? ⟨B7, 4, none⟩ = false := frozen_of h7b
     have HNEW := Lib.hid hnew
     clear h7b hnew ho hk hb k0 k1 k2 k3 k7
     go_wp2_with fail
     exact ⟨⟨j2 + 1, (j2 : Int), _, by omega, rfl, by go_num, Lib.hid (by rw [HANY.out]; simp), Lib.hid (by rw [HSTEP.out]; exact HNEW.out)⟩, by simp only [Go.RowKit.intOf]; omega⟩
    have p3' : yp < (0 : Int) := by omega
    go_upto_region 27 with fail
    have s2 := block_new wr (.cells #[.string L, .int .i64 (yb - (lo : Int)), .int .i64 (ye - (lo : Int)), .int .i64 (yp)] 56)
    obtain ⟨W26, hW26⟩ : ∃ W, wr.alloc (.cells #[.string L, .int .i64 (yb - (lo : Int)), .int .i64 (ye - (lo : Int)), .int .i64 (yp)] 56) = W := ⟨_, rfl⟩
    have hb26 : Below wr.heap.size wr W26 := hW26 ▸ below_box wr _
    rw [hW26] at s2 ⊢
    have h26 := hs.out.below hb26
    have h26a := h26.below (below_box W26 (.cells #[.string L, .int .i64 (yb - (lo : Int)), .int .i64 (ye - (lo : Int)), .int .i64 (yp)] 56))
    have hen := HMV.out (yp) (by unfold incZ; rw [if_pos (by omega)]; omega)
    have hadd := AddX.one (w0 := w) (E := ENd) (c := ⟨[.string L, .int .i64 (yb - (lo : Int)), .int .i64 (ye - (lo : Int)), .int .i64 (yp)], rfl⟩) (block_new W26 (.cells #[.string L, .int .i64 (yb - (lo : Int)), .int .i64 (ye - (lo : Int)), .int .i64 (yp)] 56)) hen 1
    have k0 : W26.cell? ⟨wr.heap.size, 0, none⟩ = some (.string L) := cell_of s2 rfl
    have k1 : W26.cell? ⟨wr.heap.size, 1, none⟩ = some (.int .i64 (yb - (lo : Int))) := cell_of s2 rfl
    have k2 : W26.cell? ⟨wr.heap.size, 2, none⟩ = some (.int .i64 (ye - (lo : Int))) := cell_of s2 rfl
    have k3 : W26.cell? ⟨wr.heap.size, 3, none⟩ = some (.int .i64 (yp)) := cell_of s2 rfl
    have k7 : W26.cell? ⟨B7, 4, none⟩ = some s'.vn := cell_of h26.b7 rfl
    have hbwa : BW ≤ (W26.alloc (.cells #[.string L, .int .i64 (yb - (lo : Int)), .int .i64 (ye - (lo : Int)), .int .i64 (yp)] 56)).heap.size := by have := lt_blk h26a.b7; have := h26a.lt; omega
    have H26A := Lib.hid h26a
    have HADD := Lib.hid hadd
    have HBWA := Lib.hid hbwa
    clear s2 hW26 hb26 h26 h26a hadd hbwa hen d1 d2 d3 g1 g2 g3 e2
    go_wp2_with (at_builtin; refine wpList_addO Tryz.infoE_nd rfl (by decide) one_nd 26 Tryz.underlying26 rfl (.tmp 137) (.tmp 139) rfl _ _ _ [mvNd (-t.b) (-(j2 : Int)) y] rfl rfl H26A.out.n HADD.out (by have := HLJ.out; simp only [List.length_cons, List.length_nil]; unfold maxLen; omega) (by have := HLJ.out; simp only [List.length_cons, List.length_nil]; omega) HBWA.out ?_)
    intro v140 wb ho hk hb
    have h7b := hk.out _ _ _ _ H26A.out.b7 (by decide)
    have hnew := H26A.out.addN hk.out (hb.out _ _ H26A.out.be (by have := H26A.out.lt; omega)) ho.out
    obtain ⟨Av, m9, cv, hv9⟩ := OwnO.sl ho.out
    subst hv9
    have m7 : wb.cell? ⟨B7, 4, none⟩ = some s'.vn := cell_of h7b rfl
    have mf : wb.frozen? ⟨B7, 4, none⟩ = false := frozen_of h7b
    have HNEW := Lib.hid hnew
    clear h7b hnew ho hk hb k0 k1 k2 k3 k7
    go_wp2_with fail
    exact ⟨⟨j2 + 1, (j2 : Int), _, by omega, rfl, by go_num, Lib.hid (by rw [HANY.out]; simp), Lib.hid (by rw [HSTEP.out]; exact HNEW.out)⟩, by simp only [Go.RowKit.intOf]; omega⟩
   have p2' : (hi : Int) < ye := by omega
   rw [decide_eq_true p1, decide_eq_false p2] at HSTEP HANY
   go_wp2_with fail
   exact ⟨⟨j2 + 1, f, s', by omega, rfl, by go_num, Lib.hid (by rw [HANY.out]; simpa using hf.out), Lib.hid (by rw [HSTEP.out]; exact hs.out.below (below_box wr _))⟩, by simp only [Go.RowKit.intOf]; omega⟩
  have p1' : yb < (lo : Int) := by omega
  rw [decide_eq_false p1] at HSTEP HANY
  go_wp2_with fail
  exact ⟨⟨j2 + 1, f, s', by omega, rfl, by go_num, Lib.hid (by rw [HANY.out]; simpa using hf.out), Lib.hid (by rw [HSTEP.out]; exact hs.out.below (below_box wr _))⟩, by simp only [Go.RowKit.intOf]; omega⟩
 obtain rfl : n4 = j2 := by omega
 have htk2 : c.nodes.take n4 = c.nodes := List.take_of_length_le (by have := HLEN.out.2.2.2.1; omega)
 rw [htk2] at hs
 obtain ⟨NF, hNF⟩ : ∃ R, (c.nodes.filter fun x => inT t x.b x.e).map (mvNd (-t.b) (-(fn : Int))) = R := ⟨_, rfl⟩
 rw [hNF] at hs
 have HNF := Lib.hid hNF
 have h65 : n5 = n6 := HHH.out.1.symm
 subst h65
 have hle1 := HLEN.out.2.1
 have hls : (lo : Int) + ((hi : Int) - (lo : Int)) = (hi : Int) := by omega
 have hws : IntKind.i64.wrap ((lo : Int) + ((hi : Int) - (lo : Int))) = (hi : Int) := by have := HCL.out.2.2; rw [IntKind.wrap_i64]; omega
 have e2 : wr.cell? ⟨B6, 2, none⟩ = some (.int .i64 ((hi : Int) - (lo : Int))) := cell_of hs.out.b6 rfl
 have c5 : wr.cell? ⟨N0, 5, none⟩ = some (.slice A5 n5 k5) := cell_of hs.out.b0 rfl
 have c6 : wr.cell? ⟨N0, 6, none⟩ = some (.slice A6 n5 k6) := cell_of hs.out.b0 rfl
 clear htk2 hNF hf
 go_upto_region 29 with fail
 by_cases h5 : n5 = 0
 ·
  have hz5 : c.heads = [] := List.length_eq_zero_iff.1 (by have := HLEN.out.2.2.2.2.1; omega)
  have hz6 : c.rels = [] := List.length_eq_zero_iff.1 (by have := HLEN.out.2.2.2.2.2; omega)
  have HDR := Lib.hid (refDoc_eq HT.out.2.1 HT.out.2.2 HFN.out HRF.out HNF.out (bq := true) (by rw [hz5, hz6, cutL_nil, cutL_nil]; rfl))
  have h5d : decide ((n5 : Int) > 0) = false := by simp; omega
  have h5e : decide ((0 : Int) < (n5 : Int)) = false := by simp; omega
  clear hz5 hz6
  go_quiet (fail)
  obtain ⟨w3, hw3⟩ : ∃ W, wr.drewN nq = W := ⟨_, rfl⟩
  have HB3 : Hid (Below wr.heap.size wr w3) := Lib.hid (hw3 ▸ below_drewN (Below.refl _ _) nq)
  rw [hw3]
  have HS3 := Lib.hid (hs.out.below HB3.out)
  clear hw3 e2 c5 c6
  obtain ⟨va', vt', vx', vr', vn', vh', vl'⟩ := s'
  have hfin := HS3.out
  obtain ⟨G0, g0, u0, z0⟩ := OwnO.sl hfin.a
  obtain ⟨G1, g1, u1, z1⟩ := OwnO.sl hfin.t
  obtain ⟨G2, g2, u2, z2⟩ := OwnO.sl hfin.x
  obtain ⟨G3, g3, u3, z3⟩ := OwnO.sl hfin.r
  obtain ⟨G4, g4, u4, z4⟩ := OwnO.sl hfin.n
  obtain ⟨G5, g5, u5, z5⟩ := OwnO.sl hfin.h
  obtain ⟨G6, g6, u6, z6⟩ := OwnO.sl hfin.l
  simp only at z0 z1 z2 z3 z4 z5 z6
  subst z0 z1 z2 z3 z4 z5 z6
  obtain ⟨⟨d0, d1, d2, d3, d4, d5, d6⟩, -⟩ := seven_f hfin.b7
  obtain ⟨⟨o0, o1, o2, o3, o4, o5, o6⟩, p0, p1, p2, p3, p4, p5, p6⟩ := seven_f hfin.b1
  have HFIN := Lib.hid (DocS.fin hfin HN0.out (.slice G0 g0 u0) (.slice G1 g1 u1) (.slice G2 g2 u2) (.slice G3 g3 u3) (.slice G4 g4 u4) (.slice G5 g5 u5) (.slice G6 g6 u6))
  clear hfin
  go_wp2_with fail
  exact bodyPost_ret (v := .tuple #[.agg #[.slice G0 g0 u0, .slice G1 g1 u1, .slice G2 g2 u2, .slice G3 g3 u3, .slice G4 g4 u4, .slice G5 g5 u5, .slice G6 g6 u6], .int .i64 (0 : Int)]) (results_two Tryz.results16 _ _ (N0 + 1) _ rfl HFIN.out.1 rfl) rfl ⟨_, rfl, HDR.out ▸ HFIN.out.2.1, HFIN.out.2.2⟩
 have hn51 : n5 = n1 := by rcases HHH.out.2 with h | h <;> omega
 have h5d : decide ((n5 : Int) > 0) = true := by simp; omega
 have h5i : (0 : Int) < (n5 : Int) := by omega
 have h5n : 0 < n5 := by omega
 have hhi5 : hi ≤ n5 := by have := HT.out; omega
 clear hn51
 obtain ⟨bh, oh, hA5, -, hjh⟩ := at_int HC.out.h (by have := HLEN.out.2.2.2.2.1; omega)
 subst hA5
 obtain ⟨bl, ol, hA6, -, hjl⟩ := at_str HC.out.l (by have := HLEN.out.2.2.2.2.2; omega)
 subst hA6
 obtain ⟨Ah, ch, hh1, hh2⟩ := slice_rows (sz := 1) (sl := 27) (by kernel_rfl) (fun W => by kernel_rfl) (some ⟨bh, oh, none⟩) n5 k5 HLEN.out.2.2.2.2.1 HQ56.out.1 lo hi (by omega) hhi5
 obtain ⟨Al, cl, hl1, hl2⟩ := slice_rows (sz := 1) (sl := 28) (by kernel_rfl) (fun W => by kernel_rfl) (some ⟨bl, ol, none⟩) n5 k6 HLEN.out.2.2.2.2.2 HQ56.out.2 lo hi (by omega) hhi5
 have hbw0 : Below w.heap.size w wr := by rw [HN0.out]; exact hs.out.be
 have hbare := fun (W : World) (h : Below wr.heap.size wr W) => refBare_any (w := W) (hh2 _ W (HC.out.below (hbw0.trans (h.mono hbw0.size))).h) (hl2 _ W (HC.out.below (hbw0.trans (h.mono hbw0.size))).l) (by rw [cutL_len (by have := HLEN.out.2.2.2.2.1; omega), cutL_len (by have := HLEN.out.2.2.2.2.2; omega)]) (by rw [cutL_len (by have := HLEN.out.2.2.2.2.1; omega)]; have := HCL.out.2.2; unfold maxLen; omega)
 obtain ⟨bq, hbq⟩ : ∃ b, bare (cutL lo hi c.heads) (cutL lo hi c.rels) = b := ⟨_, rfl⟩
 rw [hbq] at hbare
 have HDR := Lib.hid (refDoc_eq HT.out.2.1 HT.out.2.2 HFN.out HRF.out HNF.out hbq)
 have HBR := Lib.hid hbare
 have HJH := Lib.hid hjh
 have HJL := Lib.hid hjl
 have hsS := fun (W : World) (h : Below wr.heap.size wr W) => show W.cell? ⟨N0, 5, none⟩ = some (.slice (some ⟨bh, oh, none⟩) n5 k5) ∧ W.cell? ⟨N0, 6, none⟩ = some (.slice (some ⟨bl, ol, none⟩) n5 k6) ∧ W.cell? ⟨B6, 2, none⟩ = some (.int .i64 ((hi : Int) - (lo : Int))) from ⟨keepC c5 h, keepC c6 h, keepC e2 h⟩
 have HSS5 := Lib.hid hsS
 have HAT5 : Hid (c.heads.length = n5 ∧ c.rels.length = n5) := Lib.hid ⟨HLEN.out.2.2.2.2.1, HLEN.out.2.2.2.2.2⟩
 have hll0 : (0 : Int) ≤ (lo : Int) := by omega
 have hll1 : (lo : Int) ≤ (hi : Int) := by omega
 have hll2 : (hi : Int) ≤ (n5 : Int) := by omega
 have hwhi : IntKind.i64.wrap (hi : Int) = (hi : Int) := by have := HCL.out.2.2; rw [IntKind.wrap_i64]; omega
 obtain ⟨X1, hX1⟩ : ∃ W, wr.drew = W := ⟨_, rfl⟩
 have HB0 := Lib.hid (show Below wr.heap.size wr X1 from hX1 ▸ (Below.refl _ wr).drew)
 have HX1 := Lib.hid hX1
 clear hh2 hl2 hbw0 hbare hbq hjh hjl hsS hX1
 refine wp_region_held_drew (S := (fun w' => w'.cell? ⟨N0, 5, none⟩ = some (.slice (some ⟨bh, oh, none⟩) n5 k5) ∧ w'.cell? ⟨N0, 6, none⟩ = some (.slice (some ⟨bl, ol, none⟩) n5 k6) ∧ w'.cell? ⟨B6, 2, none⟩ = some (.int .i64 ((hi : Int) - (lo : Int))))) (by kernel_rfl) ?_ (fun hHeld => ?_)
 · (try dsimp only); (rw [HX1.out]; exact HSS5.out X1 HB0.out)
 rw [HX1.out] at hHeld ⊢
 refine wpAnyH_take (i := 0) (oi := ?oi1) (v := ?v1) ?hi1 (by kernel_rfl) (by kernel_rfl) (by kernel_rfl) ?hq1 ?hy1 (by assumption) ?hr1
 case hi1 => (simp only [List.getElem?_toArray, List.getElem?_cons_zero]; rfl)
 case hq1 => exact fun _ _ _ h => h
 case hy1 => exact .inl ⟨by rfl, by intro _ hSw'; (try dsimp only at hSw'); go_simp <;> with_reducible rfl⟩
 try simp only [Act.put, List.setIfInBounds_toArray, List.set_cons_zero, List.set_cons_succ]
 refine wpAnyH_take (i := 1) (oi := ?oi2) (v := ?v2) ?hi2 (by kernel_rfl) (by kernel_rfl) (by kernel_rfl) ?hq2 ?hy2 (by assumption) ?hr2
 case hi2 => (simp only [List.getElem?_toArray, List.getElem?_cons_succ, List.getElem?_cons_zero]; rfl)
 case hq2 => exact fun _ _ _ h => h
 case hy2 => exact .inl ⟨by rfl, by intro _ hSw'; (try dsimp only at hSw'); go_simp <;> with_reducible rfl⟩
 try simp only [Act.put, List.setIfInBounds_toArray, List.set_cons_zero, List.set_cons_succ]
 refine wpAnyH_take (i := 2) (oi := ?oi3) (v := ?v3) ?hi3 (by kernel_rfl) (by kernel_rfl) (by kernel_rfl) ?hq3 ?hy3 (by assumption) ?hr3
 case hi3 => (simp only [List.getElem?_toArray, List.getElem?_cons_succ, List.getElem?_cons_zero]; rfl)
 case hq3 => exact fun _ _ _ h => h
 case hy3 => exact .inl ⟨by rfl, by intro _ hSw'; (try dsimp only at hSw'); go_simp <;> with_reducible rfl⟩
 try simp only [Act.put, List.setIfInBounds_toArray, List.set_cons_zero, List.set_cons_succ]
 refine wpAnyH_take (i := 3) (oi := ?oi4) (v := ?v4) ?hi4 (by kernel_rfl) (by kernel_rfl) (by kernel_rfl) ?hq4 ?hy4 (by assumption) ?hr4
 case hi4 => (simp only [List.getElem?_toArray, List.getElem?_cons_succ, List.getElem?_cons_zero]; rfl)
 case hq4 => exact fun _ _ _ h => h
 case hy4 => exact .inl ⟨by rfl, by intro _ hSw'; (try dsimp only at hSw'); go_simp <;> with_reducible rfl⟩
 try simp only [Act.put, List.setIfInBounds_toArray, List.set_cons_zero, List.set_cons_succ]
 refine wpAnyH_take (i := 4) (oi := ?oi5) (v := ?v5) ?hi5 (by kernel_rfl) (by kernel_rfl) (by kernel_rfl) ?hq5 ?hy5 (by assumption) ?hr5
 case hi5 => (simp only [List.getElem?_toArray, List.getElem?_cons_succ, List.getElem?_cons_zero]; rfl)
 case hq5 => exact fun _ _ _ h => h
 case hy5 => exact .inl ⟨by rfl, by intro _ hSw'; (try dsimp only at hSw'); go_simp <;> with_reducible rfl⟩
 try simp only [Act.put, List.setIfInBounds_toArray, List.set_cons_zero, List.set_cons_succ]
 refine wpAnyH_take (i := 5) (oi := ?oi6) (v := ?v6) ?hi6 (by kernel_rfl) (by kernel_rfl) (by kernel_rfl) ?hq6 ?hy6 (by assumption) ?hr6
 case hi6 => (simp only [List.getElem?_toArray, List.getElem?_cons_succ, List.getElem?_cons_zero]; rfl)
 case hq6 => exact fun _ _ _ h => h
 case hy6 => exact .inl ⟨by rfl, by intro _ hSw'; (try dsimp only at hSw'); go_simp <;> with_reducible rfl⟩
 try simp only [Act.put, List.setIfInBounds_toArray, List.set_cons_zero, List.set_cons_succ]
 refine wpAnyH_take (i := 6) (oi := ?oi7) (v := ?v7) ?hi7 (by kernel_rfl) (by kernel_rfl) (by kernel_rfl) ?hq7 ?hy7 (by assumption) ?hr7
 case hi7 => (simp only [List.getElem?_toArray, List.getElem?_cons_succ, List.getElem?_cons_zero]; rfl)
 case hq7 => exact fun _ _ _ h => h
 case hy7 => exact .inl ⟨by rfl, by intro _ hSw'; (try dsimp only at hSw'); go_simp <;> with_reducible rfl⟩
 try simp only [Act.put, List.setIfInBounds_toArray, List.set_cons_zero, List.set_cons_succ]
 refine wpAnyH_take (i := 7) (oi := ?oi8) (v := ?v8) ?hi8 (by kernel_rfl) (by kernel_rfl) (by kernel_rfl) ?hq8 ?hy8 (by assumption) ?hr8
 case hi8 => (simp only [List.getElem?_toArray, List.getElem?_cons_succ, List.getElem?_cons_zero]; rfl)
 case hq8 => exact fun _ _ _ h => h
 case hy8 => exact .inl ⟨by rfl, by intro _ hSw'; (try dsimp only at hSw'); go_simp <;> with_reducible rfl⟩
 try simp only [Act.put, List.setIfInBounds_toArray, List.set_cons_zero, List.set_cons_succ]
 refine wpAnyH_take (i := 8) (oi := ?oi9) (v := ?v9) ?hi9 (by kernel_rfl) (by kernel_rfl) (by kernel_rfl) ?hq9 ?hy9 (by assumption) ?hr9
 case hi9 => (simp only [List.getElem?_toArray, List.getElem?_cons_succ, List.getElem?_cons_zero]; rfl)
 case hq9 => exact fun _ _ _ h => h
 case hy9 => exact .inl ⟨by rfl, by intro _ hSw'; (try dsimp only at hSw'); go_simp <;> with_reducible rfl⟩
 try simp only [Act.put, List.setIfInBounds_toArray, List.set_cons_zero, List.set_cons_succ]
 refine wpAnyH_take (i := 9) (oi := ?oi10) (v := ?v10) ?hi10 (by kernel_rfl) (by kernel_rfl) (by kernel_rfl) ?hq10 ?hy10 (by assumption) ?hr10
 case hi10 => (simp only [List.getElem?_toArray, List.getElem?_cons_succ, List.getElem?_cons_zero]; rfl)
 case hq10 => exact fun _ _ _ h => h
 case hy10 => exact .inl ⟨by rfl, by intro _ hSw'; (try dsimp only at hSw'); go_simp <;> with_reducible rfl⟩
 try simp only [Act.put, List.setIfInBounds_toArray, List.set_cons_zero, List.set_cons_succ]
 refine wpAnyH_take (i := 10) (oi := ?oi11) (v := ?v11) ?hi11 (by kernel_rfl) (by kernel_rfl) (by kernel_rfl) ?hq11 ?hy11 (by assumption) ?hr11
 case hi11 => (simp only [List.getElem?_toArray, List.getElem?_cons_succ, List.getElem?_cons_zero]; rfl)
 case hq11 => exact fun _ _ _ h => h
 case hy11 => exact .inl ⟨by rfl, by intro _ hSw'; (try dsimp only at hSw'); go_simp <;> with_reducible rfl⟩
 try simp only [Act.put, List.setIfInBounds_toArray, List.set_cons_zero, List.set_cons_succ]
 refine wpAnyH_take (i := 11) (oi := ?oi12) (v := ?v12) ?hi12 (by kernel_rfl) (by kernel_rfl) (by kernel_rfl) ?hq12 ?hy12 (by assumption) ?hr12
 case hi12 => (simp only [List.getElem?_toArray, List.getElem?_cons_succ, List.getElem?_cons_zero]; rfl)
 case hq12 => exact fun _ _ _ h => h
 case hy12 => exact .inl ⟨by rfl, by intro _ hSw'; (try dsimp only at hSw'); go_simp <;> with_reducible rfl⟩
 try simp only [Act.put, List.setIfInBounds_toArray, List.set_cons_zero, List.set_cons_succ]
 refine wpAnyH_take (i := 12) (oi := ?oi13) (v := ?v13) ?hi13 (by kernel_rfl) (by kernel_rfl) (by kernel_rfl) ?hq13 ?hy13 (by assumption) ?hr13
 case hi13 => (simp only [List.getElem?_toArray, List.getElem?_cons_succ, List.getElem?_cons_zero]; rfl)
 case hq13 => exact fun _ _ _ h => h
 case hy13 => exact .inl ⟨by rfl, by intro _ hSw'; (try dsimp only at hSw'); go_simp <;> with_reducible rfl⟩
 try simp only [Act.put, List.setIfInBounds_toArray, List.set_cons_zero, List.set_cons_succ]
 refine wpAnyH_take (i := 13) (oi := ?oi14) (v := ?v14) ?hi14 (by kernel_rfl) (by kernel_rfl) (by kernel_rfl) ?hq14 ?hy14 (by assumption) ?hr14
 case hi14 => (simp only [List.getElem?_toArray, List.getElem?_cons_succ, List.getElem?_cons_zero]; rfl)
 case hq14 => exact fun _ _ _ h => h
 case hy14 => exact .inl ⟨by rfl, by intro _ hSw'; (try dsimp only at hSw'); go_simp <;> with_reducible rfl⟩
 try simp only [Act.put, List.setIfInBounds_toArray, List.set_cons_zero, List.set_cons_succ]
 refine wpAnyH_take (i := 14) (oi := ?oi15) (v := ?v15) ?hi15 (by kernel_rfl) (by kernel_rfl) (by kernel_rfl) ?hq15 ?hy15 (by assumption) ?hr15
 case hi15 => (simp only [List.getElem?_toArray, List.getElem?_cons_succ, List.getElem?_cons_zero]; rfl)
 case hq15 => exact fun _ _ _ h => h
 case hy15 => exact .inl ⟨by rfl, by intro _ hSw'; (try dsimp only at hSw'); go_simp <;> with_reducible rfl⟩
 try simp only [Act.put, List.setIfInBounds_toArray, List.set_cons_zero, List.set_cons_succ]
 refine wpAnyH_take (i := 15) (oi := ?oi16) (v := ?v16) ?hi16 (by kernel_rfl) (by kernel_rfl) (by kernel_rfl) ?hq16 ?hy16 (by assumption) ?hr16
 case hi16 => (simp only [List.getElem?_toArray, List.getElem?_cons_succ, List.getElem?_cons_zero]; rfl)
 case hq16 => exact fun _ _ _ h => h
 case hy16 => exact .inl ⟨by rfl, by intro _ hSw'; (try dsimp only at hSw'); go_simp <;> with_reducible rfl⟩
 try simp only [Act.put, List.setIfInBounds_toArray, List.set_cons_zero, List.set_cons_succ]
 refine wpAnyH_take (i := 16) (oi := ?oi17) (v := ?v17) ?hi17 (by kernel_rfl) (by kernel_rfl) (by kernel_rfl) ?hq17 ?hy17 (by assumption) ?hr17
 case hi17 => (simp only [List.getElem?_toArray, List.getElem?_cons_succ, List.getElem?_cons_zero]; rfl)
 case hq17 => exact fun _ _ _ h => h
 case hy17 => exact .inl ⟨by rfl, by intro _ hSw'; (try dsimp only at hSw'); go_simp <;> with_reducible rfl⟩
 try simp only [Act.put, List.setIfInBounds_toArray, List.set_cons_zero, List.set_cons_succ]
 refine wpAnyH_take (i := 17) (oi := ?oi18) (v := ?v18) ?hi18 (by kernel_rfl) (by kernel_rfl) (by kernel_rfl) ?hq18 ?hy18 (by assumption) ?hr18
 case hi18 => (simp only [List.getElem?_toArray, List.getElem?_cons_succ, List.getElem?_cons_zero]; rfl)
 case hq18 => exact fun _ _ _ h => h
 case hy18 => exact .inl ⟨by rfl, by intro _ hSw'; (try dsimp only at hSw'); go_simp <;> with_reducible rfl⟩
 try simp only [Act.put, List.setIfInBounds_toArray, List.set_cons_zero, List.set_cons_succ]
 refine wpAnyH_take (i := 18) (oi := ?oi19) (v := ?v19) ?hi19 (by kernel_rfl) (by kernel_rfl) (by kernel_rfl) ?hq19 ?hy19 (by assumption) ?hr19
 case hi19 => (simp only [List.getElem?_toArray, List.getElem?_cons_succ, List.getElem?_cons_zero]; rfl)
 case hq19 => exact fun _ _ _ h => h
 case hy19 => exact .inl ⟨by rfl, by intro _ hSw'; (try dsimp only at hSw'); go_simp <;> with_reducible rfl⟩
 try simp only [Act.put, List.setIfInBounds_toArray, List.set_cons_zero, List.set_cons_succ]
 refine wpAnyH_take (i := 19) (oi := ?oi20) (v := ?v20) ?hi20 (by kernel_rfl) (by kernel_rfl) (by kernel_rfl) ?hq20 ?hy20 (by assumption) ?hr20
 case hi20 => (simp only [List.getElem?_toArray, List.getElem?_cons_succ, List.getElem?_cons_zero]; rfl)
 case hq20 => exact fun _ _ _ h => h
 case hy20 => exact .inl ⟨by rfl, by intro _ hSw'; (try dsimp only at hSw'); go_simp <;> with_reducible rfl⟩
 try simp only [Act.put, List.setIfInBounds_toArray, List.set_cons_zero, List.set_cons_succ]
 refine wpAnyH_take (i := 20) (oi := ?oi21) (v := ?v21) ?hi21 (by kernel_rfl) (by kernel_rfl) (by kernel_rfl) ?hq21 ?hy21 (by assumption) ?hr21
 case hi21 => (simp only [List.getElem?_toArray, List.getElem?_cons_succ, List.getElem?_cons_zero]; rfl)
 case hq21 => exact fun _ _ _ h => h
 case hy21 => exact .inl ⟨by rfl, by intro _ hSw'; (try dsimp only at hSw'); go_simp <;> with_reducible rfl⟩
 try simp only [Act.put, List.setIfInBounds_toArray, List.set_cons_zero, List.set_cons_succ]
 refine wpAnyH_ready (rs := [21]) (by kernel_rfl) (by simp) ?_
 refine AllReadyH.cons (o := ?oo22) ?hi22 (fun K hK => ?hs22) ?hm22
 case hi22 => (simp only [List.getElem?_toArray, List.getElem?_cons_succ, List.getElem?_cons_zero]; rfl)
 ·
  go_simp
  refine (HBR.out X1 HB0.out).mono ?_
  rintro e x1 ⟨rfl, hbx1⟩
  have HBx1 := Lib.hid (HB0.out.trans (hbx1.mono HB0.out.size))
  clear hbx1
  (try go_wp2_with fail)
  refine hK.out _ _ ?_ (fun hHeld => ?_)
  · (try dsimp only); exact HSS5.out x1 HBx1.out
  clear hK K
  try simp only [Act.put, List.setIfInBounds_toArray, List.set_cons_zero, List.set_cons_succ]
  refine wpAnyH_take (i := 22) (oi := ?oi23) (v := ?v23) ?hi23 (by kernel_rfl) (by kernel_rfl) (by kernel_rfl) ?hq23 ?hy23 (by assumption) ?hr23
  case hi23 => (simp only [List.getElem?_toArray, List.getElem?_cons_succ, List.getElem?_cons_zero]; rfl)
  case hq23 => exact fun _ _ _ h => h
  case hy23 => exact .inl ⟨by rfl, by intro _ hSw'; (try dsimp only at hSw'); go_simp <;> with_reducible rfl⟩
  try simp only [Act.put, List.setIfInBounds_toArray, List.set_cons_zero, List.set_cons_succ]
  refine wpAnyH_take (i := 23) (oi := ?oi24) (v := ?v24) ?hi24 (by kernel_rfl) (by kernel_rfl) (by kernel_rfl) ?hq24 ?hy24 (by assumption) ?hr24
  case hi24 => (simp only [List.getElem?_toArray, List.getElem?_cons_succ, List.getElem?_cons_zero]; rfl)
  case hq24 => exact fun _ _ _ h => h
  case hy24 => exact .inl ⟨by rfl, by intro _ hSw'; (try dsimp only at hSw'); go_simp <;> with_reducible rfl⟩
  try simp only [Act.put, List.setIfInBounds_toArray, List.set_cons_zero, List.set_cons_succ]
  refine wpAnyH_done (by kernel_rfl) ?_ _
  obtain ⟨w3, hw3⟩ : ∃ W, W = x1 := ⟨_, rfl⟩
  have HB3 := Lib.hid (show Below wr.heap.size wr w3 by rw [hw3]; exact HBx1.out)
  rw [← hw3]
  clear hw3
  have HS3 := Lib.hid (hs.out.below HB3.out)
  clear hh1 hl1 h5d h5i h5n
  cases bq with
  | true =>
    obtain ⟨va', vt', vx', vr', vn', vh', vl'⟩ := s'
    have hfin := HS3.out
    obtain ⟨G0, g0, u0, z0⟩ := OwnO.sl hfin.a
    obtain ⟨G1, g1, u1, z1⟩ := OwnO.sl hfin.t
    obtain ⟨G2, g2, u2, z2⟩ := OwnO.sl hfin.x
    obtain ⟨G3, g3, u3, z3⟩ := OwnO.sl hfin.r
    obtain ⟨G4, g4, u4, z4⟩ := OwnO.sl hfin.n
    obtain ⟨G5, g5, u5, z5⟩ := OwnO.sl hfin.h
    obtain ⟨G6, g6, u6, z6⟩ := OwnO.sl hfin.l
    simp only at z0 z1 z2 z3 z4 z5 z6
    subst z0 z1 z2 z3 z4 z5 z6
    obtain ⟨⟨d0, d1, d2, d3, d4, d5, d6⟩, -⟩ := seven_f hfin.b7
    obtain ⟨⟨o0, o1, o2, o3, o4, o5, o6⟩, p0, p1, p2, p3, p4, p5, p6⟩ := seven_f hfin.b1
    have HFIN := Lib.hid (DocS.fin hfin HN0.out (.slice G0 g0 u0) (.slice G1 g1 u1) (.slice G2 g2 u2) (.slice G3 g3 u3) (.slice G4 g4 u4) (.slice G5 g5 u5) (.slice G6 g6 u6))
    clear hfin
    go_wp2_with fail
    exact bodyPost_ret (v := .tuple #[.agg #[.slice G0 g0 u0, .slice G1 g1 u1, .slice G2 g2 u2, .slice G3 g3 u3, .slice G4 g4 u4, .slice G5 g5 u5, .slice G6 g6 u6], .int .i64 (0 : Int)]) (results_two Tryz.results16 _ _ (N0 + 1) _ rfl HFIN.out.1 rfl) rfl ⟨_, rfl, HDR.out ▸ HFIN.out.2.1, HFIN.out.2.2⟩
  | false =>
    go_wp2_with fail
    clear hs
    go_loopw [14] (fun v14 wr => ∃ (i3 : Nat) (s' : Sv), lo ≤ i3 ∧ i3 ≤ hi ∧ v14 = .int .i64 i3 ∧ Hid (DocS w N0 B6 B7 BW #[.slice A0 n0 k0, .slice A1 n1 k1, .slice (some ⟨bx, ox, none⟩) n2 k2, .slice A3 n3 k3, .slice A4 n4 k4, .slice (some ⟨bh, oh, none⟩) n5 k5, .slice (some ⟨bl, ol, none⟩) n5 k6] #[.string P, .int .i64 0, .int .i64 ((hi : Int) - (lo : Int)), .slice Au nu pu] wr s' ⟨c.attrs, cutL lo hi c.toks, [⟨t.name, 0, (hi : Int) - (lo : Int), t.ps⟩], RF, NF, (cutL lo i3 c.heads).map fun x => max (x - (lo : Int)) (-1), cutL lo i3 c.rels⟩))
     (fun v14 _ => hi - (Go.RowKit.intOf v14).toNat)
    case atStart => exact ⟨lo, s', Nat.le_refl _, by omega, rfl, by rw [cutL_void, cutL_void]; exact HS3⟩
    clear HB3 HS3 HBR HSS5
    obtain ⟨i3, s', hi1, hi2, rfl, hs⟩ := hrel
    have e2 : wr.cell? ⟨B6, 2, none⟩ = some (.int .i64 ((hi : Int) - (lo : Int))) := cell_of hs.out.b6 rfl
    by_cases hlt3 : i3 < hi
    ·
     have hlt3i : (i3 : Int) < (hi : Int) := by omega
     obtain ⟨x, hx⟩ : ∃ x, c.heads[i3]? = some x := ⟨_, List.getElem?_eq_getElem (by have := HAT5.out.1; omega)⟩
     obtain ⟨y, hy⟩ : ∃ y, c.rels[i3]? = some y := ⟨_, List.getElem?_eq_getElem (by have := HAT5.out.2; omega)⟩
     have hvh := valid_head HVV.out hx
     have hn1 : n1 ≤ 4096 := HVL.out.2.1
     have hwx : IntKind.i64.wrap (x - (lo : Int)) = x - (lo : Int) := by have := HLEN.out.2.1; rw [IntKind.wrap_i64]; rcases hvh with h | h <;> omega
     have hbw : Below w.heap.size w wr := by rw [HN0.out]; exact hs.out.be
     have x0 := HJH.out i3 x hx
     have y0 := HJL.out i3 y hy
     obtain ⟨mx, hmm⟩ : ∃ z, max (x - (lo : Int)) (-1) = z := ⟨_, rfl⟩
     have hmi : (if x - (lo : Int) < -1 then -1 else x - (lo : Int)) = mx := by rw [← hmm]; split <;> omega
     have hstH : (cutL lo (i3 + 1) c.heads).map (fun x => max (x - (lo : Int)) (-1)) = (cutL lo i3 c.heads).map (fun x => max (x - (lo : Int)) (-1)) ++ [mx] := by rw [cutL_step hi1 hx, List.map_append, ← hmm]; rfl
     have hstL := cutL_step hi1 hy
     have hlnH : ((cutL lo i3 c.heads).map (fun x => max (x - (lo : Int)) (-1))).length ≤ 4096 := by rw [List.length_map, cutL_len (by have := HAT5.out.1; omega)]; have := HCL.out.2.2; omega
     have hlnL : (cutL lo i3 c.rels).length ≤ 4096 := by rw [cutL_len (by have := HAT5.out.2; omega)]; have := HCL.out.2.2; omega
     obtain ⟨Ly, hLy⟩ : ∃ s : ByteArray, (⟨y.toArray⟩ : ByteArray) = s := ⟨_, rfl⟩
     have hely : EStr w [.string Ly] y := by rw [← hLy]; rfl
     rw [hLy] at y0
     have HX0 := Lib.hid (fun W (h : Below w.heap.size w W) => keepC x0 h)
     have HY0 := Lib.hid (fun W (h : Below w.heap.size w W) => keepC y0 h)
     have HSTP := Lib.hid (And.intro hstH hstL)
     have HLN := Lib.hid (And.intro hlnH hlnL)
     have HELY := Lib.hid hely
     have hin5 : i3 < n5 := by omega
     have hin5i : (i3 : Int) < (n5 : Int) := by omega
     clear x0 y0 hstH hstL hlnH hlnL hLy hely hx hy hvh hbw
     go_upto_region 33 with fail
     go_cut [] (fun wx => ∃ (A : Option Addr) (m cp : Nat), Hid (DocS w N0 B6 B7 BW #[.slice A0 n0 k0, .slice A1 n1 k1, .slice (some ⟨bx, ox, none⟩) n2 k2, .slice A3 n3 k3, .slice A4 n4 k4, .slice (some ⟨bh, oh, none⟩) n5 k5, .slice (some ⟨bl, ol, none⟩) n5 k6] #[.string P, .int .i64 0, .int .i64 ((hi : Int) - (lo : Int)), .slice Au nu pu] wx ⟨s'.va, s'.vt, s'.vx, s'.vr, s'.vn, .slice A m cp, s'.vl⟩ ⟨c.attrs, cutL lo hi c.toks, [⟨t.name, 0, (hi : Int) - (lo : Int), t.ps⟩], RF, NF, (cutL lo i3 c.heads).map (fun x => max (x - (lo : Int)) (-1)) ++ [mx], cutL lo i3 c.rels⟩))
     case first =>
      obtain ⟨Y1, hEY1⟩ : ∃ W, wr.drew = W := ⟨_, rfl⟩
      have HD0 := Lib.hid (hs.out.below ((Below.refl _ wr).drew))
      rw [hEY1] at HD0
      have HB0 := Lib.hid (And.intro HD0.out.b0 HD0.out.be)
      have HEY1 := Lib.hid hEY1
      clear hEY1
      refine wp_region_held_drew (S := (fun w' => w'.cell? ⟨N0, 5, none⟩ = some (.slice (some ⟨bh, oh, none⟩) n5 k5) ∧ w'.cell? ⟨bh, oh + i3, none⟩ = some (.int .i64 x))) (by kernel_rfl) ?_ (fun hHeld => ?_)
      · (try dsimp only); (rw [HEY1.out]; exact ⟨cell_of HB0.out.1 rfl, HX0.out Y1 (by rw [HN0.out]; exact HB0.out.2)⟩)
      rw [HEY1.out] at hHeld ⊢
      refine wpAnyH_take (i := 0) (oi := ?oi1001) (v := ?v1001) ?hi1001 (by kernel_rfl) (by kernel_rfl) (by kernel_rfl) ?hq1001 ?hy1001 (by assumption) ?hr1001
      case hi1001 => (simp only [List.getElem?_toArray, List.getElem?_cons_zero]; rfl)
      case hq1001 => exact fun _ _ _ h => h
      case hy1001 => exact .inl ⟨by rfl, by intro _ hSw'; (try dsimp only at hSw'); go_simp <;> with_reducible rfl⟩
      try simp only [Act.put, List.setIfInBounds_toArray, List.set_cons_zero, List.set_cons_succ]
      refine wpAnyH_take (i := 2) (oi := ?oi1002) (v := ?v1002) ?hi1002 (by kernel_rfl) (by kernel_rfl) (by kernel_rfl) ?hq1002 ?hy1002 (by assumption) ?hr1002
      case hi1002 => (simp only [List.getElem?_toArray, List.getElem?_cons_succ, List.getElem?_cons_zero]; rfl)
      case hq1002 => exact fun _ _ _ h => h
      case hy1002 => exact .inl ⟨by rfl, by intro _ hSw'; (try dsimp only at hSw'); go_simp <;> with_reducible rfl⟩
      try simp only [Act.put, List.setIfInBounds_toArray, List.set_cons_zero, List.set_cons_succ]
      refine wpAnyH_take (i := 3) (oi := ?oi1003) (v := ?v1003) ?hi1003 (by kernel_rfl) (by kernel_rfl) (by kernel_rfl) ?hq1003 ?hy1003 (by assumption) ?hr1003
      case hi1003 => (simp only [List.getElem?_toArray, List.getElem?_cons_succ, List.getElem?_cons_zero]; rfl)
      case hq1003 => exact fun _ _ _ h => h
      case hy1003 => exact .inl ⟨by rfl, by intro _ hSw'; (try dsimp only at hSw'); go_simp <;> with_reducible rfl⟩
      try simp only [Act.put, List.setIfInBounds_toArray, List.set_cons_zero, List.set_cons_succ]
      refine wpAnyH_take (i := 4) (oi := ?oi1004) (v := ?v1004) ?hi1004 (by kernel_rfl) (by kernel_rfl) (by kernel_rfl) ?hq1004 ?hy1004 (by assumption) ?hr1004
      case hi1004 => (simp only [List.getElem?_toArray, List.getElem?_cons_succ, List.getElem?_cons_zero]; rfl)
      case hq1004 => exact fun _ _ _ h => h
      case hy1004 => exact .inl ⟨by rfl, by intro _ hSw'; (try dsimp only at hSw'); go_simp <;> with_reducible rfl⟩
      try simp only [Act.put, List.setIfInBounds_toArray, List.set_cons_zero, List.set_cons_succ]
      refine wpAnyH_take (i := 5) (oi := ?oi1005) (v := ?v1005) ?hi1005 (by kernel_rfl) (by kernel_rfl) (by kernel_rfl) ?hq1005 ?hy1005 (by assumption) ?hr1005
      case hi1005 => (simp only [List.getElem?_toArray, List.getElem?_cons_succ, List.getElem?_cons_zero]; rfl)
      case hq1005 => exact fun _ _ _ h => h
      case hy1005 => exact .inl ⟨by rfl, by intro _ hSw'; (try dsimp only at hSw'); go_simp <;> with_reducible rfl⟩
      try simp only [Act.put, List.setIfInBounds_toArray, List.set_cons_zero, List.set_cons_succ]
      refine wpAnyH_take (i := 6) (oi := ?oi1006) (v := ?v1006) ?hi1006 (by kernel_rfl) (by kernel_rfl) (by kernel_rfl) ?hq1006 ?hy1006 (by assumption) ?hr1006
      case hi1006 => (simp only [List.getElem?_toArray, List.getElem?_cons_succ, List.getElem?_cons_zero]; rfl)
      case hq1006 => exact fun _ _ _ h => h
      case hy1006 => exact .inl ⟨by rfl, by intro _ hSw'; (try dsimp only at hSw'); go_simp <;> with_reducible rfl⟩
      try simp only [Act.put, List.setIfInBounds_toArray, List.set_cons_zero, List.set_cons_succ]
      refine wpAnyH_take (i := 7) (oi := ?oi1007) (v := ?v1007) ?hi1007 (by kernel_rfl) (by kernel_rfl) (by kernel_rfl) ?hq1007 ?hy1007 (by assumption) ?hr1007
      case hi1007 => (simp only [List.getElem?_toArray, List.getElem?_cons_succ, List.getElem?_cons_zero]; rfl)
      case hq1007 => exact fun _ _ _ h => h
      case hy1007 => exact .inl ⟨by rfl, by intro _ hSw'; (try dsimp only at hSw'); go_simp <;> with_reducible rfl⟩
      try simp only [Act.put, List.setIfInBounds_toArray, List.set_cons_zero, List.set_cons_succ]
      refine wpAnyH_take (i := 8) (oi := ?oi1008) (v := ?v1008) ?hi1008 (by kernel_rfl) (by kernel_rfl) (by kernel_rfl) ?hq1008 ?hy1008 (by assumption) ?hr1008
      case hi1008 => (simp only [List.getElem?_toArray, List.getElem?_cons_succ, List.getElem?_cons_zero]; rfl)
      case hq1008 => exact fun _ _ _ h => h
      case hy1008 => exact .inl ⟨by rfl, by intro _ hSw'; (try dsimp only at hSw'); go_simp <;> with_reducible rfl⟩
      try simp only [Act.put, List.setIfInBounds_toArray, List.set_cons_zero, List.set_cons_succ]
      refine wpAnyH_take (i := 9) (oi := ?oi1009) (v := ?v1009) ?hi1009 (by kernel_rfl) (by kernel_rfl) (by kernel_rfl) ?hq1009 ?hy1009 (by assumption) ?hr1009
      case hi1009 => (simp only [List.getElem?_toArray, List.getElem?_cons_succ, List.getElem?_cons_zero]; rfl)
      case hq1009 => exact fun _ _ _ h => h
      case hy1009 => exact .inl ⟨by rfl, by intro _ hSw'; (try dsimp only at hSw'); go_simp <;> with_reducible rfl⟩
      try simp only [Act.put, List.setIfInBounds_toArray, List.set_cons_zero, List.set_cons_succ]
      refine wpAnyH_ready (rs := [1, 10]) (by kernel_rfl) (by simp) ?_
      refine AllReadyH.cons (o := ?oo1010) ?hi1010 (fun K hK => ?hs1010) ?hm1010
      case hi1010 => (simp only [List.getElem?_toArray, List.getElem?_cons_succ, List.getElem?_cons_zero]; rfl)
      have k7 : Y1.cell? ⟨B7, 5, none⟩ = some s'.vh := cell_of HD0.out.b7 rfl
      go_simp
      obtain ⟨y1, hvy1⟩ : ∃ W, Y1 = W := ⟨_, rfl⟩
      have HBy1 := HB0
      have HDy1 := HD0
      rw [hvy1] at HBy1 HDy1 ⊢
      clear hvy1 k7
      refine hK.out _ _ ?_ (fun hHeld => ?_)
      · (try dsimp only); exact ⟨cell_of HBy1.out.1 rfl, HX0.out y1 (by rw [HN0.out]; exact HBy1.out.2)⟩
      clear hK K
      try simp only [Act.put, List.setIfInBounds_toArray, List.set_cons_zero, List.set_cons_succ]
      refine wpAnyH_ready (rs := [10]) (by kernel_rfl) (by simp) ?_
      refine AllReadyH.cons (o := ?oo1011) ?hi1011 (fun K hK => ?hs1011) ?hm1011
      case hi1011 => (simp only [List.getElem?_toArray, List.getElem?_cons_succ, List.getElem?_cons_zero]; rfl)
      go_simp
      obtain ⟨y2, hy2⟩ : ∃ W', y1.alloc (.cells #[.int .i64 (mx)] 3) = W' := ⟨_, rfl⟩
      rw [hy2]
      have hby2 : Below y1.heap.size y1 y2 := by rw [← hy2]; exact below_box _ _
      have HDy2 := Lib.hid (HDy1.out.below hby2)
      have HBy2 := Lib.hid (And.intro HDy2.out.b0 HDy2.out.be)
      have HAy2 := Lib.hid (show y2.heap[y1.heap.size]? = some (.cells [.int .i64 (mx)].toArray 3 (0, 0)) by rw [← hy2]; exact block_new _ _)
      clear hy2 hby2
      refine hK.out _ _ ?_ (fun hHeld => ?_)
      · (try dsimp only); exact ⟨cell_of HBy2.out.1 rfl, HX0.out y2 (by rw [HN0.out]; exact HBy2.out.2)⟩
      clear hK K
      try simp only [Act.put, List.setIfInBounds_toArray, List.set_cons_zero, List.set_cons_succ]
      refine wpAnyH_ready (rs := [11]) (by kernel_rfl) (by simp) ?_
      refine AllReadyH.cons (o := ?oo1012) ?hi1012 (fun K hK => ?hs1012) ?hm1012
      case hi1012 => (simp only [List.getElem?_toArray, List.getElem?_cons_succ, List.getElem?_cons_zero]; rfl)
      refine step_addO Tryz.infoE_int rfl (by decide) one_int 27 Tryz.underlying27 rfl (.tmp 177) (.tmp 186) rfl s'.vh (.slice (some ⟨y1.heap.size, 0, none⟩) 1 1) ((cutL lo i3 c.heads).map fun x => max (x - (lo : Int)) (-1)) [mx] (by simp [Act.eval, Act.put]) (by simp [Act.eval, Act.put]) HDy2.out.h (AddX.one (w0 := w) (E := EInt) (c := ⟨[.int .i64 (mx)], rfl⟩) HAy2.out rfl 1) (by have := HLN.out.1; simp only [List.length_cons, List.length_nil]; unfold maxLen; omega) (by have := HLN.out.1; simp only [List.length_cons, List.length_nil]; omega) (by have := lt_blk HDy2.out.b7; have := HDy2.out.lt; omega) ?_
      intro v9 y3 ho hk hb
      have hnew := HDy2.out.addH hk.out (hb.out _ _ HDy2.out.be (by have := HDy2.out.lt; omega)) ho.out
      have H7y3 := Lib.hid (hk.out _ _ _ _ HDy2.out.b7 (by decide))
      have HBy3 := Lib.hid (And.intro (hk.out _ _ _ _ HDy2.out.b0 (by decide)) (hb.out _ _ HDy2.out.be (by have := HDy2.out.lt; omega)))
      obtain ⟨Avy, mvy, cvy, hv9⟩ := OwnO.sl ho.out
      subst hv9
      have HNy3 := Lib.hid hnew
      clear hnew ho hk hb
      refine hK.out _ _ ?_ (fun hHeld => ?_)
      · (try dsimp only); exact ⟨cell_of HBy3.out.1 rfl, HX0.out y3 (by rw [HN0.out]; exact HBy3.out.2)⟩
      clear hK K
      try simp only [Act.put, List.setIfInBounds_toArray, List.set_cons_zero, List.set_cons_succ]
      refine wpAnyH_take (i := 12) (oi := ?oi1013) (v := ?v1013) ?hi1013 (by kernel_rfl) (by kernel_rfl) (by kernel_rfl) ?hq1013 ?hy1013 (by assumption) ?hr1013
      case hi1013 => (simp only [List.getElem?_toArray, List.getElem?_cons_succ, List.getElem?_cons_zero]; rfl)
      case hq1013 => exact fun _ _ _ h => h
      case hy1013 => exact .inl ⟨by rfl, by intro _ hSw'; (try dsimp only at hSw'); go_simp <;> with_reducible rfl⟩
      try simp only [Act.put, List.setIfInBounds_toArray, List.set_cons_zero, List.set_cons_succ]
      refine wpAnyH_ready (rs := [13]) (by kernel_rfl) (by simp) ?_
      refine AllReadyH.cons (o := ?oo1014) ?hi1014 (fun K hK => ?hs1014) ?hm1014
      case hi1014 => (simp only [List.getElem?_toArray, List.getElem?_cons_succ, List.getElem?_cons_zero]; rfl)
      have m7 : y3.cell? ⟨B7, 5, none⟩ = some s'.vh := cell_of H7y3.out rfl
      have mf : y3.frozen? ⟨B7, 5, none⟩ = false := frozen_of H7y3.out
      go_simp
      obtain ⟨y4, hy4⟩ : ∃ W', y3.setCell ⟨B7, 5, none⟩ (.slice Avy mvy cvy) = W' := ⟨_, rfl⟩
      rw [hy4]
      have HNy4 := HNy3
      rw [hy4] at HNy4
      have HBy4 := Lib.hid (And.intro HNy4.out.b0 HNy4.out.be)
      clear hy4 m7 mf
      refine hK.out _ _ ?_ (fun hHeld => ?_)
      · (try dsimp only); exact ⟨cell_of HBy4.out.1 rfl, HX0.out y4 (by rw [HN0.out]; exact HBy4.out.2)⟩
      clear hK K
      try simp only [Act.put, List.setIfInBounds_toArray, List.set_cons_zero, List.set_cons_succ]
      refine wpAnyH_done (by kernel_rfl) ?_ _
      obtain ⟨w5, hw5⟩ : ∃ W, y4 = W := ⟨_, rfl⟩
      have HN5 := HNy4
      rw [hw5] at HN5 ⊢
      clear hw5
      rotate_left
      exact AllReadyH.nil
      exact AllReadyH.nil
      exact AllReadyH.nil
      refine AllReadyH.cons (o := ?oo1015) ?hi1015 (fun K hK => ?hs1015) ?hm1015
      case hi1015 => (simp only [List.getElem?_toArray, List.getElem?_cons_succ, List.getElem?_cons_zero]; rfl)
      go_simp
      obtain ⟨y5, hy5⟩ : ∃ W', Y1.alloc (.cells #[.int .i64 (mx)] 3) = W' := ⟨_, rfl⟩
      rw [hy5]
      have hby5 : Below Y1.heap.size Y1 y5 := by rw [← hy5]; exact below_box _ _
      have HDy5 := Lib.hid (HD0.out.below hby5)
      have HBy5 := Lib.hid (And.intro HDy5.out.b0 HDy5.out.be)
      have HAy5 := Lib.hid (show y5.heap[Y1.heap.size]? = some (.cells [.int .i64 (mx)].toArray 3 (0, 0)) by rw [← hy5]; exact block_new _ _)
      clear hy5 hby5
      refine hK.out _ _ ?_ (fun hHeld => ?_)
      · (try dsimp only); exact ⟨cell_of HBy5.out.1 rfl, HX0.out y5 (by rw [HN0.out]; exact HBy5.out.2)⟩
      clear hK K
      try simp only [Act.put, List.setIfInBounds_toArray, List.set_cons_zero, List.set_cons_succ]
      refine wpAnyH_ready (rs := [1]) (by kernel_rfl) (by simp) ?_
      refine AllReadyH.cons (o := ?oo1016) ?hi1016 (fun K hK => ?hs1016) ?hm1016
      case hi1016 => (simp only [List.getElem?_toArray, List.getElem?_cons_succ, List.getElem?_cons_zero]; rfl)
      have k7 : y5.cell? ⟨B7, 5, none⟩ = some s'.vh := cell_of HDy5.out.b7 rfl
      go_simp
      obtain ⟨y6, hvy6⟩ : ∃ W, y5 = W := ⟨_, rfl⟩
      have HBy6 := HBy5
      have HDy6 := HDy5
      have HAy6 := HAy5
      rw [hvy6] at HBy6 HDy6 ⊢
      rw [hvy6] at HAy6
      clear hvy6 k7
      refine hK.out _ _ ?_ (fun hHeld => ?_)
      · (try dsimp only); exact ⟨cell_of HBy6.out.1 rfl, HX0.out y6 (by rw [HN0.out]; exact HBy6.out.2)⟩
      clear hK K
      try simp only [Act.put, List.setIfInBounds_toArray, List.set_cons_zero, List.set_cons_succ]
      refine wpAnyH_ready (rs := [11]) (by kernel_rfl) (by simp) ?_
      refine AllReadyH.cons (o := ?oo1017) ?hi1017 (fun K hK => ?hs1017) ?hm1017
      case hi1017 => (simp only [List.getElem?_toArray, List.getElem?_cons_succ, List.getElem?_cons_zero]; rfl)
      refine step_addO Tryz.infoE_int rfl (by decide) one_int 27 Tryz.underlying27 rfl (.tmp 177) (.tmp 186) rfl s'.vh (.slice (some ⟨Y1.heap.size, 0, none⟩) 1 1) ((cutL lo i3 c.heads).map fun x => max (x - (lo : Int)) (-1)) [mx] (by simp [Act.eval, Act.put]) (by simp [Act.eval, Act.put]) HDy6.out.h (AddX.one (w0 := w) (E := EInt) (c := ⟨[.int .i64 (mx)], rfl⟩) HAy6.out rfl 1) (by have := HLN.out.1; simp only [List.length_cons, List.length_nil]; unfold maxLen; omega) (by have := HLN.out.1; simp only [List.length_cons, List.length_nil]; omega) (by have := lt_blk HDy6.out.b7; have := HDy6.out.lt; omega) ?_
      intro v9 y7 ho hk hb
      have hnew := HDy6.out.addH hk.out (hb.out _ _ HDy6.out.be (by have := HDy6.out.lt; omega)) ho.out
      have H7y7 := Lib.hid (hk.out _ _ _ _ HDy6.out.b7 (by decide))
      have HBy7 := Lib.hid (And.intro (hk.out _ _ _ _ HDy6.out.b0 (by decide)) (hb.out _ _ HDy6.out.be (by have := HDy6.out.lt; omega)))
      obtain ⟨Avy, mvy, cvy, hv9⟩ := OwnO.sl ho.out
      subst hv9
      have HNy7 := Lib.hid hnew
      clear hnew ho hk hb
      refine hK.out _ _ ?_ (fun hHeld => ?_)
      · (try dsimp only); exact ⟨cell_of HBy7.out.1 rfl, HX0.out y7 (by rw [HN0.out]; exact HBy7.out.2)⟩
      clear hK K
      try simp only [Act.put, List.setIfInBounds_toArray, List.set_cons_zero, List.set_cons_succ]
      refine wpAnyH_take (i := 12) (oi := ?oi1018) (v := ?v1018) ?hi1018 (by kernel_rfl) (by kernel_rfl) (by kernel_rfl) ?hq1018 ?hy1018 (by assumption) ?hr1018
      case hi1018 => (simp only [List.getElem?_toArray, List.getElem?_cons_succ, List.getElem?_cons_zero]; rfl)
      case hq1018 => exact fun _ _ _ h => h
      case hy1018 => exact .inl ⟨by rfl, by intro _ hSw'; (try dsimp only at hSw'); go_simp <;> with_reducible rfl⟩
      try simp only [Act.put, List.setIfInBounds_toArray, List.set_cons_zero, List.set_cons_succ]
      refine wpAnyH_ready (rs := [13]) (by kernel_rfl) (by simp) ?_
      refine AllReadyH.cons (o := ?oo1019) ?hi1019 (fun K hK => ?hs1019) ?hm1019
      case hi1019 => (simp only [List.getElem?_toArray, List.getElem?_cons_succ, List.getElem?_cons_zero]; rfl)
      have m7 : y7.cell? ⟨B7, 5, none⟩ = some s'.vh := cell_of H7y7.out rfl
      have mf : y7.frozen? ⟨B7, 5, none⟩ = false := frozen_of H7y7.out
      go_simp
      obtain ⟨y8, hy8⟩ : ∃ W', y7.setCell ⟨B7, 5, none⟩ (.slice Avy mvy cvy) = W' := ⟨_, rfl⟩
      rw [hy8]
      have HNy8 := HNy7
      rw [hy8] at HNy8
      have HBy8 := Lib.hid (And.intro HNy8.out.b0 HNy8.out.be)
      clear hy8 m7 mf
      refine hK.out _ _ ?_ (fun hHeld => ?_)
      · (try dsimp only); exact ⟨cell_of HBy8.out.1 rfl, HX0.out y8 (by rw [HN0.out]; exact HBy8.out.2)⟩
      clear hK K
      try simp only [Act.put, List.setIfInBounds_toArray, List.set_cons_zero, List.set_cons_succ]
      refine wpAnyH_done (by kernel_rfl) ?_ _
      obtain ⟨w5, hw5⟩ : ∃ W, y8 = W := ⟨_, rfl⟩
      have HN5 := HNy8
      rw [hw5] at HN5 ⊢
      clear hw5
      rotate_left
      exact AllReadyH.nil
      exact AllReadyH.nil
      exact AllReadyH.nil
      exact AllReadyH.nil
      all_goals go_wp2_with fail
      all_goals go_meet
      all_goals exact ⟨_, _, _, HN5⟩
     clear hs hmm hmi
     obtain ⟨Avy, mvy, cvy, HN5⟩ := hcut
     go_upto_region 34 with fail
     obtain ⟨Z1, hEZ1⟩ : ∃ W, wc.drew = W := ⟨_, rfl⟩
     have HD0 := Lib.hid (HN5.out.below ((Below.refl _ wc).drew))
     rw [hEZ1] at HD0
     have HB0 := Lib.hid (And.intro HD0.out.b0 HD0.out.be)
     have HEZ1 := Lib.hid hEZ1
     clear hEZ1
     refine wp_region_held_drew (S := (fun w' => w'.cell? ⟨N0, 6, none⟩ = some (.slice (some ⟨bl, ol, none⟩) n5 k6) ∧ w'.cell? ⟨bl, ol + i3, none⟩ = some (.string Ly))) (by kernel_rfl) ?_ (fun hHeld => ?_)
     · (try dsimp only); (rw [HEZ1.out]; exact ⟨cell_of HB0.out.1 rfl, HY0.out Z1 (by rw [HN0.out]; exact HB0.out.2)⟩)
     rw [HEZ1.out] at hHeld ⊢
     refine wpAnyH_take (i := 0) (oi := ?oi2001) (v := ?v2001) ?hi2001 (by kernel_rfl) (by kernel_rfl) (by kernel_rfl) ?hq2001 ?hy2001 (by assumption) ?hr2001
     case hi2001 => (simp only [List.getElem?_toArray, List.getElem?_cons_zero]; rfl)
     case hq2001 => exact fun _ _ _ h => h
     case hy2001 => exact .inl ⟨by rfl, by intro _ hSw'; (try dsimp only at hSw'); go_simp <;> with_reducible rfl⟩
     try simp only [Act.put, List.setIfInBounds_toArray, List.set_cons_zero, List.set_cons_succ]
     refine wpAnyH_take (i := 2) (oi := ?oi2002) (v := ?v2002) ?hi2002 (by kernel_rfl) (by kernel_rfl) (by kernel_rfl) ?hq2002 ?hy2002 (by assumption) ?hr2002
     case hi2002 => (simp only [List.getElem?_toArray, List.getElem?_cons_succ, List.getElem?_cons_zero]; rfl)
     case hq2002 => exact fun _ _ _ h => h
     case hy2002 => exact .inl ⟨by rfl, by intro _ hSw'; (try dsimp only at hSw'); go_simp <;> with_reducible rfl⟩
     try simp only [Act.put, List.setIfInBounds_toArray, List.set_cons_zero, List.set_cons_succ]
     refine wpAnyH_take (i := 3) (oi := ?oi2003) (v := ?v2003) ?hi2003 (by kernel_rfl) (by kernel_rfl) (by kernel_rfl) ?hq2003 ?hy2003 (by assumption) ?hr2003
     case hi2003 => (simp only [List.getElem?_toArray, List.getElem?_cons_succ, List.getElem?_cons_zero]; rfl)
     case hq2003 => exact fun _ _ _ h => h
     case hy2003 => exact .inl ⟨by rfl, by intro _ hSw'; (try dsimp only at hSw'); go_simp <;> with_reducible rfl⟩
     try simp only [Act.put, List.setIfInBounds_toArray, List.set_cons_zero, List.set_cons_succ]
     refine wpAnyH_take (i := 4) (oi := ?oi2004) (v := ?v2004) ?hi2004 (by kernel_rfl) (by kernel_rfl) (by kernel_rfl) ?hq2004 ?hy2004 (by assumption) ?hr2004
     case hi2004 => (simp only [List.getElem?_toArray, List.getElem?_cons_succ, List.getElem?_cons_zero]; rfl)
     case hq2004 => exact fun _ _ _ h => h
     case hy2004 => exact .inl ⟨by rfl, by intro _ hSw'; (try dsimp only at hSw'); go_simp <;> with_reducible rfl⟩
     try simp only [Act.put, List.setIfInBounds_toArray, List.set_cons_zero, List.set_cons_succ]
     refine wpAnyH_take (i := 5) (oi := ?oi2005) (v := ?v2005) ?hi2005 (by kernel_rfl) (by kernel_rfl) (by kernel_rfl) ?hq2005 ?hy2005 (by assumption) ?hr2005
     case hi2005 => (simp only [List.getElem?_toArray, List.getElem?_cons_succ, List.getElem?_cons_zero]; rfl)
     case hq2005 => exact fun _ _ _ h => h
     case hy2005 => exact .inl ⟨by rfl, by intro _ hSw'; (try dsimp only at hSw'); go_simp <;> with_reducible rfl⟩
     try simp only [Act.put, List.setIfInBounds_toArray, List.set_cons_zero, List.set_cons_succ]
     refine wpAnyH_take (i := 6) (oi := ?oi2006) (v := ?v2006) ?hi2006 (by kernel_rfl) (by kernel_rfl) (by kernel_rfl) ?hq2006 ?hy2006 (by assumption) ?hr2006
     case hi2006 => (simp only [List.getElem?_toArray, List.getElem?_cons_succ, List.getElem?_cons_zero]; rfl)
     case hq2006 => exact fun _ _ _ h => h
     case hy2006 => exact .inl ⟨by rfl, by intro _ hSw'; (try dsimp only at hSw'); go_simp <;> with_reducible rfl⟩
     try simp only [Act.put, List.setIfInBounds_toArray, List.set_cons_zero, List.set_cons_succ]
     refine wpAnyH_ready (rs := [1, 7]) (by kernel_rfl) (by simp) ?_
     refine AllReadyH.cons (o := ?oo2007) ?hi2007 (fun K hK => ?hs2007) ?hm2007
     case hi2007 => (simp only [List.getElem?_toArray, List.getElem?_cons_succ, List.getElem?_cons_zero]; rfl)
     have k7 : Z1.cell? ⟨B7, 6, none⟩ = some s'.vl := cell_of HD0.out.b7 rfl
     go_simp
     obtain ⟨z1, hvz1⟩ : ∃ W, Z1 = W := ⟨_, rfl⟩
     have HBz1 := HB0
     have HDz1 := HD0
     rw [hvz1] at HBz1 HDz1 ⊢
     clear hvz1 k7
     refine hK.out _ _ ?_ (fun hHeld => ?_)
     · (try dsimp only); exact ⟨cell_of HBz1.out.1 rfl, HY0.out z1 (by rw [HN0.out]; exact HBz1.out.2)⟩
     clear hK K
     try simp only [Act.put, List.setIfInBounds_toArray, List.set_cons_zero, List.set_cons_succ]
     refine wpAnyH_ready (rs := [7]) (by kernel_rfl) (by simp) ?_
     refine AllReadyH.cons (o := ?oo2008) ?hi2008 (fun K hK => ?hs2008) ?hm2008
     case hi2008 => (simp only [List.getElem?_toArray, List.getElem?_cons_succ, List.getElem?_cons_zero]; rfl)
     go_simp
     obtain ⟨z2, hz2⟩ : ∃ W', z1.alloc (.cells #[.string Ly] 9) = W' := ⟨_, rfl⟩
     rw [hz2]
     have hbz2 : Below z1.heap.size z1 z2 := by rw [← hz2]; exact below_box _ _
     have HDz2 := Lib.hid (HDz1.out.below hbz2)
     have HBz2 := Lib.hid (And.intro HDz2.out.b0 HDz2.out.be)
     have HAz2 := Lib.hid (show z2.heap[z1.heap.size]? = some (.cells [.string Ly].toArray 9 (0, 0)) by rw [← hz2]; exact block_new _ _)
     clear hz2 hbz2
     refine hK.out _ _ ?_ (fun hHeld => ?_)
     · (try dsimp only); exact ⟨cell_of HBz2.out.1 rfl, HY0.out z2 (by rw [HN0.out]; exact HBz2.out.2)⟩
     clear hK K
     try simp only [Act.put, List.setIfInBounds_toArray, List.set_cons_zero, List.set_cons_succ]
     refine wpAnyH_ready (rs := [8]) (by kernel_rfl) (by simp) ?_
     refine AllReadyH.cons (o := ?oo2009) ?hi2009 (fun K hK => ?hs2009) ?hm2009
     case hi2009 => (simp only [List.getElem?_toArray, List.getElem?_cons_succ, List.getElem?_cons_zero]; rfl)
     refine step_addO Tryz.infoC_str rfl (by decide) one_str 28 Tryz.underlying28 rfl (.tmp 190) (.tmp 196) rfl s'.vl (.slice (some ⟨z1.heap.size, 0, none⟩) 1 1) (cutL lo i3 c.rels) [y] (by simp [Act.eval, Act.put]) (by simp [Act.eval, Act.put]) HDz2.out.l (AddX.one (w0 := w) (E := EStr) (c := ⟨[.string Ly], rfl⟩) HAz2.out HELY.out 1) (by have := HLN.out.2; simp only [List.length_cons, List.length_nil]; unfold maxLen; omega) (by have := HLN.out.2; simp only [List.length_cons, List.length_nil]; omega) (by have := lt_blk HDz2.out.b7; have := HDz2.out.lt; omega) ?_
     intro v9 z3 ho hk hb
     have hnew := HDz2.out.addL hk.out (hb.out _ _ HDz2.out.be (by have := HDz2.out.lt; omega)) ho.out
     have H7z3 := Lib.hid (hk.out _ _ _ _ HDz2.out.b7 (by decide))
     have HBz3 := Lib.hid (And.intro (hk.out _ _ _ _ HDz2.out.b0 (by decide)) (hb.out _ _ HDz2.out.be (by have := HDz2.out.lt; omega)))
     obtain ⟨Avz, mvz, cvz, hv9⟩ := OwnO.sl ho.out
     subst hv9
     have HNz3 := Lib.hid hnew
     clear hnew ho hk hb
     refine hK.out _ _ ?_ (fun hHeld => ?_)
     · (try dsimp only); exact ⟨cell_of HBz3.out.1 rfl, HY0.out z3 (by rw [HN0.out]; exact HBz3.out.2)⟩
     clear hK K
     try simp only [Act.put, List.setIfInBounds_toArray, List.set_cons_zero, List.set_cons_succ]
     refine wpAnyH_take (i := 9) (oi := ?oi2010) (v := ?v2010) ?hi2010 (by kernel_rfl) (by kernel_rfl) (by kernel_rfl) ?hq2010 ?hy2010 (by assumption) ?hr2010
     case hi2010 => (simp only [List.getElem?_toArray, List.getElem?_cons_succ, List.getElem?_cons_zero]; rfl)
     case hq2010 => exact fun _ _ _ h => h
     case hy2010 => exact .inl ⟨by rfl, by intro _ hSw'; (try dsimp only at hSw'); go_simp <;> with_reducible rfl⟩
     try simp only [Act.put, List.setIfInBounds_toArray, List.set_cons_zero, List.set_cons_succ]
     refine wpAnyH_ready (rs := [10]) (by kernel_rfl) (by simp) ?_
     refine AllReadyH.cons (o := ?oo2011) ?hi2011 (fun K hK => ?hs2011) ?hm2011
     case hi2011 => (simp only [List.getElem?_toArray, List.getElem?_cons_succ, List.getElem?_cons_zero]; rfl)
     have m7 : z3.cell? ⟨B7, 6, none⟩ = some s'.vl := cell_of H7z3.out rfl
     have mf : z3.frozen? ⟨B7, 6, none⟩ = false := frozen_of H7z3.out
     go_simp
     obtain ⟨z4, hz4⟩ : ∃ W', z3.setCell ⟨B7, 6, none⟩ (.slice Avz mvz cvz) = W' := ⟨_, rfl⟩
     rw [hz4]
     have HNz4 := HNz3
     rw [hz4] at HNz4
     have HBz4 := Lib.hid (And.intro HNz4.out.b0 HNz4.out.be)
     clear hz4 m7 mf
     refine hK.out _ _ ?_ (fun hHeld => ?_)
     · (try dsimp only); exact ⟨cell_of HBz4.out.1 rfl, HY0.out z4 (by rw [HN0.out]; exact HBz4.out.2)⟩
     clear hK K
     try simp only [Act.put, List.setIfInBounds_toArray, List.set_cons_zero, List.set_cons_succ]
     refine wpAnyH_done (by kernel_rfl) ?_ _
     obtain ⟨w6, hw6⟩ : ∃ W, z4 = W := ⟨_, rfl⟩
     have HN6 := HNz4
     rw [hw6] at HN6 ⊢
     clear hw6
     rotate_left
     exact AllReadyH.nil
     exact AllReadyH.nil
     exact AllReadyH.nil
     refine AllReadyH.cons (o := ?oo2012) ?hi2012 (fun K hK => ?hs2012) ?hm2012
     case hi2012 => (simp only [List.getElem?_toArray, List.getElem?_cons_succ, List.getElem?_cons_zero]; rfl)
     go_simp
     obtain ⟨z5, hz5⟩ : ∃ W', Z1.alloc (.cells #[.string Ly] 9) = W' := ⟨_, rfl⟩
     rw [hz5]
     have hbz5 : Below Z1.heap.size Z1 z5 := by rw [← hz5]; exact below_box _ _
     have HDz5 := Lib.hid (HD0.out.below hbz5)
     have HBz5 := Lib.hid (And.intro HDz5.out.b0 HDz5.out.be)
     have HAz5 := Lib.hid (show z5.heap[Z1.heap.size]? = some (.cells [.string Ly].toArray 9 (0, 0)) by rw [← hz5]; exact block_new _ _)
     clear hz5 hbz5
     refine hK.out _ _ ?_ (fun hHeld => ?_)
     · (try dsimp only); exact ⟨cell_of HBz5.out.1 rfl, HY0.out z5 (by rw [HN0.out]; exact HBz5.out.2)⟩
     clear hK K
     try simp only [Act.put, List.setIfInBounds_toArray, List.set_cons_zero, List.set_cons_succ]
     refine wpAnyH_ready (rs := [1]) (by kernel_rfl) (by simp) ?_
     refine AllReadyH.cons (o := ?oo2013) ?hi2013 (fun K hK => ?hs2013) ?hm2013
     case hi2013 => (simp only [List.getElem?_toArray, List.getElem?_cons_succ, List.getElem?_cons_zero]; rfl)
     have k7 : z5.cell? ⟨B7, 6, none⟩ = some s'.vl := cell_of HDz5.out.b7 rfl
     go_simp
     obtain ⟨z6, hvz6⟩ : ∃ W, z5 = W := ⟨_, rfl⟩
     have HBz6 := HBz5
     have HDz6 := HDz5
     have HAz6 := HAz5
     rw [hvz6] at HBz6 HDz6 ⊢
     rw [hvz6] at HAz6
     clear hvz6 k7
     refine hK.out _ _ ?_ (fun hHeld => ?_)
     · (try dsimp only); exact ⟨cell_of HBz6.out.1 rfl, HY0.out z6 (by rw [HN0.out]; exact HBz6.out.2)⟩
     clear hK K
     try simp only [Act.put, List.setIfInBounds_toArray, List.set_cons_zero, List.set_cons_succ]
     refine wpAnyH_ready (rs := [8]) (by kernel_rfl) (by simp) ?_
     refine AllReadyH.cons (o := ?oo2014) ?hi2014 (fun K hK => ?hs2014) ?hm2014
     case hi2014 => (simp only [List.getElem?_toArray, List.getElem?_cons_succ, List.getElem?_cons_zero]; rfl)
     refine step_addO Tryz.infoC_str rfl (by decide) one_str 28 Tryz.underlying28 rfl (.tmp 190) (.tmp 196) rfl s'.vl (.slice (some ⟨Z1.heap.size, 0, none⟩) 1 1) (cutL lo i3 c.rels) [y] (by simp [Act.eval, Act.put]) (by simp [Act.eval, Act.put]) HDz6.out.l (AddX.one (w0 := w) (E := EStr) (c := ⟨[.string Ly], rfl⟩) HAz6.out HELY.out 1) (by have := HLN.out.2; simp only [List.length_cons, List.length_nil]; unfold maxLen; omega) (by have := HLN.out.2; simp only [List.length_cons, List.length_nil]; omega) (by have := lt_blk HDz6.out.b7; have := HDz6.out.lt; omega) ?_
     intro v9 z7 ho hk hb
     have hnew := HDz6.out.addL hk.out (hb.out _ _ HDz6.out.be (by have := HDz6.out.lt; omega)) ho.out
     have H7z7 := Lib.hid (hk.out _ _ _ _ HDz6.out.b7 (by decide))
     have HBz7 := Lib.hid (And.intro (hk.out _ _ _ _ HDz6.out.b0 (by decide)) (hb.out _ _ HDz6.out.be (by have := HDz6.out.lt; omega)))
     obtain ⟨Avz, mvz, cvz, hv9⟩ := OwnO.sl ho.out
     subst hv9
     have HNz7 := Lib.hid hnew
     clear hnew ho hk hb
     refine hK.out _ _ ?_ (fun hHeld => ?_)
     · (try dsimp only); exact ⟨cell_of HBz7.out.1 rfl, HY0.out z7 (by rw [HN0.out]; exact HBz7.out.2)⟩
     clear hK K
     try simp only [Act.put, List.setIfInBounds_toArray, List.set_cons_zero, List.set_cons_succ]
     refine wpAnyH_take (i := 9) (oi := ?oi2015) (v := ?v2015) ?hi2015 (by kernel_rfl) (by kernel_rfl) (by kernel_rfl) ?hq2015 ?hy2015 (by assumption) ?hr2015
     case hi2015 => (simp only [List.getElem?_toArray, List.getElem?_cons_succ, List.getElem?_cons_zero]; rfl)
     case hq2015 => exact fun _ _ _ h => h
     case hy2015 => exact .inl ⟨by rfl, by intro _ hSw'; (try dsimp only at hSw'); go_simp <;> with_reducible rfl⟩
     try simp only [Act.put, List.setIfInBounds_toArray, List.set_cons_zero, List.set_cons_succ]
     refine wpAnyH_ready (rs := [10]) (by kernel_rfl) (by simp) ?_
     refine AllReadyH.cons (o := ?oo2016) ?hi2016 (fun K hK => ?hs2016) ?hm2016
     case hi2016 => (simp only [List.getElem?_toArray, List.getElem?_cons_succ, List.getElem?_cons_zero]; rfl)
     have m7 : z7.cell? ⟨B7, 6, none⟩ = some s'.vl := cell_of H7z7.out rfl
     have mf : z7.frozen? ⟨B7, 6, none⟩ = false := frozen_of H7z7.out
     go_simp
     obtain ⟨z8, hz8⟩ : ∃ W', z7.setCell ⟨B7, 6, none⟩ (.slice Avz mvz cvz) = W' := ⟨_, rfl⟩
     rw [hz8]
     have HNz8 := HNz7
     rw [hz8] at HNz8
     have HBz8 := Lib.hid (And.intro HNz8.out.b0 HNz8.out.be)
     clear hz8 m7 mf
     refine hK.out _ _ ?_ (fun hHeld => ?_)
     · (try dsimp only); exact ⟨cell_of HBz8.out.1 rfl, HY0.out z8 (by rw [HN0.out]; exact HBz8.out.2)⟩
     clear hK K
     try simp only [Act.put, List.setIfInBounds_toArray, List.set_cons_zero, List.set_cons_succ]
     refine wpAnyH_done (by kernel_rfl) ?_ _
     obtain ⟨w6, hw6⟩ : ∃ W, z8 = W := ⟨_, rfl⟩
     have HN6 := HNz8
     rw [hw6] at HN6 ⊢
     clear hw6
     rotate_left
     exact AllReadyH.nil
     exact AllReadyH.nil
     exact AllReadyH.nil
     exact AllReadyH.nil
     all_goals
      go_wp2_with fail
      have hn7 := HN6.out
      rw [← HSTP.out.1, ← HSTP.out.2] at hn7
      have HN7 := Lib.hid hn7
      clear hn7
      refine ⟨⟨i3 + 1, by omega, by omega, by omega, _, HN7⟩, ?_⟩
      simp only [Go.RowKit.intOf]; omega
    obtain rfl : i3 = hi := by omega
    have hnl3 : ¬ (i3 : Int) < (i3 : Int) := by omega
    have HS3 := hs
    obtain ⟨va', vt', vx', vr', vn', vh', vl'⟩ := s'
    have hfin := HS3.out
    obtain ⟨G0, g0, u0, z0⟩ := OwnO.sl hfin.a
    obtain ⟨G1, g1, u1, z1⟩ := OwnO.sl hfin.t
    obtain ⟨G2, g2, u2, z2⟩ := OwnO.sl hfin.x
    obtain ⟨G3, g3, u3, z3⟩ := OwnO.sl hfin.r
    obtain ⟨G4, g4, u4, z4⟩ := OwnO.sl hfin.n
    obtain ⟨G5, g5, u5, z5⟩ := OwnO.sl hfin.h
    obtain ⟨G6, g6, u6, z6⟩ := OwnO.sl hfin.l
    simp only at z0 z1 z2 z3 z4 z5 z6
    subst z0 z1 z2 z3 z4 z5 z6
    obtain ⟨⟨d0, d1, d2, d3, d4, d5, d6⟩, -⟩ := seven_f hfin.b7
    obtain ⟨⟨o0, o1, o2, o3, o4, o5, o6⟩, p0, p1, p2, p3, p4, p5, p6⟩ := seven_f hfin.b1
    have HFIN := Lib.hid (DocS.fin hfin HN0.out (.slice G0 g0 u0) (.slice G1 g1 u1) (.slice G2 g2 u2) (.slice G3 g3 u3) (.slice G4 g4 u4) (.slice G5 g5 u5) (.slice G6 g6 u6))
    clear hfin
    go_wp2_with fail
    exact bodyPost_ret (v := .tuple #[.agg #[.slice G0 g0 u0, .slice G1 g1 u1, .slice G2 g2 u2, .slice G3 g3 u3, .slice G4 g4 u4, .slice G5 g5 u5, .slice G6 g6 u6], .int .i64 (0 : Int)]) (results_two Tryz.results16 _ _ (N0 + 1) _ rfl HFIN.out.1 rfl) rfl ⟨_, rfl, HDR.out ▸ HFIN.out.2.1, HFIN.out.2.2⟩
 exact AllReadyH.nil
end Go.Proofs.YtebmfkkkhmjkoaaGreat
