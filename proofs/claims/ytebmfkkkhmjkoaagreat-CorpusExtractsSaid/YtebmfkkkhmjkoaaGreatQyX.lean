/-
  WALKS over the reference of corpus: Extract, where it answers an error.
  MEMORY of the reference of corpus: Extract: the new corpus and the boxes in one structure.
-/
import Derived.Test.YtebmfkkkhmjkoaaGreatQyZ
import Derived.Test.YtebmfkkkhmjkoaaGreatQuV
import Derived.Deep.RegionHeld3
import Derived.Deep.DeepCutAuto
import Derived.Deep.RegionLaw
import Derived.Shelf.RegionOpen
namespace Go.Proofs.YtebmfkkkhmjkoaaGreat
open Go.RowKit Go.Shelf Go.Lib
set_option linter.unusedVariables false

def RxV (w : World) (r : Cor × Nat) (e : Ending) (w' : World) : Prop :=
 ∃ s' : Sv, e = .returned (.tuple #[.agg s'.arr, .int .i64 (r.2 : Nat)]) ∧ CorAt w' s' r.1 ∧ Below w.heap.size w w'

set_option maxRecDepth 1000000 in
set_option maxHeartbeats 8000000 in
theorem refExtract_bad {w : World} (s : Sv) {c : Cor} (i : Int) (hC : CorAt w s c) (hF : Fits c) (hv : validC c = false) :
 Calls Tryz.prog 16 #[.agg s.arr, .int .i64 i] w (RxV w (Cor.none, 1)) := by
 obtain ⟨A0, k0, h0, -⟩ := hC.a.form
 obtain ⟨A1, k1, h1, -⟩ := hC.t.form
 obtain ⟨A2, k2, h2, -⟩ := hC.x.form
 obtain ⟨A3, k3, h3, -⟩ := hC.r.form
 obtain ⟨A4, k4, h4, -⟩ := hC.n.form
 obtain ⟨A5, k5, h5, -⟩ := hC.h.form
 obtain ⟨A6, k6, h6, -⟩ := hC.l.form
 obtain ⟨va, vt, vx, vr, vn, vh, vl⟩ := s
 simp only at h0 h1 h2 h3 h4 h5 h6
 subst h0 h1 h2 h3 h4 h5 h6
 obtain ⟨n0, e0⟩ : ∃ n, c.attrs.length = n := ⟨_, rfl⟩
 obtain ⟨n1, e1⟩ : ∃ n, c.toks.length = n := ⟨_, rfl⟩
 obtain ⟨n2, e2⟩ : ∃ n, c.texts.length = n := ⟨_, rfl⟩
 obtain ⟨n3, e3⟩ : ∃ n, c.regs.length = n := ⟨_, rfl⟩
 obtain ⟨n4, e4⟩ : ∃ n, c.nodes.length = n := ⟨_, rfl⟩
 obtain ⟨n5, e5⟩ : ∃ n, c.heads.length = n := ⟨_, rfl⟩
 obtain ⟨n6, e6⟩ : ∃ n, c.rels.length = n := ⟨_, rfl⟩
 simp only [e0, e1, e2, e3, e4, e5, e6, Sv.arr] at hC  ⊢
 obtain ⟨N0, hN0⟩ : ∃ N0, w.heap.size = N0 := ⟨_, rfl⟩
 obtain ⟨X, hX⟩ : ∃ X, (w.alloc (.cells #[.slice A0 n0 k0, .slice A1 n1 k1, .slice A2 n2 k2, .slice A3 n3 k3, .slice A4 n4 k4, .slice A5 n5 k5, .slice A6 n6 k6] 30)).alloc (.cells #[.slice none 0 0, .slice none 0 0, .slice none 0 0, .slice none 0 0, .slice none 0 0, .slice none 0 0, .slice none 0 0] 30) = X := ⟨_, rfl⟩
 have hbX : Below w.heap.size w X := by rw [← hX]; exact (below_box w _).trans ((below_box _ _).mono (by simp))
 have hXs : X.heap.size = N0 + 1 + 1 := by rw [← hX, ← hN0]; simp
 have x1 : X.heap[N0]? = some (.cells #[.slice A0 n0 k0, .slice A1 n1 k1, .slice A2 n2 k2, .slice A3 n3 k3, .slice A4 n4 k4, .slice A5 n5 k5, .slice A6 n6 k6] 30 (0, 0)) := by rw [← hX, ← hN0]; exact block_alloc _ (block_new w _)
 have x2 : X.heap[N0 + 1]? = some (.cells #[.slice none 0 0, .slice none 0 0, .slice none 0 0, .slice none 0 0, .slice none 0 0, .slice none 0 0, .slice none 0 0] 30 (0, 0)) := by
  have := block_new (w.alloc (.cells #[.slice A0 n0 k0, .slice A1 n1 k1, .slice A2 n2 k2, .slice A3 n3 k3, .slice A4 n4 k4, .slice A5 n5 k5, .slice A6 n6 k6] 30)) (.cells #[.slice none 0 0, .slice none 0 0, .slice none 0 0, .slice none 0 0, .slice none 0 0, .slice none 0 0, .slice none 0 0] 30)
  rw [alloc_sz, hN0] at this
  rw [← hX]
  exact this
 have hva := refValidC_any ⟨.slice A0 n0 k0, .slice A1 n1 k1, .slice A2 n2 k2, .slice A3 n3 k3, .slice A4 n4 k4, .slice A5 n5 k5, .slice A6 n6 k6⟩ (hC.below hbX) hF
 simp only [Sv.arr] at hva
 obtain ⟨vb, hvb⟩ : ∃ b, validC c = b := ⟨_, rfl⟩
 rw [hvb] at hva
 have HVA := Lib.hid hva
 have HX := Lib.hid hX
 have HXS := Lib.hid hXs
 have HN0 := Lib.hid hN0
 have HBX := Lib.hid hbX
 have HX12 := Lib.hid (And.intro x1 x2)
 have HC := Lib.hid hC
 have hvf : vb = false := by rw [← hvb]; exact hv
 subst hvf
 clear hva hX hXs hN0 hbX x1 x2 hC hF hv hvb e0 e1 e2 e3 e4 e5 e6
 go_enter Tryz.func16, Tryz.ntmps16
 go_wp2_with fail
 rw [HX.out, HN0.out]
 refine HVA.out.mono ?_
 rintro e w2 ⟨rfl, hb2⟩
 have HC2 := Lib.hid (HC.out.below (HBX.out.trans (hb2.mono HBX.out.size)))
 have hy2 := block_below HX12.out.2 hb2 (lt_blk HX12.out.2)
 have hy1 := block_below HX12.out.1 hb2 (lt_blk HX12.out.1)
 have HY2 := Lib.hid hy2
 have HB2 := Lib.hid (HBX.out.trans (hb2.mono HBX.out.size))
 have HS2 := Lib.hid hb2.size
 have c0 : w2.cell? ⟨N0, 0, none⟩ = some (.slice A0 n0 k0) := cell_of hy1 rfl
 have c1 : w2.cell? ⟨N0, 1, none⟩ = some (.slice A1 n1 k1) := cell_of hy1 rfl
 have c2 : w2.cell? ⟨N0, 2, none⟩ = some (.slice A2 n2 k2) := cell_of hy1 rfl
 have c3 : w2.cell? ⟨N0, 3, none⟩ = some (.slice A3 n3 k3) := cell_of hy1 rfl
 have c4 : w2.cell? ⟨N0, 4, none⟩ = some (.slice A4 n4 k4) := cell_of hy1 rfl
 have c5 : w2.cell? ⟨N0, 5, none⟩ = some (.slice A5 n5 k5) := cell_of hy1 rfl
 have c6 : w2.cell? ⟨N0, 6, none⟩ = some (.slice A6 n6 k6) := cell_of hy1 rfl
 have o0 : w2.cell? ⟨N0 + 1, 0, none⟩ = some (.slice none 0 0) := cell_of hy2 rfl
 have fo0 : w2.frozen? ⟨N0 + 1, 0, none⟩ = false := frozen_of hy2
 have o1 : w2.cell? ⟨N0 + 1, 1, none⟩ = some (.slice none 0 0) := cell_of hy2 rfl
 have fo1 : w2.frozen? ⟨N0 + 1, 1, none⟩ = false := frozen_of hy2
 have o2 : w2.cell? ⟨N0 + 1, 2, none⟩ = some (.slice none 0 0) := cell_of hy2 rfl
 have fo2 : w2.frozen? ⟨N0 + 1, 2, none⟩ = false := frozen_of hy2
 have o3 : w2.cell? ⟨N0 + 1, 3, none⟩ = some (.slice none 0 0) := cell_of hy2 rfl
 have fo3 : w2.frozen? ⟨N0 + 1, 3, none⟩ = false := frozen_of hy2
 have o4 : w2.cell? ⟨N0 + 1, 4, none⟩ = some (.slice none 0 0) := cell_of hy2 rfl
 have fo4 : w2.frozen? ⟨N0 + 1, 4, none⟩ = false := frozen_of hy2
 have o5 : w2.cell? ⟨N0 + 1, 5, none⟩ = some (.slice none 0 0) := cell_of hy2 rfl
 have fo5 : w2.frozen? ⟨N0 + 1, 5, none⟩ = false := frozen_of hy2
 have o6 : w2.cell? ⟨N0 + 1, 6, none⟩ = some (.slice none 0 0) := cell_of hy2 rfl
 have fo6 : w2.frozen? ⟨N0 + 1, 6, none⟩ = false := frozen_of hy2
 clear hb2 hy1 hy2
 go_wp2_with fail
 have hz : (((((((w2.setCell ⟨N0 + 1, 0, none⟩ (.slice none 0 0)).setCell ⟨N0 + 1, 1, none⟩ (.slice none 0 0)).setCell ⟨N0 + 1, 2, none⟩ (.slice none 0 0)).setCell ⟨N0 + 1, 3, none⟩ (.slice none 0 0)).setCell ⟨N0 + 1, 4, none⟩ (.slice none 0 0)).setCell ⟨N0 + 1, 5, none⟩ (.slice none 0 0)).setCell ⟨N0 + 1, 6, none⟩ (.slice none 0 0)).heap[N0 + 1]? = some (.cells #[.slice none 0 0, .slice none 0 0, .slice none 0 0, .slice none 0 0, .slice none 0 0, .slice none 0 0, .slice none 0 0] 30 (0, 0)) := (set_of (set_of (set_of (set_of (set_of (set_of (set_of HY2.out _) _) _) _) _) _) _)
 have hbl : Below w.heap.size w (((((((w2.setCell ⟨N0 + 1, 0, none⟩ (.slice none 0 0)).setCell ⟨N0 + 1, 1, none⟩ (.slice none 0 0)).setCell ⟨N0 + 1, 2, none⟩ (.slice none 0 0)).setCell ⟨N0 + 1, 3, none⟩ (.slice none 0 0)).setCell ⟨N0 + 1, 4, none⟩ (.slice none 0 0)).setCell ⟨N0 + 1, 5, none⟩ (.slice none 0 0)).setCell ⟨N0 + 1, 6, none⟩ (.slice none 0 0)) := (((((((HB2.out.setCell (by rw [HN0.out]; exact Nat.le_succ _) _).setCell (by rw [HN0.out]; exact Nat.le_succ _) _).setCell (by rw [HN0.out]; exact Nat.le_succ _) _).setCell (by rw [HN0.out]; exact Nat.le_succ _) _).setCell (by rw [HN0.out]; exact Nat.le_succ _) _).setCell (by rw [HN0.out]; exact Nat.le_succ _) _).setCell (by rw [HN0.out]; exact Nat.le_succ _) _)
 exact bodyPost_ret (v := .tuple #[.agg #[.slice none 0 0, .slice none 0 0, .slice none 0 0, .slice none 0 0, .slice none 0 0, .slice none 0 0, .slice none 0 0], .int .i64 (1 : Int)]) (results_two Tryz.results16 _ _ (N0 + 1) _ rfl hz rfl) rfl ⟨Sv.nil, rfl, (corF_none 0 _).at', hbl⟩

set_option maxRecDepth 1000000 in
set_option maxHeartbeats 8000000 in
theorem refExtract_range {w : World} (s : Sv) {c : Cor} (i : Int) (hC : CorAt w s c) (hF : Fits c) (hv : validC c = true) (hi : i < 0 ∨ (c.texts.length : Int) ≤ i) :
 Calls Tryz.prog 16 #[.agg s.arr, .int .i64 i] w (RxV w (Cor.none, 8)) := by
 obtain ⟨A0, k0, h0, -⟩ := hC.a.form
 obtain ⟨A1, k1, h1, -⟩ := hC.t.form
 obtain ⟨A2, k2, h2, -⟩ := hC.x.form
 obtain ⟨A3, k3, h3, -⟩ := hC.r.form
 obtain ⟨A4, k4, h4, -⟩ := hC.n.form
 obtain ⟨A5, k5, h5, -⟩ := hC.h.form
 obtain ⟨A6, k6, h6, -⟩ := hC.l.form
 obtain ⟨va, vt, vx, vr, vn, vh, vl⟩ := s
 simp only at h0 h1 h2 h3 h4 h5 h6
 subst h0 h1 h2 h3 h4 h5 h6
 obtain ⟨n0, e0⟩ : ∃ n, c.attrs.length = n := ⟨_, rfl⟩
 obtain ⟨n1, e1⟩ : ∃ n, c.toks.length = n := ⟨_, rfl⟩
 obtain ⟨n2, e2⟩ : ∃ n, c.texts.length = n := ⟨_, rfl⟩
 obtain ⟨n3, e3⟩ : ∃ n, c.regs.length = n := ⟨_, rfl⟩
 obtain ⟨n4, e4⟩ : ∃ n, c.nodes.length = n := ⟨_, rfl⟩
 obtain ⟨n5, e5⟩ : ∃ n, c.heads.length = n := ⟨_, rfl⟩
 obtain ⟨n6, e6⟩ : ∃ n, c.rels.length = n := ⟨_, rfl⟩
 simp only [e0, e1, e2, e3, e4, e5, e6, Sv.arr] at hC hi ⊢
 obtain ⟨N0, hN0⟩ : ∃ N0, w.heap.size = N0 := ⟨_, rfl⟩
 obtain ⟨X, hX⟩ : ∃ X, (w.alloc (.cells #[.slice A0 n0 k0, .slice A1 n1 k1, .slice A2 n2 k2, .slice A3 n3 k3, .slice A4 n4 k4, .slice A5 n5 k5, .slice A6 n6 k6] 30)).alloc (.cells #[.slice none 0 0, .slice none 0 0, .slice none 0 0, .slice none 0 0, .slice none 0 0, .slice none 0 0, .slice none 0 0] 30) = X := ⟨_, rfl⟩
 have hbX : Below w.heap.size w X := by rw [← hX]; exact (below_box w _).trans ((below_box _ _).mono (by simp))
 have hXs : X.heap.size = N0 + 1 + 1 := by rw [← hX, ← hN0]; simp
 have x1 : X.heap[N0]? = some (.cells #[.slice A0 n0 k0, .slice A1 n1 k1, .slice A2 n2 k2, .slice A3 n3 k3, .slice A4 n4 k4, .slice A5 n5 k5, .slice A6 n6 k6] 30 (0, 0)) := by rw [← hX, ← hN0]; exact block_alloc _ (block_new w _)
 have x2 : X.heap[N0 + 1]? = some (.cells #[.slice none 0 0, .slice none 0 0, .slice none 0 0, .slice none 0 0, .slice none 0 0, .slice none 0 0, .slice none 0 0] 30 (0, 0)) := by
  have := block_new (w.alloc (.cells #[.slice A0 n0 k0, .slice A1 n1 k1, .slice A2 n2 k2, .slice A3 n3 k3, .slice A4 n4 k4, .slice A5 n5 k5, .slice A6 n6 k6] 30)) (.cells #[.slice none 0 0, .slice none 0 0, .slice none 0 0, .slice none 0 0, .slice none 0 0, .slice none 0 0, .slice none 0 0] 30)
  rw [alloc_sz, hN0] at this
  rw [← hX]
  exact this
 have hva := refValidC_any ⟨.slice A0 n0 k0, .slice A1 n1 k1, .slice A2 n2 k2, .slice A3 n3 k3, .slice A4 n4 k4, .slice A5 n5 k5, .slice A6 n6 k6⟩ (hC.below hbX) hF
 simp only [Sv.arr] at hva
 obtain ⟨vb, hvb⟩ : ∃ b, validC c = b := ⟨_, rfl⟩
 rw [hvb] at hva
 have HVA := Lib.hid hva
 have HX := Lib.hid hX
 have HXS := Lib.hid hXs
 have HN0 := Lib.hid hN0
 have HBX := Lib.hid hbX
 have HX12 := Lib.hid (And.intro x1 x2)
 have HC := Lib.hid hC
 have hvf : vb = true := by rw [← hvb]; exact hv
 subst hvf
 clear hva hX hXs hN0 hbX x1 x2 hC hF hv hvb e0 e1 e2 e3 e4 e5 e6
 by_cases h0 : i < 0
 ·
  clear hi
  go_enter Tryz.func16, Tryz.ntmps16
  go_wp2_with fail
  rw [HX.out, HN0.out]
  refine HVA.out.mono ?_
  rintro e w2 ⟨rfl, hb2⟩
  have HC2 := Lib.hid (HC.out.below (HBX.out.trans (hb2.mono HBX.out.size)))
  have hy2 := block_below HX12.out.2 hb2 (lt_blk HX12.out.2)
  have hy1 := block_below HX12.out.1 hb2 (lt_blk HX12.out.1)
  have HY2 := Lib.hid hy2
  have HB2 := Lib.hid (HBX.out.trans (hb2.mono HBX.out.size))
  have HS2 := Lib.hid hb2.size
  have c0 : w2.cell? ⟨N0, 0, none⟩ = some (.slice A0 n0 k0) := cell_of hy1 rfl
  have c1 : w2.cell? ⟨N0, 1, none⟩ = some (.slice A1 n1 k1) := cell_of hy1 rfl
  have c2 : w2.cell? ⟨N0, 2, none⟩ = some (.slice A2 n2 k2) := cell_of hy1 rfl
  have c3 : w2.cell? ⟨N0, 3, none⟩ = some (.slice A3 n3 k3) := cell_of hy1 rfl
  have c4 : w2.cell? ⟨N0, 4, none⟩ = some (.slice A4 n4 k4) := cell_of hy1 rfl
  have c5 : w2.cell? ⟨N0, 5, none⟩ = some (.slice A5 n5 k5) := cell_of hy1 rfl
  have c6 : w2.cell? ⟨N0, 6, none⟩ = some (.slice A6 n6 k6) := cell_of hy1 rfl
  have o0 : w2.cell? ⟨N0 + 1, 0, none⟩ = some (.slice none 0 0) := cell_of hy2 rfl
  have fo0 : w2.frozen? ⟨N0 + 1, 0, none⟩ = false := frozen_of hy2
  have o1 : w2.cell? ⟨N0 + 1, 1, none⟩ = some (.slice none 0 0) := cell_of hy2 rfl
  have fo1 : w2.frozen? ⟨N0 + 1, 1, none⟩ = false := frozen_of hy2
  have o2 : w2.cell? ⟨N0 + 1, 2, none⟩ = some (.slice none 0 0) := cell_of hy2 rfl
  have fo2 : w2.frozen? ⟨N0 + 1, 2, none⟩ = false := frozen_of hy2
  have o3 : w2.cell? ⟨N0 + 1, 3, none⟩ = some (.slice none 0 0) := cell_of hy2 rfl
  have fo3 : w2.frozen? ⟨N0 + 1, 3, none⟩ = false := frozen_of hy2
  have o4 : w2.cell? ⟨N0 + 1, 4, none⟩ = some (.slice none 0 0) := cell_of hy2 rfl
  have fo4 : w2.frozen? ⟨N0 + 1, 4, none⟩ = false := frozen_of hy2
  have o5 : w2.cell? ⟨N0 + 1, 5, none⟩ = some (.slice none 0 0) := cell_of hy2 rfl
  have fo5 : w2.frozen? ⟨N0 + 1, 5, none⟩ = false := frozen_of hy2
  have o6 : w2.cell? ⟨N0 + 1, 6, none⟩ = some (.slice none 0 0) := cell_of hy2 rfl
  have fo6 : w2.frozen? ⟨N0 + 1, 6, none⟩ = false := frozen_of hy2
  clear hb2 hy1 hy2
  go_wp2_with fail
  have hz : (((((((w2.setCell ⟨N0 + 1, 0, none⟩ (.slice none 0 0)).setCell ⟨N0 + 1, 1, none⟩ (.slice none 0 0)).setCell ⟨N0 + 1, 2, none⟩ (.slice none 0 0)).setCell ⟨N0 + 1, 3, none⟩ (.slice none 0 0)).setCell ⟨N0 + 1, 4, none⟩ (.slice none 0 0)).setCell ⟨N0 + 1, 5, none⟩ (.slice none 0 0)).setCell ⟨N0 + 1, 6, none⟩ (.slice none 0 0)).heap[N0 + 1]? = some (.cells #[.slice none 0 0, .slice none 0 0, .slice none 0 0, .slice none 0 0, .slice none 0 0, .slice none 0 0, .slice none 0 0] 30 (0, 0)) := (set_of (set_of (set_of (set_of (set_of (set_of (set_of HY2.out _) _) _) _) _) _) _)
  have hbl : Below w.heap.size w (((((((w2.setCell ⟨N0 + 1, 0, none⟩ (.slice none 0 0)).setCell ⟨N0 + 1, 1, none⟩ (.slice none 0 0)).setCell ⟨N0 + 1, 2, none⟩ (.slice none 0 0)).setCell ⟨N0 + 1, 3, none⟩ (.slice none 0 0)).setCell ⟨N0 + 1, 4, none⟩ (.slice none 0 0)).setCell ⟨N0 + 1, 5, none⟩ (.slice none 0 0)).setCell ⟨N0 + 1, 6, none⟩ (.slice none 0 0)) := (((((((HB2.out.setCell (by rw [HN0.out]; exact Nat.le_succ _) _).setCell (by rw [HN0.out]; exact Nat.le_succ _) _).setCell (by rw [HN0.out]; exact Nat.le_succ _) _).setCell (by rw [HN0.out]; exact Nat.le_succ _) _).setCell (by rw [HN0.out]; exact Nat.le_succ _) _).setCell (by rw [HN0.out]; exact Nat.le_succ _) _).setCell (by rw [HN0.out]; exact Nat.le_succ _) _)
  exact bodyPost_ret (v := .tuple #[.agg #[.slice none 0 0, .slice none 0 0, .slice none 0 0, .slice none 0 0, .slice none 0 0, .slice none 0 0, .slice none 0 0], .int .i64 (8 : Int)]) (results_two Tryz.results16 _ _ (N0 + 1) _ rfl hz rfl) rfl ⟨Sv.nil, rfl, (corF_none 0 _).at', hbl⟩
 have hi2 : (n2 : Int) ≤ i := by omega
 clear hi
 go_enter Tryz.func16, Tryz.ntmps16
 go_wp2_with fail
 rw [HX.out, HN0.out]
 refine HVA.out.mono ?_
 rintro e w2 ⟨rfl, hb2⟩
 have HC2 := Lib.hid (HC.out.below (HBX.out.trans (hb2.mono HBX.out.size)))
 have hy2 := block_below HX12.out.2 hb2 (lt_blk HX12.out.2)
 have hy1 := block_below HX12.out.1 hb2 (lt_blk HX12.out.1)
 have HY2 := Lib.hid hy2
 have HB2 := Lib.hid (HBX.out.trans (hb2.mono HBX.out.size))
 have HS2 := Lib.hid hb2.size
 have c0 : w2.cell? ⟨N0, 0, none⟩ = some (.slice A0 n0 k0) := cell_of hy1 rfl
 have c1 : w2.cell? ⟨N0, 1, none⟩ = some (.slice A1 n1 k1) := cell_of hy1 rfl
 have c2 : w2.cell? ⟨N0, 2, none⟩ = some (.slice A2 n2 k2) := cell_of hy1 rfl
 have c3 : w2.cell? ⟨N0, 3, none⟩ = some (.slice A3 n3 k3) := cell_of hy1 rfl
 have c4 : w2.cell? ⟨N0, 4, none⟩ = some (.slice A4 n4 k4) := cell_of hy1 rfl
 have c5 : w2.cell? ⟨N0, 5, none⟩ = some (.slice A5 n5 k5) := cell_of hy1 rfl
 have c6 : w2.cell? ⟨N0, 6, none⟩ = some (.slice A6 n6 k6) := cell_of hy1 rfl
 have o0 : w2.cell? ⟨N0 + 1, 0, none⟩ = some (.slice none 0 0) := cell_of hy2 rfl
 have fo0 : w2.frozen? ⟨N0 + 1, 0, none⟩ = false := frozen_of hy2
 have o1 : w2.cell? ⟨N0 + 1, 1, none⟩ = some (.slice none 0 0) := cell_of hy2 rfl
 have fo1 : w2.frozen? ⟨N0 + 1, 1, none⟩ = false := frozen_of hy2
 have o2 : w2.cell? ⟨N0 + 1, 2, none⟩ = some (.slice none 0 0) := cell_of hy2 rfl
 have fo2 : w2.frozen? ⟨N0 + 1, 2, none⟩ = false := frozen_of hy2
 have o3 : w2.cell? ⟨N0 + 1, 3, none⟩ = some (.slice none 0 0) := cell_of hy2 rfl
 have fo3 : w2.frozen? ⟨N0 + 1, 3, none⟩ = false := frozen_of hy2
 have o4 : w2.cell? ⟨N0 + 1, 4, none⟩ = some (.slice none 0 0) := cell_of hy2 rfl
 have fo4 : w2.frozen? ⟨N0 + 1, 4, none⟩ = false := frozen_of hy2
 have o5 : w2.cell? ⟨N0 + 1, 5, none⟩ = some (.slice none 0 0) := cell_of hy2 rfl
 have fo5 : w2.frozen? ⟨N0 + 1, 5, none⟩ = false := frozen_of hy2
 have o6 : w2.cell? ⟨N0 + 1, 6, none⟩ = some (.slice none 0 0) := cell_of hy2 rfl
 have fo6 : w2.frozen? ⟨N0 + 1, 6, none⟩ = false := frozen_of hy2
 clear hb2 hy1 hy2
 go_wp2_with fail
 have hz : (((((((w2.setCell ⟨N0 + 1, 0, none⟩ (.slice none 0 0)).setCell ⟨N0 + 1, 1, none⟩ (.slice none 0 0)).setCell ⟨N0 + 1, 2, none⟩ (.slice none 0 0)).setCell ⟨N0 + 1, 3, none⟩ (.slice none 0 0)).setCell ⟨N0 + 1, 4, none⟩ (.slice none 0 0)).setCell ⟨N0 + 1, 5, none⟩ (.slice none 0 0)).setCell ⟨N0 + 1, 6, none⟩ (.slice none 0 0)).heap[N0 + 1]? = some (.cells #[.slice none 0 0, .slice none 0 0, .slice none 0 0, .slice none 0 0, .slice none 0 0, .slice none 0 0, .slice none 0 0] 30 (0, 0)) := (set_of (set_of (set_of (set_of (set_of (set_of (set_of HY2.out _) _) _) _) _) _) _)
 have hbl : Below w.heap.size w (((((((w2.setCell ⟨N0 + 1, 0, none⟩ (.slice none 0 0)).setCell ⟨N0 + 1, 1, none⟩ (.slice none 0 0)).setCell ⟨N0 + 1, 2, none⟩ (.slice none 0 0)).setCell ⟨N0 + 1, 3, none⟩ (.slice none 0 0)).setCell ⟨N0 + 1, 4, none⟩ (.slice none 0 0)).setCell ⟨N0 + 1, 5, none⟩ (.slice none 0 0)).setCell ⟨N0 + 1, 6, none⟩ (.slice none 0 0)) := (((((((HB2.out.setCell (by rw [HN0.out]; exact Nat.le_succ _) _).setCell (by rw [HN0.out]; exact Nat.le_succ _) _).setCell (by rw [HN0.out]; exact Nat.le_succ _) _).setCell (by rw [HN0.out]; exact Nat.le_succ _) _).setCell (by rw [HN0.out]; exact Nat.le_succ _) _).setCell (by rw [HN0.out]; exact Nat.le_succ _) _).setCell (by rw [HN0.out]; exact Nat.le_succ _) _)
 exact bodyPost_ret (v := .tuple #[.agg #[.slice none 0 0, .slice none 0 0, .slice none 0 0, .slice none 0 0, .slice none 0 0, .slice none 0 0, .slice none 0 0], .int .i64 (8 : Int)]) (results_two Tryz.results16 _ _ (N0 + 1) _ rfl hz rfl) rfl ⟨Sv.nil, rfl, (corF_none 0 _).at', hbl⟩

end Go.Proofs.YtebmfkkkhmjkoaaGreat
namespace Go.Proofs.YtebmfkkkhmjkoaaGreat
open Go.RowKit Go.Shelf Go.Lib
set_option linter.unusedVariables false
set_option linter.unusedSimpArgs false
attribute [local go_sem ↓] Go.wp_at_zero Go.wp_at_succ

/-- Behind the first appends: the new corpus in memory. -/
def R6S (BW : Nat) (w W3 : World) (n m : Nat) (la : List (Bs × Bool)) (lt : List Fs) (s7 : Value) (wx : World) : Prop :=
 ∃ (B7 : Nat) (AA AB : Option Addr) (cA cB : Nat), s7 = .pointer (some ⟨B7, 0, none⟩) ∧ BW ≤ B7 ∧ wx.heap[B7]? = some (.cells #[.slice AA n cA, .slice AB m cB, .slice none 0 0, .slice none 0 0, .slice none 0 0, .slice none 0 0, .slice none 0 0] 30 (0, 0)) ∧
  OwnO BW 61 2 EAttr w wx (.slice AA n cA) la ∧ OwnO BW 28 1 ETok w wx (.slice AB m cB) lt ∧ Below BW W3 wx
theorem r6_alloc {BW n m : Nat} {w W3 wL : World} {la : List (Bs × Bool)} {lt : List Fs} {AA AB : Option Addr} {cA cB : Nat} (hb : Below BW W3 wL) (hsz : BW ≤ wL.heap.size) (ha : OwnO BW 61 2 EAttr w wL (.slice AA n cA) la) (ht : OwnO BW 28 1 ETok w wL (.slice AB m cB) lt) :
 R6S BW w W3 n m la lt (.pointer (some ⟨wL.heap.size, 0, none⟩)) (wL.alloc (.cells #[.slice AA n cA, .slice AB m cB, .slice none 0 0, .slice none 0 0, .slice none 0 0, .slice none 0 0, .slice none 0 0] 30)) :=
 ⟨wL.heap.size, AA, AB, cA, cB, rfl, hsz, block_new wL _, ha.below (below_box wL _), ht.below (below_box wL _), hb.trans ((below_box wL _).mono hsz)⟩
/-- A store into a block of another type leaves a row as it was. -/
theorem OwnO.set {β : Type} {base : Nat} {T : TypeId} {sz : Nat} {E : World → List Value → β → Prop} {w0 w : World} {v : Value} {ys : List β} (h : OwnO base T sz E w0 w v ys) {B : Nat} {cs : Array Value} {T' : TypeId} {f : Nat × Nat} (hB : w.heap[B]? = some (.cells cs T' f)) (ht : T' ≠ T) (i : Nat) (u : Value) : OwnO base T sz E w0 (w.setCell ⟨B, i, none⟩ u) v ys :=
 h.keep fun k hk => Below.heap_setCell w ⟨B, i, none⟩ u k (fun e => h.apart hB ht (by rw [hk]; exact congrArg some e))
theorem r6_set {BW n m B : Nat} {w W3 wL : World} {la : List (Bs × Bool)} {lt : List Fs} {AA AB : Option Addr} {cA cB : Nat} (hq : wL.heap[B]? = some (.cells #[.slice none 0 0, .slice none 0 0, .slice none 0 0, .slice none 0 0, .slice none 0 0, .slice none 0 0, .slice none 0 0] 30 (0, 0))) (hB : BW ≤ B) (hb : Below BW W3 wL) (ha : OwnO BW 61 2 EAttr w wL (.slice AA n cA) la) (ht : OwnO BW 28 1 ETok w wL (.slice AB m cB) lt) :
 R6S BW w W3 n m la lt (.pointer (some ⟨B, 0, none⟩)) ((((((((wL.setCell ⟨B, 0, none⟩ (.slice AA n cA)).setCell ⟨B, 1, none⟩ (.slice AB m cB)).setCell ⟨B, 2, none⟩ (.slice none 0 0)).setCell ⟨B, 3, none⟩ (.slice none 0 0)).setCell ⟨B, 4, none⟩ (.slice none 0 0)).setCell ⟨B, 5, none⟩ (.slice none 0 0)).setCell ⟨B, 6, none⟩ (.slice none 0 0))) := by
 have q0 := set_of (i := 0) hq (.slice AA n cA)
 have q1 := set_of (i := 1) q0 (.slice AB m cB)
 have q2 := set_of (i := 2) q1 (.slice none 0 0)
 have q3 := set_of (i := 3) q2 (.slice none 0 0)
 have q4 := set_of (i := 4) q3 (.slice none 0 0)
 have q5 := set_of (i := 5) q4 (.slice none 0 0)
 have q6 := set_of (i := 6) q5 (.slice none 0 0)
 refine ⟨B, AA, AB, cA, cB, rfl, hB, q6, ?_, ?_, ?_⟩
 · exact ((((((ha.set hq (by decide) _ _).set q0 (by decide) _ _).set q1 (by decide) _ _).set q2 (by decide) _ _).set q3 (by decide) _ _).set q4 (by decide) _ _).set q5 (by decide) _ _
 · exact ((((((ht.set hq (by decide) _ _).set q0 (by decide) _ _).set q1 (by decide) _ _).set q2 (by decide) _ _).set q3 (by decide) _ _).set q4 (by decide) _ _).set q5 (by decide) _ _
 exact ((((((hb.setCell hB _).setCell hB _).setCell hB _).setCell hB _).setCell hB _).setCell hB _).setCell hB _
/-- The state behind region 9: the boxes, the new corpus, its rows. -/
structure DocS (w : World) (N0 B6 B7 BW : Nat) (cc tt : Array Value) (W : World) (s' : Sv) (rr : Cor) : Prop where
 b0 : W.heap[N0]? = some (.cells cc 30 (0, 0))
 b1 : W.heap[N0 + 1]? = some (.cells #[.slice none 0 0, .slice none 0 0, .slice none 0 0, .slice none 0 0, .slice none 0 0, .slice none 0 0, .slice none 0 0] 30 (0, 0))
 b6 : W.heap[B6]? = some (.cells tt 51 (0, 0))
 b7 : W.heap[B7]? = some (.cells s'.arr 30 (0, 0))
 lt : N0 + 1 < B7 ∧ BW ≤ B7 ∧ N0 ≤ BW
 be : Below N0 w W
 a : OwnO BW 61 2 EAttr w W s'.va rr.attrs
 t : OwnO BW 28 1 ETok w W s'.vt rr.toks
 x : OwnO BW 51 4 EEx w W s'.vx rr.texts
 r : OwnO BW 54 4 EEx w W s'.vr rr.regs
 n : OwnO BW 56 4 ENd w W s'.vn rr.nodes
 h : OwnO BW 3 1 EInt w W s'.vh rr.heads
 l : OwnO BW 9 1 EStr w W s'.vl rr.rels
theorem DocS.below {w : World} {N0 B6 B7 BW : Nat} {cc tt : Array Value} {W W' : World} {s' : Sv} {r : Cor} (h : DocS w N0 B6 B7 BW cc tt W s' r) (hb : Below W.heap.size W W') : DocS w N0 B6 B7 BW cc tt W' s' r :=
 ⟨block_below h.b0 hb (lt_blk h.b0), block_below h.b1 hb (lt_blk h.b1), block_below h.b6 hb (lt_blk h.b6), block_below h.b7 hb (lt_blk h.b7), h.lt, h.be.trans (hb.mono (by have := lt_blk h.b0; omega)), h.a.below hb, h.t.below hb, h.x.below hb, h.r.below hb, h.n.below hb, h.h.below hb, h.l.below hb⟩
theorem OwnO.sl {β : Type} {base : Nat} {T : TypeId} {sz : Nat} {E : World → List Value → β → Prop} {w0 w : World} {v : Value} {ys : List β} (h : OwnO base T sz E w0 w v ys) : ∃ A m cap, v = .slice A m cap := by
 obtain ⟨A, cap, e, _⟩ := h.form
 exact ⟨A, _, cap, e⟩
/-- A region more. -/
theorem DocS.addR {w : World} {N0 B6 B7 BW : Nat} {cc tt : Array Value} {W Wb : World} {s' : Sv} {r : Cor} (h : DocS w N0 B6 B7 BW cc tt W s' r) {v : Value} {x : Ex} (hk : KeptT 54 W Wb) (hb : Below N0 w Wb) (ho : OwnO BW 54 4 EEx w Wb v (r.regs ++ [x])) :
 DocS w N0 B6 B7 BW cc tt (Wb.setCell ⟨B7, 3, none⟩ v) ⟨s'.va, s'.vt, s'.vx, v, s'.vn, s'.vh, s'.vl⟩ ⟨r.attrs, r.toks, r.texts, r.regs ++ [x], r.nodes, r.heads, r.rels⟩ := by
 have h7 := hk _ _ _ _ h.b7 (by decide)
 have hl := h.lt
 have keepB : ∀ k, k ≠ B7 → (Wb.setCell ⟨B7, 3, none⟩ v).heap[k]? = Wb.heap[k]? := fun k hk => Below.heap_setCell Wb ⟨B7, 3, none⟩ v k hk
 exact ⟨by rw [keepB _ (by omega)]; exact hk _ _ _ _ h.b0 (by decide), by rw [keepB _ (by omega)]; exact hk _ _ _ _ h.b1 (by decide), by rw [keepB _ (blk_ne (hk _ _ _ _ h.b6 (by decide)) h7 (by decide))]; exact hk _ _ _ _ h.b6 (by decide), set_of (i := 3) h7 v, hl, hb.setCell (by show N0 ≤ B7; omega) _,
  (h.a.keptT hk (by decide)).set h7 (by decide) _ _, (h.t.keptT hk (by decide)).set h7 (by decide) _ _, (h.x.keptT hk (by decide)).set h7 (by decide) _ _, ho.set h7 (by decide) _ _, (h.n.keptT hk (by decide)).set h7 (by decide) _ _, (h.h.keptT hk (by decide)).set h7 (by decide) _ _, (h.l.keptT hk (by decide)).set h7 (by decide) _ _⟩
/-- A node more. -/
theorem DocS.addN {w : World} {N0 B6 B7 BW : Nat} {cc tt : Array Value} {W Wb : World} {s' : Sv} {r : Cor} (h : DocS w N0 B6 B7 BW cc tt W s' r) {v : Value} {x : Nd} (hk : KeptT 56 W Wb) (hb : Below N0 w Wb) (ho : OwnO BW 56 4 ENd w Wb v (r.nodes ++ [x])) :
 DocS w N0 B6 B7 BW cc tt (Wb.setCell ⟨B7, 4, none⟩ v) ⟨s'.va, s'.vt, s'.vx, s'.vr, v, s'.vh, s'.vl⟩ ⟨r.attrs, r.toks, r.texts, r.regs, r.nodes ++ [x], r.heads, r.rels⟩ := by
 have h7 := hk _ _ _ _ h.b7 (by decide)
 have hl := h.lt
 have keepB : ∀ k, k ≠ B7 → (Wb.setCell ⟨B7, 4, none⟩ v).heap[k]? = Wb.heap[k]? := fun k hk => Below.heap_setCell Wb ⟨B7, 4, none⟩ v k hk
 exact ⟨by rw [keepB _ (by omega)]; exact hk _ _ _ _ h.b0 (by decide), by rw [keepB _ (by omega)]; exact hk _ _ _ _ h.b1 (by decide), by rw [keepB _ (blk_ne (hk _ _ _ _ h.b6 (by decide)) h7 (by decide))]; exact hk _ _ _ _ h.b6 (by decide), set_of (i := 4) h7 v, hl, hb.setCell (by show N0 ≤ B7; omega) _,
  (h.a.keptT hk (by decide)).set h7 (by decide) _ _, (h.t.keptT hk (by decide)).set h7 (by decide) _ _, (h.x.keptT hk (by decide)).set h7 (by decide) _ _, (h.r.keptT hk (by decide)).set h7 (by decide) _ _, ho.set h7 (by decide) _ _, (h.h.keptT hk (by decide)).set h7 (by decide) _ _, (h.l.keptT hk (by decide)).set h7 (by decide) _ _⟩
/-- A head more. -/
theorem DocS.addH {w : World} {N0 B6 B7 BW : Nat} {cc tt : Array Value} {W Wb : World} {s' : Sv} {r : Cor} (h : DocS w N0 B6 B7 BW cc tt W s' r) {v : Value} {x : Int} (hk : KeptT 3 W Wb) (hb : Below N0 w Wb) (ho : OwnO BW 3 1 EInt w Wb v (r.heads ++ [x])) :
 DocS w N0 B6 B7 BW cc tt (Wb.setCell ⟨B7, 5, none⟩ v) ⟨s'.va, s'.vt, s'.vx, s'.vr, s'.vn, v, s'.vl⟩ ⟨r.attrs, r.toks, r.texts, r.regs, r.nodes, r.heads ++ [x], r.rels⟩ := by
 have h7 := hk _ _ _ _ h.b7 (by decide)
 have hl := h.lt
 have keepB : ∀ k, k ≠ B7 → (Wb.setCell ⟨B7, 5, none⟩ v).heap[k]? = Wb.heap[k]? := fun k hk => Below.heap_setCell Wb ⟨B7, 5, none⟩ v k hk
 exact ⟨by rw [keepB _ (by omega)]; exact hk _ _ _ _ h.b0 (by decide), by rw [keepB _ (by omega)]; exact hk _ _ _ _ h.b1 (by decide), by rw [keepB _ (blk_ne (hk _ _ _ _ h.b6 (by decide)) h7 (by decide))]; exact hk _ _ _ _ h.b6 (by decide), set_of (i := 5) h7 v, hl, hb.setCell (by show N0 ≤ B7; omega) _,
  (h.a.keptT hk (by decide)).set h7 (by decide) _ _, (h.t.keptT hk (by decide)).set h7 (by decide) _ _, (h.x.keptT hk (by decide)).set h7 (by decide) _ _, (h.r.keptT hk (by decide)).set h7 (by decide) _ _, (h.n.keptT hk (by decide)).set h7 (by decide) _ _, ho.set h7 (by decide) _ _, (h.l.keptT hk (by decide)).set h7 (by decide) _ _⟩
/-- A relation more. -/
theorem DocS.addL {w : World} {N0 B6 B7 BW : Nat} {cc tt : Array Value} {W Wb : World} {s' : Sv} {r : Cor} (h : DocS w N0 B6 B7 BW cc tt W s' r) {v : Value} {x : Bs} (hk : KeptT 9 W Wb) (hb : Below N0 w Wb) (ho : OwnO BW 9 1 EStr w Wb v (r.rels ++ [x])) :
 DocS w N0 B6 B7 BW cc tt (Wb.setCell ⟨B7, 6, none⟩ v) ⟨s'.va, s'.vt, s'.vx, s'.vr, s'.vn, s'.vh, v⟩ ⟨r.attrs, r.toks, r.texts, r.regs, r.nodes, r.heads, r.rels ++ [x]⟩ := by
 have h7 := hk _ _ _ _ h.b7 (by decide)
 have hl := h.lt
 have keepB : ∀ k, k ≠ B7 → (Wb.setCell ⟨B7, 6, none⟩ v).heap[k]? = Wb.heap[k]? := fun k hk => Below.heap_setCell Wb ⟨B7, 6, none⟩ v k hk
 exact ⟨by rw [keepB _ (by omega)]; exact hk _ _ _ _ h.b0 (by decide), by rw [keepB _ (by omega)]; exact hk _ _ _ _ h.b1 (by decide), by rw [keepB _ (blk_ne (hk _ _ _ _ h.b6 (by decide)) h7 (by decide))]; exact hk _ _ _ _ h.b6 (by decide), set_of (i := 6) h7 v, hl, hb.setCell (by show N0 ≤ B7; omega) _,
  (h.a.keptT hk (by decide)).set h7 (by decide) _ _, (h.t.keptT hk (by decide)).set h7 (by decide) _ _, (h.x.keptT hk (by decide)).set h7 (by decide) _ _, (h.r.keptT hk (by decide)).set h7 (by decide) _ _, (h.n.keptT hk (by decide)).set h7 (by decide) _ _, (h.h.keptT hk (by decide)).set h7 (by decide) _ _, ho.set h7 (by decide) _ _⟩
/-- The new corpus stored in the result's box. -/
theorem DocS.fin {w : World} {N0 B6 B7 BW : Nat} {cc tt : Array Value} {W : World} {s' : Sv} {r : Cor} (h : DocS w N0 B6 B7 BW cc tt W s' r) (hw : w.heap.size = N0) (v0 v1 v2 v3 v4 v5 v6 : Value) :
 (((((((W.setCell ⟨N0 + 1, 0, none⟩ v0).setCell ⟨N0 + 1, 1, none⟩ v1).setCell ⟨N0 + 1, 2, none⟩ v2).setCell ⟨N0 + 1, 3, none⟩ v3).setCell ⟨N0 + 1, 4, none⟩ v4).setCell ⟨N0 + 1, 5, none⟩ v5).setCell ⟨N0 + 1, 6, none⟩ v6).heap[N0 + 1]? = some (.cells #[v0, v1, v2, v3, v4, v5, v6] 30 (0, 0)) ∧ CorAt (((((((W.setCell ⟨N0 + 1, 0, none⟩ v0).setCell ⟨N0 + 1, 1, none⟩ v1).setCell ⟨N0 + 1, 2, none⟩ v2).setCell ⟨N0 + 1, 3, none⟩ v3).setCell ⟨N0 + 1, 4, none⟩ v4).setCell ⟨N0 + 1, 5, none⟩ v5).setCell ⟨N0 + 1, 6, none⟩ v6) s' r ∧ Below w.heap.size w (((((((W.setCell ⟨N0 + 1, 0, none⟩ v0).setCell ⟨N0 + 1, 1, none⟩ v1).setCell ⟨N0 + 1, 2, none⟩ v2).setCell ⟨N0 + 1, 3, none⟩ v3).setCell ⟨N0 + 1, 4, none⟩ v4).setCell ⟨N0 + 1, 5, none⟩ v5).setCell ⟨N0 + 1, 6, none⟩ v6) := by
 have q0 := set_of (i := 0) h.b1 v0
 have q1 := set_of (i := 1) q0 v1
 have q2 := set_of (i := 2) q1 v2
 have q3 := set_of (i := 3) q2 v3
 have q4 := set_of (i := 4) q3 v4
 have q5 := set_of (i := 5) q4 v5
 have q6 := set_of (i := 6) q5 v6
 have hN : N0 ≤ N0 + 1 := Nat.le_succ _
 have hb : Below w.heap.size w (((((((W.setCell ⟨N0 + 1, 0, none⟩ v0).setCell ⟨N0 + 1, 1, none⟩ v1).setCell ⟨N0 + 1, 2, none⟩ v2).setCell ⟨N0 + 1, 3, none⟩ v3).setCell ⟨N0 + 1, 4, none⟩ v4).setCell ⟨N0 + 1, 5, none⟩ v5).setCell ⟨N0 + 1, 6, none⟩ v6) := by rw [hw]; exact ((((((h.be.setCell hN _).setCell hN _).setCell hN _).setCell hN _).setCell hN _).setCell hN _).setCell hN _
 refine ⟨q6, ⟨?_, ?_, ?_, ?_, ?_, ?_, ?_⟩, hb⟩
 · exact (((((((h.a.set h.b1 (by decide) _ _).set q0 (by decide) _ _).set q1 (by decide) _ _).set q2 (by decide) _ _).set q3 (by decide) _ _).set q4 (by decide) _ _).set q5 (by decide) _ _).rows stays_attr hb
 · exact (((((((h.t.set h.b1 (by decide) _ _).set q0 (by decide) _ _).set q1 (by decide) _ _).set q2 (by decide) _ _).set q3 (by decide) _ _).set q4 (by decide) _ _).set q5 (by decide) _ _).rows stays_tok hb
 · exact (((((((h.x.set h.b1 (by decide) _ _).set q0 (by decide) _ _).set q1 (by decide) _ _).set q2 (by decide) _ _).set q3 (by decide) _ _).set q4 (by decide) _ _).set q5 (by decide) _ _).rows stays_ex hb
 · exact (((((((h.r.set h.b1 (by decide) _ _).set q0 (by decide) _ _).set q1 (by decide) _ _).set q2 (by decide) _ _).set q3 (by decide) _ _).set q4 (by decide) _ _).set q5 (by decide) _ _).rows stays_ex hb
 · exact (((((((h.n.set h.b1 (by decide) _ _).set q0 (by decide) _ _).set q1 (by decide) _ _).set q2 (by decide) _ _).set q3 (by decide) _ _).set q4 (by decide) _ _).set q5 (by decide) _ _).rows stays_nd hb
 · exact (((((((h.h.set h.b1 (by decide) _ _).set q0 (by decide) _ _).set q1 (by decide) _ _).set q2 (by decide) _ _).set q3 (by decide) _ _).set q4 (by decide) _ _).set q5 (by decide) _ _).rows stays_int hb
 exact (((((((h.l.set h.b1 (by decide) _ _).set q0 (by decide) _ _).set q1 (by decide) _ _).set q2 (by decide) _ _).set q3 (by decide) _ _).set q4 (by decide) _ _).set q5 (by decide) _ _).rows stays_str hb
theorem cutL_step {α : Type} {lo i : Nat} {l : List α} {x : α} (h : lo ≤ i) (hx : l[i]? = some x) : cutL lo (i + 1) l = cutL lo i l ++ [x] := by
 have hl := (List.getElem?_eq_some_iff.1 hx).1
 unfold cutL
 rw [List.take_add_one, hx, List.drop_append_of_le_length (by rw [List.length_take]; omega)]
 rfl
theorem cutL_void {α : Type} (lo : Nat) (l : List α) : cutL lo lo l = [] := by
 unfold cutL
 exact List.drop_eq_nil_of_le (by rw [List.length_take]; omega)
theorem refDoc_eq {c : Cor} {t : Ex} {lo hi : Nat} (hlo : t.b = (lo : Int)) (hhi : t.e = (hi : Int)) {RF : List Ex} {NF : List Nd} {fn : Nat} (hfn : firstN c t = fn) (hRF : (c.regs.filter fun x => inT t x.b x.e).map (mvEx (-t.b)) = RF) (hNF : (c.nodes.filter fun x => inT t x.b x.e).map (mvNd (-t.b) (-(fn : Int))) = NF) {bq : Bool} (hbq : bare (cutL lo hi c.heads) (cutL lo hi c.rels) = bq) :
 (⟨c.attrs, cutL lo hi c.toks, [⟨t.name, 0, (hi : Int) - (lo : Int), t.ps⟩], RF, NF, if bq then [] else (cutL lo hi c.heads).map fun x => max (x - (lo : Int)) (-1), if bq then [] else cutL lo hi c.rels⟩ : Cor) = refDoc c t := by
 subst hRF hNF hfn hbq
 have h1 : t.b.toNat = lo := by omega
 have h2 : t.e.toNat = hi := by omega
 unfold refDoc
 rw [h1, h2, hlo, hhi]
theorem one_attr (W : World) (cs : List Value) (x : Bs × Bool) (h : EAttr W cs x) : ∀ u ∈ cs, u.oneCell' = true := by
 rw [show cs = _ from h]
 simp [Value.oneCell']
theorem one_str (W : World) (cs : List Value) (x : Bs) (h : EStr W cs x) : ∀ u ∈ cs, u.oneCell' = true := by
 rw [show cs = _ from h]
 simp [Value.oneCell']
end Go.Proofs.YtebmfkkkhmjkoaaGreat
