/-
  WALKS over package interval: choose, Within, Containing, Overlapping.
-/
import Derived.Test.YtpkkebojiengpaaIbK
import Derived.Deep.RegionHeld3
namespace Go.Proofs.Ytpkkebojiengpaa
open Go.RowKit Go.Shelf Go.Lib
set_option linter.unusedVariables false
set_option linter.unusedSimpArgs false

/-- A span's box: its cells, and that these stay. -/
theorem box1 (w : World) (b e : Int) : ∃ X N, w.alloc (.cells #[.int .i64 b, .int .i64 e] 31) = X ∧ w.heap.size = N ∧ Below N w X ∧ N ≤ X.heap.size ∧
    ∀ W, Below X.heap.size X W → W.cell? ⟨N, 0, none⟩ = some (.int .i64 b) ∧ W.cell? ⟨N, 1, none⟩ = some (.int .i64 e) := by
  refine ⟨_, _, rfl, rfl, below_box w _, by simp, fun W hb => ?_⟩
  have e1 := block_new w (.cells #[.int .i64 b, .int .i64 e] 31)
  have f1 := block_below e1 hb (Array.getElem?_eq_some_iff.1 e1).1
  exact ⟨cell_of f1 rfl, cell_of f1 rfl⟩

set_option maxHeartbeats 4000000 in
theorem within1_any {w : World} {N n : Nat} {ts : List Sp} (h : RiseAt w N n ts) (R : Nat) (hR : w.cell? ⟨R, 0, none⟩ = some (.slice (some ⟨N, 0, none⟩) n n)) (s : Sp) :
    Calls Try.prog 36 (#[.agg #[.int .i64 s.1, .int .i64 s.2]] ++ #[.pointer (some ⟨R, 0, none⟩)]) w (BoolV w (decide (s.2 ≤ topF ts s.1))) := by
  have hRB : R < w.heap.size := World.block_lt_of_cell? _ _ hR
  have hNB : N < w.heap.size := (Array.getElem?_eq_some_iff.1 h.blk).1
  obtain ⟨b, e⟩ := s
  simp only
  obtain ⟨X, B, hX, hB, hbX, hBX, hcell⟩ := box1 w b e
  rw [hB] at hRB hNB
  have hup := fun (W : World) (hW : Below X.heap.size X W) => upTo_any (h.below hNB (hbX.trans (hW.mono hBX))) (b)
  have hS := fun (W : World) (hW : Below X.heap.size X W) => And.intro (((hbX.trans (hW.mono hBX)).cell (p := ⟨R, 0, none⟩) hRB).trans hR) (hcell W hW)
  obtain ⟨r, hr⟩ : ∃ r, topF ts (b) = r := ⟨_, rfl⟩
  rw [hr] at hup
  rw [hr]
  obtain ⟨d0, c0, c1⟩ := hS X (Below.refl _ _)
  have HU := Lib.hid hup
  have HS := Lib.hid hS
  have HX := Lib.hid hX
  have HB := Lib.hid hB
  have HBX := Lib.hid (And.intro hbX hBX)
  unfold BoolV
  rw [hB]
  clear hup hS hX hB hbX hBX hcell hr h hR hRB hNB
  go_enter Try.func36, Try.ntmps36
  go_wp2_with fail
  rw [HX.out, HB.out]
  go_region_held3 (fun w' => w'.cell? ⟨R, 0, none⟩ = some (.slice (some ⟨N, 0, none⟩) n n) ∧ w'.cell? ⟨B, 0, none⟩ = some (.int .i64 b) ∧ w'.cell? ⟨B, 1, none⟩ = some (.int .i64 e))
    (first
      | go_keep
      | (exact HS.out _ hb3)
      | fail)
    ((first
      | (go_at_call 37; (with_reducible refine (HU.out _ (by first | exact (Below.refl _ _).drew | exact Below.refl _ _)).mono ?_); rintro e1 w3 ⟨rfl, hb3⟩; have hb3 : Below X.heap.size X w3 := (Below.refl X.heap.size X).drew.trans hb3)
      | fail))
  have HB4 := Lib.hid (HBX.out.1.trans (hb3.mono HBX.out.2))
  clear hb3
  go_wp2_with fail
  go_ret
  exact ⟨rfl, HB4.out⟩

set_option maxHeartbeats 4000000 in
theorem containing1_any {w : World} {N n : Nat} {ts : List Sp} (h : RiseAt w N n ts) (R : Nat) (hR : w.cell? ⟨R, 0, none⟩ = some (.slice (some ⟨N, 0, none⟩) n n)) (s : Sp) :
    Calls Try.prog 41 (#[.agg #[.int .i64 s.1, .int .i64 s.2]] ++ #[.pointer (some ⟨R, 0, none⟩)]) w (BoolV w (decide (s.1 ≤ topF ts s.2))) := by
  have hRB : R < w.heap.size := World.block_lt_of_cell? _ _ hR
  have hNB : N < w.heap.size := (Array.getElem?_eq_some_iff.1 h.blk).1
  obtain ⟨b, e⟩ := s
  simp only
  obtain ⟨X, B, hX, hB, hbX, hBX, hcell⟩ := box1 w b e
  rw [hB] at hRB hNB
  have hup := fun (W : World) (hW : Below X.heap.size X W) => upTo_any (h.below hNB (hbX.trans (hW.mono hBX))) (e)
  have hS := fun (W : World) (hW : Below X.heap.size X W) => And.intro (((hbX.trans (hW.mono hBX)).cell (p := ⟨R, 0, none⟩) hRB).trans hR) (hcell W hW)
  obtain ⟨r, hr⟩ : ∃ r, topF ts (e) = r := ⟨_, rfl⟩
  rw [hr] at hup
  rw [hr]
  obtain ⟨d0, c0, c1⟩ := hS X (Below.refl _ _)
  have HU := Lib.hid hup
  have HS := Lib.hid hS
  have HX := Lib.hid hX
  have HB := Lib.hid hB
  have HBX := Lib.hid (And.intro hbX hBX)
  unfold BoolV
  rw [hB]
  clear hup hS hX hB hbX hBX hcell hr h hR hRB hNB
  go_enter Try.func41, Try.ntmps41
  go_wp2_with fail
  rw [HX.out, HB.out]
  go_region_held3 (fun w' => w'.cell? ⟨R, 0, none⟩ = some (.slice (some ⟨N, 0, none⟩) n n) ∧ w'.cell? ⟨B, 0, none⟩ = some (.int .i64 b) ∧ w'.cell? ⟨B, 1, none⟩ = some (.int .i64 e))
    (first
      | go_keep
      | (exact HS.out _ hb3)
      | fail)
    ((first
      | (go_at_call 37; (with_reducible refine (HU.out _ (by first | exact (Below.refl _ _).drew | exact Below.refl _ _)).mono ?_); rintro e1 w3 ⟨rfl, hb3⟩; have hb3 : Below X.heap.size X w3 := (Below.refl X.heap.size X).drew.trans hb3)
      | fail))
  have HB4 := Lib.hid (HBX.out.1.trans (hb3.mono HBX.out.2))
  clear hb3
  go_wp2_with fail
  go_ret
  exact ⟨rfl, HB4.out⟩

set_option maxHeartbeats 4000000 in
theorem overlapping1_any {w : World} {N n : Nat} {ts : List Sp} (h : RiseAt w N n ts) (R : Nat) (hR : w.cell? ⟨R, 0, none⟩ = some (.slice (some ⟨N, 0, none⟩) n n)) (s : Sp) (hs1 : -9223372036854775807 ≤ s.2) (hs2 : s.2 ≤ 9223372036854775807) :
    Calls Try.prog 42 (#[.agg #[.int .i64 s.1, .int .i64 s.2]] ++ #[.pointer (some ⟨R, 0, none⟩)]) w (BoolV w (decide (s.1 < topF ts (s.2 - 1)))) := by
  have hRB : R < w.heap.size := World.block_lt_of_cell? _ _ hR
  have hNB : N < w.heap.size := (Array.getElem?_eq_some_iff.1 h.blk).1
  obtain ⟨b, e⟩ := s
  simp only at *
  obtain ⟨X, B, hX, hB, hbX, hBX, hcell⟩ := box1 w b e
  rw [hB] at hRB hNB
  have hup := fun (W : World) (hW : Below X.heap.size X W) => upTo_any (h.below hNB (hbX.trans (hW.mono hBX))) (e - 1)
  have hS := fun (W : World) (hW : Below X.heap.size X W) => And.intro (((hbX.trans (hW.mono hBX)).cell (p := ⟨R, 0, none⟩) hRB).trans hR) (hcell W hW)
  obtain ⟨r, hr⟩ : ∃ r, topF ts (e - 1) = r := ⟨_, rfl⟩
  rw [hr] at hup
  rw [hr]
  obtain ⟨d0, c0, c1⟩ := hS X (Below.refl _ _)
  have HU := Lib.hid hup
  have HS := Lib.hid hS
  have HX := Lib.hid hX
  have HB := Lib.hid hB
  have HBX := Lib.hid (And.intro hbX hBX)
  unfold BoolV
  rw [hB]
  clear hup hS hX hB hbX hBX hcell hr h hR hRB hNB
  go_enter Try.func42, Try.ntmps42
  go_wp2_with fail
  rw [HX.out, HB.out]
  have hw1 : IntKind.i64.wrap (e - 1) = e - 1 := by rw [IntKind.wrap_i64]; omega
  go_region_held3 (fun w' => w'.cell? ⟨R, 0, none⟩ = some (.slice (some ⟨N, 0, none⟩) n n) ∧ w'.cell? ⟨B, 0, none⟩ = some (.int .i64 b) ∧ w'.cell? ⟨B, 1, none⟩ = some (.int .i64 e))
    (first
      | go_keep
      | (exact HS.out _ hb3)
      | fail)
    ((first
      | (go_at_call 37; (with_reducible refine (HU.out _ (by first | exact (Below.refl _ _).drew | exact Below.refl _ _)).mono ?_); rintro e1 w3 ⟨rfl, hb3⟩; have hb3 : Below X.heap.size X w3 := (Below.refl X.heap.size X).drew.trans hb3)
      | fail))
  have HB4 := Lib.hid (HBX.out.1.trans (hb3.mono HBX.out.2))
  clear hb3
  go_wp2_with fail
  go_ret
  exact ⟨rfl, HB4.out⟩
end Go.Proofs.Ytpkkebojiengpaa
