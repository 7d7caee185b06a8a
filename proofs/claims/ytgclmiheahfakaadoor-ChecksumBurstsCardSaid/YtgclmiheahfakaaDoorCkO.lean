/-
  ARGUMENTS of the laws about checksum, opened: numbers of 32 bits, three sums with two lengths; what the listed table holds.
-/
import Derived.Test.YtgclmiheahfakaaDoorRows
import Derived.Test.YtgclmiheahfakaaDoorMeO
import Derived.Test.YtgclmiheahfakaaDoorCkC
import Derived.Lib.LaidTab
import Derived.MakeChecks
import Derived.LaidMore
namespace Go.Proofs.YtgclmiheahfakaaDoor
open Go.RowKit Go.Shelf Go.Lib Go.ChangeShapes Go.WideShapes Go.ChangeAt

theorem Tab.pos {w : World} (h : Tab w) : 0 < w.heap.size := Nat.lt_of_le_of_lt (Nat.zero_le _) (lt_of_cell (h 0 (by decide)))
/-- The table's numbers. -/
def tabL : List Int := [0, 274646895, 549293790, 820201905, 1098587580, 1361435347, 1640403810, 1905808397, 2197175160, 2460548119, 2722870694, 2987750089, 3280807620, 3553878443, 3811616794, 4084100981]
theorem tabL_sts : ∀ i : Nat, i < 16 → tabL.getD i 0 = ((sts 4 i : Nat) : Int) := by decide +kernel
theorem tab_of_laid {W : World} (h : laidMetH Tryd.prog [("corpora/checksum.afterNibble", Rows.laid_corpora_checksum_afterNibble)] W) : Tab W := by
  rw [MakeChecks.laidMetH_plain _ _ _ (by kernel_rfl)] at h
  have hg : Tryd.prog.globalNamed "corpora/checksum.afterNibble" = some 0 := by kernel_rfl
  have ht := Lib.tabIs_of_head (k := .u32) (zs := tabL) hg (t := 44) (by kernel_rfl) Tryd.underlying44 Tryd.underlying23 (by kernel_rfl) (by kernel_rfl) h
  intro i hi
  rw [← tabL_sts i hi]
  exact ht.cell hg i hi
theorem door_met (os : Os) (args : Array Value) : laidMetH Tryd.prog [("corpora/checksum.afterNibble", Rows.laid_corpora_checksum_afterNibble)] ((World.doorLaid Tryd.prog 400 os).forCall (fun _ _ => 0) ⟨#[], args, []⟩).memory :=
  laidMetH_of_parts3 (fuel := 8) (laidMet_of_run' 8 (by kernel_rfl) (by kernel_rfl)) (by kernel_rfl) (by kernel_rfl)

section
variable {H : Type} {enc : TypeId × Value → H}
theorem open_u32 {W : World} {r : Reach} {b0 : Nat} {v : Value} {d : DataW H} {p : List MemPlace} (hv : Value.okWide Tryd.prog W r b0 23 v) (h : DataW.Trod enc Tryd.prog W 0 (fun _ => true) true 23 v d p) :
    ∃ x : Nat, v = .int .u32 x ∧ x < 4294967296 := by
  obtain ⟨n, rfl, _, _, hw⟩ := open_int Tryd.underlying23 hv h
  simp [Lit.wf, IntKind.min, IntKind.max, IntKind.signed, IntKind.bits] at hw
  exact ⟨n.toNat, by rw [Int.toNat_of_nonneg hw.1], by omega⟩
theorem open_parts {W : World} {r : Reach} {b0 : Nat} {v : Value} {d : DataW H} {p : List MemPlace} (hv : Value.okWide Tryd.prog W r b0 32 v) (h : DataW.Trod enc Tryd.prog W 0 (fun _ => true) true 32 v d p) :
    ∃ x y z i k : Nat, v = .agg #[.int .u32 x, .int .u32 y, .int .u32 z, .int .u8 i, .int .u8 k] ∧ x < 4294967296 ∧ y < 4294967296 ∧ z < 4294967296 ∧ i < 256 ∧ k < 256 := by
  obtain ⟨⟨cs⟩, rfl, hsz⟩ := okWide_struct Tryd.underlying32 hv
  obtain ⟨fuel, hf⟩ := h
  obtain ⟨xs, n, _, _, hlen, hxl, hf⟩ := DataW.trod_struct Tryd.underlying32 hf
  have h5 : Tryd.prog.cellsOf 32 = 5 := by kernel_rfl
  have c1 : Tryd.prog.cellsOf 23 = 1 := by kernel_rfl
  have c2 : Tryd.prog.cellsOf 5 = 1 := by kernel_rfl
  rw [h5] at hlen
  have hlen' : cs.length = 5 := hlen
  match cs, hlen' with
  | [a, b, c, e, f], _ =>
    match xs, hxl with
    | [y0, y1, y2, y3, y4], _ =>
      have e0 : DataW.trod enc Tryd.prog W 0 (fun _ => true) true n 23 (([a, b, c, e, f].drop 0).take (Tryd.prog.cellsOf 23)) = some y0 := hf 0 _ rfl
      have e1 : DataW.trod enc Tryd.prog W 0 (fun _ => true) true n 23 (([a, b, c, e, f].drop 1).take (Tryd.prog.cellsOf 23)) = some y1 := hf 1 _ rfl
      have e2 : DataW.trod enc Tryd.prog W 0 (fun _ => true) true n 23 (([a, b, c, e, f].drop 2).take (Tryd.prog.cellsOf 23)) = some y2 := hf 2 _ rfl
      have e3 : DataW.trod enc Tryd.prog W 0 (fun _ => true) true n 5 (([a, b, c, e, f].drop 3).take (Tryd.prog.cellsOf 5)) = some y3 := hf 3 _ rfl
      have e4 : DataW.trod enc Tryd.prog W 0 (fun _ => true) true n 5 (([a, b, c, e, f].drop 4).take (Tryd.prog.cellsOf 5)) = some y4 := hf 4 _ rfl
      rw [c1] at e0 e1 e2
      rw [c2] at e3 e4
      obtain ⟨k0, hk0, _, w0⟩ := DataW.trod_int Tryd.underlying23 (x := y0) e0
      obtain ⟨k1, hk1, _, w1⟩ := DataW.trod_int Tryd.underlying23 (x := y1) e1
      obtain ⟨k2, hk2, _, w2⟩ := DataW.trod_int Tryd.underlying23 (x := y2) e2
      obtain ⟨k3, hk3, _, w3⟩ := DataW.trod_int Tryd.underlying5 (x := y3) e3
      obtain ⟨k4, hk4, _, w4⟩ := DataW.trod_int Tryd.underlying5 (x := y4) e4
      simp [Lit.wf, IntKind.min, IntKind.max, IntKind.signed, IntKind.bits] at w0 w1 w2 w3 w4
      simp only [List.drop_zero, List.take_succ_cons, List.take_zero, List.cons.injEq, and_true, List.drop_succ_cons] at hk0 hk1 hk2 hk3 hk4
      subst hk0 hk1 hk2 hk3 hk4
      refine ⟨k0.toNat, k1.toNat, k2.toNat, k3.toNat, k4.toNat, ?_, by omega, by omega, by omega, by omega, by omega⟩
      rw [Int.toNat_of_nonneg w0.1, Int.toNat_of_nonneg w1.1, Int.toNat_of_nonneg w2.1, Int.toNat_of_nonneg w3.1, Int.toNat_of_nonneg w4.1]
end
end Go.Proofs.YtgclmiheahfakaaDoor
