/-
  ARGUMENTS of the laws about tokens, opened: lists of numbers; what the listed table holds.
-/
import Derived.Test.YteennnhinfnahaaDoorRows
import Derived.Test.YteennnhinfnahaaDoorDaR
import Derived.Test.YteennnhinfnahaaDoorTzL
import Derived.Test.YteennnhinfnahaaDoorTzU
import Derived.ProofKit
import Derived.Carry
import Derived.OpenShut
import Derived.ChangeSlices
import Derived.Deep.Slices
import Derived.Lib.LaidTab
import Derived.MakeChecks
import Derived.LaidMore
namespace Go.Proofs.YteennnhinfnahaaDoor
open Go.RowKit Go.Shelf Go.Lib Go.ChangeShapes Go.WideShapes Go.ChangeAt Go.Deep

theorem Tab.pos {w : World} (h : Tab w) : 0 < w.heap.size := Nat.lt_of_le_of_lt (Nat.zero_le _) (lt_of_cell (h 0 (by decide)))
/-- The table's numbers. -/
def tabL : List Int := [0, 274646895, 549293790, 820201905, 1098587580, 1361435347, 1640403810, 1905808397, 2197175160, 2460548119, 2722870694, 2987750089, 3280807620, 3553878443, 3811616794, 4084100981]
theorem tabL_sts : ∀ i : Nat, i < 16 → tabL.getD i 0 = ((sts 4 i : Nat) : Int) := by decide +kernel
theorem tab_of_laid {W : World} (h : laidMetH Tryd.prog [("corpora/checksum.afterNibble", Rows.laid_corpora_checksum_afterNibble)] W) : Tab W := by
  rw [MakeChecks.laidMetH_plain _ _ _ (by kernel_rfl)] at h
  have hg : Tryd.prog.globalNamed "corpora/checksum.afterNibble" = some 0 := by kernel_rfl
  have ht := Lib.tabIs_of_head (k := .u32) (zs := tabL) hg (t := 127) (by kernel_rfl) Tryd.underlying127 Tryd.underlying64 (by kernel_rfl) (by kernel_rfl) h
  intro i hi
  rw [← tabL_sts i hi]
  exact ht.cell hg i hi
theorem door_met (os : Os) (args : Array Value) : laidMetH Tryd.prog [("corpora/checksum.afterNibble", Rows.laid_corpora_checksum_afterNibble)] ((World.doorLaid Tryd.prog 400 os).forCall (fun _ _ => 0) ⟨#[], args, []⟩).memory :=
  laidMetH_of_parts3 (fuel := 8) (laidMet_of_run' 8 (by kernel_rfl) (by kernel_rfl)) (by kernel_rfl) (by kernel_rfl)

theorem plain_addr {w : World} {a : Addr} {v : Value} (h : w.cell? a = some v) : a = ⟨a.block, a.off, none⟩ := plain_cell h

section
variable {H : Type} {enc : TypeId × Value → H}
set_option maxRecDepth 100000 in
theorem open_rowI {W : World} {r : Reach} {b0 : Nat} {v : Value} {d : DataW H} {p : List MemPlace} (hv : Value.okWide Tryd.prog W r b0 22 v) (h : DataW.Trod enc Tryd.prog W 0 (fun _ => true) true 22 v d p) :
    ∃ L : List Int, Rows 1 EInt W v L ∧ L.length ≤ maxLen ∧ ∀ x ∈ L, -9223372036854775808 ≤ x ∧ x ≤ 9223372036854775807 := by
  obtain ⟨a, len, cap, rfl⟩ := okWide_slice Tryd.underlying22 hv
  obtain ⟨fuel, hf⟩ := h
  rcases open_ints Tryd.underlying22 Tryd.underlying3 (by kernel_rfl) hf with ⟨hn, _⟩ | ⟨ad, len', cap', zs, hcs, _, hl, hm, hzl, _, hcell, hwf⟩
  · simp only [Value.cells, List.cons.injEq, and_true] at hn
    rw [hn]
    exact ⟨[], ⟨none, 0, rfl, Nat.le_refl _, fun h => absurd h (by simp)⟩, Nat.zero_le _, by simp⟩
  · simp only [Value.cells, List.cons.injEq, and_true] at hcs
    simp only [if_true] at hzl
    rw [hcs]
    have hlen : (zs.take len').length = len' := by rw [List.length_take]; omega
    refine ⟨zs.take len', ⟨some ad, cap', by rw [hlen], by rw [hlen]; exact hl, fun h => ?_⟩, by rw [hlen]; omega, fun x hx => ?_⟩
    · rw [hlen] at h
      have h0 := hcell 0 (by omega)
      have h1 : ad.add 0 = ad := by simp [Addr.add]
      rw [h1] at h0
      have e := plain_addr h0
      refine ⟨ad.block, ad.off, by rw [← e], lt_of_cell h0, fun j x hx => ⟨[.int .i64 x], rfl, ?_, fun i u hu => ?_⟩⟩
      · rfl
      · have hjl := (List.getElem?_eq_some_iff.1 hx).1
        rw [hlen] at hjl
        have hc := hcell j (by omega)
        rw [List.getElem?_take, if_pos hjl] at hx
        obtain ⟨rfl, rfl⟩ : i = 0 ∧ u = .int .i64 x := by
          cases i with
          | zero => exact ⟨rfl, by simpa using hu.symm⟩
          | succ i => simp at hu
        have hz : zs.getD j 0 = x := by rw [List.getD_eq_getElem?_getD, hx]; rfl
        rw [hz, e] at hc
        have hp : (⟨ad.block, ad.off, none⟩ : Addr).add j = ⟨ad.block, ad.off + j * 1 + 0, none⟩ := by
          rcases Nat.eq_zero_or_pos j with rfl | hj0
          · simp [Addr.add]
          · simp [Addr.add]; omega
        rw [hp] at hc
        exact hc
    · have := hwf x (List.mem_of_mem_take hx)
      simp [Lit.wf, IntKind.min, IntKind.max, IntKind.signed, IntKind.bits] at this
      exact this
end
end Go.Proofs.YteennnhinfnahaaDoor
