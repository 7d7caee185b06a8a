/-
  ARGUMENTS of the laws about checksum, opened: numbers of 32 bits, three sums with two lengths; what the listed table holds.
-/
import Derived.Test.YtifdencdbpdbfaaDoorRows
import Derived.Test.YtifdencdbpdbfaaDoorMeO
import Derived.Test.YtifdencdbpdbfaaDoorCkC
import Derived.Lib.LaidTab
import Derived.MakeChecks
import Derived.LaidMore
namespace Go.Proofs.YtifdencdbpdbfaaDoor
open Go.RowKit Go.Shelf Go.Lib Go.ChangeShapes Go.WideShapes Go.ChangeAt

theorem Tab.pos {w : World} (h : Tab w) : 0 < w.heap.size := Nat.lt_of_le_of_lt (Nat.zero_le _) (lt_of_cell (h 0 (by decide)))
/-- The table's numbers. -/
def tabL : List Int := [0, 274646895, 549293790, 820201905, 1098587580, 1361435347, 1640403810, 1905808397, 2197175160, 2460548119, 2722870694, 2987750089, 3280807620, 3553878443, 3811616794, 4084100981]
theorem tabL_sts : ∀ i : Nat, i < 16 → tabL.getD i 0 = ((sts 4 i : Nat) : Int) := by decide +kernel
theorem tab_of_laid {W : World} (h : laidMetH Tryd.prog [("corpora/checksum.afterNibble", Rows.laid_corpora_checksum_afterNibble)] W) : Tab W := by
  rw [MakeChecks.laidMetH_plain _ _ _ (by kernel_rfl)] at h
  have hg : Tryd.prog.globalNamed "corpora/checksum.afterNibble" = some 0 := by kernel_rfl
  have ht := Lib.tabIs_of_head (k := .u32) (zs := tabL) hg (t := 97) (by kernel_rfl) Tryd.underlying97 Tryd.underlying68 (by kernel_rfl) (by kernel_rfl) h
  intro i hi
  rw [← tabL_sts i hi]
  exact ht.cell hg i hi
theorem door_met (os : Os) (args : Array Value) : laidMetH Tryd.prog [("corpora/checksum.afterNibble", Rows.laid_corpora_checksum_afterNibble)] ((World.doorLaid Tryd.prog 400 os).forCall (fun _ _ => 0) ⟨#[], args, []⟩).memory :=
  laidMetH_of_parts3 (fuel := 8) (laidMet_of_run' 8 (by kernel_rfl) (by kernel_rfl)) (by kernel_rfl) (by kernel_rfl)

section
variable {H : Type} {enc : TypeId × Value → H}
set_option maxRecDepth 100000 in
theorem open_u32 {W : World} {r : Reach} {b0 : Nat} {v : Value} {d : DataW H} {p : List MemPlace} (hv : Value.okWide Tryd.prog W r b0 68 v) (h : DataW.Trod enc Tryd.prog W 0 (fun _ => true) true 68 v d p) :
    ∃ x : Nat, v = .int .u32 x ∧ x < 4294967296 := by
  obtain ⟨n, rfl, _, _, hw⟩ := open_int Tryd.underlying68 hv h
  simp [Lit.wf, IntKind.min, IntKind.max, IntKind.signed, IntKind.bits] at hw
  exact ⟨n.toNat, by rw [Int.toNat_of_nonneg hw.1], by omega⟩
end
end Go.Proofs.YtifdencdbpdbfaaDoor
