/-
  MATHEMATICS for TokensLimits: a list of zeros but for its last number.
-/
import Derived.Test.YteennnhinfnahaaDoorTzV
namespace Go.Proofs.YteennnhinfnahaaDoor
open Go.RowKit Go.Shelf Go.Lib
set_option linter.unusedVariables false
set_option linter.unusedSimpArgs false

def limT (n : Nat) (v : Int) : List Int := (List.replicate n (0 : Int)).set (n - 1) v
theorem limT_len (n : Nat) (v : Int) : (limT n v).length = n := by simp [limT]
theorem limT_zero (v : Int) : limT 0 v = [] := by simp [limT]
theorem limT_last {n : Nat} (h : 0 < n) (v : Int) : (limT n v)[n - 1]? = some v := by
  unfold limT
  rw [List.getElem?_set_self (by rw [List.length_replicate]; omega)]
theorem limT_mem {n : Nat} {v x : Int} (h : x ∈ limT n v) : x = 0 ∨ (x = v ∧ 0 < n) := by
  obtain ⟨i, hi, rfl⟩ := List.mem_iff_getElem.1 h
  have hn : i < n := by rw [limT_len] at hi; exact hi
  have h1 : (limT n v)[i]? = some ((limT n v)[i]) := List.getElem?_eq_getElem hi
  unfold limT at h1
  rw [List.getElem?_set, List.length_replicate, List.getElem?_replicate, if_pos hn] at h1
  split at h1
  · rw [if_pos (by omega)] at h1
    injection h1 with h1
    exact .inr ⟨h1.symm, by omega⟩
  · injection h1 with h1
    exact .inl h1.symm
theorem limT_bad {n : Nat} {v : Int} (h0 : 0 < n) (hn : n ≤ 4096) (hv : v < 0 ∨ 1024 ≤ v) : chkT (limT n v) = 8 :=
  chkT_bad (by rw [limT_len]; exact hn) (badT_any (limT_last h0 v) (by unfold badT; rw [decide_eq_true_eq]; exact hv))
theorem limT_good {n : Nat} {v : Int} (hn : n ≤ 4096) (hv : n = 0 ∨ (0 ≤ v ∧ v < 1024)) : chkT (limT n v) = 0 := by
  refine chkT_good (by rw [limT_len]; exact hn) (List.any_eq_false.2 fun x hx => ?_)
  unfold badT
  rw [decide_eq_true_eq]
  rcases limT_mem hx with rfl | ⟨rfl, h⟩ <;> omega
theorem limT_row {w : World} {n : Nat} (v : Int) (h0 : 0 < n) {B : Nat} (hB : w.heap[B]? = some (.cells (intRow (List.replicate n 0)) 3 (0, 0))) : (w.setCell ⟨B, n - 1, none⟩ (.int .i64 v)).heap[B]? = some (.cells (intRow (limT n v)) 3 (0, 0)) := by
  rw [set_of hB, intRow_set]
  rfl
end Go.Proofs.YteennnhinfnahaaDoor
