/-
  WALKS over package treelabel and its reference, fifth part: Dominates, Precedes; slices.Equal at labels; the laws' helpers.
-/
import Derived.Test.YtjialelklnjcfaaEbD
namespace Go.Proofs.Ytjialelklnjcfaa
open Go.RowKit Go.Shelf Go.Lib
set_option linter.unusedVariables false
set_option linter.unusedSimpArgs false

/-- A label as a value. -/
def lbA (x : Lb) : Value := .agg #[.int .i64 x.1, .int .i64 x.2.1, .int .i64 x.2.2]

set_option maxHeartbeats 2000000 in
theorem dominates_any (a b : Lb) (W : World) : Calls Try.prog 20 #[lbA a, lbA b] W fun e w' => e = .returned (.bool (domL a b)) ∧ Below W.heap.size W w' := by
  obtain ⟨x1, y1, z1⟩ := a
  obtain ⟨x2, y2, z2⟩ := b
  unfold lbA
  simp only
  obtain ⟨V, hV⟩ : ∃ V, ((W.alloc (.cells #[.int .i64 x1, .int .i64 y1, .int .i64 z1] 41)).alloc (.cells #[.int .i64 x2, .int .i64 y2, .int .i64 z2] 41)) = V := ⟨_, rfl⟩
  have hbV : Below W.heap.size W V := by
    rw [← hV]
    exact ((Below.refl _ W).alloc (Nat.le_refl _) _).alloc (by simp) _
  have h1 : V.heap[W.heap.size]? = some (.cells #[.int .i64 x1, .int .i64 y1, .int .i64 z1] 41 (0, 0)) := by rw [← hV]; exact block_alloc _ (block_new W _)
  have h2 : V.heap[W.heap.size + 1]? = some (.cells #[.int .i64 x2, .int .i64 y2, .int .i64 z2] 41 (0, 0)) := by
    have := block_new (W.alloc (.cells #[.int .i64 x1, .int .i64 y1, .int .i64 z1] 41)) (.cells #[.int .i64 x2, .int .i64 y2, .int .i64 z2] 41)
    rw [← hV]
    simpa using this
  obtain ⟨q, hq⟩ : ∃ q, W.heap.size = q := ⟨_, rfl⟩
  rw [hq] at h1 h2 hbV
  rw [hq]
  have a0 := cell_of (i := 0) h1 rfl
  have a1 := cell_of (i := 1) h1 rfl
  have b0 := cell_of (i := 0) h2 rfl
  have b1 := cell_of (i := 1) h2 rfl
  have HV := Lib.hid hV
  have HQ := Lib.hid hq
  have HB := Lib.hid hbV
  clear hV hbV h1 h2 hq
  by_cases c1 : x1 < x2
  · by_cases c2 : y2 < y1
    · have hr : domL (x1, y1, z1) (x2, y2, z2) = true := by simp [domL, c1, c2]
      rw [hr]
      go_enter Try.func20, Try.ntmps20
      go_wp2_with fail
      rw [HV.out]
      (try rw [HQ.out])
      go_wp2_with fail
      go_ret
      exact ⟨rfl, HB.out⟩
    · have hr : domL (x1, y1, z1) (x2, y2, z2) = false := by simp [domL, c2]
      rw [hr]
      go_enter Try.func20, Try.ntmps20
      go_wp2_with fail
      rw [HV.out]
      (try rw [HQ.out])
      go_wp2_with fail
      go_ret
      exact ⟨rfl, HB.out⟩
  · have hr : domL (x1, y1, z1) (x2, y2, z2) = false := by simp [domL, c1]
    rw [hr]
    go_enter Try.func20, Try.ntmps20
    go_wp2_with fail
    rw [HV.out]
    (try rw [HQ.out])
    go_wp2_with fail
    go_ret
    exact ⟨rfl, HB.out⟩

set_option maxHeartbeats 2000000 in
theorem precedes_any (a b : Lb) (W : World) : Calls Try.prog 21 #[lbA a, lbA b] W fun e w' => e = .returned (.bool (precL a b)) ∧ Below W.heap.size W w' := by
  obtain ⟨x1, y1, z1⟩ := a
  obtain ⟨x2, y2, z2⟩ := b
  unfold lbA
  simp only
  obtain ⟨V, hV⟩ : ∃ V, ((W.alloc (.cells #[.int .i64 x1, .int .i64 y1, .int .i64 z1] 41)).alloc (.cells #[.int .i64 x2, .int .i64 y2, .int .i64 z2] 41)) = V := ⟨_, rfl⟩
  have hbV : Below W.heap.size W V := by
    rw [← hV]
    exact ((Below.refl _ W).alloc (Nat.le_refl _) _).alloc (by simp) _
  have h1 : V.heap[W.heap.size]? = some (.cells #[.int .i64 x1, .int .i64 y1, .int .i64 z1] 41 (0, 0)) := by rw [← hV]; exact block_alloc _ (block_new W _)
  have h2 : V.heap[W.heap.size + 1]? = some (.cells #[.int .i64 x2, .int .i64 y2, .int .i64 z2] 41 (0, 0)) := by
    have := block_new (W.alloc (.cells #[.int .i64 x1, .int .i64 y1, .int .i64 z1] 41)) (.cells #[.int .i64 x2, .int .i64 y2, .int .i64 z2] 41)
    rw [← hV]
    simpa using this
  obtain ⟨q, hq⟩ : ∃ q, W.heap.size = q := ⟨_, rfl⟩
  rw [hq] at h1 h2 hbV
  rw [hq]
  have a0 := cell_of (i := 0) h1 rfl
  have a1 := cell_of (i := 1) h1 rfl
  have b0 := cell_of (i := 0) h2 rfl
  have b1 := cell_of (i := 1) h2 rfl
  have HV := Lib.hid hV
  have HQ := Lib.hid hq
  have HB := Lib.hid hbV
  clear hV hbV h1 h2 hq
  by_cases c1 : x1 < x2
  · by_cases c2 : y1 < y2
    · have hr : precL (x1, y1, z1) (x2, y2, z2) = true := by simp [precL, c1, c2]
      rw [hr]
      go_enter Try.func21, Try.ntmps21
      go_wp2_with fail
      rw [HV.out]
      (try rw [HQ.out])
      go_wp2_with fail
      go_ret
      exact ⟨rfl, HB.out⟩
    · have hr : precL (x1, y1, z1) (x2, y2, z2) = false := by simp [precL, c2]
      rw [hr]
      go_enter Try.func21, Try.ntmps21
      go_wp2_with fail
      rw [HV.out]
      (try rw [HQ.out])
      go_wp2_with fail
      go_ret
      exact ⟨rfl, HB.out⟩
  · have hr : precL (x1, y1, z1) (x2, y2, z2) = false := by simp [precL, c1]
    rw [hr]
    go_enter Try.func21, Try.ntmps21
    go_wp2_with fail
    rw [HV.out]
    (try rw [HQ.out])
    go_wp2_with fail
    go_ret
    exact ⟨rfl, HB.out⟩

set_option maxHeartbeats 2000000 in
theorem refDominates_any (a b : Lb) (W : World) : Calls Try.prog 22 #[lbA a, lbA b] W fun e w' => e = .returned (.bool (domL a b)) ∧ Below W.heap.size W w' := by
  obtain ⟨x1, y1, z1⟩ := a
  obtain ⟨x2, y2, z2⟩ := b
  unfold lbA
  simp only
  obtain ⟨V, hV⟩ : ∃ V, ((W.alloc (.cells #[.int .i64 x1, .int .i64 y1, .int .i64 z1] 43)).alloc (.cells #[.int .i64 x2, .int .i64 y2, .int .i64 z2] 43)) = V := ⟨_, rfl⟩
  have hbV : Below W.heap.size W V := by
    rw [← hV]
    exact ((Below.refl _ W).alloc (Nat.le_refl _) _).alloc (by simp) _
  have h1 : V.heap[W.heap.size]? = some (.cells #[.int .i64 x1, .int .i64 y1, .int .i64 z1] 43 (0, 0)) := by rw [← hV]; exact block_alloc _ (block_new W _)
  have h2 : V.heap[W.heap.size + 1]? = some (.cells #[.int .i64 x2, .int .i64 y2, .int .i64 z2] 43 (0, 0)) := by
    have := block_new (W.alloc (.cells #[.int .i64 x1, .int .i64 y1, .int .i64 z1] 43)) (.cells #[.int .i64 x2, .int .i64 y2, .int .i64 z2] 43)
    rw [← hV]
    simpa using this
  obtain ⟨q, hq⟩ : ∃ q, W.heap.size = q := ⟨_, rfl⟩
  rw [hq] at h1 h2 hbV
  rw [hq]
  have a0 := cell_of (i := 0) h1 rfl
  have a1 := cell_of (i := 1) h1 rfl
  have b0 := cell_of (i := 0) h2 rfl
  have b1 := cell_of (i := 1) h2 rfl
  have HV := Lib.hid hV
  have HQ := Lib.hid hq
  have HB := Lib.hid hbV
  clear hV hbV h1 h2 hq
  by_cases c1 : x1 < x2
  · by_cases c2 : y2 < y1
    · have hr : domL (x1, y1, z1) (x2, y2, z2) = true := by simp [domL, c1, c2]
      rw [hr]
      go_enter Try.func22, Try.ntmps22
      go_wp2_with fail
      rw [HV.out]
      (try rw [HQ.out])
      go_wp2_with fail
      go_ret
      exact ⟨rfl, HB.out⟩
    · have hr : domL (x1, y1, z1) (x2, y2, z2) = false := by simp [domL, c2]
      rw [hr]
      go_enter Try.func22, Try.ntmps22
      go_wp2_with fail
      rw [HV.out]
      (try rw [HQ.out])
      go_wp2_with fail
      go_ret
      exact ⟨rfl, HB.out⟩
  · have hr : domL (x1, y1, z1) (x2, y2, z2) = false := by simp [domL, c1]
    rw [hr]
    go_enter Try.func22, Try.ntmps22
    go_wp2_with fail
    rw [HV.out]
    (try rw [HQ.out])
    go_wp2_with fail
    go_ret
    exact ⟨rfl, HB.out⟩

set_option maxHeartbeats 2000000 in
theorem refPrecedes_any (a b : Lb) (W : World) : Calls Try.prog 23 #[lbA a, lbA b] W fun e w' => e = .returned (.bool (precL a b)) ∧ Below W.heap.size W w' := by
  obtain ⟨x1, y1, z1⟩ := a
  obtain ⟨x2, y2, z2⟩ := b
  unfold lbA
  simp only
  obtain ⟨V, hV⟩ : ∃ V, ((W.alloc (.cells #[.int .i64 x1, .int .i64 y1, .int .i64 z1] 43)).alloc (.cells #[.int .i64 x2, .int .i64 y2, .int .i64 z2] 43)) = V := ⟨_, rfl⟩
  have hbV : Below W.heap.size W V := by
    rw [← hV]
    exact ((Below.refl _ W).alloc (Nat.le_refl _) _).alloc (by simp) _
  have h1 : V.heap[W.heap.size]? = some (.cells #[.int .i64 x1, .int .i64 y1, .int .i64 z1] 43 (0, 0)) := by rw [← hV]; exact block_alloc _ (block_new W _)
  have h2 : V.heap[W.heap.size + 1]? = some (.cells #[.int .i64 x2, .int .i64 y2, .int .i64 z2] 43 (0, 0)) := by
    have := block_new (W.alloc (.cells #[.int .i64 x1, .int .i64 y1, .int .i64 z1] 43)) (.cells #[.int .i64 x2, .int .i64 y2, .int .i64 z2] 43)
    rw [← hV]
    simpa using this
  obtain ⟨q, hq⟩ : ∃ q, W.heap.size = q := ⟨_, rfl⟩
  rw [hq] at h1 h2 hbV
  rw [hq]
  have a0 := cell_of (i := 0) h1 rfl
  have a1 := cell_of (i := 1) h1 rfl
  have b0 := cell_of (i := 0) h2 rfl
  have b1 := cell_of (i := 1) h2 rfl
  have HV := Lib.hid hV
  have HQ := Lib.hid hq
  have HB := Lib.hid hbV
  clear hV hbV h1 h2 hq
  by_cases c1 : x1 < x2
  · by_cases c2 : y1 < y2
    · have hr : precL (x1, y1, z1) (x2, y2, z2) = true := by simp [precL, c1, c2]
      rw [hr]
      go_enter Try.func23, Try.ntmps23
      go_wp2_with fail
      rw [HV.out]
      (try rw [HQ.out])
      go_wp2_with fail
      go_ret
      exact ⟨rfl, HB.out⟩
    · have hr : precL (x1, y1, z1) (x2, y2, z2) = false := by simp [precL, c2]
      rw [hr]
      go_enter Try.func23, Try.ntmps23
      go_wp2_with fail
      rw [HV.out]
      (try rw [HQ.out])
      go_wp2_with fail
      go_ret
      exact ⟨rfl, HB.out⟩
  · have hr : precL (x1, y1, z1) (x2, y2, z2) = false := by simp [precL, c1]
    rw [hr]
    go_enter Try.func23, Try.ntmps23
    go_wp2_with fail
    rw [HV.out]
    (try rw [HQ.out])
    go_wp2_with fail
    go_ret
    exact ⟨rfl, HB.out⟩
end Go.Proofs.Ytjialelklnjcfaa
