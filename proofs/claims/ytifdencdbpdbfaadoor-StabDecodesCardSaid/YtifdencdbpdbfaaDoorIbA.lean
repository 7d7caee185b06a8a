/-
  WALKS over package interval and its reference, first part: valid, Valid, Contains, Overlap, direct, Relation.
-/
import Derived.Test.YtifdencdbpdbfaaDoorIaR
namespace Go.Proofs.YtifdencdbpdbfaaDoor
open Go.RowKit Go.Shelf Go.Lib
set_option linter.unusedVariables false

/-- What a function of spans answers that makes boxes alone. -/
def BoolV (w : World) (b : Bool) (e : Ending) (w' : World) : Prop := e = .returned (.bool b) ∧ Below w.heap.size w w'
def IntV (w : World) (n : Int) (e : Ending) (w' : World) : Prop := e = .returned (.int .i64 n) ∧ Below w.heap.size w w'
theorem below_box2 (w : World) (a b : Obj) : Below w.heap.size w ((w.alloc a).alloc b) := (below_box w a).trans ((below_box _ b).mono (by simp))

set_option maxHeartbeats 1000000 in
theorem valid_any (x : Sp) (w : World) : Calls Tryd.prog 51 #[.agg #[.int .i64 x.1, .int .i64 x.2]] w (BoolV w (okS x)) := by
  obtain ⟨b, e⟩ := x
  unfold okS
  simp only
  by_cases h : 0 ≤ b
  · have hd : decide (0 ≤ b) = true := by simp [h]
    rw [hd, Bool.true_and]
    go_enter Tryd.func51, Tryd.ntmps51
    go_wp2_with fail
    go_ret
    exact ⟨rfl, below_box w _⟩
  · have hd : decide (0 ≤ b) = false := by simp; omega
    rw [hd, Bool.false_and]
    go_enter Tryd.func51, Tryd.ntmps51
    go_wp2_with fail
    go_ret
    exact ⟨rfl, below_box w _⟩
set_option maxHeartbeats 1000000 in
theorem refValid_any (x : Sp) (w : World) : Calls Tryd.prog 47 #[.agg #[.int .i64 x.1, .int .i64 x.2]] w (BoolV w (okS x)) := by
  obtain ⟨b, e⟩ := x
  unfold okS
  simp only
  by_cases h : 0 ≤ b
  · have hd : decide (0 ≤ b) = true := by simp [h]
    rw [hd, Bool.true_and]
    go_enter Tryd.func47, Tryd.ntmps47
    go_wp2_with fail
    go_ret
    exact ⟨rfl, below_box w _⟩
  · have hd : decide (0 ≤ b) = false := by simp; omega
    rw [hd, Bool.false_and]
    go_enter Tryd.func47, Tryd.ntmps47
    go_wp2_with fail
    go_ret
    exact ⟨rfl, below_box w _⟩
set_option maxHeartbeats 4000000 in
theorem direct_any (x y : Sp) (w : World) : Calls Tryd.prog 52 #[.agg #[.int .i64 x.1, .int .i64 x.2], .agg #[.int .i64 y.1, .int .i64 y.2]] w (IntV w (dirZ x y)) := by
  obtain ⟨b, e⟩ := x
  obtain ⟨c, d⟩ := y
  by_cases c1 : e < c
  · rw [show dirZ (b, e) (c, d) = 1 by unfold dirZ; simp only [sp_eq]; rw [if_pos c1]]
    go_enter Tryd.func52, Tryd.ntmps52
    go_wp2_with fail
    go_ret
    exact ⟨rfl, below_box2 w _ _⟩
  · by_cases c2 : e = c
    · rw [show dirZ (b, e) (c, d) = 2 by unfold dirZ; simp only [sp_eq]; rw [if_neg c1, if_pos c2]]
      subst c2
      go_enter Tryd.func52, Tryd.ntmps52
      go_wp2_with fail
      go_ret
      exact ⟨rfl, below_box2 w _ _⟩
    · have q2 : (e == c) = false := beq_eq_false_iff_ne.2 c2
      rcases Int.lt_trichotomy b c with k | k | k
      · rcases Int.lt_trichotomy e d with m | m | m
        · rw [show dirZ (b, e) (c, d) = 3 by unfold dirZ; simp only [sp_eq]; rw [if_neg c1, if_neg c2, if_neg (by omega), if_pos (by omega)]]
          have q1 : (b == c) = false := beq_eq_false_iff_ne.2 (by omega)
          have q3 : ¬ b = c := by omega
          go_enter Tryd.func52, Tryd.ntmps52
          go_wp2_with fail
          go_ret
          exact ⟨rfl, below_box2 w _ _⟩
        · rw [show dirZ (b, e) (c, d) = 4 by unfold dirZ; simp only [sp_eq]; rw [if_neg c1, if_neg c2, if_neg (by omega), if_neg (by omega), if_pos (by omega)]]
          have q1 : (b == c) = false := beq_eq_false_iff_ne.2 (by omega)
          have q3 : ¬ b = c := by omega
          subst m
          go_enter Tryd.func52, Tryd.ntmps52
          go_wp2_with fail
          go_ret
          exact ⟨rfl, below_box2 w _ _⟩
        · rw [show dirZ (b, e) (c, d) = 5 by unfold dirZ; simp only [sp_eq]; rw [if_neg c1, if_neg c2, if_neg (by omega), if_neg (by omega), if_neg (by omega), if_pos (by omega)]]
          have q1 : (b == c) = false := beq_eq_false_iff_ne.2 (by omega)
          have q3 : ¬ b = c := by omega
          have q4 : (e == d) = false := beq_eq_false_iff_ne.2 (by omega)
          have q5 : ¬ e = d := by omega
          have q6 : ¬ e < d := by omega
          go_enter Tryd.func52, Tryd.ntmps52
          go_wp2_with fail
          go_ret
          exact ⟨rfl, below_box2 w _ _⟩
      · rcases Int.lt_trichotomy e d with m | m | m
        · rw [show dirZ (b, e) (c, d) = 6 by unfold dirZ; simp only [sp_eq]; rw [if_neg c1, if_neg c2, if_neg (by omega), if_neg (by omega), if_neg (by omega), if_neg (by omega), if_pos (by omega)]]
          subst k
          have q4 : (e == d) = false := beq_eq_false_iff_ne.2 (by omega)
          have q5 : ¬ e = d := by omega
          go_enter Tryd.func52, Tryd.ntmps52
          go_wp2_with fail
          go_ret
          exact ⟨rfl, below_box2 w _ _⟩
        · rw [show dirZ (b, e) (c, d) = 7 by unfold dirZ; simp only [sp_eq]; rw [if_neg c1, if_neg c2, if_pos (by omega)]]
          subst k
          subst m
          go_enter Tryd.func52, Tryd.ntmps52
          go_wp2_with fail
          go_ret
          exact ⟨rfl, below_box2 w _ _⟩
        · rw [show dirZ (b, e) (c, d) = 0 by unfold dirZ; simp only [sp_eq]; rw [if_neg c1, if_neg c2, if_neg (by omega), if_neg (by omega), if_neg (by omega), if_neg (by omega), if_neg (by omega)]]
          subst k
          have q4 : (e == d) = false := beq_eq_false_iff_ne.2 (by omega)
          have q5 : ¬ e = d := by omega
          have q6 : ¬ e < d := by omega
          go_enter Tryd.func52, Tryd.ntmps52
          go_wp2_with fail
          go_ret
          exact ⟨rfl, below_box2 w _ _⟩
      · rw [show dirZ (b, e) (c, d) = 0 by unfold dirZ; simp only [sp_eq]; rw [if_neg c1, if_neg c2, if_neg (by omega), if_neg (by omega), if_neg (by omega), if_neg (by omega), if_neg (by omega)]]
        have q1 : (b == c) = false := beq_eq_false_iff_ne.2 (by omega)
        have q3 : ¬ b = c := by omega
        have q6 : ¬ b < c := by omega
        go_enter Tryd.func52, Tryd.ntmps52
        go_wp2_with fail
        go_ret
        exact ⟨rfl, below_box2 w _ _⟩
/-- Two spans in boxes: their cells, and that these stay. -/
theorem boxes2 (w : World) (b e c d : Int) : ∃ X N, (w.alloc (.cells #[.int .i64 b, .int .i64 e] 24)).alloc (.cells #[.int .i64 c, .int .i64 d] 24) = X ∧ w.heap.size = N ∧ Below N w X ∧ N ≤ X.heap.size ∧
    ∀ W, Below X.heap.size X W → W.cell? ⟨N, 0, none⟩ = some (.int .i64 b) ∧ W.cell? ⟨N, 1, none⟩ = some (.int .i64 e) ∧ W.cell? ⟨N + 1, 0, none⟩ = some (.int .i64 c) ∧ W.cell? ⟨N + 1, 1, none⟩ = some (.int .i64 d) := by
  refine ⟨_, _, rfl, rfl, below_box2 w _ _, by simp; omega, fun W hb => ?_⟩
  have e1 := block_alloc (.cells #[.int .i64 c, .int .i64 d] 24) (block_new w (.cells #[.int .i64 b, .int .i64 e] 24))
  have e2 := block_new (w.alloc (.cells #[.int .i64 b, .int .i64 e] 24)) (.cells #[.int .i64 c, .int .i64 d] 24)
  rw [alloc_sz] at e2
  have f1 := block_below e1 hb (Array.getElem?_eq_some_iff.1 e1).1
  have f2 := block_below e2 hb (Array.getElem?_eq_some_iff.1 e2).1
  exact ⟨cell_of f1 rfl, cell_of f1 rfl, cell_of f2 rfl, cell_of f2 rfl⟩
end Go.Proofs.YtifdencdbpdbfaaDoor
