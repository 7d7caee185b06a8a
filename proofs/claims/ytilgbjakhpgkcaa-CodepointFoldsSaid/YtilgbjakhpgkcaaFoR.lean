/-
  WALKS over package corporaref01, last part: FoldRune and Fold, over every string of at most 400 bytes.
-/
import Derived.Test.YtilgbjakhpgkcaaFoM
import Derived.Test.YtilgbjakhpgkcaaRuD
namespace Go.Proofs.Ytilgbjakhpgkcaa
open Go.RowKit Go.Shelf Go.Lib

set_option maxRecDepth 100000 in
set_option maxHeartbeats 2000000 in
theorem foldRune_core (c r : Int) (g1 : (c == 215) = false) (g2 : (c == 930) = false)
    (h : (0 ≤ c ∧ c < 65 ∧ r = c) ∨ (65 ≤ c ∧ c ≤ 90 ∧ r = c + 32) ∨ (90 < c ∧ c < 192 ∧ r = c) ∨ (192 ≤ c ∧ c ≤ 222 ∧ r = c + 32) ∨ (222 < c ∧ c < 913 ∧ r = c) ∨ (913 ≤ c ∧ c ≤ 937 ∧ r = c + 32) ∨
      (937 < c ∧ c < 1024 ∧ r = c) ∨ (1024 ≤ c ∧ c ≤ 1039 ∧ r = c + 80) ∨ (1040 ≤ c ∧ c ≤ 1071 ∧ r = c + 32) ∨ (1071 < c ∧ c ≤ 1114111 ∧ r = c)) (w : World) :
    Calls Try.prog 34 #[.int .i32 c] w fun e w' => e = .returned (.int .i32 r) ∧ w = w' := by
  rcases h with ⟨h1, h2, rfl⟩ | ⟨h1, h2, rfl⟩ | ⟨h1, h2, rfl⟩ | ⟨h1, h2, rfl⟩ | ⟨h1, h2, rfl⟩ | ⟨h1, h2, rfl⟩ | ⟨h1, h2, rfl⟩ | ⟨h1, h2, rfl⟩ | ⟨h1, h2, rfl⟩ | ⟨h1, h2, rfl⟩
  all_goals
    go_enter Try.func34, Try.ntmps34
    go_wp2
    go_ret
    exact ⟨rfl, rfl⟩

set_option maxRecDepth 100000 in
set_option maxHeartbeats 1000000 in
theorem foldRune_any (c : Nat) (hc : c ≤ 1114111) (w : World) :
    Calls Try.prog 34 #[.int .i32 (c : Int)] w fun e w' => e = .returned (.int .i32 (foldC c : Nat)) ∧ w = w' := by
  by_cases h1 : c = 215
  · subst h1
    go_enter Try.func34, Try.ntmps34
    go_wp2
    go_ret
    exact ⟨rfl, rfl⟩
  · by_cases h2 : c = 930
    · subst h2
      go_enter Try.func34, Try.ntmps34
      go_wp2
      go_ret
      exact ⟨rfl, rfl⟩
    · refine foldRune_core c _ (by rw [beq_eq_false_iff_ne]; omega) (by rw [beq_eq_false_iff_ne]; omega) ?_ w
      unfold foldC
      split
      · omega
      · split <;> omega
end Go.Proofs.Ytilgbjakhpgkcaa
