/-
  WALKS over package treelabel, tenth part: parentsOf, Sisters, Common.
-/
import Derived.Test.YtjialelklnjcfaaEbI
namespace Go.Proofs.Ytjialelklnjcfaa
open Go.RowKit Go.Shelf Go.Lib
set_option linter.unusedVariables false
set_option linter.unusedSimpArgs false

def inL (n : Nat) (k : Int) : Bool := decide (0 ≤ k ∧ k < (n : Int))
theorem isNode_any {W : World} (n Bx cap : Nat) (A : Option Addr) (hb : W.cell? ⟨Bx, 0, none⟩ = some (.slice A n cap)) (k : Int) :
    Calls Try.prog 54 (#[.int .i64 k] ++ #[.pointer (some ⟨Bx, 0, none⟩)]) W fun e w' => e = .returned (.bool (inL n k)) ∧ w' = W := by
  unfold inL
  by_cases h : 0 ≤ k
  · by_cases h2 : k < (n : Int)
    · rw [decide_eq_true (And.intro h h2)]
      go_enter Try.func54, Try.ntmps54
      go_wp2_with fail
      go_ret
      exact ⟨rfl, rfl⟩
    · rw [decide_eq_false (fun hh => h2 hh.2)]
      go_enter Try.func54, Try.ntmps54
      go_wp2_with fail
      go_ret
      exact ⟨rfl, rfl⟩
  · rw [decide_eq_false (fun hh => h hh.1)]
    go_enter Try.func54, Try.ntmps54
    go_wp2_with fail
    go_ret
    exact ⟨rfl, rfl⟩
def okOf (L : List Lb) (i j : Int) : Bool := inL L.length i && inL L.length j && decide ((parentsL L).2 = 0)

set_option maxRecDepth 100000 in
set_option maxHeartbeats 4000000 in
theorem parentsOf_any {w : World} {v : Value} {L : List Lb} (hv : Rows 3 ELb w v L) (hl : L.length ≤ maxLen) (i j : Int) :
    Calls Try.prog 38 #[v, .int .i64 i, .int .i64 j] w fun e w' => (∃ vr, e = .returned (.tuple #[vr, .bool (okOf L i j)]) ∧ (okOf L i j = true → Rows 1 EInt w' vr (parentsL L).1)) ∧ Below w.heap.size w w' := by
  have HP := Lib.hid (fun W (hb : Below w.heap.size w W) => parents_any (hv.below stays_lb hb) hl)
  obtain ⟨A, cap, rfl, hc⟩ := hv.form
  unfold okOf
  obtain ⟨n, hn⟩ : ∃ n, L.length = n := ⟨_, rfl⟩
  obtain ⟨R1, R2, hR⟩ : ∃ a b, parentsL L = (a, b) := ⟨_, _, rfl⟩
  rw [hn] at hc HP ⊢
  rw [hR] at HP ⊢
  simp only at HP ⊢
  obtain ⟨X, hX⟩ : ∃ X, w.alloc (.cells #[.slice A n cap] 23) = X := ⟨_, rfl⟩
  obtain ⟨N0, hN0⟩ : ∃ N, w.heap.size = N := ⟨_, rfl⟩
  have hb : X.heap[N0]? = some (.cells #[.slice A n cap] 23 (0, 0)) := by rw [← hX, ← hN0]; exact block_new _ _
  have hbe : Below N0 w X := by rw [← hX, ← hN0]; exact below_box _ _
  rw [hN0] at HP ⊢
  have HX := Lib.hid hX
  have HBE := Lib.hid hbe
  have HN0 := Lib.hid hN0
  have c0 := cell_of (i := 0) hb rfl
  have HI := Lib.hid (isNode_any n N0 cap A c0 i)
  have HJ := Lib.hid (isNode_any n N0 cap A c0 j)
  have eg : ∀ args w, (callFunc 54 args).run Try.prog w = .ok (.enter 54 args) w := fun args w => by kernel_rfl
  obtain ⟨qi, hqi⟩ : ∃ q, inL n i = q := ⟨_, rfl⟩
  obtain ⟨qj, hqj⟩ : ∃ q, inL n j = q := ⟨_, rfl⟩
  rw [hqi] at HI ⊢
  rw [hqj] at HJ ⊢
  obtain ⟨ok, hok⟩ : ∃ q, (qi && qj && decide (R2 = 0)) = q := ⟨_, rfl⟩
  rw [hok]
  have HOK := Lib.hid hok
  clear hX hN0 hb hbe hqi hqj hR hn hv hok
  go_enter Try.func38, Try.ntmps38
  go_wp2_with fail
  rw [HX.out]
  (try rw [HN0.out])
  go_wp2_with fail
  refine HI.out.mono ?_
  rintro e w1 ⟨rfl, rfl⟩
  cases qi with
  | false =>
    obtain rfl : false = ok := HOK.out
    go_wp2_with fail
    go_ret2
    exact ⟨⟨_, rfl, by simp⟩, HBE.out⟩
  | true =>
    go_wp2_with fail
    refine HJ.out.mono ?_
    rintro e w2 ⟨rfl, rfl⟩
    cases qj with
    | false =>
      obtain rfl : false = ok := HOK.out
      go_wp2_with fail
      go_ret2
      exact ⟨⟨_, rfl, by simp⟩, HBE.out⟩
    | true =>
      go_wp2_with fail
      refine (HP.out _ HBE.out).mono ?_
      rintro e w3 ⟨⟨vr, rfl, hrow⟩, hb3⟩
      have HROW := Lib.hid hrow
      have HB3 := Lib.hid (HBE.out.trans (hb3.mono (by rw [← HN0.out]; exact HBE.out.size)))
      clear hrow hb3
      by_cases h0 : R2 = 0
      · subst h0
        obtain rfl : true = ok := HOK.out
        go_wp2_with fail
        go_ret2
        first
          | exact ⟨⟨_, rfl, fun _ => HROW.out⟩, HB3.out⟩
          | exact ⟨⟨_, rfl, HROW.out⟩, HB3.out⟩
      · have hb0 : (R2 == 0) = false := by simp [h0]
        obtain rfl : false = ok := by
          have := HOK.out
          rw [decide_eq_false h0] at this
          exact this
        go_wp2_with fail
        go_ret2
        exact ⟨⟨_, rfl, by simp⟩, HB3.out⟩
end Go.Proofs.Ytjialelklnjcfaa
