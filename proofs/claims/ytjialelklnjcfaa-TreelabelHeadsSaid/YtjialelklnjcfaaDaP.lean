/-
  WALKS over package depend, Path of any arguments (for a seat without Projective).
-/
import Derived.Test.YtjialelklnjcfaaDaE
namespace Go.Proofs.Ytjialelklnjcfaa
open Go.RowKit Go.Shelf Go.Lib
set_option linter.unusedVariables false

set_option maxRecDepth 100000 in
set_option maxHeartbeats 4000000 in
theorem path_any {w : World} {v : Value} {h : List Int} (hv : Rows 1 EInt w v h) (hl : h.length ≤ maxLen) (a b : Int) :
    Calls Try.prog 29 #[v, .int .i64 a, .int .i64 b] w fun e w' => (∃ vr, e = .returned (.tuple #[vr, .int .i64 (pathH h a b).2]) ∧ RN w' vr (pathH h a b).1) ∧ Below w.heap.size w w' := by
  unfold pathH
  by_cases hok : okH h = true
  · by_cases ha : 0 ≤ a ∧ a < (h.length : Int)
    · by_cases hb : 0 ≤ b ∧ b < (h.length : Int)
      · rw [if_pos ⟨hok, ha, hb⟩]
        obtain ⟨x, rfl⟩ : ∃ x : Nat, a = (x : Int) := ⟨a.toNat, by omega⟩
        obtain ⟨y, rfl⟩ : ∃ y : Nat, b = (y : Int) := ⟨b.toNat, by omega⟩
        rw [Int.toNat_natCast, Int.toNat_natCast]
        exact path_ok hv hok x y (by omega) (by omega)
      · rw [if_neg (fun hh => hb hh.2.2)]
        obtain ⟨A, cap, rfl, hc⟩ := hv.form
        have HVA := Lib.hid (valid_any hv hl)
        have HTA := Lib.hid (fun W => isToken_any a A h.length cap W)
        have HTB := Lib.hid (fun W => isToken_any b A h.length cap W)
        rw [show decide (0 ≤ a ∧ a < (h.length : Int)) = true from decide_eq_true ha] at HTA
        rw [show decide (0 ≤ b ∧ b < (h.length : Int)) = false from decide_eq_false hb] at HTB
        rw [hok] at HVA
        clear hok ha hb hv hl
        go_enter Try.func29, Try.ntmps29
        go_wp2_with fail
        refine HVA.out.mono ?_
        rintro e w1 ⟨rfl, hb1⟩
        have HB1 := Lib.hid hb1
        clear hb1
        go_wp2_with fail
        refine (HTA.out w1).mono ?_
        rintro e w1 ⟨rfl, rfl⟩
        go_wp2_with fail
        refine (HTB.out w1).mono ?_
        rintro e w1 ⟨rfl, rfl⟩
        go_wp2_with fail
        go_ret2
        exact ⟨⟨_, rfl, RN.nil _⟩, HB1.out⟩
    · rw [if_neg (fun hh => ha hh.2.1)]
      obtain ⟨A, cap, rfl, hc⟩ := hv.form
      have HVA := Lib.hid (valid_any hv hl)
      have HTA := Lib.hid (fun W => isToken_any a A h.length cap W)
      rw [show decide (0 ≤ a ∧ a < (h.length : Int)) = false from decide_eq_false ha] at HTA
      rw [hok] at HVA
      clear hok ha hv hl
      go_enter Try.func29, Try.ntmps29
      go_wp2_with fail
      refine HVA.out.mono ?_
      rintro e w1 ⟨rfl, hb1⟩
      have HB1 := Lib.hid hb1
      clear hb1
      go_wp2_with fail
      refine (HTA.out w1).mono ?_
      rintro e w1 ⟨rfl, rfl⟩
      go_wp2_with fail
      go_ret2
      exact ⟨⟨_, rfl, RN.nil _⟩, HB1.out⟩
  · rw [if_neg (fun hh => hok hh.1)]
    obtain ⟨A, cap, rfl, hc⟩ := hv.form
    have HVA := Lib.hid (valid_any hv hl)
    have hok2 : okH h = false := by simpa using hok
    rw [hok2] at HVA
    clear hok hok2 hv hl
    go_enter Try.func29, Try.ntmps29
    go_wp2_with fail
    refine HVA.out.mono ?_
    rintro e w1 ⟨rfl, hb1⟩
    have HB1 := Lib.hid hb1
    clear hb1
    go_wp2_with fail
    go_ret2
    exact ⟨⟨_, rfl, RN.nil _⟩, HB1.out⟩

end Go.Proofs.Ytjialelklnjcfaa
