/-
  WALKS over package corpus: check, parts.
-/
import Derived.Test.YtmjmidgfdjcbfaaGreatDoorQkP
namespace Go.Proofs.YtmjmidgfdjcbfaaGreatDoor
open Go.RowKit Go.Shelf Go.Lib
set_option linter.unusedVariables false

set_option maxRecDepth 100000 in
set_option maxHeartbeats 4000000 in
theorem check_any (num n : Nat) (hn : n ≤ maxLen) (gw ge : FuncId) (ptr : Value) (eg1 : ∀ args w, (callFunc gw args).run Tryz.prog w = .ok (.enter gw args) w) (eg2 : ∀ args w, (callFunc ge args).run Tryz.prog w = .ok (.enter ge args) w)
    (We : Nat) (f : Nat → Nat) (I0 : World → Prop) (I : Nat → World → Prop) (B : Nat) (hI0 : ∀ W W', Below W.heap.size W W' → I0 W → I0 W') (hB : ∀ W, I0 W → B ≤ W.heap.size)
    (hw : ∀ W, I0 W → Calls Tryz.prog gw #[ptr] W fun r w' => r = .returned (.int .i64 (We : Int)) ∧ Below B W w' ∧ KeepP W w' ∧ (We = 0 → I 0 w'))
    (he : ∀ k W, k < n → (∀ j, j < k → f j = 0) → I k W → Calls Tryz.prog ge #[ptr, .int .i64 (k : Int)] W fun r w' => r = .returned (.int .i64 (f k : Int)) ∧ Below B W w' ∧ KeepP W w' ∧ (f k = 0 → I (k + 1) w'))
    (W : World) (h0 : I0 W) :
    Calls Tryz.prog 8 #[.agg #[.int .i64 (num : Int), .int .i64 (n : Int), .func (.func gw) #[ptr] #[], .func (.func ge) #[ptr] #[]]] W fun r w' => r = .returned (.tuple #[.int .i64 ((partE We f n).1 : Int), .int .i64 ((partE We f n).2 : Int)]) ∧ Below B W w' ∧ KeepP W w' ∧ ((partE We f n).2 = 0 → I n w') := by
  unfold maxLen at hn
  obtain ⟨X, hX⟩ : ∃ X, W.alloc (.cells #[.int .i64 (num : Int), .int .i64 (n : Int), .func (.func gw) #[ptr] #[], .func (.func ge) #[ptr] #[]] 51) = X := ⟨_, rfl⟩
  have hbX : Below W.heap.size W X := by rw [← hX]; exact below_box W _
  obtain ⟨N0, hN0⟩ : ∃ N0, W.heap.size = N0 := ⟨_, rfl⟩
  have hR : X.heap[N0]? = some (.cells #[.int .i64 (num : Int), .int .i64 (n : Int), .func (.func gw) #[ptr] #[], .func (.func ge) #[ptr] #[]] 51 (0, 0)) := by rw [← hX, ← hN0]; exact block_new W _
  have g2 : X.cell? ⟨N0, 2, none⟩ = some (.func (.func gw) #[ptr] #[]) := cell_of hR rfl
  have hBN : B ≤ N0 := by rw [← hN0]; exact hB W h0
  have HW := Lib.hid (hw X (hI0 _ _ hbX h0))
  have HE := Lib.hid he
  have HX := Lib.hid hX
  have HN0 := Lib.hid hN0
  have HR := Lib.hid hR
  have HBX : Hid (Below B W X) := Lib.hid (hbX.mono (by omega))
  have HKX := Lib.hid (keep_below hbX)
  obtain ⟨pr, hpr⟩ : ∃ pr, partE We f n = pr := ⟨_, rfl⟩
  rw [hpr]
  have HPR := Lib.hid hpr
  clear hw he hX hN0 hR hbX h0 hpr hI0 hB
  by_cases hz : We = 0
  · have HP : Hid (scanE f n 0 = pr) := Lib.hid (by rw [← HPR.out]; unfold partE; rw [if_pos hz])
    subst hz
    go_enter Tryz.func8, Tryz.ntmps8
    go_wp2_with fail
    rw [HX.out, HN0.out]
    go_wp2_with (go_at_fn gw; refine HW.out.mono ?_; rintro e w1 ⟨rfl, hb1, hk1, hi1⟩; have HB1 := Lib.hid (HBX.out.trans hb1); have HK1 := Lib.hid hk1; have HI1 := Lib.hid (by first | exact hi1 rfl | exact hi1 trivial | exact hi1); have g1 : w1.cell? ⟨N0, 1, none⟩ = some (.int .i64 (n : Int)) := cell_of (hk1 _ _ _ HR.out) rfl; clear hb1 hk1 hi1 g2)
    clear g1
    go_loopw [15] (fun iv wr => ∃ k : Nat, k ≤ n ∧ iv = .int .i64 k ∧ Hid (scanE f n k = pr) ∧ Hid (∀ j, j < k → f j = 0) ∧ Hid (I k wr) ∧ Hid (Below B W wr) ∧ Hid (KeepP X wr)) (fun iv _ => n - (Go.RowKit.intOf iv).toNat)
    case atStart => exact ⟨0, Nat.zero_le _, rfl, HP, Lib.hid (fun j h => absurd h (by omega)), HI1, HB1, HK1⟩
    case round =>
      clear HP HI1 HB1 HK1
      obtain ⟨k, hk, rfl, HP, HF, HI, HB, HK⟩ := hrel
      by_cases hlt : k < n
      · have hlti : (k : Int) < (n : Int) := by omega
        have g3 : wr.cell? ⟨N0, 3, none⟩ = some (.func (.func ge) #[ptr] #[]) := cell_of (HK.out _ _ _ HR.out) rfl
        have HC := Lib.hid (HE.out k wr hlt HF.out HI.out)
        have hst := HP.out
        rw [scanE_step hlt] at hst
        obtain ⟨z, hz⟩ : ∃ z, f k = z := ⟨_, rfl⟩
        rw [hz] at HC hst
        have HZ := Lib.hid hz
        by_cases h0 : z = 0
        · subst h0
          rw [if_pos rfl] at hst
          have HST := Lib.hid hst
          clear hst hz
          go_wp2_with (go_at_fn ge; refine HC.out.mono ?_; rintro e w2 ⟨rfl, hb2, hk2, hi2⟩; have HB2 := Lib.hid (HB.out.trans hb2); have HK2 := Lib.hid (HK.out.trans hk2); have HI2 := Lib.hid (by first | exact hi2 rfl | exact hi2 trivial | exact hi2); clear hb2 hk2 hi2 g3)
          exact ⟨⟨k + 1, by omega, by go_num, HST, Lib.hid (fun j hj => by
            by_cases e : j = k
            · rw [e]; exact HZ.out
            · exact HF.out j (by omega)), HI2, HB2, HK2⟩, by simp only [Go.RowKit.intOf]; omega⟩
        · rw [if_neg h0] at hst
          have h0i : ¬ ((z : Int) = 0) := by omega
          have HST : Hid (pr = (k, z)) := Lib.hid hst.symm
          have H0 := Lib.hid h0
          clear hst hz h0
          go_wp2_with (go_at_fn ge; refine HC.out.mono ?_; rintro e w2 ⟨rfl, hb2, hk2, hi2⟩; have HB2 := Lib.hid (HB.out.trans hb2); have HK2 := Lib.hid (HK.out.trans hk2); clear hb2 hk2 hi2 g3)
          go_ret2
          exact ⟨by rw [HST.out]; rfl, HB2.out, HKX.out.trans HK2.out, fun h => by rw [HST.out] at h; exact absurd h H0.out⟩
      · obtain rfl : k = n := by omega
        have hp : pr = (0, 0) := by rw [← HP.out, scanE_end (by omega)]
        have HPP := Lib.hid hp
        clear hp
        go_wp2_with fail
        go_ret2
        exact ⟨by rw [HPP.out]; rfl, HB.out, HKX.out.trans HK.out, fun _ => HI.out⟩
  · have HP : Hid (pr = (0, We)) := Lib.hid (by rw [← HPR.out]; unfold partE; rw [if_neg hz])
    have hzi : ¬ ((We : Int) = 0) := by omega
    have HZ := Lib.hid hz
    clear hz
    go_enter Tryz.func8, Tryz.ntmps8
    go_wp2_with fail
    rw [HX.out, HN0.out]
    go_wp2_with (go_at_fn gw; refine HW.out.mono ?_; rintro e w1 ⟨rfl, hb1, hk1, hi1⟩; have HB1 := Lib.hid (HBX.out.trans hb1); have HK1 := Lib.hid (HKX.out.trans hk1); clear hb1 hk1 hi1 g2)
    go_ret2
    exact ⟨by rw [HP.out]; rfl, HB1.out, HK1.out, fun h => by rw [HP.out] at h; exact absurd h HZ.out⟩
end Go.Proofs.YtmjmidgfdjcbfaaGreatDoor
