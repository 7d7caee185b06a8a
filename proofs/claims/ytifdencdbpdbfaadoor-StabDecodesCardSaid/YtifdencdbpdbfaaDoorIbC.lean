/-
  WALKS over package interval and its reference: check, Check.
-/
import Derived.Test.YtifdencdbpdbfaaDoorIbA
import Derived.Deep.LoopGhost
import Derived.Deep.DeepCutAuto
import Derived.Deep.CutRange
import Derived.Deep.RegionHeld3
import Derived.Deep.DrawnRows
import Derived.RegionTactic
namespace Go.Proofs.YtifdencdbpdbfaaDoor
open Go.RowKit Go.Shelf Go.Lib
set_option linter.unusedVariables false
set_option linter.unusedSimpArgs false

/-- A list of spans as an element of a list. -/
def ESl (w : World) (cs : List Value) (l : List Sp) : Prop := ∃ v, cs = [v] ∧ Rows 2 ESp w v l
theorem stays_sl : Stays ESl := fun _ _ _ _ hb ⟨v, h1, h2⟩ => ⟨v, h1, h2.below stays_sp hb⟩
theorem at_sl {w : World} {A : Option Addr} {n cap : Nat} {xs : List (List Sp)} (h : Rows 1 ESl w (.slice A n cap) xs) (h0 : 0 < xs.length) :
    ∃ b off, A = some ⟨b, off, none⟩ ∧ b < w.heap.size ∧ ∀ (j : Nat) (x : List Sp), xs[j]? = some x → ∃ v, w.cell? ⟨b, off + j, none⟩ = some v ∧ Rows 2 ESp w v x := by
  obtain ⟨b, off, hA, hb, hj⟩ := h.at' h0
  refine ⟨b, off, hA, hb, fun j x hx => ?_⟩
  obtain ⟨cs, _, ⟨v, rfl, hv⟩, h3⟩ := hj j x hx
  have := h3 0 _ rfl
  rw [Nat.mul_one, Nat.add_zero] at this
  exact ⟨v, this, hv⟩
theorem chk_long {l : List Sp} (h : 4096 < l.length) : chkS l = 2 := by unfold chkS; rw [if_pos h]
theorem chk_bad {l : List Sp} {k : Nat} {x : Sp} (h : ¬ 4096 < l.length) (hx : l[k]? = some x) (hk : okS x = false) : chkS l = 8 := by
  unfold chkS
  rw [if_neg h, if_neg]
  intro ha
  have := List.all_eq_true.1 ha x (List.mem_of_getElem? hx)
  rw [hk] at this
  cases this
theorem chk_good {l : List Sp} (h : ¬ 4096 < l.length) (hk : ∀ (j : Nat) (y : Sp), j < l.length → l[j]? = some y → okS y = true) : chkS l = 0 := by
  unfold chkS
  rw [if_neg h, if_pos]
  refine List.all_eq_true.2 fun x hx => ?_
  obtain ⟨j, hj, rfl⟩ := List.getElem_of_mem hx
  exact hk j _ hj (List.getElem?_eq_getElem hj)
theorem chkSS_step {ls : List (List Sp)} {k : Nat} {l : List Sp} (h : ls[k]? = some l) : chkSS (ls.drop k) = if chkS l = 0 then chkSS (ls.drop (k + 1)) else chkS l := by
  obtain ⟨hk, rfl⟩ := List.getElem?_eq_some_iff.1 h
  rw [List.drop_eq_getElem_cons hk, chkSS]

set_option maxRecDepth 100000 in
set_option maxHeartbeats 8000000 in
theorem refCheck_any {w : World} {v : Value} {l : List Sp} (hv : Rows 2 ESp w v l) :
    Calls Tryd.prog 33 #[v] w (IntV w (chkS l)) := by
  obtain ⟨A, cap, rfl, hc⟩ := hv.form
  have HV := Lib.hid (fun W (h : Below w.heap.size w W) => hv.below stays_sp h)
  obtain ⟨n, hn⟩ : ∃ n, l.length = n := ⟨_, rfl⟩
  rw [hn] at hc HV ⊢
  have HN := Lib.hid hn
  obtain ⟨r, hr⟩ : ∃ r, chkS l = r := ⟨_, rfl⟩
  rw [hr]
  have HR := Lib.hid hr
  obtain ⟨N0, hN0⟩ : ∃ N, w.heap.size = N := ⟨_, rfl⟩
  unfold IntV
  rw [hN0] at HV ⊢
  have HN0 := Lib.hid hN0
  clear hv hn hr hN0
  by_cases hlong : 4096 < n
  · obtain rfl : r = 2 := by rw [← HR.out]; exact chk_long (by rw [HN.out]; exact hlong)
    go_enter Tryd.func33, Tryd.ntmps33
    go_wp2_with fail
    go_ret
    exact ⟨rfl, Below.refl _ _⟩
  · go_enter Tryd.func33, Tryd.ntmps33
    go_wp2_with fail
    go_loopw [10] (fun i wr => ∃ k : Nat, k ≤ n ∧ i = .int .i64 k ∧ Hid (∀ (j : Nat) (y : Sp), j < k → l[j]? = some y → okS y = true) ∧ Hid (Below N0 w wr)) (fun i _ => n - (Go.RowKit.intOf i).toNat)
    case atStart => exact ⟨0, Nat.zero_le _, rfl, Lib.hid (fun j y h => absurd h (by omega)), Lib.hid (Below.refl _ _)⟩
    case round =>
      obtain ⟨k, hk, rfl, HS, HB⟩ := hrel
      by_cases hlt : k < n
      · obtain ⟨x, hx⟩ : ∃ x, l[k]? = some x := ⟨_, List.getElem?_eq_getElem (by rw [HN.out]; omega)⟩
        obtain ⟨bk, off, rfl, hbl, hj⟩ := at_sp (HV.out wr HB.out) (by rw [HN.out]; omega)
        obtain ⟨c0, c1⟩ := hj k x hx
        have hvd := fun W => refValid_any x W
        obtain ⟨q, hq⟩ : ∃ q, okS x = q := ⟨_, rfl⟩
        rw [hq] at hvd
        obtain ⟨x1, x2⟩ := x
        simp only at c0 c1 hvd
        have HVD := Lib.hid hvd
        have HX := Lib.hid hx
        have HQ := Lib.hid hq
        obtain ⟨WB, hWB⟩ : ∃ X, wr.alloc (.cells #[.int .i64 x1, .int .i64 x2] 24) = X := ⟨_, rfl⟩
        obtain ⟨Nx, hNx⟩ : ∃ N, wr.heap.size = N := ⟨_, rfl⟩
        have hbx : WB.heap[Nx]? = some (.cells #[.int .i64 x1, .int .i64 x2] 24 (0, 0)) := by rw [← hWB, ← hNx]; exact block_new _ _
        have hN0x : N0 ≤ Nx := by rw [← hNx, ← HN0.out]; exact HB.out.size
        have hbW : Below Nx wr WB := by rw [← hWB, ← hNx]; exact below_box _ _
        have d0 := cell_of (i := 0) hbx rfl
        have d1 := cell_of (i := 1) hbx rfl
        have HBW := Lib.hid (HB.out.trans (hbW.mono hN0x))
        have hsz : N0 ≤ WB.heap.size := by rw [← hWB, alloc_sz, hNx]; omega
        have HWB := Lib.hid hWB
        have HNx := Lib.hid hNx
        have hlti : (k : Int) < (n : Int) := by omega
        clear hvd hx hq hj hbl hWB hNx hbx hN0x hbW HB
        cases q with
        | true =>
          go_upto_region 6 with fail
          rw [HWB.out, HNx.out]
          clear c0 c1
          go_wp2_with fail
          refine (HVD.out _).mono ?_
          rintro e w2 ⟨rfl, hb2⟩
          have HB2 := Lib.hid (HBW.out.trans (hb2.mono hsz))
          clear hb2
          go_wp2_with fail
          refine ⟨⟨k + 1, by omega, by go_num, Lib.hid (fun j y hj hy => ?_), HB2⟩, by simp only [Go.RowKit.intOf]; omega⟩
          by_cases e : j = k
          · subst e
            rw [HX.out] at hy
            cases hy
            exact HQ.out
          · exact HS.out j y (by omega) hy
        | false =>
          obtain rfl : r = 8 := by rw [← HR.out]; exact chk_bad (by rw [HN.out]; exact hlong) HX.out HQ.out
          go_upto_region 6 with fail
          rw [HWB.out, HNx.out]
          clear c0 c1
          go_wp2_with fail
          refine (HVD.out _).mono ?_
          rintro e w2 ⟨rfl, hb2⟩
          have HB2 := Lib.hid (HBW.out.trans (hb2.mono hsz))
          clear hb2
          go_wp2_with fail
          go_ret
          exact ⟨rfl, HB2.out⟩
      · obtain rfl : k = n := by omega
        obtain rfl : r = 0 := by rw [← HR.out]; exact chk_good (by rw [HN.out]; exact hlong) (by rw [HN.out]; exact HS.out)
        clear HS
        go_wp2_with fail
        go_ret
        exact ⟨rfl, HB.out⟩

end Go.Proofs.YtifdencdbpdbfaaDoor
