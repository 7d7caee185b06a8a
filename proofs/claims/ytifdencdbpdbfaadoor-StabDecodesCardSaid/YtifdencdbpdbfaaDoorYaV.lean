/-
  WALKS over package stab: valid, Build, Len; the reference's Check.
-/
import Derived.Test.YtifdencdbpdbfaaDoorYaU
namespace Go.Proofs.YtifdencdbpdbfaaDoor
open Go.RowKit Go.Shelf Go.Lib Go.Sort
set_option linter.unusedVariables false
set_option linter.unusedSimpArgs false

theorem rel_self (x : Sp) : (relZ x x != 0) = okS x := by
  cases h : okS x with
  | true =>
    have : relZ x x ≠ 0 := fun e => (rel_zero.1 e) ⟨h, h⟩
    simpa using this
  | false =>
    have : relZ x x = 0 := rel_zero.2 (fun e => by rw [h] at e; cases e.1)
    simp [this]
set_option maxHeartbeats 1000000 in
theorem validT_any (x : Sp) (w : World) : Calls Tryd.prog 26 #[.agg #[.int .i64 x.1, .int .i64 x.2]] w (BoolV w (okS x)) := by
  have hr := fun W => relation_any x x W
  have hz := rel_self x
  obtain ⟨z, hzz⟩ : ∃ z, relZ x x = z := ⟨_, rfl⟩
  rw [hzz] at hr hz
  obtain ⟨q, hq⟩ : ∃ q, okS x = q := ⟨_, rfl⟩
  rw [hq] at hz ⊢
  obtain ⟨b, e⟩ := x
  simp only at hr
  obtain ⟨N, hN⟩ : ∃ N, w.heap.size = N := ⟨_, rfl⟩
  have hb0 := below_box w (.cells #[.int .i64 b, .int .i64 e] 24)
  have HB0 := Lib.hid hb0
  have HR := Lib.hid hr
  unfold BoolV
  clear hr hzz hq hb0 hN
  go_enter Tryd.func26, Tryd.ntmps26
  go_wp2_with fail
  refine (HR.out _).mono ?_
  rintro e w2 ⟨rfl, hb2⟩
  have HB2 := Lib.hid (HB0.out.trans (hb2.mono HB0.out.size))
  clear hb2
  go_wp2_with fail
  go_ret
  exact ⟨rfl, HB2.out⟩
/-- The index of a list, in block B. -/
def IdxAt (W : World) (B : Nat) (l : List Sp) : Prop :=
  l.length ≤ 4096 ∧ ∃ v g, W.heap[B]? = some (.cells #[v, .slice (some ⟨g, 0, none⟩) l.length l.length] 53 (0, 0)) ∧ Rows 2 ESp W v l ∧ TreeAt W g l
theorem IdxAt.below {W W' : World} {B : Nat} {l : List Sp} (h : IdxAt W B l) (hb : Below W.heap.size W W') : IdxAt W' B l := by
  obtain ⟨h0, v, g, h1, h2, h3⟩ := h
  exact ⟨h0, v, g, block_below h1 hb (Array.getElem?_eq_some_iff.1 h1).1, h2.below stays_sp hb, h3.below hb h3.lt⟩
/-- What Build hands over: the index, or nil. -/
def PtrAt (W : World) (l : List Sp) (p : Value) : Prop := (chkT l = 0 ∧ ∃ B, p = .pointer (some ⟨B, 0, none⟩) ∧ IdxAt W B l) ∨ (chkT l ≠ 0 ∧ p = .pointer none)
theorem PtrAt.below {W W' : World} {l : List Sp} {p : Value} (h : PtrAt W l p) (hb : Below W.heap.size W W') : PtrAt W' l p := by
  rcases h with ⟨h1, B, h2, h3⟩ | h
  · exact .inl ⟨h1, B, h2, h3.below hb⟩
  · exact .inr h
def BuildV (w : World) (l : List Sp) (e : Ending) (w' : World) : Prop := (∃ p, e = .returned (.tuple #[p, .int .i64 (chkT l)]) ∧ PtrAt w' l p) ∧ Below w.heap.size w w'
theorem chkT_long {l : List Sp} (h : 4096 < l.length) : chkT l = 2 := by unfold chkT; rw [if_pos h]
theorem chkT_bad {l : List Sp} {k : Nat} {x : Sp} (h : ¬ 4096 < l.length) (hx : l[k]? = some x) (hk : okT x = false) : chkT l = 8 := by
  unfold chkT
  rw [if_neg h, if_neg]
  intro ha
  have := List.all_eq_true.1 ha x (List.mem_of_getElem? hx)
  rw [hk] at this
  cases this
theorem chkT_good {l : List Sp} (h : ¬ 4096 < l.length) (hk : ∀ (j : Nat) (y : Sp), j < l.length → l[j]? = some y → okT y = true) : chkT l = 0 := by
  unfold chkT
  rw [if_neg h, if_pos]
  refine List.all_eq_true.2 fun x hx => ?_
  obtain ⟨j, hj⟩ := List.getElem?_of_mem hx
  exact hk j x (List.getElem?_eq_some_iff.1 hj).1 hj

set_option maxRecDepth 100000 in
set_option maxHeartbeats 8000000 in
theorem build_any {w : World} {v : Value} {l : List Sp} (hv : Rows 2 ESp w v l) : Calls Tryd.prog 15 #[v] w (BuildV w l) := by
  have HV := Lib.hid (fun W (h : Below w.heap.size w W) => hv.below stays_sp h)
  obtain ⟨A, cap, rfl, hc⟩ := hv.form
  obtain ⟨n, hn⟩ : ∃ n, l.length = n := ⟨_, rfl⟩
  rw [hn] at hc HV ⊢
  have HN := Lib.hid hn
  obtain ⟨N0, hN0⟩ : ∃ N, w.heap.size = N := ⟨_, rfl⟩
  rw [hN0] at HV
  have HN0 := Lib.hid hN0
  clear hv hn hN0
  by_cases hlong : 4096 < n
  · have HE : Hid (∀ p W, p = .pointer none → Below N0 w W → BuildV w l (.returned (.tuple #[p, .int .i64 2])) W) := Lib.hid (fun p W hp hb => by
      have hr : chkT l = 2 := chkT_long (by rw [HN.out]; exact hlong)
      exact ⟨⟨p, by rw [hr], .inr ⟨by rw [hr]; decide, hp⟩⟩, by rw [HN0.out]; exact hb⟩)
    go_enter Tryd.func15, Tryd.ntmps15
    go_wp2_with fail
    go_ret2
    exact HE.out _ _ rfl (Below.refl _ _)
  · have HE : Hid (∀ (k : Nat) (x : Sp) p W, l[k]? = some x → okT x = false → p = .pointer none → Below N0 w W → BuildV w l (.returned (.tuple #[p, .int .i64 8])) W) := Lib.hid (fun k x p W hx hk hp hb => by
      have hr : chkT l = 8 := chkT_bad (by rw [HN.out]; exact hlong) hx hk
      exact ⟨⟨p, by rw [hr], .inr ⟨by rw [hr]; decide, hp⟩⟩, by rw [HN0.out]; exact hb⟩)
    go_enter Tryd.func15, Tryd.ntmps15
    go_wp2_with fail
    go_loopw [11] (fun i wr => ∃ k : Nat, k ≤ n ∧ i = .int .i64 k ∧ Hid (∀ (j : Nat) (y : Sp), j < k → l[j]? = some y → okT y = true) ∧ Hid (Below N0 w wr)) (fun i _ => n - (Go.RowKit.intOf i).toNat)
    case atStart => exact ⟨0, Nat.zero_le _, rfl, Lib.hid (fun j y h => absurd h (by omega)), Lib.hid (Below.refl _ _)⟩
    case round =>
      obtain ⟨k, hk, rfl, HS, HB⟩ := hrel
      by_cases hlt : k < n
      · obtain ⟨x, hx⟩ : ∃ x, l[k]? = some x := ⟨_, List.getElem?_eq_getElem (by rw [HN.out]; omega)⟩
        obtain ⟨bk, off, rfl, hbl, hj⟩ := at_sp (HV.out wr HB.out) (by rw [HN.out]; omega)
        obtain ⟨c0, c1⟩ := hj k x hx
        have hvd := fun W => validT_any x W
        obtain ⟨q, hq⟩ : ∃ q, okS x = q := ⟨_, rfl⟩
        rw [hq] at hvd
        have HT : Hid (okT x = (q && decide (x.2 ≤ 2147483647))) := Lib.hid (by unfold okT; rw [hq])
        obtain ⟨x1, x2⟩ := x
        simp only at c0 c1 hvd
        have HVD := Lib.hid hvd
        have HX := Lib.hid hx
        obtain ⟨WB, hWB⟩ : ∃ X, wr.alloc (.cells #[.int .i64 x1, .int .i64 x2] 24) = X := ⟨_, rfl⟩
        obtain ⟨Nx, hNx⟩ : ∃ N, wr.heap.size = N := ⟨_, rfl⟩
        have hbx : WB.heap[Nx]? = some (.cells #[.int .i64 x1, .int .i64 x2] 24 (0, 0)) := by rw [← hWB, ← hNx]; exact block_new _ _
        have hN0x : N0 ≤ Nx := by rw [← hNx, ← HN0.out]; exact HB.out.size
        have hbW : Below Nx wr WB := by rw [← hWB, ← hNx]; exact below_box _ _
        have d0 := cell_of (i := 0) hbx rfl
        have d1 := cell_of (i := 1) hbx rfl
        have HD := Lib.hid (fun W (h : Below WB.heap.size WB W) => show W.cell? ⟨Nx, 1, none⟩ = some (.int .i64 x2) from (h.cell (p := ⟨Nx, 1, none⟩) (Array.getElem?_eq_some_iff.1 hbx).1).trans (cell_of (i := 1) hbx rfl))
        have HBW := Lib.hid (HB.out.trans (hbW.mono hN0x))
        have hsz : N0 ≤ WB.heap.size := by rw [← hWB, alloc_sz, hNx]; omega
        have HSZ := Lib.hid hsz
        have HWB := Lib.hid hWB
        have HNx := Lib.hid hNx
        have hlti : (k : Int) < (n : Int) := by omega
        clear hvd hx hq hj hbl hWB hNx hbx hN0x hbW HB hsz
        cases q with
        | true =>
          by_cases hx2 : 2147483647 < x2
          · have HBAD : Hid (okT (x1, x2) = false) := Lib.hid (by rw [HT.out]; simp; omega)
            go_upto_region 6 with fail
            rw [HWB.out, HNx.out]
            clear c0 c1
            go_wp2_with fail
            refine (HVD.out _).mono ?_
            rintro e w2 ⟨rfl, hb2⟩
            have d2 := HD.out w2 hb2
            have HB2 := Lib.hid (HBW.out.trans (hb2.mono HSZ.out))
            clear hb2 d0 d1
            go_wp2_with fail
            go_ret2
            exact HE.out _ _ _ _ HX.out HBAD.out rfl HB2.out
          · have HGOOD : Hid (okT (x1, x2) = true) := Lib.hid (by rw [HT.out]; simp; omega)
            go_upto_region 6 with fail
            rw [HWB.out, HNx.out]
            clear c0 c1
            go_wp2_with fail
            refine (HVD.out _).mono ?_
            rintro e w2 ⟨rfl, hb2⟩
            have d2 := HD.out w2 hb2
            have HB2 := Lib.hid (HBW.out.trans (hb2.mono HSZ.out))
            clear hb2 d0 d1
            go_wp2_with fail
            refine ⟨⟨k + 1, by omega, by go_num, Lib.hid (fun j y hj hy => ?_), HB2⟩, by simp only [Go.RowKit.intOf]; omega⟩
            by_cases e : j = k
            · subst e
              rw [HX.out] at hy
              cases hy
              exact HGOOD.out
            · exact HS.out j y (by omega) hy
        | false =>
          have HBAD : Hid (okT (x1, x2) = false) := Lib.hid (by rw [HT.out]; rfl)
          go_upto_region 6 with fail
          rw [HWB.out, HNx.out]
          clear c0 c1
          go_wp2_with fail
          refine (HVD.out _).mono ?_
          rintro e w2 ⟨rfl, hb2⟩
          have HB2 := Lib.hid (HBW.out.trans (hb2.mono HSZ.out))
          clear hb2
          go_wp2_with fail
          go_ret2
          exact HE.out _ _ _ _ HX.out HBAD.out rfl HB2.out
      · obtain rfl : k = n := by omega
        have HR : Hid (chkT l = 0) := Lib.hid (chkT_good (by rw [HN.out]; exact hlong) (by rw [HN.out]; exact HS.out))
        have HCL := Lib.hid (cloneSp_any (HV.out wr HB.out) (by rw [HN.out]; omega))
        have HPL := Lib.hid (fun W (h : Below wr.heap.size wr W) => plant_any (HV.out W (HB.out.trans (h.mono (by rw [← HN0.out]; exact HB.out.size)))) (by rw [HN.out]; omega))
        rw [HN.out] at HPL
        clear HS HE
        go_wp2_with fail
        refine HCL.out.mono ?_
        rintro e w1 ⟨cv, rfl, hown, hb1⟩
        have HCV := Lib.hid (fun W (h : Below w1.heap.size w1 W) => (own_sp hown).below stays_sp h)
        have HB1 := Lib.hid hb1
        obtain ⟨Ac, cc, rfl, -⟩ := (own_sp hown).form
        clear hown hb1
        go_wp2_with fail
        refine (HPL.out w1 HB1.out).mono ?_
        rintro e w2 ⟨g, rfl, hg, htr, hb2⟩
        have HT := Lib.hid htr
        have HB2 := Lib.hid hb2
        clear htr hb2 hg
        go_wp2_with fail
        go_ret2
        have hbE := below_box w2 (.cells #[.slice Ac l.length cc, .slice (some ⟨g, 0, none⟩) k k] 53)
        refine ⟨⟨.pointer (some ⟨w2.heap.size, 0, none⟩), by rw [HR.out]; rfl, .inl ⟨HR.out, w2.heap.size, rfl, by rw [HN.out]; omega, _, g, by rw [HN.out]; exact block_new _ _, ?_, HT.out.below hbE HT.out.lt⟩⟩, ?_⟩
        · have := (HCV.out w2 HB2.out).below stays_sp hbE
          rw [HN.out] at this ⊢
          exact this
        · rw [HN0.out]
          have e0 : N0 ≤ wr.heap.size := by rw [← HN0.out]; exact HB.out.size
          have e1 : N0 ≤ w1.heap.size := Nat.le_trans e0 HB1.out.size
          exact ((HB.out.trans (HB1.out.mono e0)).trans (HB2.out.mono e1)).trans (hbE.mono (Nat.le_trans e1 HB2.out.size))

def LenV (w : World) (n : Nat) (e : Ending) (w' : World) : Prop := e = .returned (.int .i64 n) ∧ w' = w
set_option maxHeartbeats 1000000 in
theorem lenT_any {w : World} {B : Nat} {l : List Sp} (h : IdxAt w B l) : Calls Tryd.prog 10 #[.pointer (some ⟨B, 0, none⟩)] w (LenV w l.length) := by
  obtain ⟨h0, v, g, h1, h2, h3⟩ := h
  obtain ⟨A, cap, rfl, hc⟩ := h2.form
  have c0 := cell_of (i := 0) h1 rfl
  obtain ⟨n, hn⟩ : ∃ n, l.length = n := ⟨_, rfl⟩
  rw [hn] at c0 ⊢
  clear h0 h1 h2 h3 hc hn
  go_enter Tryd.func10, Tryd.ntmps10
  go_wp2_with fail
  go_ret
  exact ⟨rfl, rfl⟩
end Go.Proofs.YtifdencdbpdbfaaDoor
