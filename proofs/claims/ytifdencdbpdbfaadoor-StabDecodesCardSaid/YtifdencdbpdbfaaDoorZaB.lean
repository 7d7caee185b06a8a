/-
  WALKS over the statements of package stab: SameInts, example, built, awake.
-/
import Derived.Test.YtifdencdbpdbfaaDoorZaA
namespace Go.Proofs.YtifdencdbpdbfaaDoor
open Go.RowKit Go.Shelf Go.Lib Go.Sort
set_option linter.unusedVariables false
set_option linter.unusedSimpArgs false

theorem block_rows {W : World} {B n : Nat} {cs : Array Value} (xs : List Int) (h : W.heap[B]? = some (.cells cs 3 (0, 0))) (hc : cs.toList = xs.map fun x => Value.int .i64 x) (hn : xs.length = n) (hm : n ≤ maxLen) : Rows 1 EInt W (.slice (some ⟨B, 0, none⟩) n n) xs := by
  subst hn
  refine own_rows (base := 0) ⟨by simp, .inr ⟨B, xs.length, cs, rfl, Nat.zero_le _, h, Nat.le_refl _, hm, ?_, ?_⟩⟩
  · rw [← Array.length_toList, hc]; simp
  · rw [hc, List.take_of_length_le (by simp)]

set_option maxRecDepth 100000 in
set_option maxHeartbeats 4000000 in
theorem sameInts_any {w : World} {v u : Value} {h g : List Int} (hv : Rows 1 EInt w v h) (hu : Rows 1 EInt w u g) (hl : h.length ≤ maxLen) (hl2 : g.length ≤ maxLen) :
    Calls Tryd.prog 11 #[v, u] w fun e w' => e = .returned (.bool (decide (h = g))) ∧ Below w.heap.size w w' := by
  obtain ⟨A, cap, rfl, hc⟩ := hv.form
  obtain ⟨A2, cap2, rfl, hc2⟩ := hu.form
  obtain ⟨n, hn⟩ : ∃ n, h.length = n := ⟨_, rfl⟩
  obtain ⟨n2, hn2⟩ : ∃ n, g.length = n := ⟨_, rfl⟩
  obtain ⟨q, hq⟩ : ∃ q, decide (h = g) = q := ⟨_, rfl⟩
  have hqq : q = true ↔ h = g := by rw [← hq, decide_eq_true_iff]
  rw [hq]
  have HV := Lib.hid (fun W (hb : Below w.heap.size w W) => hv.below stays_int hb)
  have HU := Lib.hid (fun W (hb : Below w.heap.size w W) => hu.below stays_int hb)
  have HQ := Lib.hid hqq
  rw [hn] at hc hl HV ⊢
  rw [hn2] at hc2 hl2 HU ⊢
  unfold maxLen at hl hl2
  have HN := Lib.hid hn
  have HN2 := Lib.hid hn2
  clear hv hu hn hn2 hq hqq
  by_cases hnn : n = n2
  · subst hnn
    go_enter Tryd.func11, Tryd.ntmps11
    go_wp2_with fail
    go_loopw [13] (fun m wr => ∃ k : Nat, k ≤ n ∧ m = .int .i64 k ∧ Hid (∀ (j : Nat), j < k → h[j]? = g[j]?) ∧ Below w.heap.size w wr) (fun m _ => n - (Go.RowKit.intOf m).toNat)
    case atStart => exact ⟨0, Nat.zero_le _, rfl, Lib.hid (fun j h => absurd h (by omega)), Below.refl _ _⟩
    case round =>
      obtain ⟨k, hk, rfl, hno, hb⟩ := hrel
      by_cases hlt : k < n
      · obtain ⟨x, hx⟩ : ∃ x, h[k]? = some x := ⟨_, List.getElem?_eq_getElem (by rw [HN.out]; exact hlt)⟩
        obtain ⟨y, hy⟩ : ∃ x, g[k]? = some x := ⟨_, List.getElem?_eq_getElem (by rw [HN2.out]; exact hlt)⟩
        obtain ⟨b1, o1, rfl, -, hj1⟩ := at_int (HV.out wr hb) (by rw [HN.out]; omega)
        obtain ⟨b2, o2, rfl, -, hj2⟩ := at_int (HU.out wr hb) (by rw [HN2.out]; omega)
        have u0 := hj1 k x hx
        have u1 := hj2 k y hy
        have HB := Lib.hid hb
        have HX := Lib.hid hx
        have HY := Lib.hid hy
        have k0 : (0 : Int) ≤ (k : Int) := by omega
        have kn : (k : Int) < (n : Int) := by omega
        clear hj1 hj2 hx hy hb
        go_wp2_with fail
        go_quiet (fail)
        obtain ⟨w3, hw3⟩ : ∃ X, wr.drewN nq = X := ⟨_, rfl⟩
        rw [hw3]
        have HB3 := Lib.hid (show Below w.heap.size w w3 by rw [← hw3]; exact below_drewN HB.out nq)
        clear hw3
        by_cases hxy : x = y
        · subst hxy
          have hno' : Hid (∀ (j : Nat), j < k + 1 → h[j]? = g[j]?) := Lib.hid fun j hj => by
            by_cases e : j = k
            · subst e; rw [HX.out, HY.out]
            · exact hno.out j (by omega)
          have hxb : (x != x) = false := by simp
          go_wp2_with fail
          exact ⟨⟨k + 1, by omega, by go_num, hno', HB3.out⟩, by simp only [Go.RowKit.intOf]; omega⟩
        · have hqf : q = false := by
            rw [← Bool.not_eq_true]
            intro hq
            have := HQ.out.1 hq
            subst this
            rw [HX.out] at HY
            exact hxy (Option.some.inj HY.out)
          subst hqf
          have hxb : (x != y) = true := by simp [hxy]
          go_wp2_with fail
          go_ret
          exact ⟨rfl, HB3.out⟩
      · obtain rfl : k = n := by omega
        have hqt : q = true := HQ.out.2 (List.ext_getElem? fun j => by
          by_cases hj : j < k
          · exact hno.out j hj
          · rw [List.getElem?_eq_none (by rw [HN.out]; omega), List.getElem?_eq_none (by rw [HN2.out]; omega)])
        subst hqt
        have HB := Lib.hid hb
        clear hb
        go_wp2_with fail
        go_ret
        exact ⟨rfl, HB.out⟩
  · have hqf : q = false := by
      rw [← Bool.not_eq_true]
      intro hq
      have := HQ.out.1 hq
      exact hnn (by rw [← HN.out, ← HN2.out, this])
    subst hqf
    have hb : ((n : Int) != (n2 : Int)) = true := by simp; omega
    go_enter Tryd.func11, Tryd.ntmps11
    go_wp2_with fail
    go_ret
    exact ⟨rfl, Below.refl _ _⟩


def exL : List Sp := [(0, 5), (2, 3), (2, 8)]
theorem ex_chk : chkT exL = 0 := by decide +kernel
theorem ex_all : ∀ x ∈ exL, okS x = true := by decide +kernel
theorem ex_stab : idxs (stabP 2) exL = [0, 1, 2] := by decide +kernel
theorem ex_over : askL (fun t => ovB t (5, 6)) (5, 6) exL = [2] := by decide +kernel
def ExV (w : World) (e : Ending) (w' : World) : Prop := (∃ v, e = .returned v ∧ Rows 2 ESp w' v exL) ∧ Below w.heap.size w w'
set_option maxHeartbeats 1000000 in
theorem example_any (w : World) : Calls Tryd.prog 17 #[] w (ExV w) := by
  have hb := block_new w (.cells #[.int .i64 0, .int .i64 5, .int .i64 2, .int .i64 3, .int .i64 2, .int .i64 8] 24)
  have hr := rows_sp (W := w.alloc (.cells #[.int .i64 0, .int .i64 5, .int .i64 2, .int .i64 3, .int .i64 2, .int .i64 8] 24)) (b := w.heap.size) (n := 3) (cap := 3) (l := exL) (t := 24) (f := (0, 0)) rfl (Nat.le_refl _) hb
  have HR := Lib.hid hr
  clear hb hr
  go_enter Tryd.func17, Tryd.ntmps17
  go_wp2_with fail
  go_ret
  exact ⟨⟨_, rfl, HR.out⟩, below_box _ _⟩
def BuiltV (w : World) (l : List Sp) (e : Ending) (w' : World) : Prop := (∃ p, e = .returned (.tuple #[p, .bool true]) ∧ PtrAt w' l p) ∧ Below w.heap.size w w'
set_option maxRecDepth 100000 in
set_option maxHeartbeats 2000000 in
theorem built_any {w : World} {v : Value} {l : List Sp} (hv : Rows 2 ESp w v l) : Calls Tryd.prog 5 #[v] w (BuiltV w l) := by
  have hbd := build_any hv
  have hck := fun W (h : Below w.heap.size w W) => refCheckT_any (hv.below stays_sp h)
  obtain ⟨A, cap, rfl, hc⟩ := hv.form
  obtain ⟨n, hn⟩ : ∃ n, l.length = n := ⟨_, rfl⟩
  rw [hn] at hbd hck ⊢
  unfold BuildV at hbd
  unfold IntV at hck
  have HBD := Lib.hid hbd
  have HCK := Lib.hid hck
  clear hbd hck hv hc hn
  go_enter Tryd.func5, Tryd.ntmps5
  go_wp2_with fail
  refine HBD.out.mono ?_
  rintro e w1 ⟨⟨p, rfl, hp⟩, hb1⟩
  have HP := Lib.hid hp
  have HB1 := Lib.hid hb1
  obtain ⟨c, hc⟩ : ∃ c, chkT l = c := ⟨_, rfl⟩
  have HC1 := Lib.hid (HCK.out w1 hb1)
  rw [hc] at HC1 ⊢
  clear hb1
  rcases hp with ⟨h0, B, rfl, hI⟩ | ⟨h0, rfl⟩
  · rw [hc] at h0
    subst h0
    clear hI
    go_wp2_with fail
    refine HC1.out.mono ?_
    rintro e w2 ⟨rfl, hb2⟩
    have HB2 := Lib.hid (HB1.out.trans (hb2.mono HB1.out.size))
    have HP2 := Lib.hid (HP.out.below hb2)
    clear hb2
    go_wp2_with fail
    go_ret2
    exact ⟨⟨_, rfl, HP2.out⟩, HB2.out⟩
  · rw [hc] at h0
    have hcb : (c == 0) = false := by simp [h0]
    go_wp2_with fail
    refine HC1.out.mono ?_
    rintro e w2 ⟨rfl, hb2⟩
    have HB2 := Lib.hid (HB1.out.trans (hb2.mono HB1.out.size))
    have HP2 := Lib.hid (HP.out.below hb2)
    clear hb2
    go_wp2_with fail
    go_ret2
    exact ⟨⟨_, rfl, HP2.out⟩, HB2.out⟩

set_option maxRecDepth 100000 in
set_option maxHeartbeats 4000000 in
theorem awakeT_any (w : World) : Calls Tryd.prog 6 #[] w (BoolV w true) := by
  have HE := Lib.hid (example_any w)
  unfold ExV at HE
  go_enter Tryd.func6, Tryd.ntmps6
  go_wp2_with fail
  refine HE.out.mono ?_
  rintro e w1 ⟨⟨v, rfl, hr1⟩, hb1⟩
  have HB1 := Lib.hid hb1
  have HBD := Lib.hid (build_any hr1)
  unfold BuildV at HBD
  obtain ⟨A, cap, rfl, hc⟩ := hr1.form
  clear hr1 hb1 hc
  go_wp2_with fail
  refine HBD.out.mono ?_
  rintro e w2 ⟨⟨p, rfl, hp⟩, hb2⟩
  have HB2 := Lib.hid (HB1.out.trans (hb2.mono HB1.out.size))
  rw [ex_chk]
  rcases hp with ⟨h0, B, rfl, hI⟩ | ⟨h0, rfl⟩
  · have HI := Lib.hid hI
    have HL := Lib.hid (lenT_any hI)
    have HS := Lib.hid (fun W (h : Below w2.heap.size w2 W) => stab_any (hI.below h) 2)
    have HO := Lib.hid (fun W (h : Below w2.heap.size w2 W) => overlap_any (hI.below h) (5, 6) (by omega))
    rw [ex_stab] at HS
    rw [ex_over] at HO
    unfold spA at HO
    simp only at HO
    clear hI h0 hb2
    go_wp2_with fail
    refine HL.out.mono ?_
    rintro e w3 ⟨rfl, rfl⟩
    rw [show ((exL.length : Nat) : Int) = 3 from rfl]
    go_wp2_with fail
    refine (HS.out w3 (Below.refl _ _)).mono ?_
    rintro e w4 ⟨⟨v4, rfl, hr4⟩, hb4⟩
    have hq4 := block_new w4 (.cells #[.int .i64 0, .int .i64 1, .int .i64 2] 3)
    have hu4 := block_rows (n := 3) [0, 1, 2] hq4 rfl rfl (by unfold maxLen; omega)
    have hb5 := below_box w4 (.cells #[.int .i64 0, .int .i64 1, .int .i64 2] 3)
    have HSM := Lib.hid (sameInts_any (hr4.below stays_int hb5) hu4 (by unfold maxLen; decide) (by unfold maxLen; decide))
    have HB5 := Lib.hid (hb4.trans (hb5.mono hb4.size))
    obtain ⟨A4, cap4, rfl, hc4⟩ := hr4.form
    rw [show decide (([0, 1, 2] : List Int) = [0, 1, 2]) = true by decide] at HSM
    clear hr4 hb4 hq4 hu4 hb5 hc4 HS
    go_wp2_with fail
    refine HSM.out.mono ?_
    rintro e w6 ⟨rfl, hb6⟩
    have HB6 := Lib.hid (HB5.out.trans (hb6.mono HB5.out.size))
    clear hb6 HSM
    go_wp2_with fail
    refine (HO.out w6 HB6.out).mono ?_
    rintro e w7 ⟨⟨v7, rfl, hr7⟩, hb7⟩
    have hq7 := block_new w7 (.cells #[.int .i64 2] 3)
    have hu7 := block_rows (n := 1) [2] hq7 rfl rfl (by unfold maxLen; omega)
    have hb8 := below_box w7 (.cells #[.int .i64 2] 3)
    have HSM2 := Lib.hid (sameInts_any (hr7.below stays_int hb8) hu7 (by unfold maxLen; decide) (by unfold maxLen; decide))
    have HB8 := Lib.hid (HB6.out.trans ((hb7.trans (hb8.mono hb7.size)).mono HB6.out.size))
    obtain ⟨A7, cap7, rfl, hc7⟩ := hr7.form
    rw [show decide (([2] : List Int) = [2]) = true by decide] at HSM2
    clear hr7 hb7 hq7 hu7 hb8 hc7 HO
    go_wp2_with fail
    refine HSM2.out.mono ?_
    rintro e w9 ⟨rfl, hb9⟩
    have HB9 := Lib.hid ((HB2.out.trans (HB8.out.mono HB2.out.size)).trans (hb9.mono (Nat.le_trans HB2.out.size HB8.out.size)))
    clear hb9 HSM2
    go_wp2_with fail
    go_ret
    exact ⟨rfl, HB9.out⟩
  · exact absurd ex_chk h0
end Go.Proofs.YtifdencdbpdbfaaDoor
