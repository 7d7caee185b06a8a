/-
  WALKS over the library: slices.BinarySearchFunc at regions, with a region.
-/
import Derived.Test.YtfcnihmfmbmmjaaGreatQxM
import Derived.Test.YtfcnihmfmbmmjaaGreatQdA
import Derived.Deep.RegionHeld3
import Derived.Deep.DrawnRows
namespace Go.Proofs.YtfcnihmfmbmmjaaGreat
open Go.RowKit Go.Shelf Go.Lib
set_option linter.unusedVariables false
attribute [local go_sem ↓] Go.wp_at_zero Go.wp_at_succ

theorem keepX {W W' : World} {a : Addr} {v : Value} (h : W.cell? a = some v) (hb : Below W.heap.size W W') : W'.cell? a = some v := by
  have hlt : a.block < W.heap.size := by
    rcases Nat.lt_or_ge a.block W.heap.size with h' | h'
    · exact h'
    · simp [World.cell?, Array.getElem?_eq_none h'] at h
  exact (hb.cell hlt).trans h

set_option maxRecDepth 100000 in
set_option maxHeartbeats 8000000 in
theorem bsearch_same {w : World} {v v2 : Value} {xs : List Ex} {x : Ex} (hv : Rows 4 EEx w v xs) (hl : xs.length ≤ 100000) (hx : Rows 2 EPair w v2 x.ps) (hlx : x.ps.length ≤ maxLen) (hle : ∀ y ∈ xs, y.ps.length ≤ maxLen)
    (hmono : ∀ (i j : Nat) (y z : Ex), i < j → xs[i]? = some y → xs[j]? = some z → cmpR z x < 0 → cmpR y x < 0) :
    Calls Tryz.prog 34 #[v, .agg #[.string ⟨x.name.toArray⟩, .int .i64 x.b, .int .i64 x.e, v2], .func (.func 35) #[] #[]] w fun e w' => Hid (∃ b : Bool, e = .returned (.tuple #[.int .i64 (cntL (fun y => decide (cmpR y x < 0)) xs : Nat), .bool b])) ∧ Below w.heap.size w w' := by
  obtain ⟨A, cap, rfl, hc⟩ := hv.form
  obtain ⟨Ax, px, rfl, -⟩ := hx.form
  obtain ⟨n, hn⟩ : ∃ n, xs.length = n := ⟨_, rfl⟩
  obtain ⟨nx, hnx⟩ : ∃ n, x.ps.length = n := ⟨_, rfl⟩
  obtain ⟨P, hP⟩ : ∃ s : ByteArray, (⟨x.name.toArray⟩ : ByteArray) = s := ⟨_, rfl⟩
  obtain ⟨xb, hxb⟩ : ∃ z, x.b = z := ⟨_, rfl⟩
  obtain ⟨xe, hxe⟩ : ∃ z, x.e = z := ⟨_, rfl⟩
  rw [hn] at hc hl hv ⊢
  rw [hnx] at hx ⊢
  rw [hP, hxb, hxe]
  obtain ⟨r, hr⟩ : ∃ r, cntL (fun y => decide (cmpR y x < 0)) xs = r := ⟨_, rfl⟩
  rw [hr]
  obtain ⟨N0, hN0⟩ : ∃ N, w.heap.size = N := ⟨_, rfl⟩
  obtain ⟨X, hX⟩ : ∃ X, w.alloc (.cells #[.string P, .int .i64 xb, .int .i64 xe, .slice Ax nx px] 67) = X := ⟨_, rfl⟩
  have hbX : Below w.heap.size w X := by rw [← hX]; exact below_box w _
  have x1 : X.heap[N0]? = some (.cells #[.string P, .int .i64 xb, .int .i64 xe, .slice Ax nx px] 67 (0, 0)) := by rw [← hX, ← hN0]; exact block_new w _
  have HV := Lib.hid (fun W (h : Below X.heap.size X W) => hv.below stays_ex (hbX.trans (h.mono hbX.size)))
  have HX := Lib.hid (fun W (h : Below X.heap.size X W) => hx.below stays_pair (hbX.trans (h.mono hbX.size)))
  have HK := Lib.hid (fun W (h : Below X.heap.size X W) => block_below x1 h (Array.getElem?_eq_some_iff.1 x1).1)
  have HN := Lib.hid hn
  have HL := Lib.hid hle
  have HLX := Lib.hid hlx
  have HPX := Lib.hid (And.intro hP (And.intro hxb (And.intro hxe hnx)))
  have HM := Lib.hid hmono
  have HR := Lib.hid hr
  have HXX := Lib.hid hX
  have HN0 := Lib.hid hN0
  have HBX := Lib.hid hbX
  clear hn hv hx hlx hle hmono hr hX hN0 hbX x1 hnx hP hxb hxe
  go_enter Tryz.func34, Tryz.ntmps34
  go_wp2_with fail
  rw [HXX.out, HN0.out]
  go_loopw [9, 10] (fun v9 v10 wr => ∃ i j : Nat, i ≤ j ∧ j ≤ n ∧ v9 = .int .i64 i ∧ v10 = .int .i64 j ∧ Hid (∀ (k : Nat) (y : Ex), k < i → xs[k]? = some y → cmpR y x < 0) ∧ Hid (∀ (k : Nat) (y : Ex), j ≤ k → xs[k]? = some y → 0 ≤ cmpR y x) ∧ Hid (Below X.heap.size X wr)) (fun v9 v10 _ => (Go.RowKit.intOf v10).toNat - (Go.RowKit.intOf v9).toNat)
  case atStart => exact ⟨0, n, Nat.zero_le _, Nat.le_refl _, rfl, rfl, Lib.hid (fun k y h => absurd h (by omega)), Lib.hid (fun k y h hy => by have := (List.getElem?_eq_some_iff.1 hy).1; rw [HN.out] at this; omega), Lib.hid (Below.refl _ _)⟩
  case round =>
    obtain ⟨i, j, hij, hjn, rfl, rfl, hlo, hhi, hb⟩ := hrel
    by_cases hlt : i < j
    · obtain ⟨m, hm⟩ : ∃ m, (i + j) / 2 = m := ⟨_, rfl⟩
      have h1 : i ≤ m := by omega
      have h2 : m < j := by omega
      have hmi : ((i : Int) + (j : Int)) / 2 = (m : Int) := by omega
      have m0 : (0 : Int) ≤ (m : Int) := by omega
      have mn : (m : Int) < (n : Int) := by omega
      obtain ⟨y, hy⟩ : ∃ y, xs[m]? = some y := ⟨_, List.getElem?_eq_getElem (by rw [HN.out]; omega)⟩
      obtain ⟨bk, off, rfl, hbl, hj⟩ := at_ex (HV.out wr hb.out) (by rw [HN.out]; omega)
      obtain ⟨u, ru, u0, u1, u2, u3⟩ := hj _ y hy
      have hcall := fun W (h : Below wr.heap.size wr W) => compareRegions_any y x u (.slice Ax nx px) (ru.below stays_pair h) (HX.out W (hb.out.trans (h.mono hb.out.size))) (HL.out y (List.mem_of_getElem? hy)) HLX.out
      obtain ⟨Ay, py, rfl, -⟩ := ru.form
      obtain ⟨ny, hny⟩ : ∃ n, y.ps.length = n := ⟨_, rfl⟩
      obtain ⟨R, hR⟩ : ∃ s : ByteArray, (⟨y.name.toArray⟩ : ByteArray) = s := ⟨_, rfl⟩
      obtain ⟨q, hq⟩ : ∃ q, cmpR y x = q := ⟨_, rfl⟩
      rw [hR] at u0
      rw [hny] at u3
      simp only [hR, hny, HPX.out.1, HPX.out.2.1, HPX.out.2.2.1, hq] at hcall
      have hkb := HK.out wr hb.out
      have g0 : wr.cell? ⟨N0, 0, none⟩ = some (.string P) := cell_of hkb rfl
      have g1 : wr.cell? ⟨N0, 1, none⟩ = some (.int .i64 xb) := cell_of hkb rfl
      have g2 : wr.cell? ⟨N0, 2, none⟩ = some (.int .i64 xe) := cell_of hkb rfl
      have g3 : wr.cell? ⟨N0, 3, none⟩ = some (.slice Ax nx px) := cell_of hkb rfl
      have HSS := Lib.hid (fun W (h : Below wr.heap.size wr W) => show W.cell? ⟨bk, off + m * 4, none⟩ = some (.string R) ∧ W.cell? ⟨bk, off + m * 4 + 1, none⟩ = some (.int .i64 y.b) ∧ W.cell? ⟨bk, off + m * 4 + 2, none⟩ = some (.int .i64 y.e) ∧ W.cell? ⟨bk, off + m * 4 + 3, none⟩ = some (.slice Ay ny py) ∧ W.cell? ⟨N0, 0, none⟩ = some (.string P) ∧ W.cell? ⟨N0, 1, none⟩ = some (.int .i64 xb) ∧ W.cell? ⟨N0, 2, none⟩ = some (.int .i64 xe) ∧ W.cell? ⟨N0, 3, none⟩ = some (.slice Ax nx px) from ⟨keepX u0 h, keepX u1 h, keepX u2 h, keepX u3 h, keepX g0 h, keepX g1 h, keepX g2 h, keepX g3 h⟩)
      have HC := Lib.hid hcall
      have HY := Lib.hid hy
      have HQ := Lib.hid hq
      have H12 := Lib.hid (And.intro h1 h2)
      clear hcall hy hq hj hbl h1 h2 hkb ru hR hny hm
      go_wp2_with fail
      go_region_held3 (fun W => W.cell? ⟨bk, off + m * 4, none⟩ = some (.string R) ∧ W.cell? ⟨bk, off + m * 4 + 1, none⟩ = some (.int .i64 y.b) ∧ W.cell? ⟨bk, off + m * 4 + 2, none⟩ = some (.int .i64 y.e) ∧ W.cell? ⟨bk, off + m * 4 + 3, none⟩ = some (.slice Ay ny py) ∧ W.cell? ⟨N0, 0, none⟩ = some (.string P) ∧ W.cell? ⟨N0, 1, none⟩ = some (.int .i64 xb) ∧ W.cell? ⟨N0, 2, none⟩ = some (.int .i64 xe) ∧ W.cell? ⟨N0, 3, none⟩ = some (.slice Ax nx px))
        (first
          | go_keep
          | (exact HSS.out _ ((Below.refl _ wr).drew.trans hb4))
          | fail)
        ((first
          | (go_at_call 35; (with_reducible refine (HC.out _ (Below.refl _ wr).drew).mono ?_); rintro e w4 ⟨rfl, hb4⟩)
          | (go_at_fn 35; (with_reducible refine (HC.out _ (Below.refl _ wr).drew).mono ?_); rintro e w4 ⟨rfl, hb4⟩)
          | fail))
      have HB4 := Lib.hid (hb.out.trans (((Below.refl _ wr).drew.trans hb4).mono hb.out.size))
      clear hb4 u0 u1 u2 u3 g0 g1 g2 g3
      by_cases hq0 : q < 0
      · go_wp2_with fail
        refine ⟨⟨m + 1, j, by have := H12.out; omega, hjn, congrArg (Value.int .i64) (by omega), rfl, Lib.hid (fun k z hk hz => ?_), hhi, Lib.hid HB4.out⟩, by have := H12.out; simp only [Go.RowKit.intOf]; omega⟩
        by_cases e : k = m
        · subst e
          rw [HY.out] at hz
          cases hz
          rw [HQ.out]
          exact hq0
        · exact HM.out k _ z y (by omega) hz HY.out (by rw [HQ.out]; exact hq0)
      · go_wp2_with fail
        refine ⟨⟨i, m, H12.out.1, by have := H12.out; omega, rfl, congrArg (Value.int .i64) (by omega), hlo, Lib.hid (fun k z hk hz => Int.not_lt.1 fun hn0 => ?_), Lib.hid HB4.out⟩, by have := H12.out; simp only [Go.RowKit.intOf]; omega⟩
        by_cases e : k = m
        · subst e
          rw [HY.out] at hz
          cases hz
          rw [HQ.out] at hn0
          omega
        · have := HM.out _ k y z (by omega) HY.out hz hn0
          rw [HQ.out] at this
          omega
    · obtain rfl : i = j := by omega
      have hri : r = i := by
        rw [← HR.out]
        exact cntL_at (by rw [HN.out]; exact hjn) (fun k y hk hy => by simpa using hlo.out k y hk hy) (fun y hy => by simpa using hhi.out i y (Nat.le_refl _) hy)
      subst hri
      clear HM HR hlo hhi
      by_cases hin : r < n
      · obtain ⟨y, hy⟩ : ∃ y, xs[r]? = some y := ⟨_, List.getElem?_eq_getElem (by rw [HN.out]; omega)⟩
        obtain ⟨bk, off, rfl, hbl, hj⟩ := at_ex (HV.out wr hb.out) (by rw [HN.out]; omega)
        obtain ⟨u, ru, u0, u1, u2, u3⟩ := hj _ y hy
        have hcall := fun W (h : Below wr.heap.size wr W) => compareRegions_any y x u (.slice Ax nx px) (ru.below stays_pair h) (HX.out W (hb.out.trans (h.mono hb.out.size))) (HL.out y (List.mem_of_getElem? hy)) HLX.out
        obtain ⟨Ay, py, rfl, -⟩ := ru.form
        obtain ⟨ny, hny⟩ : ∃ n, y.ps.length = n := ⟨_, rfl⟩
        obtain ⟨R, hR⟩ : ∃ s : ByteArray, (⟨y.name.toArray⟩ : ByteArray) = s := ⟨_, rfl⟩
        obtain ⟨q, hq⟩ : ∃ q, cmpR y x = q := ⟨_, rfl⟩
        rw [hR] at u0
        rw [hny] at u3
        simp only [hR, hny, HPX.out.1, HPX.out.2.1, HPX.out.2.2.1, hq] at hcall
        have hkb := HK.out wr hb.out
        have g0 : wr.cell? ⟨N0, 0, none⟩ = some (.string P) := cell_of hkb rfl
        have g1 : wr.cell? ⟨N0, 1, none⟩ = some (.int .i64 xb) := cell_of hkb rfl
        have g2 : wr.cell? ⟨N0, 2, none⟩ = some (.int .i64 xe) := cell_of hkb rfl
        have g3 : wr.cell? ⟨N0, 3, none⟩ = some (.slice Ax nx px) := cell_of hkb rfl
        have HSS := Lib.hid (fun W (h : Below wr.heap.size wr W) => show W.cell? ⟨bk, off + r * 4, none⟩ = some (.string R) ∧ W.cell? ⟨bk, off + r * 4 + 1, none⟩ = some (.int .i64 y.b) ∧ W.cell? ⟨bk, off + r * 4 + 2, none⟩ = some (.int .i64 y.e) ∧ W.cell? ⟨bk, off + r * 4 + 3, none⟩ = some (.slice Ay ny py) ∧ W.cell? ⟨N0, 0, none⟩ = some (.string P) ∧ W.cell? ⟨N0, 1, none⟩ = some (.int .i64 xb) ∧ W.cell? ⟨N0, 2, none⟩ = some (.int .i64 xe) ∧ W.cell? ⟨N0, 3, none⟩ = some (.slice Ax nx px) from ⟨keepX u0 h, keepX u1 h, keepX u2 h, keepX u3 h, keepX g0 h, keepX g1 h, keepX g2 h, keepX g3 h⟩)
        have HC := Lib.hid hcall
        have HY := Lib.hid hy
        have HQ := Lib.hid hq
        have r0 : (0 : Int) ≤ (r : Int) := by omega
        have rn : (r : Int) < (n : Int) := by omega
        clear hcall hy hq hj hbl hkb ru hR hny
        go_wp2_with fail
        go_region_held3 (fun W => W.cell? ⟨bk, off + r * 4, none⟩ = some (.string R) ∧ W.cell? ⟨bk, off + r * 4 + 1, none⟩ = some (.int .i64 y.b) ∧ W.cell? ⟨bk, off + r * 4 + 2, none⟩ = some (.int .i64 y.e) ∧ W.cell? ⟨bk, off + r * 4 + 3, none⟩ = some (.slice Ay ny py) ∧ W.cell? ⟨N0, 0, none⟩ = some (.string P) ∧ W.cell? ⟨N0, 1, none⟩ = some (.int .i64 xb) ∧ W.cell? ⟨N0, 2, none⟩ = some (.int .i64 xe) ∧ W.cell? ⟨N0, 3, none⟩ = some (.slice Ax nx px))
          (first
            | go_keep
            | (exact HSS.out _ ((Below.refl _ wr).drew.trans hb4))
            | fail)
          ((first
            | (go_at_call 35; (with_reducible refine (HC.out _ (Below.refl _ wr).drew).mono ?_); rintro e w4 ⟨rfl, hb4⟩)
            | (go_at_fn 35; (with_reducible refine (HC.out _ (Below.refl _ wr).drew).mono ?_); rintro e w4 ⟨rfl, hb4⟩)
            | fail))
        have HB4 := Lib.hid (hb.out.trans (((Below.refl _ wr).drew.trans hb4).mono hb.out.size))
        clear hb4 u0 u1 u2 u3 g0 g1 g2 g3
        go_wp2_with fail
        go_ret2
        exact ⟨Lib.hid ⟨_, rfl⟩, HBX.out.trans (HB4.out.mono HBX.out.size)⟩
      · have rn : ¬ (r : Int) < (n : Int) := by omega
        go_wp2_with fail
        go_quiet (fail)
        go_wp2_with fail
        go_ret2
        exact ⟨Lib.hid ⟨_, rfl⟩, HBX.out.trans ((below_drewN hb.out _).mono HBX.out.size)⟩
end Go.Proofs.YtfcnihmfmbmmjaaGreat
