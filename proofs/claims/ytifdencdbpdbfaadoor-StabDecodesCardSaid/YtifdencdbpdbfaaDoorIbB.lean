/-
  WALKS over package interval and its reference: Relation.
-/
import Derived.Test.YtifdencdbpdbfaaDoorIbA
namespace Go.Proofs.YtifdencdbpdbfaaDoor
open Go.RowKit Go.Shelf Go.Lib
set_option linter.unusedVariables false
set_option linter.unusedSimpArgs false

set_option maxHeartbeats 4000000 in
theorem relation_any (x y : Sp) (w : World) : Calls Tryd.prog 40 #[.agg #[.int .i64 x.1, .int .i64 x.2], .agg #[.int .i64 y.1, .int .i64 y.2]] w (IntV w (relZ x y)) := by
  have hv1 := fun W => valid_any x W
  have hv2 := fun W => valid_any y W
  have hd1 := fun W => direct_any x y W
  have hd2 := fun W => direct_any y x W
  have hr1 := dir_range x y
  have hr2 := dir_range y x
  unfold relZ
  obtain ⟨b, e⟩ := x
  obtain ⟨c, d⟩ := y
  simp only at hv1 hv2 hd1 hd2
  obtain ⟨q1, hq1⟩ : ∃ q, okS (b, e) = q := ⟨_, rfl⟩
  obtain ⟨q2, hq2⟩ : ∃ q, okS (c, d) = q := ⟨_, rfl⟩
  obtain ⟨r1, hx1⟩ : ∃ q, dirZ (b, e) (c, d) = q := ⟨_, rfl⟩
  obtain ⟨r2, hx2⟩ : ∃ q, dirZ (c, d) (b, e) = q := ⟨_, rfl⟩
  rw [hq1] at hv1 ⊢
  rw [hq2] at hv2 ⊢
  rw [hx1] at hd1 hr1 ⊢
  rw [hx2] at hd2 hr2 ⊢
  have HV1 := Lib.hid hv1
  have HV2 := Lib.hid hv2
  have HD1 := Lib.hid hd1
  have HD2 := Lib.hid hd2
  obtain ⟨X, N, hX, hN, hbX, hNX, hcell⟩ := boxes2 w b e c d
  have HX := Lib.hid hX
  have HN := Lib.hid hN
  have HBX := Lib.hid hbX
  have HNX := Lib.hid hNX
  have HC := Lib.hid hcell
  obtain ⟨c0, c1, d0, d1⟩ := hcell X (Below.refl _ _)
  obtain ⟨r, hr⟩ : ∃ r, (if q1 = true ∧ q2 = true then (if r1 ≠ 0 then r1 else 14 - r2) else 0) = r := ⟨_, rfl⟩
  rw [hr]
  have HR := Lib.hid hr
  clear hr
  unfold IntV
  rw [hN]
  clear hv1 hv2 hd1 hd2 hq1 hq2 hx1 hx2 hX hN hbX hNX hcell
  go_enter Tryd.func40, Tryd.ntmps40
  cases q1 with
  | false =>
    go_wp2_with fail
    rw [HX.out, HN.out]
    go_wp2_with fail
    refine (HV1.out _).mono ?_
    rintro e w2 ⟨rfl, hb2⟩
    have HB2 := Lib.hid hb2
    clear hb2
    go_wp2_with fail
    go_ret
    exact ⟨by rw [← HR.out]; simp, HBX.out.trans (HB2.out.mono HNX.out)⟩
  | true =>
    go_wp2_with fail
    rw [HX.out, HN.out]
    go_wp2_with fail
    refine (HV1.out _).mono ?_
    rintro e w2 ⟨rfl, hb2⟩
    have HB2 := Lib.hid hb2
    clear hb2 c0 c1 d0 d1
    obtain ⟨c0, c1, d0, d1⟩ := HC.out w2 HB2.out
    go_wp2_with fail
    refine (HV2.out _).mono ?_
    rintro e w3 ⟨rfl, hb3⟩
    have HB3 := Lib.hid (HB2.out.trans (hb3.mono HB2.out.size))
    clear hb3 c0 c1 d0 d1 HB2
    cases q2 with
    | false =>
      go_wp2_with fail
      go_ret
      exact ⟨by rw [← HR.out]; simp, HBX.out.trans (HB3.out.mono HNX.out)⟩
    | true =>
      obtain ⟨c0, c1, d0, d1⟩ := HC.out w3 HB3.out
      go_wp2_with fail
      refine (HD1.out _).mono ?_
      rintro e w4 ⟨rfl, hb4⟩
      have HB4 := Lib.hid (HB3.out.trans (hb4.mono HB3.out.size))
      clear hb4 c0 c1 d0 d1 HB3
      by_cases hz : r1 = 0
      · subst hz
        obtain ⟨c0, c1, d0, d1⟩ := HC.out w4 HB4.out
        go_wp2_with fail
        refine (HD2.out _).mono ?_
        rintro e w5 ⟨rfl, hb5⟩
        have HB5 := Lib.hid (HB4.out.trans (hb5.mono HB4.out.size))
        clear hb5 c0 c1 d0 d1 HB4
        have hw : IntKind.i64.wrap (14 - r2) = 14 - r2 := by rw [IntKind.wrap_i64]; omega
        go_wp2_with fail
        go_ret
        exact ⟨by rw [← HR.out]; simp, HBX.out.trans (HB5.out.mono HNX.out)⟩
      · have hzb : (r1 != 0) = true := by simp [hz]
        go_wp2_with fail
        go_ret
        exact ⟨by rw [← HR.out]; simp [hz], HBX.out.trans (HB4.out.mono HNX.out)⟩

end Go.Proofs.YtifdencdbpdbfaaDoor
