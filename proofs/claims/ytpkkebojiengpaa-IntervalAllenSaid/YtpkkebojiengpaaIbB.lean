/-
  WALKS over package interval and its reference: Relation.
-/
import Derived.Test.YtpkkebojiengpaaIbA
namespace Go.Proofs.Ytpkkebojiengpaa
open Go.RowKit Go.Shelf Go.Lib
set_option linter.unusedVariables false
set_option linter.unusedSimpArgs false

set_option maxHeartbeats 4000000 in
theorem relation_any (x y : Sp) (w : World) : Calls Try.prog 19 #[.agg #[.int .i64 x.1, .int .i64 x.2], .agg #[.int .i64 y.1, .int .i64 y.2]] w (IntV w (relZ x y)) := by
  have hv1 := fun W => valid_any x W
  have hv2 := fun W => valid_any y W
  have hd1 := fun W => direct_any x y W
  have hd2 := fun W => direct_any y x W
  have hr1 := dir_range x y
  have hr2 := dir_range y x
  unfold relZ
  obtain ⟨b, e⟩ := x
  obtain ⟨c, d⟩ := y
  simp only at hv1 hv2 hd1 hd2
  obtain ⟨q1, hq1⟩ : ∃ q, okS (b, e) = q := ⟨_, rfl⟩
  obtain ⟨q2, hq2⟩ : ∃ q, okS (c, d) = q := ⟨_, rfl⟩
  obtain ⟨r1, hx1⟩ : ∃ q, dirZ (b, e) (c, d) = q := ⟨_, rfl⟩
  obtain ⟨r2, hx2⟩ : ∃ q, dirZ (c, d) (b, e) = q := ⟨_, rfl⟩
  rw [hq1] at hv1 ⊢
  rw [hq2] at hv2 ⊢
  rw [hx1] at hd1 hr1 ⊢
  rw [hx2] at hd2 hr2 ⊢
  have HV1 := Lib.hid hv1
  have HV2 := Lib.hid hv2
  have HD1 := Lib.hid hd1
  have HD2 := Lib.hid hd2
  obtain ⟨X, N, hX, hN, hbX, hNX, hcell⟩ := boxes2 w b e c d
  have HX := Lib.hid hX
  have HN := Lib.hid hN
  have HBX := Lib.hid hbX
  have HNX := Lib.hid hNX
  have HC := Lib.hid hcell
  obtain ⟨c0, c1, d0, d1⟩ := hcell X (Below.refl _ _)
  obtain ⟨r, hr⟩ : ∃ r, (if q1 = true ∧ q2 = true then (if r1 ≠ 0 then r1 else 14 - r2) else 0) = r := ⟨_, rfl⟩
  rw [hr]
  have HR := Lib.hid hr
  clear hr
  unfold IntV
  rw [hN]
  clear hv1 hv2 hd1 hd2 hq1 hq2 hx1 hx2 hX hN hbX hNX hcell
  go_enter Try.func19, Try.ntmps19
  cases q1 with
  | false =>
    go_wp2_with fail
    rw [HX.out, HN.out]
    go_wp2_with fail
    refine (HV1.out _).mono ?_
    rintro e w2 ⟨rfl, hb2⟩
    have HB2 := Lib.hid hb2
    clear hb2
    go_wp2_with fail
    go_ret
    exact ⟨by rw [← HR.out]; simp, HBX.out.trans (HB2.out.mono HNX.out)⟩
  | true =>
    go_wp2_with fail
    rw [HX.out, HN.out]
    go_wp2_with fail
    refine (HV1.out _).mono ?_
    rintro e w2 ⟨rfl, hb2⟩
    have HB2 := Lib.hid hb2
    clear hb2 c0 c1 d0 d1
    obtain ⟨c0, c1, d0, d1⟩ := HC.out w2 HB2.out
    go_wp2_with fail
    refine (HV2.out _).mono ?_
    rintro e w3 ⟨rfl, hb3⟩
    have HB3 := Lib.hid (HB2.out.trans (hb3.mono HB2.out.size))
    clear hb3 c0 c1 d0 d1 HB2
    cases q2 with
    | false =>
      go_wp2_with fail
      go_ret
      exact ⟨by rw [← HR.out]; simp, HBX.out.trans (HB3.out.mono HNX.out)⟩
    | true =>
      obtain ⟨c0, c1, d0, d1⟩ := HC.out w3 HB3.out
      go_wp2_with fail
      refine (HD1.out _).mono ?_
      rintro e w4 ⟨rfl, hb4⟩
      have HB4 := Lib.hid (HB3.out.trans (hb4.mono HB3.out.size))
      clear hb4 c0 c1 d0 d1 HB3
      by_cases hz : r1 = 0
      · subst hz
        obtain ⟨c0, c1, d0, d1⟩ := HC.out w4 HB4.out
        go_wp2_with fail
        refine (HD2.out _).mono ?_
        rintro e w5 ⟨rfl, hb5⟩
        have HB5 := Lib.hid (HB4.out.trans (hb5.mono HB4.out.size))
        clear hb5 c0 c1 d0 d1 HB4
        have hw : IntKind.i64.wrap (14 - r2) = 14 - r2 := by rw [IntKind.wrap_i64]; omega
        go_wp2_with fail
        go_ret
        exact ⟨by rw [← HR.out]; simp, HBX.out.trans (HB5.out.mono HNX.out)⟩
      · have hzb : (r1 != 0) = true := by simp [hz]
        go_wp2_with fail
        go_ret
        exact ⟨by rw [← HR.out]; simp [hz], HBX.out.trans (HB4.out.mono HNX.out)⟩

set_option maxHeartbeats 8000000 in
/-- The reference where it does not turn round, and where it does. -/
theorem refRel_dir (x y : Sp) (w : World) (rz : Int) (hx : okS x = true) (hy : okS y = true) (hturn : refZ x y = 0 → -100 ≤ rz ∧ rz ≤ 100 ∧ ∀ W, Calls Try.prog 20 #[.agg #[.int .i64 y.1, .int .i64 y.2], .agg #[.int .i64 x.1, .int .i64 x.2]] W (IntV W rz)) :
    Calls Try.prog 20 #[.agg #[.int .i64 x.1, .int .i64 x.2], .agg #[.int .i64 y.1, .int .i64 y.2]] w (IntV w (if refZ x y ≠ 0 then refZ x y else 14 - rz)) := by
  have hv1 := fun W => refValid_any x W
  have hv2 := fun W => refValid_any y W
  rw [hx] at hv1
  rw [hy] at hv2
  rw [okS_iff] at hx hy
  obtain ⟨b, e⟩ := x
  obtain ⟨c, d⟩ := y
  simp only at hv1 hv2 hx hy hturn ⊢
  obtain ⟨r, hr⟩ : ∃ r, refZ (b, e) (c, d) = r := ⟨_, rfl⟩
  rw [hr] at hturn ⊢
  have HR := Lib.hid hr
  have HV1 := Lib.hid hv1
  have HV2 := Lib.hid hv2
  have HT := Lib.hid hturn
  obtain ⟨X, N, hX, hN, hbX, hNX, hcell⟩ := boxes2 w b e c d
  have HX := Lib.hid hX
  have HN := Lib.hid hN
  have HBX := Lib.hid hbX
  have HNX := Lib.hid hNX
  have HC := Lib.hid hcell
  obtain ⟨c0, c1, d0, d1⟩ := hcell X (Below.refl _ _)
  unfold IntV
  rw [hN]
  clear hv1 hv2 hr hturn hX hN hbX hNX hcell
  go_enter Try.func20, Try.ntmps20
  go_wp2_with fail
  rw [HX.out, HN.out]
  go_wp2_with fail
  refine (HV1.out _).mono ?_
  rintro e1 w2 ⟨rfl, hb2⟩
  have HB2 := Lib.hid hb2
  clear hb2 c0 c1 d0 d1
  obtain ⟨c0, c1, d0, d1⟩ := HC.out w2 HB2.out
  go_wp2_with fail
  refine (HV2.out _).mono ?_
  rintro e1 w3 ⟨rfl, hb3⟩
  have HB3 := Lib.hid (HB2.out.trans (hb3.mono HB2.out.size))
  clear hb3 c0 c1 d0 d1 HB2
  obtain ⟨c0, c1, d0, d1⟩ := HC.out w3 HB3.out
  by_cases c1' : e < c
  · have hr0 : refZ (b, e) (c, d) = 1 := by unfold refZ; simp only [sp_eq]; rw [if_neg (by omega), if_pos (by omega)]
    obtain rfl : r = 1 := by rw [← HR.out, hr0]
    clear hr0 HR
    have q1 : (b == c) = false := beq_eq_false_iff_ne.2 (by omega)
    have q3 : ¬ b = c := by omega
    go_wp2_with fail
    go_ret
    exact ⟨rfl, HBX.out.trans (HB3.out.mono HNX.out)⟩
  · by_cases c2' : e = c
    · have hr0 : refZ (b, e) (c, d) = 2 := by unfold refZ; simp only [sp_eq]; rw [if_neg (by omega), if_neg (by omega), if_pos (by omega)]
      obtain rfl : r = 2 := by rw [← HR.out, hr0]
      clear hr0 HR
      have q1 : (b == c) = false := beq_eq_false_iff_ne.2 (by omega)
      have q3 : ¬ b = c := by omega
      clear hx hy
      subst c2'
      go_wp2_with fail
      go_ret
      exact ⟨rfl, HBX.out.trans (HB3.out.mono HNX.out)⟩
    · have q2 : (e == c) = false := beq_eq_false_iff_ne.2 c2'
      rcases Int.lt_trichotomy b c with k | k | k
      · rcases Int.lt_trichotomy e d with m | m | m
        · have hr0 : refZ (b, e) (c, d) = 3 := by unfold refZ; simp only [sp_eq]; rw [if_neg (by omega), if_neg (by omega), if_neg (by omega), if_neg (by omega), if_neg (by omega), if_neg (by omega), if_pos (by omega)]
          obtain rfl : r = 3 := by rw [← HR.out, hr0]
          clear hr0 HR
          have q1 : (b == c) = false := beq_eq_false_iff_ne.2 (by omega)
          have q3 : ¬ b = c := by omega
          have q4 : (e == d) = false := beq_eq_false_iff_ne.2 (by omega)
          have q5 : ¬ e = d := by omega
          have q6 : ¬ d < e := by omega
          have q7 : c < e := by omega
          go_wp2_with fail
          go_ret
          exact ⟨rfl, HBX.out.trans (HB3.out.mono HNX.out)⟩
        · have hr0 : refZ (b, e) (c, d) = 4 := by unfold refZ; simp only [sp_eq]; rw [if_neg (by omega), if_neg (by omega), if_neg (by omega), if_neg (by omega), if_pos (by omega)]
          obtain rfl : r = 4 := by rw [← HR.out, hr0]
          clear hr0 HR
          have q1 : (b == c) = false := beq_eq_false_iff_ne.2 (by omega)
          have q3 : ¬ b = c := by omega
          subst m
          go_wp2_with fail
          go_ret
          exact ⟨rfl, HBX.out.trans (HB3.out.mono HNX.out)⟩
        · have hr0 : refZ (b, e) (c, d) = 5 := by unfold refZ; simp only [sp_eq]; rw [if_neg (by omega), if_neg (by omega), if_neg (by omega), if_neg (by omega), if_neg (by omega), if_pos (by omega)]
          obtain rfl : r = 5 := by rw [← HR.out, hr0]
          clear hr0 HR
          have q1 : (b == c) = false := beq_eq_false_iff_ne.2 (by omega)
          have q3 : ¬ b = c := by omega
          have q4 : (e == d) = false := beq_eq_false_iff_ne.2 (by omega)
          have q5 : ¬ e = d := by omega
          have q6 : ¬ e < d := by omega
          go_wp2_with fail
          go_ret
          exact ⟨rfl, HBX.out.trans (HB3.out.mono HNX.out)⟩
      · rcases Int.lt_trichotomy e d with m | m | m
        · have hr0 : refZ (b, e) (c, d) = 6 := by unfold refZ; simp only [sp_eq]; rw [if_neg (by omega), if_neg (by omega), if_neg (by omega), if_pos (by omega)]
          obtain rfl : r = 6 := by rw [← HR.out, hr0]
          clear hr0 HR
          have q4 : (e == d) = false := beq_eq_false_iff_ne.2 (by omega)
          have q5 : ¬ e = d := by omega
          subst k
          go_wp2_with fail
          go_ret
          exact ⟨rfl, HBX.out.trans (HB3.out.mono HNX.out)⟩
        · have hr0 : refZ (b, e) (c, d) = 7 := by unfold refZ; simp only [sp_eq]; rw [if_pos (by omega)]
          obtain rfl : r = 7 := by rw [← HR.out, hr0]
          clear hr0 HR
          subst k
          subst m
          go_wp2_with fail
          go_ret
          exact ⟨rfl, HBX.out.trans (HB3.out.mono HNX.out)⟩
        · have hr0 : refZ (b, e) (c, d) = 0 := by unfold refZ; simp only [sp_eq]; rw [if_neg (by omega), if_neg (by omega), if_neg (by omega), if_neg (by omega), if_neg (by omega), if_neg (by omega), if_neg (by omega)]
          obtain rfl : r = 0 := by rw [← HR.out, hr0]
          clear hr0 HR
          obtain ⟨hz1, hz2, hcall⟩ := HT.out rfl
          have HCL := Lib.hid hcall
          clear hcall HT
          have hw : IntKind.i64.wrap (14 - rz) = 14 - rz := by rw [IntKind.wrap_i64]; omega
          have q4 : (e == d) = false := beq_eq_false_iff_ne.2 (by omega)
          have q5 : ¬ e = d := by omega
          have q6 : ¬ e < d := by omega
          subst k
          go_wp2_with fail
          refine (HCL.out _).mono ?_
          rintro e1 w5 ⟨rfl, hb5⟩
          have HB5 := Lib.hid (HB3.out.trans (hb5.mono HB3.out.size))
          clear hb5 c0 c1 d0 d1 HB3
          go_wp2_with fail
          go_ret
          exact ⟨rfl, HBX.out.trans (HB5.out.mono HNX.out)⟩
      · have hr0 : refZ (b, e) (c, d) = 0 := by unfold refZ; simp only [sp_eq]; rw [if_neg (by omega), if_neg (by omega), if_neg (by omega), if_neg (by omega), if_neg (by omega), if_neg (by omega), if_neg (by omega)]
        obtain rfl : r = 0 := by rw [← HR.out, hr0]
        clear hr0 HR
        obtain ⟨hz1, hz2, hcall⟩ := HT.out rfl
        have HCL := Lib.hid hcall
        clear hcall HT
        have hw : IntKind.i64.wrap (14 - rz) = 14 - rz := by rw [IntKind.wrap_i64]; omega
        have q1 : (b == c) = false := beq_eq_false_iff_ne.2 (by omega)
        have q3 : ¬ b = c := by omega
        have q6 : ¬ b < c := by omega
        go_wp2_with fail
        refine (HCL.out _).mono ?_
        rintro e1 w5 ⟨rfl, hb5⟩
        have HB5 := Lib.hid (HB3.out.trans (hb5.mono HB3.out.size))
        clear hb5 c0 c1 d0 d1 HB3
        go_wp2_with fail
        go_ret
        exact ⟨rfl, HBX.out.trans (HB5.out.mono HNX.out)⟩
theorem refRelation_any (x y : Sp) (w : World) : Calls Try.prog 20 #[.agg #[.int .i64 x.1, .int .i64 x.2], .agg #[.int .i64 y.1, .int .i64 y.2]] w (IntV w (relZ x y)) := by
  by_cases h : okS x = true ∧ okS y = true
  · obtain ⟨hx, hy⟩ := h
    have e1 := ref_dir hx hy
    have e2 := ref_dir hy hx
    have hz : relZ x y = if refZ x y ≠ 0 then refZ x y else 14 - refZ y x := by unfold relZ; rw [if_pos ⟨hx, hy⟩, e1, e2]
    rw [hz]
    refine refRel_dir x y w (refZ y x) hx hy fun h0 => ?_
    have ht := dir_turn hx hy (by rw [← e1]; exact h0)
    rw [← e2] at ht
    refine ⟨by omega, by omega, fun W => ?_⟩
    have := refRel_dir y x W 0 hy hx (fun h => by omega)
    rw [if_pos (by omega)] at this
    exact this
  · have hz : relZ x y = 0 := by unfold relZ; rw [if_neg h]
    rw [hz]
    have hv1 := fun W => refValid_any x W
    have hv2 := fun W => refValid_any y W
    obtain ⟨b, e⟩ := x
    obtain ⟨c, d⟩ := y
    simp only at hv1 hv2
    obtain ⟨q1, hq1⟩ : ∃ q, okS (b, e) = q := ⟨_, rfl⟩
    obtain ⟨q2, hq2⟩ : ∃ q, okS (c, d) = q := ⟨_, rfl⟩
    rw [hq1] at hv1 h
    rw [hq2] at hv2 h
    have HV1 := Lib.hid hv1
    have HV2 := Lib.hid hv2
    have HH := Lib.hid h
    obtain ⟨X, N, hX, hN, hbX, hNX, hcell⟩ := boxes2 w b e c d
    have HX := Lib.hid hX
    have HN := Lib.hid hN
    have HBX := Lib.hid hbX
    have HNX := Lib.hid hNX
    have HC := Lib.hid hcell
    obtain ⟨c0, c1, d0, d1⟩ := hcell X (Below.refl _ _)
    unfold IntV
    rw [hN]
    clear hv1 hv2 hq1 hq2 hX hN hbX hNX hcell h hz
    go_enter Try.func20, Try.ntmps20
    cases q1 with
    | false =>
      go_wp2_with fail
      rw [HX.out, HN.out]
      go_wp2_with fail
      refine (HV1.out _).mono ?_
      rintro e w2 ⟨rfl, hb2⟩
      have HB2 := Lib.hid hb2
      clear hb2
      go_wp2_with fail
      go_ret
      exact ⟨rfl, HBX.out.trans (HB2.out.mono HNX.out)⟩
    | true =>
      obtain rfl : q2 = false := by
        cases q2 with
        | false => rfl
        | true => exact absurd ⟨rfl, rfl⟩ HH.out
      go_wp2_with fail
      rw [HX.out, HN.out]
      go_wp2_with fail
      refine (HV1.out _).mono ?_
      rintro e w2 ⟨rfl, hb2⟩
      have HB2 := Lib.hid hb2
      clear hb2 c0 c1 d0 d1
      obtain ⟨c0, c1, d0, d1⟩ := HC.out w2 HB2.out
      go_wp2_with fail
      refine (HV2.out _).mono ?_
      rintro e w3 ⟨rfl, hb3⟩
      have HB3 := Lib.hid (HB2.out.trans (hb3.mono HB2.out.size))
      clear hb3 c0 c1 d0 d1 HB2
      go_wp2_with fail
      go_ret
      exact ⟨rfl, HBX.out.trans (HB3.out.mono HNX.out)⟩
end Go.Proofs.Ytpkkebojiengpaa
