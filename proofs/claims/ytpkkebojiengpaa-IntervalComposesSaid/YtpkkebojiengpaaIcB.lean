/-
  IntervalComposes is proved: for every span and every span and every span the call of the law returns true, and each argument reads afterwards as it read before. It has no condition.
-/
import Derived.Test.YtpkkebojiengpaaRows
import Derived.Test.YtpkkebojiengpaaIoO
import Derived.Test.YtpkkebojiengpaaIbO
import Derived.ProofKit
import Derived.OpenShut
import Derived.Carry
namespace Go.Proofs.Ytpkkebojiengpaa.intervalComposes
open Go.ChangeShapes Go.WideShapes Go.ChangeAt Go.RowKit Go.Shelf Go.Lib
set_option linter.unusedVariables false

theorem cp_strict {P : Program} {c : Code} {K : Act → World → Prop} {Q : Exit → Act → World → Prop} {a : Act} {w : World} (h : c.wp P (Exit.then K (fun _ _ _ => False)) a w) : c.wp P (Exit.then K Q) a w :=
  Code.wp_mono (fun e a w h => by cases e <;> first | exact h | exact h.elim) h
set_option maxRecDepth 100000 in
set_option maxHeartbeats 16000000 in
theorem walk {w : World} (a : Sp) (_ : okSp a) (b : Sp) (_ : okSp b) (c : Sp) (_ : okSp c) :
    Calls Try.prog 6 #[.agg #[.int .i64 a.1, .int .i64 a.2], .agg #[.int .i64 b.1, .int .i64 b.2], .agg #[.int .i64 c.1, .int .i64 c.2]] w fun e w1 => e = .returned (.bool true) ∧ Below w.heap.size w w1 := by
  have h1 := fun W => relation_any a b W
  have h2 := fun W => relation_any b c W
  have h3 := fun W => relation_any a c W
  have HA := Lib.hid (fun (W : World) => awake_any W)
  have k0 : relZ a b ≠ 0 → relZ b c ≠ 0 → relZ a c ≠ 0 := rel_comp1
  have k1 : ∀ n, (n = 1 ∨ n = 4 ∨ n = 5 ∨ n = 6 ∨ n = 7) → relZ a b = n → relZ b c = n → relZ a c = n := fun n hn => rel_comp2 hn
  have k2 : relZ a b = 1 → (relZ b c = 5 ∨ relZ b c = 6 ∨ relZ b c = 8 ∨ relZ b c = 7 ∨ relZ b c = 2) → relZ a c = 1 := rel_comp3
  have k3 : relZ a b = 7 → relZ a c = relZ b c := fun h => by rw [rel_seven h]
  have k4 : relZ b c = 7 → relZ a c = relZ a b := fun h => by rw [rel_seven h]
  obtain ⟨x, hx⟩ : ∃ x, relZ a b = x := ⟨_, rfl⟩
  obtain ⟨y, hy⟩ : ∃ x, relZ b c = x := ⟨_, rfl⟩
  obtain ⟨z, hz⟩ : ∃ x, relZ a c = x := ⟨_, rfl⟩
  rw [hx] at h1
  rw [hy] at h2
  rw [hz] at h3
  rw [hx, hy, hz] at k0 k2
  rw [hx, hz, hy] at k3
  rw [hy, hz, hx] at k4
  have k1 : ∀ n, (n = 1 ∨ n = 4 ∨ n = 5 ∨ n = 6 ∨ n = 7) → x = n → y = n → z = n := fun n hn e1 e2 => hz ▸ k1 n hn (hx.trans e1) (hy.trans e2)
  have KK := Lib.hid (And.intro k0 (And.intro k1 (And.intro k2 (And.intro k3 k4))))
  obtain ⟨b1, e1⟩ := a
  obtain ⟨b2, e2⟩ := b
  obtain ⟨b3, e3⟩ := c
  simp only at h1 h2 h3 ⊢
  have H1 := Lib.hid h1
  have H2 := Lib.hid h2
  have H3 := Lib.hid h3
  obtain ⟨N, hN⟩ : ∃ N, w.heap.size = N := ⟨_, rfl⟩
  obtain ⟨X, hX⟩ : ∃ X, ((w.alloc (.cells #[.int .i64 b1, .int .i64 e1] 31)).alloc (.cells #[.int .i64 b2, .int .i64 e2] 31)).alloc (.cells #[.int .i64 b3, .int .i64 e3] 31) = X := ⟨_, rfl⟩
  have q1 : X.heap[N]? = some (.cells #[.int .i64 b1, .int .i64 e1] 31 (0, 0)) := by rw [← hX, ← hN]; exact block_alloc _ (block_alloc _ (block_new w _))
  have q2 : X.heap[N + 1]? = some (.cells #[.int .i64 b2, .int .i64 e2] 31 (0, 0)) := by
    have := block_alloc (.cells #[.int .i64 b3, .int .i64 e3] 31) (block_new (w.alloc (.cells #[.int .i64 b1, .int .i64 e1] 31)) (.cells #[.int .i64 b2, .int .i64 e2] 31))
    rw [alloc_sz, hN, hX] at this
    exact this
  have q3 : X.heap[N + 2]? = some (.cells #[.int .i64 b3, .int .i64 e3] 31 (0, 0)) := by
    have := block_new ((w.alloc (.cells #[.int .i64 b1, .int .i64 e1] 31)).alloc (.cells #[.int .i64 b2, .int .i64 e2] 31)) (.cells #[.int .i64 b3, .int .i64 e3] 31)
    rw [alloc_sz, alloc_sz, hN, hX] at this
    exact this
  have hsz : X.heap.size = N + 3 := by rw [← hX, ← hN]; simp
  have hbX : Below N w X := by rw [← hX, ← hN]; exact (below_box2 w _ _).trans ((below_box _ _).mono (by simp; omega))
  have hcell : ∀ W, Below X.heap.size X W → W.cell? ⟨N, 0, none⟩ = some (.int .i64 b1) ∧ W.cell? ⟨N, 1, none⟩ = some (.int .i64 e1) ∧ W.cell? ⟨N + 1, 0, none⟩ = some (.int .i64 b2) ∧ W.cell? ⟨N + 1, 1, none⟩ = some (.int .i64 e2) ∧ W.cell? ⟨N + 2, 0, none⟩ = some (.int .i64 b3) ∧ W.cell? ⟨N + 2, 1, none⟩ = some (.int .i64 e3) := fun W hW => by
    have r1 := block_below q1 hW (by omega)
    have r2 := block_below q2 hW (by omega)
    have r3 := block_below q3 hW (by omega)
    exact ⟨cell_of r1 rfl, cell_of r1 rfl, cell_of r2 rfl, cell_of r2 rfl, cell_of r3 rfl, cell_of r3 rfl⟩
  have HX := Lib.hid hX
  have HN := Lib.hid hN
  have HBX := Lib.hid (And.intro hbX (show N ≤ X.heap.size by omega))
  have HS := Lib.hid hcell
  obtain ⟨c0, c1, d0, d1, f0, f1⟩ := hcell X (Below.refl _ _)
  rw [hN]
  clear h1 h2 h3 hx hy hz k0 k1 k2 k3 k4 hX hN hbX hcell q1 q2 q3 hsz
  go_enter Try.func6, Try.ntmps6
  go_upto_region 1 with fail
  rw [HX.out, HN.out]
  go_cut [7, 8, 9] from 10 to 18 (fun s7 s8 s9 wx => s7 = .int .i64 x ∧ s8 = .int .i64 y ∧ s9 = .int .i64 z ∧ Hid (Below X.heap.size X wx))
  case first =>
    refine cp_strict ?_
    obtain ⟨X1, hX1⟩ : ∃ Y, X.drew = Y := ⟨_, rfl⟩
    have HX1 := Lib.hid hX1
    have HB0 := Lib.hid (show Below X.heap.size X X1 by rw [← hX1]; exact (Below.refl _ _).drew)
    clear hX1
    refine wp_region_held_drew (S := (fun w' => w'.cell? ⟨N, 0, none⟩ = some (.int .i64 b1) ∧ w'.cell? ⟨N, 1, none⟩ = some (.int .i64 e1) ∧ w'.cell? ⟨N + 1, 0, none⟩ = some (.int .i64 b2) ∧ w'.cell? ⟨N + 1, 1, none⟩ = some (.int .i64 e2) ∧ w'.cell? ⟨N + 2, 0, none⟩ = some (.int .i64 b3) ∧ w'.cell? ⟨N + 2, 1, none⟩ = some (.int .i64 e3))) (by kernel_rfl) ?_ (fun hHeld => ?_)
    · (try dsimp only); (rw [HX1.out]; exact HS.out X1 HB0.out)
    rw [HX1.out] at hHeld ⊢
    refine wpAnyH_take (i := 0) (oi := ?oi1) (v := ?v1) ?hi1 (by kernel_rfl) (by kernel_rfl) (by kernel_rfl) ?hq1 ?hy1 (by assumption) ?hr1
    case hi1 => (simp only [List.getElem?_toArray, List.getElem?_cons_zero]; rfl)
    case hq1 => exact fun _ _ _ h => h
    case hy1 => exact Or.inl ⟨by rfl, by intro whSw hSw'; (try dsimp only at hSw'); (first | (go_simp; done) | (go_simp; with_reducible rfl))⟩
    try simp only [Act.put, List.setIfInBounds_toArray, List.set_cons_zero, List.set_cons_succ]
    refine wpAnyH_take (i := 1) (oi := ?oi2) (v := ?v2) ?hi2 (by kernel_rfl) (by kernel_rfl) (by kernel_rfl) ?hq2 ?hy2 (by assumption) ?hr2
    case hi2 => (simp only [List.getElem?_toArray, List.getElem?_cons_succ, List.getElem?_cons_zero]; rfl)
    case hq2 => exact fun _ _ _ h => h
    case hy2 => exact Or.inl ⟨by rfl, by intro whSw hSw'; (try dsimp only at hSw'); (first | (go_simp; done) | (go_simp; with_reducible rfl))⟩
    try simp only [Act.put, List.setIfInBounds_toArray, List.set_cons_zero, List.set_cons_succ]
    refine wpAnyH_take (i := 3) (oi := ?oi3) (v := ?v3) ?hi3 (by kernel_rfl) (by kernel_rfl) (by kernel_rfl) ?hq3 ?hy3 (by assumption) ?hr3
    case hi3 => (simp only [List.getElem?_toArray, List.getElem?_cons_succ, List.getElem?_cons_zero]; rfl)
    case hq3 => exact fun _ _ _ h => h
    case hy3 => exact Or.inl ⟨by rfl, by intro whSw hSw'; (try dsimp only at hSw'); (first | (go_simp; done) | (go_simp; with_reducible rfl))⟩
    try simp only [Act.put, List.setIfInBounds_toArray, List.set_cons_zero, List.set_cons_succ]
    refine wpAnyH_take (i := 4) (oi := ?oi4) (v := ?v4) ?hi4 (by kernel_rfl) (by kernel_rfl) (by kernel_rfl) ?hq4 ?hy4 (by assumption) ?hr4
    case hi4 => (simp only [List.getElem?_toArray, List.getElem?_cons_succ, List.getElem?_cons_zero]; rfl)
    case hq4 => exact fun _ _ _ h => h
    case hy4 => exact Or.inl ⟨by rfl, by intro whSw hSw'; (try dsimp only at hSw'); (first | (go_simp; done) | (go_simp; with_reducible rfl))⟩
    try simp only [Act.put, List.setIfInBounds_toArray, List.set_cons_zero, List.set_cons_succ]
    refine wpAnyH_take (i := 6) (oi := ?oi5) (v := ?v5) ?hi5 (by kernel_rfl) (by kernel_rfl) (by kernel_rfl) ?hq5 ?hy5 (by assumption) ?hr5
    case hi5 => (simp only [List.getElem?_toArray, List.getElem?_cons_succ, List.getElem?_cons_zero]; rfl)
    case hq5 => exact fun _ _ _ h => h
    case hy5 => exact Or.inl ⟨by rfl, by intro whSw hSw'; (try dsimp only at hSw'); (first | (go_simp; done) | (go_simp; with_reducible rfl))⟩
    try simp only [Act.put, List.setIfInBounds_toArray, List.set_cons_zero, List.set_cons_succ]
    refine wpAnyH_take (i := 7) (oi := ?oi6) (v := ?v6) ?hi6 (by kernel_rfl) (by kernel_rfl) (by kernel_rfl) ?hq6 ?hy6 (by assumption) ?hr6
    case hi6 => (simp only [List.getElem?_toArray, List.getElem?_cons_succ, List.getElem?_cons_zero]; rfl)
    case hq6 => exact fun _ _ _ h => h
    case hy6 => exact Or.inl ⟨by rfl, by intro whSw hSw'; (try dsimp only at hSw'); (first | (go_simp; done) | (go_simp; with_reducible rfl))⟩
    try simp only [Act.put, List.setIfInBounds_toArray, List.set_cons_zero, List.set_cons_succ]
    refine wpAnyH_ready (rs := [2]) (by kernel_rfl) (by simp) ?_
    refine AllReadyH.cons (o := ?oo7) ?hi7 (fun K hK => ?hs7) ?hm7
    case hi7 => (simp only [List.getElem?_toArray, List.getElem?_cons_succ, List.getElem?_cons_zero]; rfl)
    · go_simp
      refine (H1.out X1).mono ?_
      rintro e zz1 ⟨rfl, hbzz1⟩
      have HBzz1 := Lib.hid (HB0.out.trans (hbzz1.mono HB0.out.size))
      clear hbzz1
      (try go_wp2_with fail)
      refine hK.out _ _ ?_ (fun hHeld => ?_)
      · (try dsimp only); exact HS.out zz1 HBzz1.out
      clear hK K
      try simp only [Act.put, List.setIfInBounds_toArray, List.set_cons_zero, List.set_cons_succ]
      refine wpAnyH_ready (rs := [5]) (by kernel_rfl) (by simp) ?_
      refine AllReadyH.cons (o := ?oo8) ?hi8 (fun K hK => ?hs8) ?hm8
      case hi8 => (simp only [List.getElem?_toArray, List.getElem?_cons_succ, List.getElem?_cons_zero]; rfl)
      · go_simp
        refine (H2.out zz1).mono ?_
        rintro e zz2 ⟨rfl, hbzz2⟩
        have HBzz2 := Lib.hid (HBzz1.out.trans (hbzz2.mono HBzz1.out.size))
        clear hbzz2
        (try go_wp2_with fail)
        refine hK.out _ _ ?_ (fun hHeld => ?_)
        · (try dsimp only); exact HS.out zz2 HBzz2.out
        clear hK K
        try simp only [Act.put, List.setIfInBounds_toArray, List.set_cons_zero, List.set_cons_succ]
        refine wpAnyH_ready (rs := [8]) (by kernel_rfl) (by simp) ?_
        refine AllReadyH.cons (o := ?oo9) ?hi9 (fun K hK => ?hs9) ?hm9
        case hi9 => (simp only [List.getElem?_toArray, List.getElem?_cons_succ, List.getElem?_cons_zero]; rfl)
        · go_simp
          refine (H3.out zz2).mono ?_
          rintro e zz3 ⟨rfl, hbzz3⟩
          have HBzz3 := Lib.hid (HBzz2.out.trans (hbzz3.mono HBzz2.out.size))
          clear hbzz3
          (try go_wp2_with fail)
          refine hK.out _ _ ?_ (fun hHeld => ?_)
          · (try dsimp only); exact HS.out zz3 HBzz3.out
          clear hK K
          try simp only [Act.put, List.setIfInBounds_toArray, List.set_cons_zero, List.set_cons_succ]
          refine wpAnyH_take (i := 9) (oi := ?oi10) (v := ?v10) ?hi10 (by kernel_rfl) (by kernel_rfl) (by kernel_rfl) ?hq10 ?hy10 (by assumption) ?hr10
          case hi10 => (simp only [List.getElem?_toArray, List.getElem?_cons_succ, List.getElem?_cons_zero]; rfl)
          case hq10 => exact fun _ _ _ h => h
          case hy10 => exact Or.inl ⟨by rfl, by intro whSw hSw'; (try dsimp only at hSw'); (first | (go_simp; done) | (go_simp; with_reducible rfl))⟩
          try simp only [Act.put, List.setIfInBounds_toArray, List.set_cons_zero, List.set_cons_succ]
          refine wpAnyH_take (i := 10) (oi := ?oi11) (v := ?v11) ?hi11 (by kernel_rfl) (by kernel_rfl) (by kernel_rfl) ?hq11 ?hy11 (by assumption) ?hr11
          case hi11 => (simp only [List.getElem?_toArray, List.getElem?_cons_succ, List.getElem?_cons_zero]; rfl)
          case hq11 => exact fun _ _ _ h => h
          case hy11 => exact Or.inl ⟨by rfl, by intro whSw hSw'; (try dsimp only at hSw'); (first | (go_simp; done) | (go_simp; with_reducible rfl))⟩
          try simp only [Act.put, List.setIfInBounds_toArray, List.set_cons_zero, List.set_cons_succ]
          refine wpAnyH_take (i := 11) (oi := ?oi12) (v := ?v12) ?hi12 (by kernel_rfl) (by kernel_rfl) (by kernel_rfl) ?hq12 ?hy12 (by assumption) ?hr12
          case hi12 => (simp only [List.getElem?_toArray, List.getElem?_cons_succ, List.getElem?_cons_zero]; rfl)
          case hq12 => exact fun _ _ _ h => h
          case hy12 => exact Or.inl ⟨by rfl, by intro whSw hSw'; (try dsimp only at hSw'); (first | (go_simp; done) | (go_simp; with_reducible rfl))⟩
          try simp only [Act.put, List.setIfInBounds_toArray, List.set_cons_zero, List.set_cons_succ]
          refine wpAnyH_done (by kernel_rfl) ?_ _
          go_wp2_with fail
          go_meet
          exact ⟨rfl, rfl, rfl, HBzz3⟩
        exact AllReadyH.nil
      exact AllReadyH.nil
    exact AllReadyH.nil
  case rest =>
    obtain ⟨rfl, rfl, rfl, HBL⟩ := hcut
    obtain ⟨wx, rfl⟩ : ∃ wx, wx = wc := ⟨_, rfl⟩
    have HBW : Hid (Below N w wx ∧ N ≤ wx.heap.size) := Lib.hid ⟨HBX.out.1.trans (HBL.out.mono HBX.out.2), Nat.le_trans HBX.out.2 HBL.out.size⟩
    clear HBL HBX HS H1 H2 H3
    by_cases hx0 : x = 0
    · subst hx0
      by_cases hy0 : y = 0
      · subst hy0
        obtain ⟨k0, k1, k2, k3, k4⟩ := KK.out
        clear KK
        clear k0 k1 k2 k3 k4
        go_wp2_with fail
        refine (HA.out _).mono ?_
        rintro e w5 ⟨rfl, hb5⟩
        have HB5 := Lib.hid (HBW.out.1.trans (hb5.mono HBW.out.2))
        clear hb5
        go_wp2_with fail
        go_ret
        exact ⟨rfl, HB5.out⟩
      · skip
        by_cases hy7 : y = 7
        · subst hy7
          obtain ⟨k0, k1, k2, k3, k4⟩ := KK.out
          clear KK
          have hzz := (k4 rfl).symm
          subst hzz
          clear k0 k1 k2 k3 k4
          go_wp2_with fail
          refine (HA.out _).mono ?_
          rintro e w5 ⟨rfl, hb5⟩
          have HB5 := Lib.hid (HBW.out.1.trans (hb5.mono HBW.out.2))
          clear hb5
          go_wp2_with fail
          go_ret
          exact ⟨rfl, HB5.out⟩
        · skip
          obtain ⟨k0, k1, k2, k3, k4⟩ := KK.out
          clear KK
          have hq_0 : ((y : Int) == (0 : Int)) = false := beq_eq_false_iff_ne.2 (by omega)
          have hq_1 : ((y : Int) != (0 : Int)) = true := by simp <;> omega
          have hq_2 : ¬ (y : Int) = (0 : Int) := by omega
          have hq_3 : ((0 : Int) == (y : Int)) = false := beq_eq_false_iff_ne.2 (by omega)
          have hq_4 : ((0 : Int) != (y : Int)) = true := by simp <;> omega
          have hq_5 : ¬ (0 : Int) = (y : Int) := by omega
          have hq_6 : ((y : Int) == (7 : Int)) = false := beq_eq_false_iff_ne.2 (by omega)
          have hq_7 : ((y : Int) != (7 : Int)) = true := by simp <;> omega
          have hq_8 : ¬ (y : Int) = (7 : Int) := by omega
          have hq_9 : ((7 : Int) == (y : Int)) = false := beq_eq_false_iff_ne.2 (by omega)
          have hq_10 : ((7 : Int) != (y : Int)) = true := by simp <;> omega
          have hq_11 : ¬ (7 : Int) = (y : Int) := by omega
          clear k0 k1 k2 k3 k4
          go_wp2_with fail
          refine (HA.out _).mono ?_
          rintro e w5 ⟨rfl, hb5⟩
          have HB5 := Lib.hid (HBW.out.1.trans (hb5.mono HBW.out.2))
          clear hb5
          go_wp2_with fail
          go_ret
          exact ⟨rfl, HB5.out⟩
    · skip
      by_cases hx1 : x = 1
      · subst hx1
        by_cases hy0 : y = 0
        · subst hy0
          obtain ⟨k0, k1, k2, k3, k4⟩ := KK.out
          clear KK
          clear k0 k1 k2 k3 k4
          go_wp2_with fail
          refine (HA.out _).mono ?_
          rintro e w5 ⟨rfl, hb5⟩
          have HB5 := Lib.hid (HBW.out.1.trans (hb5.mono HBW.out.2))
          clear hb5
          go_wp2_with fail
          go_ret
          exact ⟨rfl, HB5.out⟩
        · skip
          by_cases hy1 : y = 1
          · subst hy1
            obtain ⟨k0, k1, k2, k3, k4⟩ := KK.out
            clear KK
            have hzz := (k1 1 (by omega) rfl rfl).symm
            subst hzz
            clear k0 k1 k2 k3 k4
            go_wp2_with fail
            refine (HA.out _).mono ?_
            rintro e w5 ⟨rfl, hb5⟩
            have HB5 := Lib.hid (HBW.out.1.trans (hb5.mono HBW.out.2))
            clear hb5
            go_wp2_with fail
            go_ret
            exact ⟨rfl, HB5.out⟩
          · skip
            by_cases hy2 : y = 2
            · subst hy2
              obtain ⟨k0, k1, k2, k3, k4⟩ := KK.out
              clear KK
              have hzz := (k2 rfl (by omega)).symm
              subst hzz
              clear k0 k1 k2 k3 k4
              go_wp2_with fail
              refine (HA.out _).mono ?_
              rintro e w5 ⟨rfl, hb5⟩
              have HB5 := Lib.hid (HBW.out.1.trans (hb5.mono HBW.out.2))
              clear hb5
              go_wp2_with fail
              go_ret
              exact ⟨rfl, HB5.out⟩
            · skip
              by_cases hy5 : y = 5
              · subst hy5
                obtain ⟨k0, k1, k2, k3, k4⟩ := KK.out
                clear KK
                have hzz := (k2 rfl (by omega)).symm
                subst hzz
                clear k0 k1 k2 k3 k4
                go_wp2_with fail
                refine (HA.out _).mono ?_
                rintro e w5 ⟨rfl, hb5⟩
                have HB5 := Lib.hid (HBW.out.1.trans (hb5.mono HBW.out.2))
                clear hb5
                go_wp2_with fail
                go_ret
                exact ⟨rfl, HB5.out⟩
              · skip
                by_cases hy6 : y = 6
                · subst hy6
                  obtain ⟨k0, k1, k2, k3, k4⟩ := KK.out
                  clear KK
                  have hzz := (k2 rfl (by omega)).symm
                  subst hzz
                  clear k0 k1 k2 k3 k4
                  go_wp2_with fail
                  refine (HA.out _).mono ?_
                  rintro e w5 ⟨rfl, hb5⟩
                  have HB5 := Lib.hid (HBW.out.1.trans (hb5.mono HBW.out.2))
                  clear hb5
                  go_wp2_with fail
                  go_ret
                  exact ⟨rfl, HB5.out⟩
                · skip
                  by_cases hy7 : y = 7
                  · subst hy7
                    obtain ⟨k0, k1, k2, k3, k4⟩ := KK.out
                    clear KK
                    have hzz := (k4 rfl).symm
                    subst hzz
                    clear k0 k1 k2 k3 k4
                    go_wp2_with fail
                    refine (HA.out _).mono ?_
                    rintro e w5 ⟨rfl, hb5⟩
                    have HB5 := Lib.hid (HBW.out.1.trans (hb5.mono HBW.out.2))
                    clear hb5
                    go_wp2_with fail
                    go_ret
                    exact ⟨rfl, HB5.out⟩
                  · skip
                    by_cases hy8 : y = 8
                    · subst hy8
                      obtain ⟨k0, k1, k2, k3, k4⟩ := KK.out
                      clear KK
                      have hzz := (k2 rfl (by omega)).symm
                      subst hzz
                      clear k0 k1 k2 k3 k4
                      go_wp2_with fail
                      refine (HA.out _).mono ?_
                      rintro e w5 ⟨rfl, hb5⟩
                      have HB5 := Lib.hid (HBW.out.1.trans (hb5.mono HBW.out.2))
                      clear hb5
                      go_wp2_with fail
                      go_ret
                      exact ⟨rfl, HB5.out⟩
                    · skip
                      obtain ⟨k0, k1, k2, k3, k4⟩ := KK.out
                      clear KK
                      have hzn : z ≠ 0 := k0 (by omega) (by omega)
                      have hq_12 : ((z : Int) == (0 : Int)) = false := beq_eq_false_iff_ne.2 (by omega)
                      have hq_13 : ((z : Int) != (0 : Int)) = true := by simp <;> omega
                      have hq_14 : ¬ (z : Int) = (0 : Int) := by omega
                      have hq_15 : ((0 : Int) == (z : Int)) = false := beq_eq_false_iff_ne.2 (by omega)
                      have hq_16 : ((0 : Int) != (z : Int)) = true := by simp <;> omega
                      have hq_17 : ¬ (0 : Int) = (z : Int) := by omega
                      have hq_18 : ((y : Int) == (0 : Int)) = false := beq_eq_false_iff_ne.2 (by omega)
                      have hq_19 : ((y : Int) != (0 : Int)) = true := by simp <;> omega
                      have hq_20 : ¬ (y : Int) = (0 : Int) := by omega
                      have hq_21 : ((0 : Int) == (y : Int)) = false := beq_eq_false_iff_ne.2 (by omega)
                      have hq_22 : ((0 : Int) != (y : Int)) = true := by simp <;> omega
                      have hq_23 : ¬ (0 : Int) = (y : Int) := by omega
                      have hq_24 : ((y : Int) == (1 : Int)) = false := beq_eq_false_iff_ne.2 (by omega)
                      have hq_25 : ((y : Int) != (1 : Int)) = true := by simp <;> omega
                      have hq_26 : ¬ (y : Int) = (1 : Int) := by omega
                      have hq_27 : ((1 : Int) == (y : Int)) = false := beq_eq_false_iff_ne.2 (by omega)
                      have hq_28 : ((1 : Int) != (y : Int)) = true := by simp <;> omega
                      have hq_29 : ¬ (1 : Int) = (y : Int) := by omega
                      have hq_30 : ((y : Int) == (2 : Int)) = false := beq_eq_false_iff_ne.2 (by omega)
                      have hq_31 : ((y : Int) != (2 : Int)) = true := by simp <;> omega
                      have hq_32 : ¬ (y : Int) = (2 : Int) := by omega
                      have hq_33 : ((2 : Int) == (y : Int)) = false := beq_eq_false_iff_ne.2 (by omega)
                      have hq_34 : ((2 : Int) != (y : Int)) = true := by simp <;> omega
                      have hq_35 : ¬ (2 : Int) = (y : Int) := by omega
                      have hq_36 : ((y : Int) == (5 : Int)) = false := beq_eq_false_iff_ne.2 (by omega)
                      have hq_37 : ((y : Int) != (5 : Int)) = true := by simp <;> omega
                      have hq_38 : ¬ (y : Int) = (5 : Int) := by omega
                      have hq_39 : ((5 : Int) == (y : Int)) = false := beq_eq_false_iff_ne.2 (by omega)
                      have hq_40 : ((5 : Int) != (y : Int)) = true := by simp <;> omega
                      have hq_41 : ¬ (5 : Int) = (y : Int) := by omega
                      have hq_42 : ((y : Int) == (6 : Int)) = false := beq_eq_false_iff_ne.2 (by omega)
                      have hq_43 : ((y : Int) != (6 : Int)) = true := by simp <;> omega
                      have hq_44 : ¬ (y : Int) = (6 : Int) := by omega
                      have hq_45 : ((6 : Int) == (y : Int)) = false := beq_eq_false_iff_ne.2 (by omega)
                      have hq_46 : ((6 : Int) != (y : Int)) = true := by simp <;> omega
                      have hq_47 : ¬ (6 : Int) = (y : Int) := by omega
                      have hq_48 : ((y : Int) == (7 : Int)) = false := beq_eq_false_iff_ne.2 (by omega)
                      have hq_49 : ((y : Int) != (7 : Int)) = true := by simp <;> omega
                      have hq_50 : ¬ (y : Int) = (7 : Int) := by omega
                      have hq_51 : ((7 : Int) == (y : Int)) = false := beq_eq_false_iff_ne.2 (by omega)
                      have hq_52 : ((7 : Int) != (y : Int)) = true := by simp <;> omega
                      have hq_53 : ¬ (7 : Int) = (y : Int) := by omega
                      have hq_54 : ((y : Int) == (8 : Int)) = false := beq_eq_false_iff_ne.2 (by omega)
                      have hq_55 : ((y : Int) != (8 : Int)) = true := by simp <;> omega
                      have hq_56 : ¬ (y : Int) = (8 : Int) := by omega
                      have hq_57 : ((8 : Int) == (y : Int)) = false := beq_eq_false_iff_ne.2 (by omega)
                      have hq_58 : ((8 : Int) != (y : Int)) = true := by simp <;> omega
                      have hq_59 : ¬ (8 : Int) = (y : Int) := by omega
                      clear k0 k1 k2 k3 k4
                      go_wp2_with fail
                      refine (HA.out _).mono ?_
                      rintro e w5 ⟨rfl, hb5⟩
                      have HB5 := Lib.hid (HBW.out.1.trans (hb5.mono HBW.out.2))
                      clear hb5
                      go_wp2_with fail
                      go_ret
                      exact ⟨rfl, HB5.out⟩
      · skip
        by_cases hx4 : x = 4
        · subst hx4
          by_cases hy0 : y = 0
          · subst hy0
            obtain ⟨k0, k1, k2, k3, k4⟩ := KK.out
            clear KK
            clear k0 k1 k2 k3 k4
            go_wp2_with fail
            refine (HA.out _).mono ?_
            rintro e w5 ⟨rfl, hb5⟩
            have HB5 := Lib.hid (HBW.out.1.trans (hb5.mono HBW.out.2))
            clear hb5
            go_wp2_with fail
            go_ret
            exact ⟨rfl, HB5.out⟩
          · skip
            by_cases hy4 : y = 4
            · subst hy4
              obtain ⟨k0, k1, k2, k3, k4⟩ := KK.out
              clear KK
              have hzz := (k1 4 (by omega) rfl rfl).symm
              subst hzz
              clear k0 k1 k2 k3 k4
              go_wp2_with fail
              refine (HA.out _).mono ?_
              rintro e w5 ⟨rfl, hb5⟩
              have HB5 := Lib.hid (HBW.out.1.trans (hb5.mono HBW.out.2))
              clear hb5
              go_wp2_with fail
              go_ret
              exact ⟨rfl, HB5.out⟩
            · skip
              by_cases hy7 : y = 7
              · subst hy7
                obtain ⟨k0, k1, k2, k3, k4⟩ := KK.out
                clear KK
                have hzz := (k4 rfl).symm
                subst hzz
                clear k0 k1 k2 k3 k4
                go_wp2_with fail
                refine (HA.out _).mono ?_
                rintro e w5 ⟨rfl, hb5⟩
                have HB5 := Lib.hid (HBW.out.1.trans (hb5.mono HBW.out.2))
                clear hb5
                go_wp2_with fail
                go_ret
                exact ⟨rfl, HB5.out⟩
              · skip
                obtain ⟨k0, k1, k2, k3, k4⟩ := KK.out
                clear KK
                have hzn : z ≠ 0 := k0 (by omega) (by omega)
                have hq_60 : ((z : Int) == (0 : Int)) = false := beq_eq_false_iff_ne.2 (by omega)
                have hq_61 : ((z : Int) != (0 : Int)) = true := by simp <;> omega
                have hq_62 : ¬ (z : Int) = (0 : Int) := by omega
                have hq_63 : ((0 : Int) == (z : Int)) = false := beq_eq_false_iff_ne.2 (by omega)
                have hq_64 : ((0 : Int) != (z : Int)) = true := by simp <;> omega
                have hq_65 : ¬ (0 : Int) = (z : Int) := by omega
                have hq_66 : ((y : Int) == (0 : Int)) = false := beq_eq_false_iff_ne.2 (by omega)
                have hq_67 : ((y : Int) != (0 : Int)) = true := by simp <;> omega
                have hq_68 : ¬ (y : Int) = (0 : Int) := by omega
                have hq_69 : ((0 : Int) == (y : Int)) = false := beq_eq_false_iff_ne.2 (by omega)
                have hq_70 : ((0 : Int) != (y : Int)) = true := by simp <;> omega
                have hq_71 : ¬ (0 : Int) = (y : Int) := by omega
                have hq_72 : ((y : Int) == (4 : Int)) = false := beq_eq_false_iff_ne.2 (by omega)
                have hq_73 : ((y : Int) != (4 : Int)) = true := by simp <;> omega
                have hq_74 : ¬ (y : Int) = (4 : Int) := by omega
                have hq_75 : ((4 : Int) == (y : Int)) = false := beq_eq_false_iff_ne.2 (by omega)
                have hq_76 : ((4 : Int) != (y : Int)) = true := by simp <;> omega
                have hq_77 : ¬ (4 : Int) = (y : Int) := by omega
                have hq_78 : ((y : Int) == (7 : Int)) = false := beq_eq_false_iff_ne.2 (by omega)
                have hq_79 : ((y : Int) != (7 : Int)) = true := by simp <;> omega
                have hq_80 : ¬ (y : Int) = (7 : Int) := by omega
                have hq_81 : ((7 : Int) == (y : Int)) = false := beq_eq_false_iff_ne.2 (by omega)
                have hq_82 : ((7 : Int) != (y : Int)) = true := by simp <;> omega
                have hq_83 : ¬ (7 : Int) = (y : Int) := by omega
                clear k0 k1 k2 k3 k4
                go_wp2_with fail
                refine (HA.out _).mono ?_
                rintro e w5 ⟨rfl, hb5⟩
                have HB5 := Lib.hid (HBW.out.1.trans (hb5.mono HBW.out.2))
                clear hb5
                go_wp2_with fail
                go_ret
                exact ⟨rfl, HB5.out⟩
        · skip
          by_cases hx5 : x = 5
          · subst hx5
            by_cases hy0 : y = 0
            · subst hy0
              obtain ⟨k0, k1, k2, k3, k4⟩ := KK.out
              clear KK
              clear k0 k1 k2 k3 k4
              go_wp2_with fail
              refine (HA.out _).mono ?_
              rintro e w5 ⟨rfl, hb5⟩
              have HB5 := Lib.hid (HBW.out.1.trans (hb5.mono HBW.out.2))
              clear hb5
              go_wp2_with fail
              go_ret
              exact ⟨rfl, HB5.out⟩
            · skip
              by_cases hy5 : y = 5
              · subst hy5
                obtain ⟨k0, k1, k2, k3, k4⟩ := KK.out
                clear KK
                have hzz := (k1 5 (by omega) rfl rfl).symm
                subst hzz
                clear k0 k1 k2 k3 k4
                go_wp2_with fail
                refine (HA.out _).mono ?_
                rintro e w5 ⟨rfl, hb5⟩
                have HB5 := Lib.hid (HBW.out.1.trans (hb5.mono HBW.out.2))
                clear hb5
                go_wp2_with fail
                go_ret
                exact ⟨rfl, HB5.out⟩
              · skip
                by_cases hy7 : y = 7
                · subst hy7
                  obtain ⟨k0, k1, k2, k3, k4⟩ := KK.out
                  clear KK
                  have hzz := (k4 rfl).symm
                  subst hzz
                  clear k0 k1 k2 k3 k4
                  go_wp2_with fail
                  refine (HA.out _).mono ?_
                  rintro e w5 ⟨rfl, hb5⟩
                  have HB5 := Lib.hid (HBW.out.1.trans (hb5.mono HBW.out.2))
                  clear hb5
                  go_wp2_with fail
                  go_ret
                  exact ⟨rfl, HB5.out⟩
                · skip
                  obtain ⟨k0, k1, k2, k3, k4⟩ := KK.out
                  clear KK
                  have hzn : z ≠ 0 := k0 (by omega) (by omega)
                  have hq_84 : ((z : Int) == (0 : Int)) = false := beq_eq_false_iff_ne.2 (by omega)
                  have hq_85 : ((z : Int) != (0 : Int)) = true := by simp <;> omega
                  have hq_86 : ¬ (z : Int) = (0 : Int) := by omega
                  have hq_87 : ((0 : Int) == (z : Int)) = false := beq_eq_false_iff_ne.2 (by omega)
                  have hq_88 : ((0 : Int) != (z : Int)) = true := by simp <;> omega
                  have hq_89 : ¬ (0 : Int) = (z : Int) := by omega
                  have hq_90 : ((y : Int) == (0 : Int)) = false := beq_eq_false_iff_ne.2 (by omega)
                  have hq_91 : ((y : Int) != (0 : Int)) = true := by simp <;> omega
                  have hq_92 : ¬ (y : Int) = (0 : Int) := by omega
                  have hq_93 : ((0 : Int) == (y : Int)) = false := beq_eq_false_iff_ne.2 (by omega)
                  have hq_94 : ((0 : Int) != (y : Int)) = true := by simp <;> omega
                  have hq_95 : ¬ (0 : Int) = (y : Int) := by omega
                  have hq_96 : ((y : Int) == (5 : Int)) = false := beq_eq_false_iff_ne.2 (by omega)
                  have hq_97 : ((y : Int) != (5 : Int)) = true := by simp <;> omega
                  have hq_98 : ¬ (y : Int) = (5 : Int) := by omega
                  have hq_99 : ((5 : Int) == (y : Int)) = false := beq_eq_false_iff_ne.2 (by omega)
                  have hq_100 : ((5 : Int) != (y : Int)) = true := by simp <;> omega
                  have hq_101 : ¬ (5 : Int) = (y : Int) := by omega
                  have hq_102 : ((y : Int) == (7 : Int)) = false := beq_eq_false_iff_ne.2 (by omega)
                  have hq_103 : ((y : Int) != (7 : Int)) = true := by simp <;> omega
                  have hq_104 : ¬ (y : Int) = (7 : Int) := by omega
                  have hq_105 : ((7 : Int) == (y : Int)) = false := beq_eq_false_iff_ne.2 (by omega)
                  have hq_106 : ((7 : Int) != (y : Int)) = true := by simp <;> omega
                  have hq_107 : ¬ (7 : Int) = (y : Int) := by omega
                  clear k0 k1 k2 k3 k4
                  go_wp2_with fail
                  refine (HA.out _).mono ?_
                  rintro e w5 ⟨rfl, hb5⟩
                  have HB5 := Lib.hid (HBW.out.1.trans (hb5.mono HBW.out.2))
                  clear hb5
                  go_wp2_with fail
                  go_ret
                  exact ⟨rfl, HB5.out⟩
          · skip
            by_cases hx6 : x = 6
            · subst hx6
              by_cases hy0 : y = 0
              · subst hy0
                obtain ⟨k0, k1, k2, k3, k4⟩ := KK.out
                clear KK
                clear k0 k1 k2 k3 k4
                go_wp2_with fail
                refine (HA.out _).mono ?_
                rintro e w5 ⟨rfl, hb5⟩
                have HB5 := Lib.hid (HBW.out.1.trans (hb5.mono HBW.out.2))
                clear hb5
                go_wp2_with fail
                go_ret
                exact ⟨rfl, HB5.out⟩
              · skip
                by_cases hy6 : y = 6
                · subst hy6
                  obtain ⟨k0, k1, k2, k3, k4⟩ := KK.out
                  clear KK
                  have hzz := (k1 6 (by omega) rfl rfl).symm
                  subst hzz
                  clear k0 k1 k2 k3 k4
                  go_wp2_with fail
                  refine (HA.out _).mono ?_
                  rintro e w5 ⟨rfl, hb5⟩
                  have HB5 := Lib.hid (HBW.out.1.trans (hb5.mono HBW.out.2))
                  clear hb5
                  go_wp2_with fail
                  go_ret
                  exact ⟨rfl, HB5.out⟩
                · skip
                  by_cases hy7 : y = 7
                  · subst hy7
                    obtain ⟨k0, k1, k2, k3, k4⟩ := KK.out
                    clear KK
                    have hzz := (k4 rfl).symm
                    subst hzz
                    clear k0 k1 k2 k3 k4
                    go_wp2_with fail
                    refine (HA.out _).mono ?_
                    rintro e w5 ⟨rfl, hb5⟩
                    have HB5 := Lib.hid (HBW.out.1.trans (hb5.mono HBW.out.2))
                    clear hb5
                    go_wp2_with fail
                    go_ret
                    exact ⟨rfl, HB5.out⟩
                  · skip
                    obtain ⟨k0, k1, k2, k3, k4⟩ := KK.out
                    clear KK
                    have hzn : z ≠ 0 := k0 (by omega) (by omega)
                    have hq_108 : ((z : Int) == (0 : Int)) = false := beq_eq_false_iff_ne.2 (by omega)
                    have hq_109 : ((z : Int) != (0 : Int)) = true := by simp <;> omega
                    have hq_110 : ¬ (z : Int) = (0 : Int) := by omega
                    have hq_111 : ((0 : Int) == (z : Int)) = false := beq_eq_false_iff_ne.2 (by omega)
                    have hq_112 : ((0 : Int) != (z : Int)) = true := by simp <;> omega
                    have hq_113 : ¬ (0 : Int) = (z : Int) := by omega
                    have hq_114 : ((y : Int) == (0 : Int)) = false := beq_eq_false_iff_ne.2 (by omega)
                    have hq_115 : ((y : Int) != (0 : Int)) = true := by simp <;> omega
                    have hq_116 : ¬ (y : Int) = (0 : Int) := by omega
                    have hq_117 : ((0 : Int) == (y : Int)) = false := beq_eq_false_iff_ne.2 (by omega)
                    have hq_118 : ((0 : Int) != (y : Int)) = true := by simp <;> omega
                    have hq_119 : ¬ (0 : Int) = (y : Int) := by omega
                    have hq_120 : ((y : Int) == (6 : Int)) = false := beq_eq_false_iff_ne.2 (by omega)
                    have hq_121 : ((y : Int) != (6 : Int)) = true := by simp <;> omega
                    have hq_122 : ¬ (y : Int) = (6 : Int) := by omega
                    have hq_123 : ((6 : Int) == (y : Int)) = false := beq_eq_false_iff_ne.2 (by omega)
                    have hq_124 : ((6 : Int) != (y : Int)) = true := by simp <;> omega
                    have hq_125 : ¬ (6 : Int) = (y : Int) := by omega
                    have hq_126 : ((y : Int) == (7 : Int)) = false := beq_eq_false_iff_ne.2 (by omega)
                    have hq_127 : ((y : Int) != (7 : Int)) = true := by simp <;> omega
                    have hq_128 : ¬ (y : Int) = (7 : Int) := by omega
                    have hq_129 : ((7 : Int) == (y : Int)) = false := beq_eq_false_iff_ne.2 (by omega)
                    have hq_130 : ((7 : Int) != (y : Int)) = true := by simp <;> omega
                    have hq_131 : ¬ (7 : Int) = (y : Int) := by omega
                    clear k0 k1 k2 k3 k4
                    go_wp2_with fail
                    refine (HA.out _).mono ?_
                    rintro e w5 ⟨rfl, hb5⟩
                    have HB5 := Lib.hid (HBW.out.1.trans (hb5.mono HBW.out.2))
                    clear hb5
                    go_wp2_with fail
                    go_ret
                    exact ⟨rfl, HB5.out⟩
            · skip
              by_cases hx7 : x = 7
              · subst hx7
                by_cases hy0 : y = 0
                · subst hy0
                  obtain ⟨k0, k1, k2, k3, k4⟩ := KK.out
                  clear KK
                  have hzz := (k3 rfl).symm
                  subst hzz
                  clear k0 k1 k2 k3 k4
                  go_wp2_with fail
                  refine (HA.out _).mono ?_
                  rintro e w5 ⟨rfl, hb5⟩
                  have HB5 := Lib.hid (HBW.out.1.trans (hb5.mono HBW.out.2))
                  clear hb5
                  go_wp2_with fail
                  go_ret
                  exact ⟨rfl, HB5.out⟩
                · skip
                  by_cases hy7 : y = 7
                  · subst hy7
                    obtain ⟨k0, k1, k2, k3, k4⟩ := KK.out
                    clear KK
                    have hzz := (k3 rfl).symm
                    subst hzz
                    clear k0 k1 k2 k3 k4
                    go_wp2_with fail
                    refine (HA.out _).mono ?_
                    rintro e w5 ⟨rfl, hb5⟩
                    have HB5 := Lib.hid (HBW.out.1.trans (hb5.mono HBW.out.2))
                    clear hb5
                    go_wp2_with fail
                    go_ret
                    exact ⟨rfl, HB5.out⟩
                  · skip
                    obtain ⟨k0, k1, k2, k3, k4⟩ := KK.out
                    clear KK
                    have hzz := (k3 rfl).symm
                    subst hzz
                    have hq_132 : ((y : Int) == (0 : Int)) = false := beq_eq_false_iff_ne.2 (by omega)
                    have hq_133 : ((y : Int) != (0 : Int)) = true := by simp <;> omega
                    have hq_134 : ¬ (y : Int) = (0 : Int) := by omega
                    have hq_135 : ((0 : Int) == (y : Int)) = false := beq_eq_false_iff_ne.2 (by omega)
                    have hq_136 : ((0 : Int) != (y : Int)) = true := by simp <;> omega
                    have hq_137 : ¬ (0 : Int) = (y : Int) := by omega
                    have hq_138 : ((y : Int) == (7 : Int)) = false := beq_eq_false_iff_ne.2 (by omega)
                    have hq_139 : ((y : Int) != (7 : Int)) = true := by simp <;> omega
                    have hq_140 : ¬ (y : Int) = (7 : Int) := by omega
                    have hq_141 : ((7 : Int) == (y : Int)) = false := beq_eq_false_iff_ne.2 (by omega)
                    have hq_142 : ((7 : Int) != (y : Int)) = true := by simp <;> omega
                    have hq_143 : ¬ (7 : Int) = (y : Int) := by omega
                    have hq_a : (y != y) = false := by simp
                    have hq_b : (y == y) = true := by simp
                    clear k0 k1 k2 k3 k4
                    go_wp2_with fail
                    refine (HA.out _).mono ?_
                    rintro e w5 ⟨rfl, hb5⟩
                    have HB5 := Lib.hid (HBW.out.1.trans (hb5.mono HBW.out.2))
                    clear hb5
                    go_wp2_with fail
                    go_ret
                    exact ⟨rfl, HB5.out⟩
              · skip
                by_cases hy0 : y = 0
                · subst hy0
                  obtain ⟨k0, k1, k2, k3, k4⟩ := KK.out
                  clear KK
                  have hq_144 : ((x : Int) == (0 : Int)) = false := beq_eq_false_iff_ne.2 (by omega)
                  have hq_145 : ((x : Int) != (0 : Int)) = true := by simp <;> omega
                  have hq_146 : ¬ (x : Int) = (0 : Int) := by omega
                  have hq_147 : ((0 : Int) == (x : Int)) = false := beq_eq_false_iff_ne.2 (by omega)
                  have hq_148 : ((0 : Int) != (x : Int)) = true := by simp <;> omega
                  have hq_149 : ¬ (0 : Int) = (x : Int) := by omega
                  have hq_150 : ((x : Int) == (1 : Int)) = false := beq_eq_false_iff_ne.2 (by omega)
                  have hq_151 : ((x : Int) != (1 : Int)) = true := by simp <;> omega
                  have hq_152 : ¬ (x : Int) = (1 : Int) := by omega
                  have hq_153 : ((1 : Int) == (x : Int)) = false := beq_eq_false_iff_ne.2 (by omega)
                  have hq_154 : ((1 : Int) != (x : Int)) = true := by simp <;> omega
                  have hq_155 : ¬ (1 : Int) = (x : Int) := by omega
                  have hq_156 : ((x : Int) == (4 : Int)) = false := beq_eq_false_iff_ne.2 (by omega)
                  have hq_157 : ((x : Int) != (4 : Int)) = true := by simp <;> omega
                  have hq_158 : ¬ (x : Int) = (4 : Int) := by omega
                  have hq_159 : ((4 : Int) == (x : Int)) = false := beq_eq_false_iff_ne.2 (by omega)
                  have hq_160 : ((4 : Int) != (x : Int)) = true := by simp <;> omega
                  have hq_161 : ¬ (4 : Int) = (x : Int) := by omega
                  have hq_162 : ((x : Int) == (5 : Int)) = false := beq_eq_false_iff_ne.2 (by omega)
                  have hq_163 : ((x : Int) != (5 : Int)) = true := by simp <;> omega
                  have hq_164 : ¬ (x : Int) = (5 : Int) := by omega
                  have hq_165 : ((5 : Int) == (x : Int)) = false := beq_eq_false_iff_ne.2 (by omega)
                  have hq_166 : ((5 : Int) != (x : Int)) = true := by simp <;> omega
                  have hq_167 : ¬ (5 : Int) = (x : Int) := by omega
                  have hq_168 : ((x : Int) == (6 : Int)) = false := beq_eq_false_iff_ne.2 (by omega)
                  have hq_169 : ((x : Int) != (6 : Int)) = true := by simp <;> omega
                  have hq_170 : ¬ (x : Int) = (6 : Int) := by omega
                  have hq_171 : ((6 : Int) == (x : Int)) = false := beq_eq_false_iff_ne.2 (by omega)
                  have hq_172 : ((6 : Int) != (x : Int)) = true := by simp <;> omega
                  have hq_173 : ¬ (6 : Int) = (x : Int) := by omega
                  have hq_174 : ((x : Int) == (7 : Int)) = false := beq_eq_false_iff_ne.2 (by omega)
                  have hq_175 : ((x : Int) != (7 : Int)) = true := by simp <;> omega
                  have hq_176 : ¬ (x : Int) = (7 : Int) := by omega
                  have hq_177 : ((7 : Int) == (x : Int)) = false := beq_eq_false_iff_ne.2 (by omega)
                  have hq_178 : ((7 : Int) != (x : Int)) = true := by simp <;> omega
                  have hq_179 : ¬ (7 : Int) = (x : Int) := by omega
                  clear k0 k1 k2 k3 k4
                  go_wp2_with fail
                  refine (HA.out _).mono ?_
                  rintro e w5 ⟨rfl, hb5⟩
                  have HB5 := Lib.hid (HBW.out.1.trans (hb5.mono HBW.out.2))
                  clear hb5
                  go_wp2_with fail
                  go_ret
                  exact ⟨rfl, HB5.out⟩
                · skip
                  by_cases hy7 : y = 7
                  · subst hy7
                    obtain ⟨k0, k1, k2, k3, k4⟩ := KK.out
                    clear KK
                    have hzz := (k4 rfl).symm
                    subst hzz
                    have hq_180 : ((x : Int) == (0 : Int)) = false := beq_eq_false_iff_ne.2 (by omega)
                    have hq_181 : ((x : Int) != (0 : Int)) = true := by simp <;> omega
                    have hq_182 : ¬ (x : Int) = (0 : Int) := by omega
                    have hq_183 : ((0 : Int) == (x : Int)) = false := beq_eq_false_iff_ne.2 (by omega)
                    have hq_184 : ((0 : Int) != (x : Int)) = true := by simp <;> omega
                    have hq_185 : ¬ (0 : Int) = (x : Int) := by omega
                    have hq_186 : ((x : Int) == (1 : Int)) = false := beq_eq_false_iff_ne.2 (by omega)
                    have hq_187 : ((x : Int) != (1 : Int)) = true := by simp <;> omega
                    have hq_188 : ¬ (x : Int) = (1 : Int) := by omega
                    have hq_189 : ((1 : Int) == (x : Int)) = false := beq_eq_false_iff_ne.2 (by omega)
                    have hq_190 : ((1 : Int) != (x : Int)) = true := by simp <;> omega
                    have hq_191 : ¬ (1 : Int) = (x : Int) := by omega
                    have hq_192 : ((x : Int) == (4 : Int)) = false := beq_eq_false_iff_ne.2 (by omega)
                    have hq_193 : ((x : Int) != (4 : Int)) = true := by simp <;> omega
                    have hq_194 : ¬ (x : Int) = (4 : Int) := by omega
                    have hq_195 : ((4 : Int) == (x : Int)) = false := beq_eq_false_iff_ne.2 (by omega)
                    have hq_196 : ((4 : Int) != (x : Int)) = true := by simp <;> omega
                    have hq_197 : ¬ (4 : Int) = (x : Int) := by omega
                    have hq_198 : ((x : Int) == (5 : Int)) = false := beq_eq_false_iff_ne.2 (by omega)
                    have hq_199 : ((x : Int) != (5 : Int)) = true := by simp <;> omega
                    have hq_200 : ¬ (x : Int) = (5 : Int) := by omega
                    have hq_201 : ((5 : Int) == (x : Int)) = false := beq_eq_false_iff_ne.2 (by omega)
                    have hq_202 : ((5 : Int) != (x : Int)) = true := by simp <;> omega
                    have hq_203 : ¬ (5 : Int) = (x : Int) := by omega
                    have hq_204 : ((x : Int) == (6 : Int)) = false := beq_eq_false_iff_ne.2 (by omega)
                    have hq_205 : ((x : Int) != (6 : Int)) = true := by simp <;> omega
                    have hq_206 : ¬ (x : Int) = (6 : Int) := by omega
                    have hq_207 : ((6 : Int) == (x : Int)) = false := beq_eq_false_iff_ne.2 (by omega)
                    have hq_208 : ((6 : Int) != (x : Int)) = true := by simp <;> omega
                    have hq_209 : ¬ (6 : Int) = (x : Int) := by omega
                    have hq_210 : ((x : Int) == (7 : Int)) = false := beq_eq_false_iff_ne.2 (by omega)
                    have hq_211 : ((x : Int) != (7 : Int)) = true := by simp <;> omega
                    have hq_212 : ¬ (x : Int) = (7 : Int) := by omega
                    have hq_213 : ((7 : Int) == (x : Int)) = false := beq_eq_false_iff_ne.2 (by omega)
                    have hq_214 : ((7 : Int) != (x : Int)) = true := by simp <;> omega
                    have hq_215 : ¬ (7 : Int) = (x : Int) := by omega
                    have hq_a : (x != x) = false := by simp
                    have hq_b : (x == x) = true := by simp
                    clear k0 k1 k2 k3 k4
                    go_wp2_with fail
                    refine (HA.out _).mono ?_
                    rintro e w5 ⟨rfl, hb5⟩
                    have HB5 := Lib.hid (HBW.out.1.trans (hb5.mono HBW.out.2))
                    clear hb5
                    go_wp2_with fail
                    go_ret
                    exact ⟨rfl, HB5.out⟩
                  · skip
                    by_cases hyx : y = x
                    · subst hyx
                      obtain ⟨k0, k1, k2, k3, k4⟩ := KK.out
                      clear KK
                      have hzn : z ≠ 0 := k0 (by omega) (by omega)
                      have hq_216 : ((z : Int) == (0 : Int)) = false := beq_eq_false_iff_ne.2 (by omega)
                      have hq_217 : ((z : Int) != (0 : Int)) = true := by simp <;> omega
                      have hq_218 : ¬ (z : Int) = (0 : Int) := by omega
                      have hq_219 : ((0 : Int) == (z : Int)) = false := beq_eq_false_iff_ne.2 (by omega)
                      have hq_220 : ((0 : Int) != (z : Int)) = true := by simp <;> omega
                      have hq_221 : ¬ (0 : Int) = (z : Int) := by omega
                      have hq_222 : ((y : Int) == (0 : Int)) = false := beq_eq_false_iff_ne.2 (by omega)
                      have hq_223 : ((y : Int) != (0 : Int)) = true := by simp <;> omega
                      have hq_224 : ¬ (y : Int) = (0 : Int) := by omega
                      have hq_225 : ((0 : Int) == (y : Int)) = false := beq_eq_false_iff_ne.2 (by omega)
                      have hq_226 : ((0 : Int) != (y : Int)) = true := by simp <;> omega
                      have hq_227 : ¬ (0 : Int) = (y : Int) := by omega
                      have hq_228 : ((y : Int) == (1 : Int)) = false := beq_eq_false_iff_ne.2 (by omega)
                      have hq_229 : ((y : Int) != (1 : Int)) = true := by simp <;> omega
                      have hq_230 : ¬ (y : Int) = (1 : Int) := by omega
                      have hq_231 : ((1 : Int) == (y : Int)) = false := beq_eq_false_iff_ne.2 (by omega)
                      have hq_232 : ((1 : Int) != (y : Int)) = true := by simp <;> omega
                      have hq_233 : ¬ (1 : Int) = (y : Int) := by omega
                      have hq_234 : ((y : Int) == (4 : Int)) = false := beq_eq_false_iff_ne.2 (by omega)
                      have hq_235 : ((y : Int) != (4 : Int)) = true := by simp <;> omega
                      have hq_236 : ¬ (y : Int) = (4 : Int) := by omega
                      have hq_237 : ((4 : Int) == (y : Int)) = false := beq_eq_false_iff_ne.2 (by omega)
                      have hq_238 : ((4 : Int) != (y : Int)) = true := by simp <;> omega
                      have hq_239 : ¬ (4 : Int) = (y : Int) := by omega
                      have hq_240 : ((y : Int) == (5 : Int)) = false := beq_eq_false_iff_ne.2 (by omega)
                      have hq_241 : ((y : Int) != (5 : Int)) = true := by simp <;> omega
                      have hq_242 : ¬ (y : Int) = (5 : Int) := by omega
                      have hq_243 : ((5 : Int) == (y : Int)) = false := beq_eq_false_iff_ne.2 (by omega)
                      have hq_244 : ((5 : Int) != (y : Int)) = true := by simp <;> omega
                      have hq_245 : ¬ (5 : Int) = (y : Int) := by omega
                      have hq_246 : ((y : Int) == (6 : Int)) = false := beq_eq_false_iff_ne.2 (by omega)
                      have hq_247 : ((y : Int) != (6 : Int)) = true := by simp <;> omega
                      have hq_248 : ¬ (y : Int) = (6 : Int) := by omega
                      have hq_249 : ((6 : Int) == (y : Int)) = false := beq_eq_false_iff_ne.2 (by omega)
                      have hq_250 : ((6 : Int) != (y : Int)) = true := by simp <;> omega
                      have hq_251 : ¬ (6 : Int) = (y : Int) := by omega
                      have hq_252 : ((y : Int) == (7 : Int)) = false := beq_eq_false_iff_ne.2 (by omega)
                      have hq_253 : ((y : Int) != (7 : Int)) = true := by simp <;> omega
                      have hq_254 : ¬ (y : Int) = (7 : Int) := by omega
                      have hq_255 : ((7 : Int) == (y : Int)) = false := beq_eq_false_iff_ne.2 (by omega)
                      have hq_256 : ((7 : Int) != (y : Int)) = true := by simp <;> omega
                      have hq_257 : ¬ (7 : Int) = (y : Int) := by omega
                      have hq_c : (y == y) = true := by simp
                      clear k0 k1 k2 k3 k4
                      go_wp2_with fail
                      refine (HA.out _).mono ?_
                      rintro e w5 ⟨rfl, hb5⟩
                      have HB5 := Lib.hid (HBW.out.1.trans (hb5.mono HBW.out.2))
                      clear hb5
                      go_wp2_with fail
                      go_ret
                      exact ⟨rfl, HB5.out⟩
                    · skip
                      obtain ⟨k0, k1, k2, k3, k4⟩ := KK.out
                      clear KK
                      have hzn : z ≠ 0 := k0 (by omega) (by omega)
                      have hq_258 : ((z : Int) == (0 : Int)) = false := beq_eq_false_iff_ne.2 (by omega)
                      have hq_259 : ((z : Int) != (0 : Int)) = true := by simp <;> omega
                      have hq_260 : ¬ (z : Int) = (0 : Int) := by omega
                      have hq_261 : ((0 : Int) == (z : Int)) = false := beq_eq_false_iff_ne.2 (by omega)
                      have hq_262 : ((0 : Int) != (z : Int)) = true := by simp <;> omega
                      have hq_263 : ¬ (0 : Int) = (z : Int) := by omega
                      have hq_264 : ((x : Int) == (0 : Int)) = false := beq_eq_false_iff_ne.2 (by omega)
                      have hq_265 : ((x : Int) != (0 : Int)) = true := by simp <;> omega
                      have hq_266 : ¬ (x : Int) = (0 : Int) := by omega
                      have hq_267 : ((0 : Int) == (x : Int)) = false := beq_eq_false_iff_ne.2 (by omega)
                      have hq_268 : ((0 : Int) != (x : Int)) = true := by simp <;> omega
                      have hq_269 : ¬ (0 : Int) = (x : Int) := by omega
                      have hq_270 : ((x : Int) == (1 : Int)) = false := beq_eq_false_iff_ne.2 (by omega)
                      have hq_271 : ((x : Int) != (1 : Int)) = true := by simp <;> omega
                      have hq_272 : ¬ (x : Int) = (1 : Int) := by omega
                      have hq_273 : ((1 : Int) == (x : Int)) = false := beq_eq_false_iff_ne.2 (by omega)
                      have hq_274 : ((1 : Int) != (x : Int)) = true := by simp <;> omega
                      have hq_275 : ¬ (1 : Int) = (x : Int) := by omega
                      have hq_276 : ((x : Int) == (4 : Int)) = false := beq_eq_false_iff_ne.2 (by omega)
                      have hq_277 : ((x : Int) != (4 : Int)) = true := by simp <;> omega
                      have hq_278 : ¬ (x : Int) = (4 : Int) := by omega
                      have hq_279 : ((4 : Int) == (x : Int)) = false := beq_eq_false_iff_ne.2 (by omega)
                      have hq_280 : ((4 : Int) != (x : Int)) = true := by simp <;> omega
                      have hq_281 : ¬ (4 : Int) = (x : Int) := by omega
                      have hq_282 : ((x : Int) == (5 : Int)) = false := beq_eq_false_iff_ne.2 (by omega)
                      have hq_283 : ((x : Int) != (5 : Int)) = true := by simp <;> omega
                      have hq_284 : ¬ (x : Int) = (5 : Int) := by omega
                      have hq_285 : ((5 : Int) == (x : Int)) = false := beq_eq_false_iff_ne.2 (by omega)
                      have hq_286 : ((5 : Int) != (x : Int)) = true := by simp <;> omega
                      have hq_287 : ¬ (5 : Int) = (x : Int) := by omega
                      have hq_288 : ((x : Int) == (6 : Int)) = false := beq_eq_false_iff_ne.2 (by omega)
                      have hq_289 : ((x : Int) != (6 : Int)) = true := by simp <;> omega
                      have hq_290 : ¬ (x : Int) = (6 : Int) := by omega
                      have hq_291 : ((6 : Int) == (x : Int)) = false := beq_eq_false_iff_ne.2 (by omega)
                      have hq_292 : ((6 : Int) != (x : Int)) = true := by simp <;> omega
                      have hq_293 : ¬ (6 : Int) = (x : Int) := by omega
                      have hq_294 : ((x : Int) == (7 : Int)) = false := beq_eq_false_iff_ne.2 (by omega)
                      have hq_295 : ((x : Int) != (7 : Int)) = true := by simp <;> omega
                      have hq_296 : ¬ (x : Int) = (7 : Int) := by omega
                      have hq_297 : ((7 : Int) == (x : Int)) = false := beq_eq_false_iff_ne.2 (by omega)
                      have hq_298 : ((7 : Int) != (x : Int)) = true := by simp <;> omega
                      have hq_299 : ¬ (7 : Int) = (x : Int) := by omega
                      have hq_300 : ((y : Int) == (0 : Int)) = false := beq_eq_false_iff_ne.2 (by omega)
                      have hq_301 : ((y : Int) != (0 : Int)) = true := by simp <;> omega
                      have hq_302 : ¬ (y : Int) = (0 : Int) := by omega
                      have hq_303 : ((0 : Int) == (y : Int)) = false := beq_eq_false_iff_ne.2 (by omega)
                      have hq_304 : ((0 : Int) != (y : Int)) = true := by simp <;> omega
                      have hq_305 : ¬ (0 : Int) = (y : Int) := by omega
                      have hq_306 : ((y : Int) == (7 : Int)) = false := beq_eq_false_iff_ne.2 (by omega)
                      have hq_307 : ((y : Int) != (7 : Int)) = true := by simp <;> omega
                      have hq_308 : ¬ (y : Int) = (7 : Int) := by omega
                      have hq_309 : ((7 : Int) == (y : Int)) = false := beq_eq_false_iff_ne.2 (by omega)
                      have hq_310 : ((7 : Int) != (y : Int)) = true := by simp <;> omega
                      have hq_311 : ¬ (7 : Int) = (y : Int) := by omega
                      have hq_312 : ((x : Int) == (y : Int)) = false := beq_eq_false_iff_ne.2 (by omega)
                      have hq_313 : ((x : Int) != (y : Int)) = true := by simp <;> omega
                      have hq_314 : ¬ (x : Int) = (y : Int) := by omega
                      have hq_315 : ((y : Int) == (x : Int)) = false := beq_eq_false_iff_ne.2 (by omega)
                      have hq_316 : ((y : Int) != (x : Int)) = true := by simp <;> omega
                      have hq_317 : ¬ (y : Int) = (x : Int) := by omega
                      clear k0 k1 k2 k3 k4
                      go_wp2_with fail
                      refine (HA.out _).mono ?_
                      rintro e w5 ⟨rfl, hb5⟩
                      have HB5 := Lib.hid (HBW.out.1.trans (hb5.mono HBW.out.2))
                      clear hb5
                      go_wp2_with fail
                      go_ret
                      exact ⟨rfl, HB5.out⟩

theorem own : ownKnob Try.prog.godebug = none := by kernel_rfl

set_option maxRecDepth 100000 in
theorem lifted (os : Os) (started : os.Started) (H : Type) (enc : TypeId × Value → H) :
    ReturnsInHanded {} Try.checked os 6 .any (Rows.intervalComposesSpec.pre6 enc Try.prog Try.f6 Rows.intervalComposesRow.domain false) (Rows.intervalComposesSpec.post enc Try.prog Try.f6 false true false false) := by
  refine returnsInHanded_of_change (C := Try.checked) own started (by kernel_rfl) Try.func6
    (ChangeSpec.witness6 (enc := enc) (C := Try.checked) false ⟨#[], #[.agg #[.int .i64 0, .int .i64 0], .agg #[.int .i64 0, .int .i64 0], .agg #[.int .i64 0, .int .i64 0]], []⟩ 8 (by kernel_rfl) (by kernel_rfl) (by kernel_rfl) (by kernel_rfl)) ?_
  intro W base args ds gs before hval0 hW hcnd _
  have hval : ∀ (j : Nat) t v, Try.f6.params[j]? = some t → args[j]? = some v → Value.okWide Try.prog W .any base t v := hval0
  have hW' := hW
  have hplt : ∀ x ∈ before, x.block < W.heap.size := fun x hx => hW.lt x hx
  obtain ⟨p, q, hA0, hV, rfl, hfz, hnd⟩ := hW
  have hA : DataW.TrodAll enc Try.prog W 0 (fun _ => true) true Try.f6.params.toList args.toList ds p := hA0
  rw [Try.params6] at hA hval
  obtain ⟨v0, vs0, d0, ds0, p0, q0, hargs, rfl, rfl, h0, r0⟩ := trodAll_cons hA
  obtain ⟨v1, vs1, d1, ds1, p1, q1, rfl, rfl, rfl, h1, r1⟩ := trodAll_cons r0
  obtain ⟨v2, vs2, d2, ds2, p2, q2, rfl, rfl, rfl, h2, r2⟩ := trodAll_cons r1
  obtain ⟨rfl, rfl, rfl⟩ := trodAll_nil r2
  obtain rfl : args = #[v0, v1, v2] := by cases args; simp_all
  obtain ⟨rfl, rfl⟩ := trodVars_none hV
  obtain ⟨x0, rfl, m0⟩ := open_sp (hval 0 31 v0 rfl rfl) h0
  obtain ⟨x1, rfl, m1⟩ := open_sp (hval 1 31 v1 rfl rfl) h1
  obtain ⟨x2, rfl, m2⟩ := open_sp (hval 2 31 v2 rfl rfl) h2
  clear hA0 hval0
  refine (walk x0 m0 x1 m1 x2 m2).mono fun e W' ⟨he, bel⟩ => ?_
  subst he
  exact ⟨_, rfl, _, _, _, [], _, [], hW', trodAll_mk1 (shut_bool Try.underlying4 _), (trodAll_cons_mk (Below.trod Try.laidOut (by kernel_rfl) (of_decide_eq_true (by kernel_rfl)) h0 bel (fun x hx => hplt x (by simp [hx]))) (trodAll_cons_mk (Below.trod Try.laidOut (by kernel_rfl) (of_decide_eq_true (by kernel_rfl)) h1 bel (fun x hx => hplt x (by simp [hx]))) (trodAll_cons_mk (Below.trod Try.laidOut (by kernel_rfl) (of_decide_eq_true (by kernel_rfl)) h2 bel (fun x hx => hplt x (by simp [hx]))) trodAll_mk0))), rfl, World.keptBut_mono (fun x hx => ⟨hx, Or.inr (by simpa using hx)⟩) (bel.frame (· ∈ _)), fun h => by cases h⟩

theorem over : Rows.intervalComposesRow.holds Try.pinned (OpenSpec.ofChange Rows.intervalComposesSpec) :=
  OpenClaim.holds_of_wide 6 Try.f6 rfl rfl rfl rfl rfl rfl rfl ⟨rfl, rfl, rfl, rfl, rfl⟩ rfl rfl rfl rfl rfl (by kernel_rfl) Try.func6 (by kernel_rfl)
    (of_decide_eq_true (by kernel_rfl)) (by unfold Func.isWrapper; first | (rw [if_pos (by decide +kernel)]; kernel_rfl) | (rw [if_neg (by decide +kernel)]; exact ⟨rfl, rfl⟩))
    (fun os started H enc _ => lifted os started H enc)

/-- THE STATEMENT. -/
theorem proved : Rows.IntervalComposesSaid := over
end Go.Proofs.Ytpkkebojiengpaa.intervalComposes
