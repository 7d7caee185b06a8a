/-
  WALKS over the laws of interval: Same, long, awake.
-/
import Derived.Test.YtpkkebojiengpaaIbG
import Derived.Test.YtpkkebojiengpaaIbB
namespace Go.Proofs.Ytpkkebojiengpaa
open Go.RowKit Go.Shelf Go.Lib
set_option linter.unusedVariables false
set_option linter.unusedSimpArgs false

set_option maxRecDepth 100000 in
set_option maxHeartbeats 4000000 in
theorem same_any {w : World} {v1 v2 : Value} {xs ys : List Sp} (h1 : Rows 2 ESp w v1 xs) (h2 : Rows 2 ESp w v2 ys) (hl : xs.length ≤ 1000000) :
    Calls Try.prog 16 #[v1, v2] w (BoolV w (decide (xs = ys))) := by
  have HV1 := Lib.hid (fun W (h : Below w.heap.size w W) => h1.below stays_sp h)
  have HV2 := Lib.hid (fun W (h : Below w.heap.size w W) => h2.below stays_sp h)
  obtain ⟨A1, cap1, rfl, hc1⟩ := h1.form
  obtain ⟨A2, cap2, rfl, hc2⟩ := h2.form
  obtain ⟨n, hn⟩ : ∃ n, xs.length = n := ⟨_, rfl⟩
  obtain ⟨n2, hn2⟩ : ∃ n, ys.length = n := ⟨_, rfl⟩
  obtain ⟨r, hr⟩ : ∃ r, decide (xs = ys) = r := ⟨_, rfl⟩
  obtain ⟨N, hN⟩ : ∃ N, w.heap.size = N := ⟨_, rfl⟩
  unfold BoolV
  rw [hn] at hc1 HV1 hl ⊢
  rw [hn2] at hc2 HV2 ⊢
  rw [hN] at HV1 HV2 ⊢
  rw [hr]
  have HN := Lib.hid hn
  have HN2 := Lib.hid hn2
  have HR := Lib.hid hr
  clear h1 h2 hn hn2 hr hN
  by_cases hne : n = n2
  · subst hne
    go_enter Try.func16, Try.ntmps16
    go_wp2_with fail
    go_loopw [5, 13] (fun _ i wr => ∃ k : Nat, k ≤ n ∧ i = .int .i64 k ∧ Hid (xs.take k = ys.take k) ∧ Hid (Below N w wr)) (fun _ i _ => n - (Go.RowKit.intOf i).toNat)
    case atStart => exact ⟨0, Nat.zero_le _, rfl, Lib.hid rfl, Lib.hid (Below.refl _ _)⟩
    case round =>
      obtain ⟨k, hk, rfl, HT, HB⟩ := hrel
      by_cases hlt : k < n
      · obtain ⟨x, hx⟩ : ∃ x, xs[k]? = some x := ⟨_, List.getElem?_eq_getElem (by rw [HN.out]; omega)⟩
        obtain ⟨y, hy⟩ : ∃ x, ys[k]? = some x := ⟨_, List.getElem?_eq_getElem (by rw [HN2.out]; omega)⟩
        obtain ⟨b1, o1, rfl, _, hj1⟩ := at_sp (HV1.out wr HB.out) (by rw [HN.out]; omega)
        obtain ⟨b2, o2, rfl, _, hj2⟩ := at_sp (HV2.out wr HB.out) (by rw [HN2.out]; omega)
        obtain ⟨c0, c1⟩ := hj1 k x hx
        obtain ⟨d0, d1⟩ := hj2 k y hy
        have HX := Lib.hid hx
        have HY := Lib.hid hy
        obtain ⟨x1, x2⟩ := x
        obtain ⟨y1, y2⟩ := y
        simp only at c0 c1 d0 d1
        have hkn : (k : Int) < (n : Int) := by omega
        clear hx hy hj1 hj2
        by_cases he : (x1, x2) = (y1, y2)
        · cases he
          have HT2 : Hid (xs.take (k + 1) = ys.take (k + 1)) := Lib.hid (by rw [List.take_add_one, List.take_add_one, HX.out, HY.out, HT.out])
          clear HX HY HT
          go_wp2_with fail
          go_quiet (fail)
          go_wp2_with fail
          exact ⟨⟨k + 1, by omega, by go_num, HT2, Lib.hid (below_drewN HB.out nq)⟩, by simp only [Go.RowKit.intOf]; omega⟩
        · obtain rfl : r = false := by
            rw [← HR.out]
            refine decide_eq_false fun e => he ?_
            have := HX.out
            rw [e, HY.out] at this
            exact (Option.some.inj this).symm
          have hnp : ¬ (x1 = y1 ∧ x2 = y2) := fun e => he (by rw [e.1, e.2])
          clear he HX HY HT HR
          by_cases e1 : x1 = y1
          · have q1 : ¬ x2 = y2 := fun e => hnp ⟨e1, e⟩
            have q2 : (x2 == y2) = false := beq_eq_false_iff_ne.2 q1
            subst e1
            clear hnp
            go_wp2_with fail
            go_quiet (fail)
            go_wp2_with fail
            go_ret
            exact ⟨rfl, below_drewN HB.out nq⟩
          · have q2 : (x1 == y1) = false := beq_eq_false_iff_ne.2 e1
            clear hnp
            go_wp2_with fail
            go_quiet (fail)
            go_wp2_with fail
            go_ret
            exact ⟨rfl, below_drewN HB.out nq⟩
      · obtain rfl : k = n := by omega
        obtain rfl : r = true := by
          rw [← HR.out]
          have := HT.out
          rw [List.take_of_length_le (by rw [HN.out]; exact Nat.le_refl _), List.take_of_length_le (by rw [HN2.out]; exact Nat.le_refl _)] at this
          exact decide_eq_true this
        clear HT HR
        go_wp2_with fail
        go_ret
        exact ⟨rfl, HB.out⟩
  · obtain rfl : r = false := by
      rw [← HR.out]
      exact decide_eq_false fun e => hne (by rw [← HN.out, ← HN2.out, e])
    have hneb : ((n : Int) != (n2 : Int)) = true := by simp; omega
    have hnei : ¬ (n : Int) = (n2 : Int) := by omega
    clear HR
    go_enter Try.func16, Try.ntmps16
    go_wp2_with fail
    go_ret
    exact ⟨rfl, Below.refl _ _⟩

set_option maxRecDepth 100000 in
set_option maxHeartbeats 4000000 in
theorem long_any {w : World} {v : Value} {ls : List (List Sp)} (hv : Rows 1 ESl w v ls) (hm10 : ls.length ≤ 10) :
    Calls Try.prog 11 #[v] w (BoolV w (ls.any fun l => decide (60 < l.length))) := by
  have HV := Lib.hid (fun W (h : Below w.heap.size w W) => hv.below stays_sl h)
  obtain ⟨A, cap, rfl, hc⟩ := hv.form
  obtain ⟨m, hm⟩ : ∃ n, ls.length = n := ⟨_, rfl⟩
  obtain ⟨r, hr⟩ : ∃ r, (ls.any fun l => decide (60 < l.length)) = r := ⟨_, rfl⟩
  obtain ⟨N, hN⟩ : ∃ N, w.heap.size = N := ⟨_, rfl⟩
  unfold BoolV
  rw [hm] at hc HV hm10 ⊢
  rw [hN] at HV ⊢
  rw [hr]
  have HM := Lib.hid hm
  have HR := Lib.hid hr
  clear hv hm hr hN
  go_enter Try.func11, Try.ntmps11
  go_wp2_with fail
  go_loopw [4, 7] (fun _ i wr => ∃ k : Nat, k ≤ m ∧ i = .int .i64 k ∧ Hid (∀ (j : Nat) (l : List Sp), j < k → ls[j]? = some l → ¬ 60 < l.length) ∧ Hid (Below N w wr)) (fun _ i _ => m - (Go.RowKit.intOf i).toNat)
  case atStart => exact ⟨0, Nat.zero_le _, rfl, Lib.hid (fun j l h => absurd h (by omega)), Lib.hid (Below.refl _ _)⟩
  case round =>
    obtain ⟨k, hk, rfl, HS, HB⟩ := hrel
    by_cases hlt : k < m
    · obtain ⟨l, hl⟩ : ∃ x, ls[k]? = some x := ⟨_, List.getElem?_eq_getElem (by rw [HM.out]; omega)⟩
      obtain ⟨b1, o1, rfl, _, hj⟩ := at_sl (HV.out wr HB.out) (by rw [HM.out]; omega)
      obtain ⟨v1, c0, hrow⟩ := hj k l hl
      obtain ⟨A1, cap1, rfl, hc1⟩ := hrow.form
      obtain ⟨n, hn⟩ : ∃ n, l.length = n := ⟨_, rfl⟩
      rw [hn] at c0 hc1
      have HL := Lib.hid hl
      have HNL := Lib.hid hn
      have hkm : (k : Int) < (m : Int) := by omega
      clear hj hrow hl hn
      by_cases h60 : 60 < n
      · obtain rfl : r = true := by
          rw [← HR.out]
          exact List.any_eq_true.2 ⟨l, List.mem_of_getElem? HL.out, by rw [HNL.out]; exact decide_eq_true h60⟩
        have hg : (60 : Int) < (n : Int) := by omega
        clear HS HR HL HNL
        go_wp2_with fail
        go_ret
        exact ⟨rfl, HB.out⟩
      · have hg : ¬ (60 : Int) < (n : Int) := by omega
        have hgd : decide ((60 : Int) < (n : Int)) = false := by simp; omega
        have HS2 : Hid (∀ (j : Nat) (l : List Sp), j < k + 1 → ls[j]? = some l → ¬ 60 < l.length) := Lib.hid fun j l' hj hl' => by
          by_cases e : j = k
          · subst e
            rw [HL.out] at hl'
            cases hl'
            rw [HNL.out]
            exact h60
          · exact HS.out j l' (by omega) hl'
        clear HS HL HNL
        go_wp2_with fail
        exact ⟨⟨k + 1, by omega, by go_num, HS2, HB⟩, by simp only [Go.RowKit.intOf]; omega⟩
    · obtain rfl : k = m := by omega
      obtain rfl : r = false := by
        rw [← HR.out]
        refine List.any_eq_false.2 fun l hl => ?_
        obtain ⟨j, hj, rfl⟩ := List.getElem_of_mem hl
        simpa using HS.out j _ (by rw [← HM.out]; exact hj) (List.getElem?_eq_getElem hj)
      clear HS HR
      go_wp2_with fail
      go_ret
      exact ⟨rfl, HB.out⟩
theorem long1_any {w : World} {v : Value} {l : List Sp} (hv : Rows 2 ESp w v l) : Calls Try.prog 11 #[.slice (some ⟨w.heap.size, 0, none⟩) 1 1] (w.alloc (.cells #[v] 22)) fun e w' => e = .returned (.bool (decide (60 < l.length))) ∧ Below w.heap.size w w' := by
  have h := rows_sls w [v] [l] rfl (fun j u x hu hx => by
    match j, hu, hx with
    | 0, hu, hx => cases hu; cases hx; exact hv)
  refine (long_any h (by simp)).mono fun e w' ⟨h1, h2⟩ => ⟨?_, (below_box w _).trans (h2.mono (by simp))⟩
  rw [h1]
  simp
theorem long2_any {w : World} {v1 v2 : Value} {l m : List Sp} (h1 : Rows 2 ESp w v1 l) (h2 : Rows 2 ESp w v2 m) : Calls Try.prog 11 #[.slice (some ⟨w.heap.size, 0, none⟩) 2 2] (w.alloc (.cells #[v1, v2] 22)) fun e w' => e = .returned (.bool (decide (60 < l.length) || decide (60 < m.length))) ∧ Below w.heap.size w w' := by
  have h := rows_sls w [v1, v2] [l, m] rfl (fun j u x hu hx => by
    match j, hu, hx with
    | 0, hu, hx => cases hu; cases hx; exact h1
    | 1, hu, hx => cases hu; cases hx; exact h2)
  refine (long_any h (by simp)).mono fun e w' ⟨h1, h2⟩ => ⟨?_, (below_box w _).trans (h2.mono (by simp))⟩
  rw [h1]
  simp

set_option maxRecDepth 100000 in
set_option maxHeartbeats 4000000 in
theorem awake_any (w : World) : Calls Try.prog 17 #[] w (BoolV w true) := by
  obtain ⟨X, hX⟩ : ∃ X, w.alloc (.cells #[.int .i64 3, .int .i64 4, .int .i64 0, .int .i64 2, .int .i64 0, .int .i64 5, .int .i64 3, .int .i64 4] 31) = X := ⟨_, rfl⟩
  obtain ⟨N, hN⟩ : ∃ N, w.heap.size = N := ⟨_, rfl⟩
  have hb1 : X.heap[N]? = some (.cells (spRow [(3, 4), (0, 2), (0, 5), (3, 4)]) 31 (0, 0)) := by rw [← hX, ← hN]; exact block_new _ _
  have hbX : Below N w X := by rw [← hX, ← hN]; exact below_box _ _
  have HNM := Lib.hid (normalize_any (rows_sp (l := [(3, 4), (0, 2), (0, 5), (3, 4)]) (n := 4) (cap := 4) rfl (Nat.le_refl _) hb1))
  have e1 : chkS [(3, 4), (0, 2), (0, 5), (3, 4)] = 0 := by decide
  have e2 : norL [(3, 4), (0, 2), (0, 5), (3, 4)] = [(0, 5), (0, 2), (3, 4)] := by decide
  unfold NorV at HNM
  rw [e1, e2] at HNM
  have hXs : N ≤ X.heap.size := by rw [← hX, alloc_sz, hN]; omega
  have HX := Lib.hid hX
  have HN := Lib.hid hN
  have HBX := Lib.hid (And.intro hbX hXs)
  have HRL := Lib.hid (fun W => relation_any (0, 4) (2, 4) W)
  have e3 : relZ (0, 4) (2, 4) = 4 := by decide
  rw [e3] at HRL
  unfold BoolV
  rw [hN]
  clear hX hN hb1 hbX hXs e1 e2 e3
  go_enter Try.func17, Try.ntmps17
  go_wp2_with fail
  rw [HX.out, HN.out]
  refine HNM.out.mono ?_
  rintro e w1 ⟨⟨v1, rfl, hrow⟩, hw1⟩
  obtain ⟨X1, hX1⟩ : ∃ X, w1.alloc (.cells #[.int .i64 0, .int .i64 5, .int .i64 0, .int .i64 2, .int .i64 3, .int .i64 4] 31) = X := ⟨_, rfl⟩
  obtain ⟨N1, hN1⟩ : ∃ N, w1.heap.size = N := ⟨_, rfl⟩
  have hb2 : X1.heap[N1]? = some (.cells (spRow [(0, 5), (0, 2), (3, 4)]) 31 (0, 0)) := by rw [← hX1, ← hN1]; exact block_new _ _
  have hbX1 : Below w1.heap.size w1 X1 := by rw [← hX1]; exact below_box _ _
  have HS := Lib.hid (same_any (hrow.below stays_sp hbX1) (rows_sp (l := [(0, 5), (0, 2), (3, 4)]) (n := 3) (cap := 3) rfl (Nat.le_refl _) hb2) (by decide))
  have HB1 : Hid (Below N w X1 ∧ N ≤ X1.heap.size) := Lib.hid (by
    have h1 : Below N w w1 := HBX.out.1.trans (hw1.mono HBX.out.2)
    have h2 : N ≤ w1.heap.size := Nat.le_trans HBX.out.2 hw1.size
    exact ⟨h1.trans (hbX1.mono h2), Nat.le_trans h2 hbX1.size⟩)
  have HX1 := Lib.hid hX1
  have HN1 := Lib.hid hN1
  unfold BoolV at HS
  rw [show decide ([((0 : Int), (5 : Int)), (0, 2), (3, 4)] = [(0, 5), (0, 2), (3, 4)]) = true by decide] at HS
  clear hX1 hN1 hb2 hbX1 hrow hw1
  go_wp2_with fail
  rw [HX1.out, HN1.out]
  refine HS.out.mono ?_
  rintro e w2 ⟨rfl, hw2⟩
  have HB2 : Hid (Below N w w2 ∧ N ≤ w2.heap.size) := Lib.hid ⟨HB1.out.1.trans (hw2.mono HB1.out.2), Nat.le_trans HB1.out.2 hw2.size⟩
  clear hw2
  go_wp2_with fail
  refine (HRL.out w2).mono ?_
  rintro e w3 ⟨rfl, hw3⟩
  have HB3 := Lib.hid (HB2.out.1.trans (hw3.mono HB2.out.2))
  clear hw3
  go_wp2_with fail
  go_ret
  exact ⟨rfl, HB3.out⟩
end Go.Proofs.Ytpkkebojiengpaa
