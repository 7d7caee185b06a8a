/-
  WALKS over package corpus: the order of regions.
-/
import Derived.Test.YtmjmidgfdjcbfaaGreatDoorQcZ
namespace Go.Proofs.YtmjmidgfdjcbfaaGreatDoor
open Go.RowKit Go.Shelf Go.Lib
set_option linter.unusedVariables false

def orL : List Int → Int
  | [] => 0
  | x :: l => if x = 0 then orL l else x
theorem orL_step {xs : List Int} {k : Nat} {x : Int} (h : xs[k]? = some x) : orL (xs.drop k) = if x = 0 then orL (xs.drop (k + 1)) else x := by
  obtain ⟨hk, rfl⟩ := List.getElem?_eq_some_iff.1 h
  rw [List.drop_eq_getElem_cons hk, orL]

set_option maxRecDepth 100000 in
set_option maxHeartbeats 1000000 in
theorem or_any {w : World} {v : Value} {xs : List Int} (hv : Rows 1 EInt w v xs) (hl : xs.length ≤ maxLen) :
    Calls Tryz.prog 84 #[v] w fun e w' => e = .returned (.int .i64 (orL xs)) ∧ w' = w := by
  obtain ⟨A, cap, rfl, hc⟩ := hv.form
  obtain ⟨n, hn⟩ : ∃ n, xs.length = n := ⟨_, rfl⟩
  have HV := Lib.hid hv
  rw [hn] at hc hl HV ⊢
  have HN := Lib.hid hn
  unfold maxLen at hl
  obtain ⟨r, hr⟩ : ∃ r, orL xs = r := ⟨_, rfl⟩
  rw [hr]
  have HR : Hid (r = orL (xs.drop 0)) := Lib.hid hr.symm
  clear hn hv hr
  go_enter Tryz.func84, Tryz.ntmps84
  go_wp2_with fail
  go_loopw [8] (fun i wr => ∃ k : Nat, k ≤ n ∧ i = .int .i64 k ∧ Hid (r = orL (xs.drop k)) ∧ wr = w) (fun i _ => n - (Go.RowKit.intOf i).toNat)
  case atStart => exact ⟨0, Nat.zero_le _, rfl, HR, rfl⟩
  case round =>
    clear HR
    obtain ⟨k, hk, rfl, hp, hw⟩ := hrel
    subst hw
    by_cases hlt : k < n
    · obtain ⟨x, hx⟩ : ∃ x, xs[k]? = some x := ⟨_, List.getElem?_eq_getElem (by rw [HN.out]; omega)⟩
      obtain ⟨bk, off, rfl, hbl, hj⟩ := at_int HV.out (by rw [HN.out]; omega)
      have c0 := hj k x hx
      have hst := hp.out
      rw [orL_step hx] at hst
      by_cases h0 : x = 0
      · subst h0
        rw [if_pos rfl] at hst
        have HST := Lib.hid hst
        clear hst hp hj hx hbl
        go_wp2_with fail
        exact ⟨⟨k + 1, by omega, by go_num, HST, trivial⟩, by simp only [Go.RowKit.intOf]; omega⟩
      · rw [if_neg h0] at hst
        have h0i : (x != 0) = true := by simp [h0]
        have HST := Lib.hid hst
        clear hst hp hj hx hbl
        go_wp2_with fail
        go_ret
        exact ⟨by rw [HST.out]; rfl, rfl⟩
    · obtain rfl : k = n := by omega
      have hr0 : r = 0 := by
        rw [hp.out, List.drop_eq_nil_of_le (by rw [HN.out]; exact Nat.le_refl _)]
        rfl
      subst hr0
      clear hp
      go_wp2_with fail
      go_ret
      exact ⟨rfl, rfl⟩
theorem rows_ints (w : World) (xs : List Int) (hl : 0 < xs.length) : Rows 1 EInt (w.alloc (.cells (xs.map (Value.int .i64)).toArray 3)) (.slice (some ⟨w.heap.size, 0, none⟩) xs.length xs.length) xs := by
  refine ⟨_, _, rfl, Nat.le_refl _, fun _ => ⟨_, _, rfl, by simp, fun j x hx => ⟨[.int .i64 x], rfl, rfl, fun i u hu => ?_⟩⟩⟩
  cases i with
  | zero =>
    simp at hu
    subst hu
    refine cell_of (block_new w _) ?_
    simp [hx]
  | succ i => simp at hu
theorem or2_any (a b : Int) (w : World) : Calls Tryz.prog 84 #[.slice (some ⟨w.heap.size, 0, none⟩) 2 2] (w.alloc (.cells #[.int .i64 a, .int .i64 b] 3)).drew fun e w' => e = .returned (.int .i64 (orL [a, b])) ∧ Below w.heap.size w w' := by
  refine (or_any ((rows_ints w [a, b] (by simp)).below stays_int (Below.refl _ _).drew) (by unfold maxLen; simp)).mono fun e w' h => ⟨h.1, ?_⟩
  rw [h.2]
  exact (below_box w _).drew
theorem or4_any (a b c d : Int) (w : World) : Calls Tryz.prog 84 #[.slice (some ⟨w.heap.size, 0, none⟩) 4 4] (w.alloc (.cells #[.int .i64 a, .int .i64 b, .int .i64 c, .int .i64 d] 3)).drew fun e w' => e = .returned (.int .i64 (orL [a, b, c, d])) ∧ Below w.heap.size w w' := by
  refine (or_any ((rows_ints w [a, b, c, d] (by simp)).below stays_int (Below.refl _ _).drew) (by unfold maxLen; simp)).mono fun e w' h => ⟨h.1, ?_⟩
  rw [h.2]
  exact (below_box w _).drew
theorem or4p_any (a b c d : Int) (w : World) : Calls Tryz.prog 84 #[.slice (some ⟨w.heap.size, 0, none⟩) 4 4] (w.alloc (.cells #[.int .i64 a, .int .i64 b, .int .i64 c, .int .i64 d] 3)) fun e w' => e = .returned (.int .i64 (orL [a, b, c, d])) ∧ Below w.heap.size w w' := by
  refine (or_any (rows_ints w [a, b, c, d] (by simp)) (by unfold maxLen; simp)).mono fun e w' h => ⟨h.1, ?_⟩
  rw [h.2]
  exact below_box w _
theorem orL_pair (p q : Bs × Bs) : orL [compareBytes p.1 q.1, compareBytes p.2 q.2] = cmpP p q := by
  unfold cmpP orL orL orL
  by_cases h : compareBytes p.1 q.1 = 0
  · rw [if_pos h, if_pos h]
    by_cases h2 : compareBytes p.2 q.2 = 0
    · rw [if_pos h2, h2]
    · rw [if_neg h2]
  · rw [if_neg h, if_neg h]
theorem cmpInt_eq (a b : Int) : Lib.compareInt a b = cmpI a b := by
  unfold Lib.compareInt cmpI
  (repeat' split) <;> omega

set_option maxRecDepth 100000 in
set_option maxHeartbeats 4000000 in
theorem comparePairs_any (p q : Bs × Bs) (w : World) :
    Calls Tryz.prog 88 #[.agg #[.string ⟨p.1.toArray⟩, .string ⟨p.2.toArray⟩], .agg #[.string ⟨q.1.toArray⟩, .string ⟨q.2.toArray⟩]] w fun e w' => e = .returned (.int .i64 (cmpP p q)) ∧ Below w.heap.size w w' := by
  rw [← orL_pair]
  have h1 := fun W => Tryz.strings_Compare ⟨p.1.toArray⟩ ⟨q.1.toArray⟩ W
  have h2 := fun W => Tryz.strings_Compare ⟨p.2.toArray⟩ ⟨q.2.toArray⟩ W
  simp only at h1 h2
  obtain ⟨z1, hz1⟩ : ∃ z, compareBytes p.1 q.1 = z := ⟨_, rfl⟩
  obtain ⟨z2, hz2⟩ : ∃ z, compareBytes p.2 q.2 = z := ⟨_, rfl⟩
  rw [hz1] at h1 ⊢
  rw [hz2] at h2 ⊢
  obtain ⟨P1, hP1⟩ : ∃ s : ByteArray, (⟨p.1.toArray⟩ : ByteArray) = s := ⟨_, rfl⟩
  obtain ⟨P2, hP2⟩ : ∃ s : ByteArray, (⟨p.2.toArray⟩ : ByteArray) = s := ⟨_, rfl⟩
  obtain ⟨Q1, hQ1⟩ : ∃ s : ByteArray, (⟨q.1.toArray⟩ : ByteArray) = s := ⟨_, rfl⟩
  obtain ⟨Q2, hQ2⟩ : ∃ s : ByteArray, (⟨q.2.toArray⟩ : ByteArray) = s := ⟨_, rfl⟩
  rw [hP1, hQ1] at h1
  rw [hP2, hQ2] at h2
  rw [hP1, hP2, hQ1, hQ2]
  have H1 := Lib.hid h1
  have H2 := Lib.hid h2
  have HO := Lib.hid (fun W => or2_any z1 z2 W)
  obtain ⟨X, hX⟩ : ∃ X, (w.alloc (.cells #[.string P1, .string P2] 137)).alloc (.cells #[.string Q1, .string Q2] 137) = X := ⟨_, rfl⟩
  have hbX : Below w.heap.size w X := by rw [← hX]; exact (below_box w _).trans ((below_box _ _).mono (by simp))
  obtain ⟨N0, hN0⟩ : ∃ N0, w.heap.size = N0 := ⟨_, rfl⟩
  have e1 : X.heap[N0]? = some (.cells #[.string P1, .string P2] 137 (0, 0)) := by rw [← hX, ← hN0]; exact block_alloc _ (block_new w _)
  have e2 : X.heap[N0 + 1]? = some (.cells #[.string Q1, .string Q2] 137 (0, 0)) := by
    have := block_new (w.alloc (.cells #[.string P1, .string P2] 137)) (.cells #[.string Q1, .string Q2] 137)
    rw [← hX, ← hN0]
    simpa using this
  have hl1 : N0 < X.heap.size := (Array.getElem?_eq_some_iff.1 e1).1
  have hl2 : N0 + 1 < X.heap.size := (Array.getElem?_eq_some_iff.1 e2).1
  have c0 := cell_of (i := 0) e1 rfl
  have c1 := cell_of (i := 1) e1 rfl
  have d0 := cell_of (i := 0) e2 rfl
  have d1 := cell_of (i := 1) e2 rfl
  have HS := Lib.hid (fun W (h : Below X.heap.size X W) => And.intro ((h.cell (p := ⟨N0, 0, none⟩) hl1).trans c0) (And.intro ((h.cell (p := ⟨N0, 1, none⟩) hl1).trans c1) (And.intro ((h.cell (p := ⟨N0 + 1, 0, none⟩) hl2).trans d0) ((h.cell (p := ⟨N0 + 1, 1, none⟩) hl2).trans d1))))
  have HX := Lib.hid hX
  have HN0 := Lib.hid hN0
  have HBX := Lib.hid hbX
  clear h1 h2 hz1 hz2 hP1 hP2 hQ1 hQ2 hX hbX e1 e2 hl1 hl2 hN0
  go_enter Tryz.func88, Tryz.ntmps88
  go_wp2_with fail
  rw [HX.out, HN0.out]
  go_region_held3 (fun w' => w'.cell? ⟨N0, 0, none⟩ = some (.string P1) ∧ w'.cell? ⟨N0, 1, none⟩ = some (.string P2) ∧ w'.cell? ⟨N0 + 1, 0, none⟩ = some (.string Q1) ∧ w'.cell? ⟨N0 + 1, 1, none⟩ = some (.string Q2))
    (first
      | go_keep
      | (exact HS.out _ hb3)
      | fail)
    ((first
      | (go_at_call 86; (with_reducible refine (H1.out _).mono ?_); rintro e w3 ⟨rfl, rfl⟩)
      | (go_at_call 86; (with_reducible refine (H2.out _).mono ?_); rintro e w3 ⟨rfl, rfl⟩)
      | (go_at_call 84; (with_reducible refine (HO.out _).mono ?_); rintro e w3 ⟨rfl, hb3⟩)
      | fail))
  have HB4 := Lib.hid (HBX.out.trans (hb3.mono HBX.out.size))
  clear hb3
  go_wp2_with fail
  go_ret
  exact ⟨rfl, HN0.out ▸ HB4.out⟩
theorem cmpPs_step {l m : List (Bs × Bs)} {k : Nat} {p q : Bs × Bs} (h1 : l[k]? = some p) (h2 : m[k]? = some q) : cmpPs (l.drop k) (m.drop k) = if cmpP p q = 0 then cmpPs (l.drop (k + 1)) (m.drop (k + 1)) else cmpP p q := by
  obtain ⟨a, rfl⟩ := List.getElem?_eq_some_iff.1 h1
  obtain ⟨b, rfl⟩ := List.getElem?_eq_some_iff.1 h2
  rw [List.drop_eq_getElem_cons a, List.drop_eq_getElem_cons b, cmpPs]
theorem cmpPs_more {l m : List (Bs × Bs)} {k : Nat} (h1 : k < l.length) (h2 : m.length ≤ k) : cmpPs (l.drop k) (m.drop k) = 1 := by
  rw [List.drop_eq_getElem_cons h1, List.drop_eq_nil_of_le h2, cmpPs]
theorem cmpPs_less {l m : List (Bs × Bs)} {k : Nat} (h1 : l.length ≤ k) (h2 : k < m.length) : cmpPs (l.drop k) (m.drop k) = -1 := by
  rw [List.drop_eq_getElem_cons h2, List.drop_eq_nil_of_le h1, cmpPs]
theorem cmpPs_end {l m : List (Bs × Bs)} {k : Nat} (h1 : l.length ≤ k) (h2 : m.length ≤ k) : cmpPs (l.drop k) (m.drop k) = 0 := by
  rw [List.drop_eq_nil_of_le h2, List.drop_eq_nil_of_le h1, cmpPs]

set_option maxRecDepth 100000 in
set_option maxHeartbeats 4000000 in
theorem compareFunc_any {w : World} {v1 v2 : Value} {l m : List (Bs × Bs)} (hv : Rows 2 EPair w v1 l) (hm : Rows 2 EPair w v2 m) (hl : l.length ≤ maxLen) (hl2 : m.length ≤ maxLen) :
    Calls Tryz.prog 87 #[v1, v2, .func (.func 88) #[] #[]] w fun e w' => e = .returned (.int .i64 (cmpPs l m)) ∧ Below w.heap.size w w' := by
  obtain ⟨A, cap, rfl, hc⟩ := hv.form
  obtain ⟨A2, cap2, rfl, hc2⟩ := hm.form
  obtain ⟨n, hn⟩ : ∃ n, l.length = n := ⟨_, rfl⟩
  obtain ⟨n2, hn2⟩ : ∃ n2, m.length = n2 := ⟨_, rfl⟩
  have HV := Lib.hid (fun W (h : Below w.heap.size w W) => hv.below stays_pair h)
  have HM := Lib.hid (fun W (h : Below w.heap.size w W) => hm.below stays_pair h)
  rw [hn] at hc hl HV ⊢
  rw [hn2] at hc2 hl2 HM ⊢
  have HN := Lib.hid hn
  have HN2 := Lib.hid hn2
  unfold maxLen at hl hl2
  obtain ⟨r, hr⟩ : ∃ r, cmpPs l m = r := ⟨_, rfl⟩
  rw [hr]
  have HR : Hid (r = cmpPs (l.drop 0) (m.drop 0)) := Lib.hid hr.symm
  have HCP := Lib.hid (fun p q W => comparePairs_any p q W)
  clear hn hn2 hv hm hr
  go_enter Tryz.func87, Tryz.ntmps87
  go_wp2_with fail
  go_loopw [13] (fun i wr => ∃ k : Nat, k ≤ n ∧ k ≤ n2 ∧ i = .int .i64 k ∧ Hid (r = cmpPs (l.drop k) (m.drop k)) ∧ Below w.heap.size w wr) (fun i _ => n - (Go.RowKit.intOf i).toNat)
  case atStart => exact ⟨0, Nat.zero_le _, Nat.zero_le _, rfl, HR, Below.refl _ _⟩
  case round =>
    clear HR
    obtain ⟨k, hk, hk2, rfl, hp, hb⟩ := hrel
    by_cases hlt : k < n
    · obtain ⟨x, hx⟩ : ∃ x, l[k]? = some x := ⟨_, List.getElem?_eq_getElem (by rw [HN.out]; omega)⟩
      obtain ⟨b1, o1, rfl, hbl, hj⟩ := at_pair (HV.out wr hb) (by rw [HN.out]; omega)
      obtain ⟨c0, c1⟩ := hj k x hx
      obtain ⟨P1, hP1⟩ : ∃ s : ByteArray, (⟨x.1.toArray⟩ : ByteArray) = s := ⟨_, rfl⟩
      obtain ⟨P2, hP2⟩ : ∃ s : ByteArray, (⟨x.2.toArray⟩ : ByteArray) = s := ⟨_, rfl⟩
      rw [hP1] at c0
      rw [hP2] at c1
      obtain ⟨X, hX⟩ : ∃ X, wr.alloc (.cells #[.string P1, .string P2] 137) = X := ⟨_, rfl⟩
      have hbX : Below wr.heap.size wr X := by rw [← hX]; exact below_box wr _
      have hbw : Below w.heap.size w X := hb.trans (hbX.mono hb.size)
      obtain ⟨N0, hN0⟩ : ∃ N0, wr.heap.size = N0 := ⟨_, rfl⟩
      have e1 : X.heap[N0]? = some (.cells #[.string P1, .string P2] 137 (0, 0)) := by rw [← hX, ← hN0]; exact block_new wr _
      have hgt : (k : Int) < (n : Int) := by omega
      by_cases hlt2 : k < n2
      · obtain ⟨y, hy⟩ : ∃ y, m[k]? = some y := ⟨_, List.getElem?_eq_getElem (by rw [HN2.out]; omega)⟩
        obtain ⟨b2, o2, rfl, hbl2, hj2⟩ := at_pair (HM.out X hbw) (by rw [HN2.out]; omega)
        obtain ⟨d0, d1⟩ := hj2 k y hy
        obtain ⟨Q1, hQ1⟩ : ∃ s : ByteArray, (⟨y.1.toArray⟩ : ByteArray) = s := ⟨_, rfl⟩
        obtain ⟨Q2, hQ2⟩ : ∃ s : ByteArray, (⟨y.2.toArray⟩ : ByteArray) = s := ⟨_, rfl⟩
        rw [hQ1] at d0
        rw [hQ2] at d1
        have hst := hp.out
        rw [cmpPs_step hx hy] at hst
        have hcp := fun W => HCP.out x y W
        rw [hP1, hP2, hQ1, hQ2] at hcp
        obtain ⟨z, hz⟩ : ∃ z, cmpP x y = z := ⟨_, rfl⟩
        rw [hz] at hcp hst
        have HC := Lib.hid hcp
        have HST := Lib.hid hst
        have l0 : (wr.alloc (.cells #[.string P1, .string P2] 137)).cell? ⟨b2, o2 + k * 2, none⟩ = some (.string Q1) := by rw [hX]; exact d0
        have l1 : (wr.alloc (.cells #[.string P1, .string P2] 137)).cell? ⟨b2, o2 + k * 2 + 1, none⟩ = some (.string Q2) := by rw [hX]; exact d1
        obtain ⟨Y, hY⟩ : ∃ Y, (wr.alloc (.cells #[.string P1, .string P2] 137)).alloc (.cells #[.string Q1, .string Q2] 137) = Y := ⟨_, rfl⟩
        have hbY : Below w.heap.size w Y := by rw [← hY, hX]; exact hbw.trans ((below_box X _).mono hbw.size)
        have f1 : Y.heap[N0]? = some (.cells #[.string P1, .string P2] 137 (0, 0)) := by rw [← hY, hX]; exact block_alloc _ e1
        have f2 : Y.heap[N0 + 1]? = some (.cells #[.string Q1, .string Q2] 137 (0, 0)) := by
          have := block_new (wr.alloc (.cells #[.string P1, .string P2] 137)) (.cells #[.string Q1, .string Q2] 137)
          rw [← hY, ← hN0]
          simpa using this
        have g0 := cell_of (i := 0) f1 rfl
        have g1 := cell_of (i := 1) f1 rfl
        have g2 := cell_of (i := 0) f2 rfl
        have g3 := cell_of (i := 1) f2 rfl
        have HY := Lib.hid hY
        have HBY := Lib.hid hbY
        have HN0 := Lib.hid hN0
        have hgt2 : (k : Int) < (n2 : Int) := by omega
        have hge2 : ¬ (n2 : Int) ≤ (k : Int) := by omega
        clear hst hp hj hj2 hx hy hbl hbl2 hcp hz hX hY hbX hbY hbw e1 f1 f2 d0 d1 hP1 hP2 hQ1 hQ2 hN0 hb
        by_cases h0 : z = 0
        · subst h0
          have hst := HST.out
          rw [if_pos rfl] at hst
          have HST2 := Lib.hid hst
          clear hst HST
          go_wp2_with fail
          rw [HY.out, HN0.out]
          clear c0 c1 l0 l1
          go_wp2_with fail
          refine (HC.out _).mono ?_
          rintro e w1 ⟨rfl, hb1⟩
          have HB1 := Lib.hid (HBY.out.trans (hb1.mono HBY.out.size))
          clear hb1 g0 g1 g2 g3
          go_wp2_with fail
          exact ⟨⟨k + 1, by omega, by omega, by go_num, HST2, HB1.out⟩, by simp only [Go.RowKit.intOf]; omega⟩
        · have hst := HST.out
          rw [if_neg h0] at hst
          have h0i : (z != 0) = true := by simp [h0]
          have HST2 := Lib.hid hst
          clear hst HST
          go_wp2_with fail
          rw [HY.out, HN0.out]
          clear c0 c1 l0 l1
          go_wp2_with fail
          refine (HC.out _).mono ?_
          rintro e w1 ⟨rfl, hb1⟩
          have HB1 := Lib.hid (HBY.out.trans (hb1.mono HBY.out.size))
          clear hb1 g0 g1 g2 g3
          go_wp2_with fail
          go_ret
          exact ⟨by rw [HST2.out]; rfl, HB1.out⟩
      · have hr1 : r = 1 := by rw [hp.out]; exact cmpPs_more (by rw [HN.out]; exact hlt) (by rw [HN2.out]; omega)
        subst hr1
        have hge2 : (n2 : Int) ≤ (k : Int) := by omega
        have HBW := Lib.hid hbw
        have HX := Lib.hid hX
        clear hp hj hx hbl hX hbX hbw e1 hP1 hP2 hN0 hb
        go_wp2_with fail
        go_ret
        exact ⟨rfl, HX.out ▸ HBW.out⟩
    · obtain rfl : k = n := by omega
      have HB := Lib.hid hb
      by_cases hlt2 : k < n2
      · have hr1 : r = -1 := by rw [hp.out]; exact cmpPs_less (by rw [HN.out]; exact Nat.le_refl _) (by rw [HN2.out]; exact hlt2)
        subst hr1
        have hgt2 : (k : Int) < (n2 : Int) := by omega
        clear hp hb
        go_wp2_with fail
        go_ret
        exact ⟨rfl, HB.out⟩
      · have hr1 : r = 0 := by rw [hp.out]; exact cmpPs_end (by rw [HN.out]; exact Nat.le_refl _) (by rw [HN2.out]; omega)
        subst hr1
        have hgt2 : ¬ (k : Int) < (n2 : Int) := by omega
        clear hp hb
        go_wp2_with fail
        go_ret
        exact ⟨rfl, HB.out⟩
theorem orL_reg (x y : Ex) : orL [cmpI x.b y.b, cmpI y.e x.e, compareBytes x.name y.name, cmpPs x.ps y.ps] = cmpR x y := by
  unfold cmpR orL orL orL orL orL
  by_cases h : cmpI x.b y.b = 0
  · rw [if_pos h, if_pos h]
    by_cases h2 : cmpI y.e x.e = 0
    · rw [if_pos h2, if_pos h2]
      by_cases h3 : compareBytes x.name y.name = 0
      · rw [if_pos h3, if_pos h3]
        by_cases h4 : cmpPs x.ps y.ps = 0
        · rw [if_pos h4, h4]
        · rw [if_neg h4]
      · rw [if_neg h3, if_neg h3]
    · rw [if_neg h2, if_neg h2]
  · rw [if_neg h, if_neg h]

set_option maxRecDepth 100000 in
set_option maxHeartbeats 8000000 in
theorem compareRegions_any (x y : Ex) (v1 v2 : Value) {w : World} (hv : Rows 2 EPair w v1 x.ps) (hm : Rows 2 EPair w v2 y.ps) (hl : x.ps.length ≤ maxLen) (hl2 : y.ps.length ≤ maxLen) :
    Calls Tryz.prog 58 #[.agg #[.string ⟨x.name.toArray⟩, .int .i64 x.b, .int .i64 x.e, v1], .agg #[.string ⟨y.name.toArray⟩, .int .i64 y.b, .int .i64 y.e, v2]] w fun e w' => e = .returned (.int .i64 (cmpR x y)) ∧ Below w.heap.size w w' := by
  rw [← orL_reg]
  have hcf := fun W (h : Below w.heap.size w W) => compareFunc_any (hv.below stays_pair h) (hm.below stays_pair h) hl hl2
  obtain ⟨A, cap, rfl, -⟩ := hv.form
  obtain ⟨A2, cap2, rfl, -⟩ := hm.form
  have h1 := fun W => Tryz.cmp_Compare_int x.b y.b W
  have h2 := fun W => Tryz.cmp_Compare_int y.e x.e W
  have h3 := fun W => Tryz.strings_Compare ⟨x.name.toArray⟩ ⟨y.name.toArray⟩ W
  simp only [cmpInt_eq] at h1 h2
  simp only at h3
  obtain ⟨z1, hz1⟩ : ∃ z, cmpI x.b y.b = z := ⟨_, rfl⟩
  obtain ⟨z2, hz2⟩ : ∃ z, cmpI y.e x.e = z := ⟨_, rfl⟩
  obtain ⟨z3, hz3⟩ : ∃ z, compareBytes x.name y.name = z := ⟨_, rfl⟩
  obtain ⟨z4, hz4⟩ : ∃ z, cmpPs x.ps y.ps = z := ⟨_, rfl⟩
  rw [hz1] at h1 ⊢
  rw [hz2] at h2 ⊢
  rw [hz3] at h3 ⊢
  rw [hz4] at hcf ⊢
  obtain ⟨P1, hP1⟩ : ∃ s : ByteArray, (⟨x.name.toArray⟩ : ByteArray) = s := ⟨_, rfl⟩
  obtain ⟨Q1, hQ1⟩ : ∃ s : ByteArray, (⟨y.name.toArray⟩ : ByteArray) = s := ⟨_, rfl⟩
  obtain ⟨xb, hxb⟩ : ∃ s, x.b = s := ⟨_, rfl⟩
  obtain ⟨xe, hxe⟩ : ∃ s, x.e = s := ⟨_, rfl⟩
  obtain ⟨yb, hyb⟩ : ∃ s, y.b = s := ⟨_, rfl⟩
  obtain ⟨ye, hye⟩ : ∃ s, y.e = s := ⟨_, rfl⟩
  obtain ⟨l1, hl1'⟩ : ∃ s, x.ps.length = s := ⟨_, rfl⟩
  obtain ⟨l2, hl2'⟩ : ∃ s, y.ps.length = s := ⟨_, rfl⟩
  rw [hxb, hyb] at h1
  rw [hxe, hye] at h2
  rw [hP1, hQ1] at h3
  rw [hl1', hl2'] at hcf
  rw [hP1, hQ1, hxb, hxe, hyb, hye, hl1', hl2']
  have HO := Lib.hid (fun W => or4p_any z1 z2 z3 z4 W)
  obtain ⟨X, hX⟩ : ∃ X, (w.alloc (.cells #[.string P1, .int .i64 xb, .int .i64 xe, .slice A l1 cap] 101)).alloc (.cells #[.string Q1, .int .i64 yb, .int .i64 ye, .slice A2 l2 cap2] 101) = X := ⟨_, rfl⟩
  have hbX : Below w.heap.size w X := by rw [← hX]; exact (below_box w _).trans ((below_box _ _).mono (by simp))
  obtain ⟨N0, hN0⟩ : ∃ N0, w.heap.size = N0 := ⟨_, rfl⟩
  have e1 : X.heap[N0]? = some (.cells #[.string P1, .int .i64 xb, .int .i64 xe, .slice A l1 cap] 101 (0, 0)) := by rw [← hX, ← hN0]; exact block_alloc _ (block_new w _)
  have e2 : X.heap[N0 + 1]? = some (.cells #[.string Q1, .int .i64 yb, .int .i64 ye, .slice A2 l2 cap2] 101 (0, 0)) := by
    have := block_new (w.alloc (.cells #[.string P1, .int .i64 xb, .int .i64 xe, .slice A l1 cap] 101)) (.cells #[.string Q1, .int .i64 yb, .int .i64 ye, .slice A2 l2 cap2] 101)
    rw [← hX, ← hN0]
    simpa using this
  have hb1 : N0 < X.heap.size := (Array.getElem?_eq_some_iff.1 e1).1
  have hb2 : N0 + 1 < X.heap.size := (Array.getElem?_eq_some_iff.1 e2).1
  have c0 := cell_of (i := 0) e1 rfl
  have c1 := cell_of (i := 1) e1 rfl
  have c2 := cell_of (i := 2) e1 rfl
  have c3 := cell_of (i := 3) e1 rfl
  have d0 := cell_of (i := 0) e2 rfl
  have d1 := cell_of (i := 1) e2 rfl
  have d2 := cell_of (i := 2) e2 rfl
  have d3 := cell_of (i := 3) e2 rfl
  have HS := Lib.hid (fun W (h : Below X.heap.size X W) => And.intro ((h.cell (p := ⟨N0, 0, none⟩) hb1).trans c0) (And.intro ((h.cell (p := ⟨N0, 1, none⟩) hb1).trans c1) (And.intro ((h.cell (p := ⟨N0, 2, none⟩) hb1).trans c2) (And.intro ((h.cell (p := ⟨N0, 3, none⟩) hb1).trans c3) (And.intro ((h.cell (p := ⟨N0 + 1, 0, none⟩) hb2).trans d0) (And.intro ((h.cell (p := ⟨N0 + 1, 1, none⟩) hb2).trans d1) (And.intro ((h.cell (p := ⟨N0 + 1, 2, none⟩) hb2).trans d2) ((h.cell (p := ⟨N0 + 1, 3, none⟩) hb2).trans d3))))))))
  have HCF := Lib.hid (hcf X.drew hbX.drew)
  have HX := Lib.hid hX
  have HN0 := Lib.hid hN0
  have HBX := Lib.hid hbX
  have H1 := Lib.hid h1
  have H2 := Lib.hid h2
  have H3 := Lib.hid h3
  clear h1 h2 h3 hcf hz1 hz2 hz3 hz4 hP1 hQ1 hxb hxe hyb hye hl1' hl2' hX hbX e1 e2 hb1 hb2 hN0 hv hm hl hl2
  go_enter Tryz.func58, Tryz.ntmps58
  go_wp2_with fail
  rw [HX.out, HN0.out]
  go_region_held3 (fun w' => w'.cell? ⟨N0, 0, none⟩ = some (.string P1) ∧ w'.cell? ⟨N0, 1, none⟩ = some (.int .i64 xb) ∧ w'.cell? ⟨N0, 2, none⟩ = some (.int .i64 xe) ∧ w'.cell? ⟨N0, 3, none⟩ = some (.slice A l1 cap) ∧ w'.cell? ⟨N0 + 1, 0, none⟩ = some (.string Q1) ∧ w'.cell? ⟨N0 + 1, 1, none⟩ = some (.int .i64 yb) ∧ w'.cell? ⟨N0 + 1, 2, none⟩ = some (.int .i64 ye) ∧ w'.cell? ⟨N0 + 1, 3, none⟩ = some (.slice A2 l2 cap2))
    (first
      | go_keep
      | (exact HS.out _ ((Below.refl _ X).drew.trans (hb3.trans (hb4.mono hb3.size))))
      | (exact HS.out _ ((Below.refl _ X).drew.trans hb3))
      | fail)
    ((first
      | (go_at_call 85; (with_reducible refine (H1.out _).mono ?_); rintro e w3 ⟨rfl, rfl⟩)
      | (go_at_call 85; (with_reducible refine (H2.out _).mono ?_); rintro e w3 ⟨rfl, rfl⟩)
      | (go_at_call 86; (with_reducible refine (H3.out _).mono ?_); rintro e w3 ⟨rfl, rfl⟩)
      | (go_at_call 87; (with_reducible refine HCF.out.mono ?_); rintro e w3 ⟨rfl, hb3⟩)
      | (go_at_call 84; (with_reducible refine (HO.out _).mono ?_); rintro e w4 ⟨rfl, hb4⟩)
      | fail))
  have HB4 := Lib.hid (HBX.out.drew.trans ((hb3.trans (hb4.mono hb3.size)).mono HBX.out.size))
  clear hb3 hb4
  go_wp2_with fail
  go_ret
  exact ⟨rfl, HN0.out ▸ HB4.out⟩
end Go.Proofs.YtmjmidgfdjcbfaaGreatDoor
