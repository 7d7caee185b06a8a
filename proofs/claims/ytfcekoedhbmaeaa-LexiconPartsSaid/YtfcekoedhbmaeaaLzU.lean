/-
  WALK over the reference of lexicon: ByCount.
-/
import Derived.Test.YtfcekoedhbmaeaaLzS
import Derived.BigQuiet
namespace Go.Proofs.Ytfcekoedhbmaeaa
open Go.RowKit Go.Shelf Go.Lib Go.Sort Go.Maps
set_option linter.unusedVariables false
set_option linter.unusedSimpArgs false

theorem insC_at {c : Nat → Nat} {l : List Nat} {i k : Nat} (hk : k ≤ l.length) (hi : ∀ j a, k ≤ j → l[j]? = some a → c a < c i) (hs : ∀ a, 0 < k → l[k - 1]? = some a → ¬ c a < c i) : insC c l i = l.take k ++ i :: l.drop k := by
  have e : l.length - lastC c l i = k := by
    obtain ⟨K, hK⟩ : ∃ K, l.length - lastC c l i = K := ⟨_, rfl⟩
    have hle := lastC_le c l i
    rw [hK]
    rcases Nat.lt_trichotomy K k with h | h | h
    · obtain ⟨a, ha⟩ : ∃ a, l[k - 1]? = some a := ⟨_, List.getElem?_eq_getElem (by omega)⟩
      exact absurd (lastC_hi (by rw [hK]; omega) ha) (hs a (by omega) ha)
    · exact h
    · obtain ⟨a, ha⟩ : ∃ a, l[K - 1]? = some a := ⟨_, List.getElem?_eq_getElem (by omega)⟩
      have := lastC_stop (c := c) (l := l) (i := i) (a := a) (by omega) (by rw [hK]; exact ha)
      exact absurd (hi (K - 1) a (by omega) ha) this
  unfold insC
  rw [e]
theorem iv_eq (l : List Nat) : (intsN l).map (fun x => Value.int .i64 x) = iv l := by
  unfold iv
  rw [List.map_map]
  rfl
theorem put_ivm (l : List Nat) (k m : Nat) : [] ++ (iv l).take k ++ [.int .i64 (m : Int)] ++ (iv l).drop k = iv (l.take k ++ m :: l.drop k) := by
  rw [iv_take, iv_drop]
  simp [iv]

set_option maxRecDepth 100000 in
set_option maxHeartbeats 16000000 in
theorem refByCount_any {w : World} {vW vC : Value} {ws : List Wd} {cs : List Nat} (hW : Rows 1 EStr w vW ws) (hC : Rows 1 EInt w vC (intsN cs)) (hle : cs.length = ws.length) (hfew : ws.length ≤ 4096) :
    Calls Try.prog 28 #[.agg #[vW, vC]] w (NumV w (ordC (fun i => cs.getD i 0) cs.length)) := by
  obtain ⟨A1, c1, rfl, hc1⟩ := hW.form
  obtain ⟨A2, c2, rfl, hc2⟩ := hC.form
  have hil : (intsN cs).length = ws.length := by rw [List.length_map, hle]
  rw [hil] at hC hc2 ⊢
  obtain ⟨n, hn⟩ : ∃ n, ws.length = n := ⟨_, rfl⟩
  rw [hn] at hW hC hc1 hc2 hfew hle ⊢
  rw [hle]
  obtain ⟨c, hcf⟩ : ∃ c : Nat → Nat, (fun i => cs.getD i 0) = c := ⟨_, rfl⟩
  have hcv : ∀ i, i < n → cs[i]? = some (c i) := fun i hi => by
    rw [← hcf]
    show cs[i]? = some (cs.getD i 0)
    rw [List.getD_eq_getElem?_getD, List.getElem?_eq_getElem (by omega)]
    rfl
  rw [hcf]
  have hb0 := below_box w (.cells #[.slice A1 n c1, .slice A2 n c2] 27)
  obtain ⟨X, hX⟩ : ∃ X, w.alloc (.cells #[.slice A1 n c1, .slice A2 n c2] 27) = X := ⟨_, rfl⟩
  obtain ⟨N, hN⟩ : ∃ N, w.heap.size = N := ⟨_, rfl⟩
  have hbx : X.heap[N]? = some (.cells #[.slice A1 n c1, .slice A2 n c2] 27 (0, 0)) := by rw [← hX, ← hN]; exact block_new _ _
  rw [hX] at hb0
  have HC := Lib.hid (fun W (hb : Below X.heap.size X W) => hC.below stays_int (hb0.trans (hb.mono hb0.size)))
  have HBX := Lib.hid (fun W (hb : Below X.heap.size X W) => block_below hbx hb (Array.getElem?_eq_some_iff.1 hbx).1)
  have HB0 := Lib.hid hb0
  have HCV := Lib.hid hcv
  have HLE := Lib.hid hle
  obtain ⟨M, hM⟩ : ∃ M, X.heap.size = M := ⟨_, rfl⟩
  have HM := Lib.hid hM
  have HST0 := Lib.hid (show OwnN X X M (.slice none 0 0) (ordC c 0) from ⟨World.ownsRow_nil _ _ _ _, Below.refl _ _⟩)
  have d0 : X.cell? ⟨N, 0, none⟩ = some (.slice A1 n c1) := cell_of hbx rfl
  have HX := Lib.hid hX
  have HNN := Lib.hid hN
  obtain ⟨j0, hj, hy0, hy1, hy2⟩ := info_parts' Try.infoInt2
  clear hW hC hil hb0 hbx hX hN hn hcf hcv hle hM
  go_enter Try.func28, Try.ntmps28
  go_upto_region 1 with fail
  rw [HX.out, HNN.out]
  go_wp2_with fail
  go_loopg [3, 9] n (fun gg av sv' wr => ∃ (m : Nat) (v : Value), m ≤ n ∧ n - m ≤ gg ∧ v = av ∧ sv' = .int .i64 m ∧ Hid (OwnN X wr M v (ordC c m)))
  case atStart => exact ⟨0, _, Nat.zero_le _, Nat.le_refl _, rfl, rfl, HST0⟩
  case round =>
    clear HST0 d0
    obtain ⟨m, v, hmn, hgm, rfl, rfl, HR⟩ := hrel
    by_cases hlt : m < n
    · have hmI : (m : Int) < (n : Int) := by omega
      obtain ⟨A0, cap0, hv0, hc0, hg0⟩ := own_form' HR.out.own
      rw [ordC_len] at hv0 hc0 hg0
      subst hv0
      obtain ⟨l, hl⟩ : ∃ l, ordC c m = l := ⟨_, rfl⟩
      have hll : l.length = m := by rw [← hl, ordC_len]
      have hlm : ∀ x ∈ l, x < m := fun x hx => by rw [← hl] at hx; exact (ordC_mem _ _ _).1 hx
      have hsucc : ordC c (m + 1) = insC c l m := by rw [ordC_succ, hl]
      rw [hl] at HR
      have HSUCC := Lib.hid hsucc
      have HLL := Lib.hid hll
      have HLM := Lib.hid hlm
      have HG0 := Lib.hid hg0
      have HJ := Lib.hid (And.intro hlt hgm)
      obtain ⟨wA, hwA⟩ : ∃ wA, wA = wr := ⟨_, rfl⟩
      subst hwA
      clear hl hll hlm hsucc hgm hg0
      go_wp2_with fail
      go_loopg [5] m (fun gg jv wq => ∃ k : Nat, jv = .int .i64 k ∧ k ≤ m ∧ k ≤ gg ∧ Hid (Below wA.heap.size wA wq ∧ ∀ i x, k ≤ i → l[i]? = some x → c x < c m))
      case atStart => exact ⟨m, rfl, Nat.le_refl _, Nat.le_refl _, Lib.hid ⟨Below.refl _ _, fun i x h1 h2 => absurd (List.getElem?_eq_some_iff.1 h2).1 (by rw [HLL.out]; omega)⟩⟩
      case round =>
        obtain ⟨k, rfl, hkm, hkg, HQ⟩ := hrel
        have HBA := Lib.hid (show Below X.heap.size X wr from HR.out.below.trans (HQ.out.1.mono HR.out.below.size))
        have d1 : wr.cell? ⟨N, 1, none⟩ = some (.slice A2 n c2) := cell_of (HBX.out wr HBA.out) rfl
        by_cases hk0 : k = 0
        · have hkI : ¬ (0 : Int) < (k : Int) := by omega
          have hkN : ¬ 0 < k := by omega
          have hkD : decide (0 < k) = false := decide_eq_false hkN
          have HINS := Lib.hid (show ordC c (m + 1) = l.take k ++ m :: l.drop k by
            rw [HSUCC.out]
            exact insC_at (by rw [HLL.out]; exact hkm) HQ.out.2 (fun a h _ => absurd h (by omega)))
          clear hk0 d1
          go_wp2_with fail
          go_quiet (fail)
          go_wp2_with fail
          obtain ⟨w4, hw4⟩ : ∃ w4, wr.drewN nq = w4 := ⟨_, rfl⟩
          have HB4 := Lib.hid (show Below X.heap.size X w4 by rw [← hw4]; exact below_drewN HBA.out _)
          have hown := own_below' (N := M) HR.out.own (show Below wA.heap.size wA w4 by rw [← hw4]; exact below_drewN HQ.out.1 _)
          rw [HLL.out] at hown
          rw [hw4]
          have HMB := Lib.hid (show M ≤ w4.heap.size by rw [← HM.out]; exact HB4.out.size)
          have hs1 := sliceI_to A0 m cap0 k hkm hc0
          have hs2 := sliceI_from A0 m cap0 k hkm
          obtain ⟨vd, hvd⟩ : ∃ vd, sliced A0 k m cap0 1 = vd := ⟨_, rfl⟩
          rw [hvd] at hs2
          have hse := (seesC_own hown).1
          rw [show (intsN l).map (fun x => Value.int .i64 x) = iv l by simp [iv]] at hse
          have hsl : (iv l).length = m := by rw [iv_len, HLL.out]
          have JT := Lib.hid (fun W (h : Below w4.heap.size w4 W) => (sees_to hse hsl hkm).below h)
          have JD := Lib.hid (fun W (h : Below w4.heap.size w4 W) => (sees_from' hse hsl hkm).below h)
          rw [hvd] at JD
          have JTL := Lib.hid (show ((iv l).take k).length = k by rw [List.length_take, hsl]; omega)
          have JDL := Lib.hid (show ((iv l).drop k).length = m - k by rw [List.length_drop, hsl])
          have JT1 := Lib.hid (show ∀ u ∈ (iv l).take k, u.oneCell' = true from fun u hu => iv_one l u (List.mem_of_mem_take hu))
          have JD1 := Lib.hid (show ∀ u ∈ (iv l).drop k, u.oneCell' = true from fun u hu => iv_one l u (List.mem_of_mem_drop hu))
          clear hvd hse hsl hw4 hown
          refine wp_region_any (by kernel_rfl) ?_
          change wpAny _ _ _ _ _ _ _ (World.drew _)
          refine wpAny_take (i := 0) (oi := ?oi1) (v := ?v1) ?hi1 (by kernel_rfl) (by kernel_rfl) (by kernel_rfl) ?hq1 ?hy1 ?hr1
          case hi1 => (simp only [List.getElem?_toArray, List.getElem?_cons_zero]; rfl)
          case hq1 => exact fun _ _ _ h => h
          case hy1 => exact Or.inl ⟨by rfl, by intro w; (first | (go_simp; done) | (go_simp; with_reducible rfl))⟩
          try simp only [Act.put, List.setIfInBounds_toArray, List.set_cons_zero, List.set_cons_succ]
          refine wpAny_take (i := 1) (oi := ?oi2) (v := ?v2) ?hi2 (by kernel_rfl) (by kernel_rfl) (by kernel_rfl) ?hq2 ?hy2 ?hr2
          case hi2 => (simp only [List.getElem?_toArray, List.getElem?_cons_succ, List.getElem?_cons_zero]; rfl)
          case hq2 => exact fun _ _ _ h => h
          case hy2 => exact Or.inl ⟨by rfl, by intro w; (first | (go_simp; done) | (go_simp; with_reducible rfl))⟩
          try simp only [Act.put, List.setIfInBounds_toArray, List.set_cons_zero, List.set_cons_succ]
          refine wpAny_take (i := 2) (oi := ?oi3) (v := ?v3) ?hi3 (by kernel_rfl) (by kernel_rfl) (by kernel_rfl) ?hq3 ?hy3 ?hr3
          case hi3 => (simp only [List.getElem?_toArray, List.getElem?_cons_succ, List.getElem?_cons_zero]; rfl)
          case hq3 => exact fun _ _ _ h => h
          case hy3 => exact Or.inl ⟨by rfl, by intro w; (first | (go_simp; done) | (go_simp; with_reducible rfl))⟩
          try simp only [Act.put, List.setIfInBounds_toArray, List.set_cons_zero, List.set_cons_succ]
          refine wpAny_take (i := 4) (oi := ?oi4) (v := ?v4) ?hi4 (by kernel_rfl) (by kernel_rfl) (by kernel_rfl) ?hq4 ?hy4 ?hr4
          case hi4 => (simp only [List.getElem?_toArray, List.getElem?_cons_succ, List.getElem?_cons_zero]; rfl)
          case hq4 => exact fun _ _ _ h => h
          case hy4 => exact Or.inl ⟨by rfl, by intro w; (first | (go_simp; done) | (go_simp; with_reducible rfl))⟩
          try simp only [Act.put, List.setIfInBounds_toArray, List.set_cons_zero, List.set_cons_succ]
          refine wpAny_take (i := 7) (oi := ?oi5) (v := ?v5) ?hi5 (by kernel_rfl) (by kernel_rfl) (by kernel_rfl) ?hq5 ?hy5 ?hr5
          case hi5 => (simp only [List.getElem?_toArray, List.getElem?_cons_succ, List.getElem?_cons_zero]; rfl)
          case hq5 => exact fun _ _ _ h => h
          case hy5 => exact Or.inl ⟨by rfl, by intro w; (first | (go_simp; done) | (go_simp; with_reducible rfl))⟩
          try simp only [Act.put, List.setIfInBounds_toArray, List.set_cons_zero, List.set_cons_succ]
          refine wpAny_take (i := 8) (oi := ?oi6) (v := ?v6) ?hi6 (by kernel_rfl) (by kernel_rfl) (by kernel_rfl) ?hq6 ?hy6 ?hr6
          case hi6 => (simp only [List.getElem?_toArray, List.getElem?_cons_succ, List.getElem?_cons_zero]; rfl)
          case hq6 => exact fun _ _ _ h => h
          case hy6 => exact Or.inl ⟨by rfl, by intro w; (first | (go_simp; done) | (go_simp; with_reducible rfl))⟩
          try simp only [Act.put, List.setIfInBounds_toArray, List.set_cons_zero, List.set_cons_succ]
          refine wpAny_take (i := 9) (oi := ?oi7) (v := ?v7) ?hi7 (by kernel_rfl) (by kernel_rfl) (by kernel_rfl) ?hq7 ?hy7 ?hr7
          case hi7 => (simp only [List.getElem?_toArray, List.getElem?_cons_succ, List.getElem?_cons_zero]; rfl)
          case hq7 => exact fun _ _ _ h => h
          case hy7 => exact Or.inl ⟨by rfl, by intro w; (first | (go_simp; done) | (go_simp; with_reducible rfl))⟩
          try simp only [Act.put, List.setIfInBounds_toArray, List.set_cons_zero, List.set_cons_succ]
          refine wpAny_ready (rs := [3, 5]) (by kernel_rfl) (by simp) ?_
          refine AllReady.cons (o := ?oo8) ?hi8 (fun K hK => ?hs8) ?hm8
          case hi8 => (simp only [List.getElem?_toArray, List.getElem?_cons_succ, List.getElem?_cons_zero]; rfl)
          · refine step_append_any rfl (.const (.slice none 0 0)) (.tmp 37) 25 rfl w4.heap.size 3 j0 _ 8 Try.underlying25 hj hy0 hy1 hy2 rfl _ 0 [] rfl (World.ownsRow_nil _ _ _ _) _ w4.heap.size ((iv l).take k) rfl (by first | exact JT.out _ (Below.refl _ _).drew | exact JT.out _ ((Below.refl _ _).drew.alloc (Nat.le_refl _) _)) JT1.out (by rw [JTL.out]; unfold maxLen; omega) (by rw [JTL.out]; omega) (by first | exact Nat.le_refl _ | simp) ?_
            intro v1 w1 hown1 hg1 _
            rw [JTL.out] at hown1
            have HO1 := Lib.hid hown1
            have HG1 := Lib.hid hg1
            have HZ1 : Hid (Below w4.heap.size w4 w1) := Lib.hid (by first | exact (Below.refl _ _).drew.grown hg1 (Nat.le_refl _) (fun k e => nomatch (show (none : Option Nat) = some k from e)) | exact ((Below.refl _ _).drew.alloc (Nat.le_refl _) _).grown hg1 (by simp) (fun k e => nomatch (show (none : Option Nat) = some k from e)))
            clear hown1 hg1
            refine hK _ _ ?_; clear hK K
            try simp only [Act.put, List.setIfInBounds_toArray, List.set_cons_zero, List.set_cons_succ]
            refine wpAny_ready (rs := [5]) (by kernel_rfl) (by simp) ?_
            refine AllReady.cons (o := ?oo9) ?hi9 (fun K hK => ?hs9) ?hm9
            case hi9 => (simp only [List.getElem?_toArray, List.getElem?_cons_succ, List.getElem?_cons_zero]; rfl)
            · go_simp
              refine hK _ _ ?_; clear hK K
              try simp only [Act.put, List.setIfInBounds_toArray, List.set_cons_zero, List.set_cons_succ]
              refine wpAny_ready (rs := [6]) (by kernel_rfl) (by simp) ?_
              refine AllReady.cons (o := ?oo10) ?hi10 (fun K hK => ?hs10) ?hm10
              case hi10 => (simp only [List.getElem?_toArray, List.getElem?_cons_succ, List.getElem?_cons_zero]; rfl)
              · refine step_append_any rfl (.tmp 38) (.tmp 40) 25 rfl w4.heap.size 3 j0 _ 8 Try.underlying25 hj hy0 hy1 hy2 rfl _ (0 + k) _ rfl (by first | exact HO1.out | exact HO1.out.alloc _) _ _ [.int .i64 (m : Int)] rfl (by first | exact sees_val _ _ _ | exact (sees_val w4 (.int .i64 (m : Int)) 3).below ((Below.refl _ _).drew.grown HG1.out (Nat.le_refl _) (fun k e => nomatch (show (none : Option Nat) = some k from e))) | exact (sees_val w4.drew (.int .i64 (m : Int)) 3).below ((Below.refl _ _).grown HG1.out (Nat.le_refl _) (fun k e => nomatch (show (none : Option Nat) = some k from e)))) (by simp [Value.oneCell']) (by show 0 + k + 1 ≤ _; unfold maxLen; omega) (by show (0 + k + 1) * 8 ≤ _; omega) (by have := HZ1.out.size; first | exact this | (simp; omega)) ?_
                intro v2 w2 hown2 hg2 _
                have HO2 := Lib.hid hown2
                have HZ2 : Hid (Below w4.heap.size w4 w2) := Lib.hid (by first | exact HZ1.out.grown hg2 HZ1.out.size (fun k e => (own_low HO1.out k e).1) | exact (HZ1.out.alloc HZ1.out.size _).grown hg2 (by have := HZ1.out.size; simp; omega) (fun k e => (own_low HO1.out k e).1))
                clear hown2 hg2
                refine hK _ _ ?_; clear hK K
                try simp only [Act.put, List.setIfInBounds_toArray, List.set_cons_zero, List.set_cons_succ]
                refine wpAny_ready (rs := [10]) (by kernel_rfl) (by simp) ?_
                refine AllReady.cons (o := ?oo11) ?hi11 (fun K hK => ?hs11) ?hm11
                case hi11 => (simp only [List.getElem?_toArray, List.getElem?_cons_succ, List.getElem?_cons_zero]; rfl)
                · refine step_append_any rfl (.tmp 41) (.tmp 44) 25 rfl w4.heap.size 3 j0 _ 8 Try.underlying25 hj hy0 hy1 hy2 rfl _ (0 + k + 1) _ rfl HO2.out _ w4.heap.size ((iv l).drop k) rfl (JD.out _ HZ2.out) JD1.out (by rw [JDL.out]; unfold maxLen; omega) (by rw [JDL.out]; omega) HZ2.out.size ?_
                  intro v3 w3 hown3 hg3 _
                  rw [JDL.out] at hown3
                  obtain ⟨MJ, h9⟩ : ∃ y, 0 + k + 1 + (m - k) = y := ⟨_, rfl⟩
                  rw [h9] at hown3
                  obtain ⟨AJ, cJ, e9, -, -⟩ := own_form' hown3
                  subst e9
                  have H9J := Lib.hid h9
                  have HO3 := Lib.hid hown3
                  have HZ3 : Hid (Below w4.heap.size w4 w3) := Lib.hid (HZ2.out.grown hg3 HZ2.out.size (fun k e => (own_low HO2.out k e).1))
                  clear hown3 hg3 h9
                  refine hK _ _ ?_; clear hK K
                  try simp only [Act.put, List.setIfInBounds_toArray, List.set_cons_zero, List.set_cons_succ]
                  refine wpAny_take (i := 11) (oi := ?oi12) (v := ?v12) ?hi12 (by kernel_rfl) (by kernel_rfl) (by kernel_rfl) ?hq12 ?hy12 ?hr12
                  case hi12 => (simp only [List.getElem?_toArray, List.getElem?_cons_succ, List.getElem?_cons_zero]; rfl)
                  case hq12 => exact fun _ _ _ h => h
                  case hy12 => exact Or.inl ⟨by rfl, by intro w; (first | (go_simp; done) | (go_simp; with_reducible rfl))⟩
                  try simp only [Act.put, List.setIfInBounds_toArray, List.set_cons_zero, List.set_cons_succ]
                  refine wpAny_done (by kernel_rfl) ?_ _
                  have HNX := Lib.hid (show OwnN X w3 M (.slice AJ MJ cJ) (ordC c (m + 1)) from ⟨by
                    rw [HINS.out]
                    refine own_eq (own_base HO3.out HMB.out) (by rw [← H9J.out, mid_len HLL.out hkm]; omega) ?_
                    rw [put_ivm l k m]
                    exact (iv_eq _).symm, HB4.out.trans (HZ3.out.mono HB4.out.size)⟩)
                  clear HO1 HO2 HO3 HG1 HZ1 HZ2 HZ3 H9J JT JTL JT1 JD JDL JD1 hs1 hs2
                  go_wp2_with fail
                  go_roundg (n - (m + 1))
                  case measure => have := HJ.out; omega
                  case rel => exact ⟨m + 1, _, by have := HJ.out; omega, Nat.le_refl _, rfl, by go_num, HNX⟩
                exact AllReady.nil
              exact AllReady.nil
            exact AllReady.nil
          refine AllReady.cons (o := ?oo13) ?hi13 (fun K hK => ?hs13) ?hm13
          case hi13 => (simp only [List.getElem?_toArray, List.getElem?_cons_succ, List.getElem?_cons_zero]; rfl)
          · go_simp
            refine hK _ _ ?_; clear hK K
            try simp only [Act.put, List.setIfInBounds_toArray, List.set_cons_zero, List.set_cons_succ]
            refine wpAny_ready (rs := [3]) (by kernel_rfl) (by simp) ?_
            refine AllReady.cons (o := ?oo14) ?hi14 (fun K hK => ?hs14) ?hm14
            case hi14 => (simp only [List.getElem?_toArray, List.getElem?_cons_succ, List.getElem?_cons_zero]; rfl)
            · refine step_append_any rfl (.const (.slice none 0 0)) (.tmp 37) 25 rfl w4.heap.size 3 j0 _ 8 Try.underlying25 hj hy0 hy1 hy2 rfl _ 0 [] rfl (World.ownsRow_nil _ _ _ _) _ w4.heap.size ((iv l).take k) rfl (by first | exact JT.out _ (Below.refl _ _).drew | exact JT.out _ ((Below.refl _ _).drew.alloc (Nat.le_refl _) _)) JT1.out (by rw [JTL.out]; unfold maxLen; omega) (by rw [JTL.out]; omega) (by first | exact Nat.le_refl _ | simp) ?_
              intro v1 w1 hown1 hg1 _
              rw [JTL.out] at hown1
              have HO1 := Lib.hid hown1
              have HG1 := Lib.hid hg1
              have HZ1 : Hid (Below w4.heap.size w4 w1) := Lib.hid (by first | exact (Below.refl _ _).drew.grown hg1 (Nat.le_refl _) (fun k e => nomatch (show (none : Option Nat) = some k from e)) | exact ((Below.refl _ _).drew.alloc (Nat.le_refl _) _).grown hg1 (by simp) (fun k e => nomatch (show (none : Option Nat) = some k from e)))
              clear hown1 hg1
              refine hK _ _ ?_; clear hK K
              try simp only [Act.put, List.setIfInBounds_toArray, List.set_cons_zero, List.set_cons_succ]
              refine wpAny_ready (rs := [6]) (by kernel_rfl) (by simp) ?_
              refine AllReady.cons (o := ?oo15) ?hi15 (fun K hK => ?hs15) ?hm15
              case hi15 => (simp only [List.getElem?_toArray, List.getElem?_cons_succ, List.getElem?_cons_zero]; rfl)
              · refine step_append_any rfl (.tmp 38) (.tmp 40) 25 rfl w4.heap.size 3 j0 _ 8 Try.underlying25 hj hy0 hy1 hy2 rfl _ (0 + k) _ rfl (by first | exact HO1.out | exact HO1.out.alloc _) _ _ [.int .i64 (m : Int)] rfl (by first | exact sees_val _ _ _ | exact (sees_val w4 (.int .i64 (m : Int)) 3).below ((Below.refl _ _).drew.grown HG1.out (Nat.le_refl _) (fun k e => nomatch (show (none : Option Nat) = some k from e))) | exact (sees_val w4.drew (.int .i64 (m : Int)) 3).below ((Below.refl _ _).grown HG1.out (Nat.le_refl _) (fun k e => nomatch (show (none : Option Nat) = some k from e)))) (by simp [Value.oneCell']) (by show 0 + k + 1 ≤ _; unfold maxLen; omega) (by show (0 + k + 1) * 8 ≤ _; omega) (by have := HZ1.out.size; first | exact this | (simp; omega)) ?_
                intro v2 w2 hown2 hg2 _
                have HO2 := Lib.hid hown2
                have HZ2 : Hid (Below w4.heap.size w4 w2) := Lib.hid (by first | exact HZ1.out.grown hg2 HZ1.out.size (fun k e => (own_low HO1.out k e).1) | exact (HZ1.out.alloc HZ1.out.size _).grown hg2 (by have := HZ1.out.size; simp; omega) (fun k e => (own_low HO1.out k e).1))
                clear hown2 hg2
                refine hK _ _ ?_; clear hK K
                try simp only [Act.put, List.setIfInBounds_toArray, List.set_cons_zero, List.set_cons_succ]
                refine wpAny_ready (rs := [10]) (by kernel_rfl) (by simp) ?_
                refine AllReady.cons (o := ?oo16) ?hi16 (fun K hK => ?hs16) ?hm16
                case hi16 => (simp only [List.getElem?_toArray, List.getElem?_cons_succ, List.getElem?_cons_zero]; rfl)
                · refine step_append_any rfl (.tmp 41) (.tmp 44) 25 rfl w4.heap.size 3 j0 _ 8 Try.underlying25 hj hy0 hy1 hy2 rfl _ (0 + k + 1) _ rfl HO2.out _ w4.heap.size ((iv l).drop k) rfl (JD.out _ HZ2.out) JD1.out (by rw [JDL.out]; unfold maxLen; omega) (by rw [JDL.out]; omega) HZ2.out.size ?_
                  intro v3 w3 hown3 hg3 _
                  rw [JDL.out] at hown3
                  obtain ⟨MJ, h9⟩ : ∃ y, 0 + k + 1 + (m - k) = y := ⟨_, rfl⟩
                  rw [h9] at hown3
                  obtain ⟨AJ, cJ, e9, -, -⟩ := own_form' hown3
                  subst e9
                  have H9J := Lib.hid h9
                  have HO3 := Lib.hid hown3
                  have HZ3 : Hid (Below w4.heap.size w4 w3) := Lib.hid (HZ2.out.grown hg3 HZ2.out.size (fun k e => (own_low HO2.out k e).1))
                  clear hown3 hg3 h9
                  refine hK _ _ ?_; clear hK K
                  try simp only [Act.put, List.setIfInBounds_toArray, List.set_cons_zero, List.set_cons_succ]
                  refine wpAny_take (i := 11) (oi := ?oi17) (v := ?v17) ?hi17 (by kernel_rfl) (by kernel_rfl) (by kernel_rfl) ?hq17 ?hy17 ?hr17
                  case hi17 => (simp only [List.getElem?_toArray, List.getElem?_cons_succ, List.getElem?_cons_zero]; rfl)
                  case hq17 => exact fun _ _ _ h => h
                  case hy17 => exact Or.inl ⟨by rfl, by intro w; (first | (go_simp; done) | (go_simp; with_reducible rfl))⟩
                  try simp only [Act.put, List.setIfInBounds_toArray, List.set_cons_zero, List.set_cons_succ]
                  refine wpAny_done (by kernel_rfl) ?_ _
                  have HNX := Lib.hid (show OwnN X w3 M (.slice AJ MJ cJ) (ordC c (m + 1)) from ⟨by
                    rw [HINS.out]
                    refine own_eq (own_base HO3.out HMB.out) (by rw [← H9J.out, mid_len HLL.out hkm]; omega) ?_
                    rw [put_ivm l k m]
                    exact (iv_eq _).symm, HB4.out.trans (HZ3.out.mono HB4.out.size)⟩)
                  clear HO1 HO2 HO3 HG1 HZ1 HZ2 HZ3 H9J JT JTL JT1 JD JDL JD1 hs1 hs2
                  go_wp2_with fail
                  go_roundg (n - (m + 1))
                  case measure => have := HJ.out; omega
                  case rel => exact ⟨m + 1, _, by have := HJ.out; omega, Nat.le_refl _, rfl, by go_num, HNX⟩
                exact AllReady.nil
              exact AllReady.nil
            exact AllReady.nil
          exact AllReady.nil
        · obtain ⟨k', hk'⟩ : ∃ k', k = k' + 1 := ⟨k - 1, by omega⟩
          have hkI : (0 : Int) < (k : Int) := by omega
          have hkN : 0 < k := by omega
          have hkD : decide (0 < k) = true := decide_eq_true hkN
          have hsub : IntKind.i64.wrap ((k : Int) - 1) = (k' : Int) := by rw [IntKind.wrap_i64]; omega
          have hkmI : (k' : Int) < (m : Int) := by omega
          have hk'm : k' < m := by omega
          obtain ⟨x, hx⟩ : ∃ x, l[k']? = some x := ⟨_, List.getElem?_eq_getElem (by rw [HLL.out]; omega)⟩
          have hxm : x < m := HLM.out x (List.mem_of_getElem? hx)
          have hxI : (x : Int) < (n : Int) := by omega
          obtain ⟨b2, o2, rfl, -, hj2⟩ := at_int (HC.out wr HBA.out) (by rw [List.length_map, HLE.out]; omega)
          have u2 := hj2 x (c x : Int) (by rw [List.getElem?_map, HCV.out x (by omega)]; rfl)
          have u3 := hj2 m (c m : Int) (by rw [List.getElem?_map, HCV.out m HJ.out.1]; rfl)
          obtain ⟨g0, hA0, hgb, -⟩ := HG0.out (by omega)
          subst hA0
          have u1 : wr.cell? ⟨g0, k', none⟩ = some (.int .i64 (x : Int)) := by
            have ho := own_below' (N := M) HR.out.own HQ.out.1
            rw [HLL.out] at ho
            rw [ho.cellAt k' (by omega), List.getElem?_map, List.getElem?_map, hx]
            rfl
          have HX' := Lib.hid hx
          have hkk : k' + 1 = k := hk'.symm
          have HKK := Lib.hid hkk
          clear hj2 hk' hk0 hx hxm hgb hkk
          by_cases hq : c x < c m
          · have hqI : (c x : Int) < (c m : Int) := by omega
            go_wp2_with fail
            go_quiet (fail)
            go_wp2_with fail
            go_roundg k'
            case measure => have := HKK.out; omega
            case rel => exact ⟨k', by go_num, by omega, Nat.le_refl _, Lib.hid ⟨below_drewN HQ.out.1 _, fun i y h1 h2 => by
              rcases Nat.lt_or_ge k' i with h | h
              · exact HQ.out.2 i y (by have := HKK.out; omega) h2
              · have : i = k' := by omega
                rw [this, HX'.out] at h2
                cases h2
                exact hq⟩⟩
          · have hqI : ¬ (c x : Int) < (c m : Int) := by omega
            have hqD : decide (c x < c m) = false := decide_eq_false hq
            have HINS := Lib.hid (show ordC c (m + 1) = l.take k ++ m :: l.drop k by
              rw [HSUCC.out]
              exact insC_at (by rw [HLL.out]; exact hkm) HQ.out.2 (fun a h ha => by
                rw [show k - 1 = k' by have := HKK.out; omega, HX'.out] at ha
                cases ha
                exact hq))
            go_wp2_with fail
            go_quiet (fail)
            go_wp2_with fail
            clear u1 u2 u3 d1
            obtain ⟨w4, hw4⟩ : ∃ w4, wr.drewN nq = w4 := ⟨_, rfl⟩
            have HB4 := Lib.hid (show Below X.heap.size X w4 by rw [← hw4]; exact below_drewN HBA.out _)
            have hown := own_below' (N := M) HR.out.own (show Below wA.heap.size wA w4 by rw [← hw4]; exact below_drewN HQ.out.1 _)
            rw [HLL.out] at hown
            rw [hw4]
            have HMB := Lib.hid (show M ≤ w4.heap.size by rw [← HM.out]; exact HB4.out.size)
            have hs1 := sliceI_to (some ⟨g0, 0, none⟩) m cap0 k hkm hc0
            have hs2 := sliceI_from (some ⟨g0, 0, none⟩) m cap0 k hkm
            obtain ⟨vd, hvd⟩ : ∃ vd, sliced (some ⟨g0, 0, none⟩) k m cap0 1 = vd := ⟨_, rfl⟩
            rw [hvd] at hs2
            have hse := (seesC_own hown).1
            rw [show (intsN l).map (fun x => Value.int .i64 x) = iv l by simp [iv]] at hse
            have hsl : (iv l).length = m := by rw [iv_len, HLL.out]
            have JT := Lib.hid (fun W (h : Below w4.heap.size w4 W) => (sees_to hse hsl hkm).below h)
            have JD := Lib.hid (fun W (h : Below w4.heap.size w4 W) => (sees_from' hse hsl hkm).below h)
            rw [hvd] at JD
            have JTL := Lib.hid (show ((iv l).take k).length = k by rw [List.length_take, hsl]; omega)
            have JDL := Lib.hid (show ((iv l).drop k).length = m - k by rw [List.length_drop, hsl])
            have JT1 := Lib.hid (show ∀ u ∈ (iv l).take k, u.oneCell' = true from fun u hu => iv_one l u (List.mem_of_mem_take hu))
            have JD1 := Lib.hid (show ∀ u ∈ (iv l).drop k, u.oneCell' = true from fun u hu => iv_one l u (List.mem_of_mem_drop hu))
            clear hvd hse hsl hw4 hown
            refine wp_region_any (by kernel_rfl) ?_
            change wpAny _ _ _ _ _ _ _ (World.drew _)
            refine wpAny_take (i := 0) (oi := ?oi1001) (v := ?v1001) ?hi1001 (by kernel_rfl) (by kernel_rfl) (by kernel_rfl) ?hq1001 ?hy1001 ?hr1001
            case hi1001 => (simp only [List.getElem?_toArray, List.getElem?_cons_zero]; rfl)
            case hq1001 => exact fun _ _ _ h => h
            case hy1001 => exact Or.inl ⟨by rfl, by intro w; (first | (go_simp; done) | (go_simp; with_reducible rfl))⟩
            try simp only [Act.put, List.setIfInBounds_toArray, List.set_cons_zero, List.set_cons_succ]
            refine wpAny_take (i := 1) (oi := ?oi1002) (v := ?v1002) ?hi1002 (by kernel_rfl) (by kernel_rfl) (by kernel_rfl) ?hq1002 ?hy1002 ?hr1002
            case hi1002 => (simp only [List.getElem?_toArray, List.getElem?_cons_succ, List.getElem?_cons_zero]; rfl)
            case hq1002 => exact fun _ _ _ h => h
            case hy1002 => exact Or.inl ⟨by rfl, by intro w; (first | (go_simp; done) | (go_simp; with_reducible rfl))⟩
            try simp only [Act.put, List.setIfInBounds_toArray, List.set_cons_zero, List.set_cons_succ]
            refine wpAny_take (i := 2) (oi := ?oi1003) (v := ?v1003) ?hi1003 (by kernel_rfl) (by kernel_rfl) (by kernel_rfl) ?hq1003 ?hy1003 ?hr1003
            case hi1003 => (simp only [List.getElem?_toArray, List.getElem?_cons_succ, List.getElem?_cons_zero]; rfl)
            case hq1003 => exact fun _ _ _ h => h
            case hy1003 => exact Or.inl ⟨by rfl, by intro w; (first | (go_simp; done) | (go_simp; with_reducible rfl))⟩
            try simp only [Act.put, List.setIfInBounds_toArray, List.set_cons_zero, List.set_cons_succ]
            refine wpAny_take (i := 4) (oi := ?oi1004) (v := ?v1004) ?hi1004 (by kernel_rfl) (by kernel_rfl) (by kernel_rfl) ?hq1004 ?hy1004 ?hr1004
            case hi1004 => (simp only [List.getElem?_toArray, List.getElem?_cons_succ, List.getElem?_cons_zero]; rfl)
            case hq1004 => exact fun _ _ _ h => h
            case hy1004 => exact Or.inl ⟨by rfl, by intro w; (first | (go_simp; done) | (go_simp; with_reducible rfl))⟩
            try simp only [Act.put, List.setIfInBounds_toArray, List.set_cons_zero, List.set_cons_succ]
            refine wpAny_take (i := 7) (oi := ?oi1005) (v := ?v1005) ?hi1005 (by kernel_rfl) (by kernel_rfl) (by kernel_rfl) ?hq1005 ?hy1005 ?hr1005
            case hi1005 => (simp only [List.getElem?_toArray, List.getElem?_cons_succ, List.getElem?_cons_zero]; rfl)
            case hq1005 => exact fun _ _ _ h => h
            case hy1005 => exact Or.inl ⟨by rfl, by intro w; (first | (go_simp; done) | (go_simp; with_reducible rfl))⟩
            try simp only [Act.put, List.setIfInBounds_toArray, List.set_cons_zero, List.set_cons_succ]
            refine wpAny_take (i := 8) (oi := ?oi1006) (v := ?v1006) ?hi1006 (by kernel_rfl) (by kernel_rfl) (by kernel_rfl) ?hq1006 ?hy1006 ?hr1006
            case hi1006 => (simp only [List.getElem?_toArray, List.getElem?_cons_succ, List.getElem?_cons_zero]; rfl)
            case hq1006 => exact fun _ _ _ h => h
            case hy1006 => exact Or.inl ⟨by rfl, by intro w; (first | (go_simp; done) | (go_simp; with_reducible rfl))⟩
            try simp only [Act.put, List.setIfInBounds_toArray, List.set_cons_zero, List.set_cons_succ]
            refine wpAny_take (i := 9) (oi := ?oi1007) (v := ?v1007) ?hi1007 (by kernel_rfl) (by kernel_rfl) (by kernel_rfl) ?hq1007 ?hy1007 ?hr1007
            case hi1007 => (simp only [List.getElem?_toArray, List.getElem?_cons_succ, List.getElem?_cons_zero]; rfl)
            case hq1007 => exact fun _ _ _ h => h
            case hy1007 => exact Or.inl ⟨by rfl, by intro w; (first | (go_simp; done) | (go_simp; with_reducible rfl))⟩
            try simp only [Act.put, List.setIfInBounds_toArray, List.set_cons_zero, List.set_cons_succ]
            refine wpAny_ready (rs := [3, 5]) (by kernel_rfl) (by simp) ?_
            refine AllReady.cons (o := ?oo1008) ?hi1008 (fun K hK => ?hs1008) ?hm1008
            case hi1008 => (simp only [List.getElem?_toArray, List.getElem?_cons_succ, List.getElem?_cons_zero]; rfl)
            · refine step_append_any rfl (.const (.slice none 0 0)) (.tmp 37) 25 rfl w4.heap.size 3 j0 _ 8 Try.underlying25 hj hy0 hy1 hy2 rfl _ 0 [] rfl (World.ownsRow_nil _ _ _ _) _ w4.heap.size ((iv l).take k) rfl (by first | exact JT.out _ (Below.refl _ _).drew | exact JT.out _ ((Below.refl _ _).drew.alloc (Nat.le_refl _) _)) JT1.out (by rw [JTL.out]; unfold maxLen; omega) (by rw [JTL.out]; omega) (by first | exact Nat.le_refl _ | simp) ?_
              intro v1 w1 hown1 hg1 _
              rw [JTL.out] at hown1
              have HO1 := Lib.hid hown1
              have HG1 := Lib.hid hg1
              have HZ1 : Hid (Below w4.heap.size w4 w1) := Lib.hid (by first | exact (Below.refl _ _).drew.grown hg1 (Nat.le_refl _) (fun k e => nomatch (show (none : Option Nat) = some k from e)) | exact ((Below.refl _ _).drew.alloc (Nat.le_refl _) _).grown hg1 (by simp) (fun k e => nomatch (show (none : Option Nat) = some k from e)))
              clear hown1 hg1
              refine hK _ _ ?_; clear hK K
              try simp only [Act.put, List.setIfInBounds_toArray, List.set_cons_zero, List.set_cons_succ]
              refine wpAny_ready (rs := [5]) (by kernel_rfl) (by simp) ?_
              refine AllReady.cons (o := ?oo1009) ?hi1009 (fun K hK => ?hs1009) ?hm1009
              case hi1009 => (simp only [List.getElem?_toArray, List.getElem?_cons_succ, List.getElem?_cons_zero]; rfl)
              · go_simp
                refine hK _ _ ?_; clear hK K
                try simp only [Act.put, List.setIfInBounds_toArray, List.set_cons_zero, List.set_cons_succ]
                refine wpAny_ready (rs := [6]) (by kernel_rfl) (by simp) ?_
                refine AllReady.cons (o := ?oo1010) ?hi1010 (fun K hK => ?hs1010) ?hm1010
                case hi1010 => (simp only [List.getElem?_toArray, List.getElem?_cons_succ, List.getElem?_cons_zero]; rfl)
                · refine step_append_any rfl (.tmp 38) (.tmp 40) 25 rfl w4.heap.size 3 j0 _ 8 Try.underlying25 hj hy0 hy1 hy2 rfl _ (0 + k) _ rfl (by first | exact HO1.out | exact HO1.out.alloc _) _ _ [.int .i64 (m : Int)] rfl (by first | exact sees_val _ _ _ | exact (sees_val w4 (.int .i64 (m : Int)) 3).below ((Below.refl _ _).drew.grown HG1.out (Nat.le_refl _) (fun k e => nomatch (show (none : Option Nat) = some k from e))) | exact (sees_val w4.drew (.int .i64 (m : Int)) 3).below ((Below.refl _ _).grown HG1.out (Nat.le_refl _) (fun k e => nomatch (show (none : Option Nat) = some k from e)))) (by simp [Value.oneCell']) (by show 0 + k + 1 ≤ _; unfold maxLen; omega) (by show (0 + k + 1) * 8 ≤ _; omega) (by have := HZ1.out.size; first | exact this | (simp; omega)) ?_
                  intro v2 w2 hown2 hg2 _
                  have HO2 := Lib.hid hown2
                  have HZ2 : Hid (Below w4.heap.size w4 w2) := Lib.hid (by first | exact HZ1.out.grown hg2 HZ1.out.size (fun k e => (own_low HO1.out k e).1) | exact (HZ1.out.alloc HZ1.out.size _).grown hg2 (by have := HZ1.out.size; simp; omega) (fun k e => (own_low HO1.out k e).1))
                  clear hown2 hg2
                  refine hK _ _ ?_; clear hK K
                  try simp only [Act.put, List.setIfInBounds_toArray, List.set_cons_zero, List.set_cons_succ]
                  refine wpAny_ready (rs := [10]) (by kernel_rfl) (by simp) ?_
                  refine AllReady.cons (o := ?oo1011) ?hi1011 (fun K hK => ?hs1011) ?hm1011
                  case hi1011 => (simp only [List.getElem?_toArray, List.getElem?_cons_succ, List.getElem?_cons_zero]; rfl)
                  · refine step_append_any rfl (.tmp 41) (.tmp 44) 25 rfl w4.heap.size 3 j0 _ 8 Try.underlying25 hj hy0 hy1 hy2 rfl _ (0 + k + 1) _ rfl HO2.out _ w4.heap.size ((iv l).drop k) rfl (JD.out _ HZ2.out) JD1.out (by rw [JDL.out]; unfold maxLen; omega) (by rw [JDL.out]; omega) HZ2.out.size ?_
                    intro v3 w3 hown3 hg3 _
                    rw [JDL.out] at hown3
                    obtain ⟨MJ, h9⟩ : ∃ y, 0 + k + 1 + (m - k) = y := ⟨_, rfl⟩
                    rw [h9] at hown3
                    obtain ⟨AJ, cJ, e9, -, -⟩ := own_form' hown3
                    subst e9
                    have H9J := Lib.hid h9
                    have HO3 := Lib.hid hown3
                    have HZ3 : Hid (Below w4.heap.size w4 w3) := Lib.hid (HZ2.out.grown hg3 HZ2.out.size (fun k e => (own_low HO2.out k e).1))
                    clear hown3 hg3 h9
                    refine hK _ _ ?_; clear hK K
                    try simp only [Act.put, List.setIfInBounds_toArray, List.set_cons_zero, List.set_cons_succ]
                    refine wpAny_take (i := 11) (oi := ?oi1012) (v := ?v1012) ?hi1012 (by kernel_rfl) (by kernel_rfl) (by kernel_rfl) ?hq1012 ?hy1012 ?hr1012
                    case hi1012 => (simp only [List.getElem?_toArray, List.getElem?_cons_succ, List.getElem?_cons_zero]; rfl)
                    case hq1012 => exact fun _ _ _ h => h
                    case hy1012 => exact Or.inl ⟨by rfl, by intro w; (first | (go_simp; done) | (go_simp; with_reducible rfl))⟩
                    try simp only [Act.put, List.setIfInBounds_toArray, List.set_cons_zero, List.set_cons_succ]
                    refine wpAny_done (by kernel_rfl) ?_ _
                    have HNX := Lib.hid (show OwnN X w3 M (.slice AJ MJ cJ) (ordC c (m + 1)) from ⟨by
                      rw [HINS.out]
                      refine own_eq (own_base HO3.out HMB.out) (by rw [← H9J.out, mid_len HLL.out hkm]; omega) ?_
                      rw [put_ivm l k m]
                      exact (iv_eq _).symm, HB4.out.trans (HZ3.out.mono HB4.out.size)⟩)
                    clear HO1 HO2 HO3 HG1 HZ1 HZ2 HZ3 H9J JT JTL JT1 JD JDL JD1 hs1 hs2
                    go_wp2_with fail
                    go_roundg (n - (m + 1))
                    case measure => have := HJ.out; omega
                    case rel => exact ⟨m + 1, _, by have := HJ.out; omega, Nat.le_refl _, rfl, by go_num, HNX⟩
                  exact AllReady.nil
                exact AllReady.nil
              exact AllReady.nil
            refine AllReady.cons (o := ?oo1013) ?hi1013 (fun K hK => ?hs1013) ?hm1013
            case hi1013 => (simp only [List.getElem?_toArray, List.getElem?_cons_succ, List.getElem?_cons_zero]; rfl)
            · go_simp
              refine hK _ _ ?_; clear hK K
              try simp only [Act.put, List.setIfInBounds_toArray, List.set_cons_zero, List.set_cons_succ]
              refine wpAny_ready (rs := [3]) (by kernel_rfl) (by simp) ?_
              refine AllReady.cons (o := ?oo1014) ?hi1014 (fun K hK => ?hs1014) ?hm1014
              case hi1014 => (simp only [List.getElem?_toArray, List.getElem?_cons_succ, List.getElem?_cons_zero]; rfl)
              · refine step_append_any rfl (.const (.slice none 0 0)) (.tmp 37) 25 rfl w4.heap.size 3 j0 _ 8 Try.underlying25 hj hy0 hy1 hy2 rfl _ 0 [] rfl (World.ownsRow_nil _ _ _ _) _ w4.heap.size ((iv l).take k) rfl (by first | exact JT.out _ (Below.refl _ _).drew | exact JT.out _ ((Below.refl _ _).drew.alloc (Nat.le_refl _) _)) JT1.out (by rw [JTL.out]; unfold maxLen; omega) (by rw [JTL.out]; omega) (by first | exact Nat.le_refl _ | simp) ?_
                intro v1 w1 hown1 hg1 _
                rw [JTL.out] at hown1
                have HO1 := Lib.hid hown1
                have HG1 := Lib.hid hg1
                have HZ1 : Hid (Below w4.heap.size w4 w1) := Lib.hid (by first | exact (Below.refl _ _).drew.grown hg1 (Nat.le_refl _) (fun k e => nomatch (show (none : Option Nat) = some k from e)) | exact ((Below.refl _ _).drew.alloc (Nat.le_refl _) _).grown hg1 (by simp) (fun k e => nomatch (show (none : Option Nat) = some k from e)))
                clear hown1 hg1
                refine hK _ _ ?_; clear hK K
                try simp only [Act.put, List.setIfInBounds_toArray, List.set_cons_zero, List.set_cons_succ]
                refine wpAny_ready (rs := [6]) (by kernel_rfl) (by simp) ?_
                refine AllReady.cons (o := ?oo1015) ?hi1015 (fun K hK => ?hs1015) ?hm1015
                case hi1015 => (simp only [List.getElem?_toArray, List.getElem?_cons_succ, List.getElem?_cons_zero]; rfl)
                · refine step_append_any rfl (.tmp 38) (.tmp 40) 25 rfl w4.heap.size 3 j0 _ 8 Try.underlying25 hj hy0 hy1 hy2 rfl _ (0 + k) _ rfl (by first | exact HO1.out | exact HO1.out.alloc _) _ _ [.int .i64 (m : Int)] rfl (by first | exact sees_val _ _ _ | exact (sees_val w4 (.int .i64 (m : Int)) 3).below ((Below.refl _ _).drew.grown HG1.out (Nat.le_refl _) (fun k e => nomatch (show (none : Option Nat) = some k from e))) | exact (sees_val w4.drew (.int .i64 (m : Int)) 3).below ((Below.refl _ _).grown HG1.out (Nat.le_refl _) (fun k e => nomatch (show (none : Option Nat) = some k from e)))) (by simp [Value.oneCell']) (by show 0 + k + 1 ≤ _; unfold maxLen; omega) (by show (0 + k + 1) * 8 ≤ _; omega) (by have := HZ1.out.size; first | exact this | (simp; omega)) ?_
                  intro v2 w2 hown2 hg2 _
                  have HO2 := Lib.hid hown2
                  have HZ2 : Hid (Below w4.heap.size w4 w2) := Lib.hid (by first | exact HZ1.out.grown hg2 HZ1.out.size (fun k e => (own_low HO1.out k e).1) | exact (HZ1.out.alloc HZ1.out.size _).grown hg2 (by have := HZ1.out.size; simp; omega) (fun k e => (own_low HO1.out k e).1))
                  clear hown2 hg2
                  refine hK _ _ ?_; clear hK K
                  try simp only [Act.put, List.setIfInBounds_toArray, List.set_cons_zero, List.set_cons_succ]
                  refine wpAny_ready (rs := [10]) (by kernel_rfl) (by simp) ?_
                  refine AllReady.cons (o := ?oo1016) ?hi1016 (fun K hK => ?hs1016) ?hm1016
                  case hi1016 => (simp only [List.getElem?_toArray, List.getElem?_cons_succ, List.getElem?_cons_zero]; rfl)
                  · refine step_append_any rfl (.tmp 41) (.tmp 44) 25 rfl w4.heap.size 3 j0 _ 8 Try.underlying25 hj hy0 hy1 hy2 rfl _ (0 + k + 1) _ rfl HO2.out _ w4.heap.size ((iv l).drop k) rfl (JD.out _ HZ2.out) JD1.out (by rw [JDL.out]; unfold maxLen; omega) (by rw [JDL.out]; omega) HZ2.out.size ?_
                    intro v3 w3 hown3 hg3 _
                    rw [JDL.out] at hown3
                    obtain ⟨MJ, h9⟩ : ∃ y, 0 + k + 1 + (m - k) = y := ⟨_, rfl⟩
                    rw [h9] at hown3
                    obtain ⟨AJ, cJ, e9, -, -⟩ := own_form' hown3
                    subst e9
                    have H9J := Lib.hid h9
                    have HO3 := Lib.hid hown3
                    have HZ3 : Hid (Below w4.heap.size w4 w3) := Lib.hid (HZ2.out.grown hg3 HZ2.out.size (fun k e => (own_low HO2.out k e).1))
                    clear hown3 hg3 h9
                    refine hK _ _ ?_; clear hK K
                    try simp only [Act.put, List.setIfInBounds_toArray, List.set_cons_zero, List.set_cons_succ]
                    refine wpAny_take (i := 11) (oi := ?oi1017) (v := ?v1017) ?hi1017 (by kernel_rfl) (by kernel_rfl) (by kernel_rfl) ?hq1017 ?hy1017 ?hr1017
                    case hi1017 => (simp only [List.getElem?_toArray, List.getElem?_cons_succ, List.getElem?_cons_zero]; rfl)
                    case hq1017 => exact fun _ _ _ h => h
                    case hy1017 => exact Or.inl ⟨by rfl, by intro w; (first | (go_simp; done) | (go_simp; with_reducible rfl))⟩
                    try simp only [Act.put, List.setIfInBounds_toArray, List.set_cons_zero, List.set_cons_succ]
                    refine wpAny_done (by kernel_rfl) ?_ _
                    have HNX := Lib.hid (show OwnN X w3 M (.slice AJ MJ cJ) (ordC c (m + 1)) from ⟨by
                      rw [HINS.out]
                      refine own_eq (own_base HO3.out HMB.out) (by rw [← H9J.out, mid_len HLL.out hkm]; omega) ?_
                      rw [put_ivm l k m]
                      exact (iv_eq _).symm, HB4.out.trans (HZ3.out.mono HB4.out.size)⟩)
                    clear HO1 HO2 HO3 HG1 HZ1 HZ2 HZ3 H9J JT JTL JT1 JD JDL JD1 hs1 hs2
                    go_wp2_with fail
                    go_roundg (n - (m + 1))
                    case measure => have := HJ.out; omega
                    case rel => exact ⟨m + 1, _, by have := HJ.out; omega, Nat.le_refl _, rfl, by go_num, HNX⟩
                  exact AllReady.nil
                exact AllReady.nil
              exact AllReady.nil
            exact AllReady.nil
    · obtain rfl : m = n := by omega
      have hmI : ¬ (m : Int) < (m : Int) := by omega
      have HE := Lib.hid (show NumV w (ordC c m) (.returned v) wr from ⟨v, rfl, HR.out.rows, HB0.out.trans (HR.out.below.mono HB0.out.size)⟩)
      clear HR
      go_wp2_with fail
      go_ret
      exact HE.out
end Go.Proofs.Ytfcekoedhbmaeaa

