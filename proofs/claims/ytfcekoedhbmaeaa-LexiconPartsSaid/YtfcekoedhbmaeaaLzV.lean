/-
  WALK over the reference of lexicon: ByReverse.
-/
import Derived.Test.YtfcekoedhbmaeaaLzU
import Derived.Test.YtfcekoedhbmaeaaRzD
import Derived.Test.YtfcekoedhbmaeaaLzH
import Derived.Deep.RegionHeld3
import Derived.BigQuiet
namespace Go.Proofs.Ytfcekoedhbmaeaa
open Go.RowKit Go.Shelf Go.Lib Go.Sort Go.Maps
set_option linter.unusedVariables false
set_option linter.unusedSimpArgs false

theorem insK_at {key : Nat → Wd} {l : List Nat} {i k : Nat} (hk : k ≤ l.length) (h1 : ∀ j a, j < k → l[j]? = some a → key a < key i) (h2 : ∀ a, l[k]? = some a → ¬ key a < key i) : insK key l i = l.take k ++ i :: l.drop k := by
  have h : fnd (l.map key) (key i) = (l.takeWhile fun j => decide (key j < key i)).length := by
    unfold fnd
    rw [List.takeWhile_map, List.length_map]
    rfl
  have e : fnd (l.map key) (key i) = k := by
    refine fnd_eq (by rw [List.length_map]; exact hk) (fun j a hj ha => ?_) (fun a ha => ?_)
    · rw [List.getElem?_map] at ha
      obtain ⟨b, hb, rfl⟩ := Option.map_eq_some_iff.1 ha
      exact h1 j b hj hb
    · rw [List.getElem?_map] at ha
      obtain ⟨b, hb, rfl⟩ := Option.map_eq_some_iff.1 ha
      exact h2 b hb
  unfold insK
  rw [← h, e]

set_option maxRecDepth 100000 in
set_option maxHeartbeats 16000000 in
theorem refByReverse_any {w : World} {vW vC : Value} {ws : List Wd} {cs : List Nat} (hW : Rows 1 EStr w vW ws) (hC : Rows 1 EInt w vC (intsN cs)) (hle : cs.length = ws.length) (hfew : ws.length ≤ 4096) (hval : ∀ x ∈ ws, x.length ≤ 120) :
    Calls Try.prog 26 #[.agg #[vW, vC]] w (NumV w (ordK (kyL ws) ws.length)) := by
  obtain ⟨A1, c1, rfl, hc1⟩ := hW.form
  obtain ⟨A2, c2, rfl, hc2⟩ := hC.form
  have hil : (intsN cs).length = ws.length := by rw [List.length_map, hle]
  rw [hil] at hC hc2 ⊢
  obtain ⟨n, hn⟩ : ∃ n, ws.length = n := ⟨_, rfl⟩
  rw [hn] at hW hC hc1 hc2 hfew hle ⊢
  obtain ⟨key, hkey⟩ : ∃ key : Nat → Wd, kyL ws = key := ⟨_, rfl⟩
  have hky : ∀ i x, ws[i]? = some x → key i = keyW x := fun i x hx => by rw [← hkey]; exact kyL_at hx
  rw [hkey]
  have hb0 := below_box w (.cells #[.slice A1 n c1, .slice A2 n c2] 27)
  obtain ⟨X, hX⟩ : ∃ X, w.alloc (.cells #[.slice A1 n c1, .slice A2 n c2] 27) = X := ⟨_, rfl⟩
  obtain ⟨N, hN⟩ : ∃ N, w.heap.size = N := ⟨_, rfl⟩
  have hbx : X.heap[N]? = some (.cells #[.slice A1 n c1, .slice A2 n c2] 27 (0, 0)) := by rw [← hX, ← hN]; exact block_new _ _
  rw [hX] at hb0
  have HW := Lib.hid (fun W (hb : Below X.heap.size X W) => hW.below stays_str (hb0.trans (hb.mono hb0.size)))
  have HKY := Lib.hid hky
  have HVAL := Lib.hid hval
  have HN' := Lib.hid hn
  have HBX := Lib.hid (fun W (hb : Below X.heap.size X W) => block_below hbx hb (Array.getElem?_eq_some_iff.1 hbx).1)
  have HB0 := Lib.hid hb0
  obtain ⟨M, hM⟩ : ∃ M, X.heap.size = M := ⟨_, rfl⟩
  have HM := Lib.hid hM
  have HST0 := Lib.hid (show OwnN X X M (.slice none 0 0) (ordK key 0) from ⟨World.ownsRow_nil _ _ _ _, Below.refl _ _⟩)
  have d0 : X.cell? ⟨N, 0, none⟩ = some (.slice A1 n c1) := cell_of hbx rfl
  have HX := Lib.hid hX
  have HNN := Lib.hid hN
  obtain ⟨j0, hj, hy0, hy1, hy2⟩ := info_parts' Try.infoInt2
  clear hW hC hil hb0 hbx hX hN hn hkey hky hval hle hM
  go_enter Try.func26, Try.ntmps26
  go_upto_region 1 with fail
  rw [HX.out, HNN.out]
  go_wp2_with fail
  go_loopg [3, 10] n (fun gg av sv' wr => ∃ (m : Nat) (v : Value), m ≤ n ∧ n - m ≤ gg ∧ v = av ∧ sv' = .int .i64 m ∧ Hid (OwnN X wr M v (ordK key m)))
  case atStart => exact ⟨0, _, Nat.zero_le _, Nat.le_refl _, rfl, rfl, HST0⟩
  case round =>
    clear HST0 d0
    obtain ⟨m, v, hmn, hgm, rfl, rfl, HR⟩ := hrel
    by_cases hlt : m < n
    · have hmI : (m : Int) < (n : Int) := by omega
      obtain ⟨A0, cap0, hv0, hc0, hg0⟩ := own_form' HR.out.own
      rw [ordK_len] at hv0 hc0 hg0
      subst hv0
      obtain ⟨l, hl⟩ : ∃ l, ordK key m = l := ⟨_, rfl⟩
      have hll : l.length = m := by rw [← hl, ordK_len]
      have hlm : ∀ x ∈ l, x < m := fun x hx => by rw [← hl] at hx; exact (ordK_mem _ _ _).1 hx
      have hsucc : ordK key (m + 1) = insK key l m := by rw [ordK_succ, hl]
      rw [hl] at HR
      have HSUCC := Lib.hid hsucc
      have HLL := Lib.hid hll
      have HLM := Lib.hid hlm
      have HG0 := Lib.hid hg0
      have HJ := Lib.hid (And.intro hlt hgm)
      obtain ⟨wA, hwA⟩ : ∃ wA, wA = wr := ⟨_, rfl⟩
      subst hwA
      clear hl hll hlm hsucc hgm hg0
      obtain ⟨xm, hxm⟩ : ∃ x, ws[m]? = some x := ⟨_, List.getElem?_eq_getElem (by rw [HN'.out]; exact hlt)⟩
      obtain ⟨b2, o2, rfl, -, hj2⟩ := at_str (HW.out wA HR.out.below) (by rw [HN'.out]; omega)
      have u9 := hj2 m xm hxm
      have hkm' := HKY.out m xm hxm
      have hrv2 := fun W => Ru.refReverse_any ⟨xm.toArray⟩ (by have := HVAL.out xm (List.mem_of_getElem? hxm); show xm.toArray.size ≤ _; simp only [List.size_toArray]; omega) W
      obtain ⟨T2, hT2⟩ : ∃ T : ByteArray, (⟨xm.toArray⟩ : ByteArray) = T := ⟨_, rfl⟩
      obtain ⟨K2, hK2⟩ : ∃ K : ByteArray, (⟨(keyW xm).toArray⟩ : ByteArray) = K := ⟨_, rfl⟩
      have hrv2' : ∀ W, Calls Try.prog 44 #[.string T2] W fun e w' => e = .returned (.string K2) ∧ Below W.heap.size W w' := fun W => by
        rw [← hT2, ← hK2]
        exact hrv2 W
      have hkl2 : K2.toList = key m := by rw [hkm', ← hK2, Lib.toList_data]
      have HRV2 := Lib.hid hrv2'
      have HKL2 := Lib.hid hkl2
      rw [hT2] at u9
      have d0' : wA.cell? ⟨N, 0, none⟩ = some (.slice (some ⟨b2, o2, none⟩) n c1) := cell_of (HBX.out wA HR.out.below) rfl
      clear hj2 hxm hkm' hrv2 hrv2' hT2 hK2 hkl2
      go_wp2_with fail
      go_loopg [6] m (fun gg jv wq => ∃ k : Nat, jv = .int .i64 k ∧ k ≤ m ∧ m - k ≤ gg ∧ Hid (Below wA.heap.size wA wq ∧ ∀ i x, i < k → l[i]? = some x → key x < key m))
      case atStart => exact ⟨0, rfl, Nat.zero_le _, Nat.le_refl _, Lib.hid ⟨Below.refl _ _, fun i x h1 h2 => absurd h1 (by omega)⟩⟩
      case round =>
        clear u9 d0'
        obtain ⟨k, rfl, hkm, hkg, HQ⟩ := hrel
        have HBA := Lib.hid (show Below X.heap.size X wr from HR.out.below.trans (HQ.out.1.mono HR.out.below.size))
        have d1 : wr.cell? ⟨N, 0, none⟩ = some (.slice (some ⟨b2, o2, none⟩) n c1) := cell_of (HBX.out wr HBA.out) rfl
        by_cases hk0 : k < m
        · have hkI : (k : Int) < (m : Int) := by omega
          have hkD : decide (k < m) = true := decide_eq_true hk0
          obtain ⟨x, hx⟩ : ∃ x, l[k]? = some x := ⟨_, List.getElem?_eq_getElem (by rw [HLL.out]; omega)⟩
          have hxm : x < m := HLM.out x (List.mem_of_getElem? hx)
          have hxI : (x : Int) < (n : Int) := by omega
          obtain ⟨xw, hxw⟩ : ∃ y, ws[x]? = some y := ⟨_, List.getElem?_eq_getElem (by rw [HN'.out]; omega)⟩
          have hrv1 := fun W => Ru.refReverse_any ⟨xw.toArray⟩ (by have := HVAL.out xw (List.mem_of_getElem? hxw); show xw.toArray.size ≤ _; simp only [List.size_toArray]; omega) W
          obtain ⟨T1, hT1⟩ : ∃ T : ByteArray, (⟨xw.toArray⟩ : ByteArray) = T := ⟨_, rfl⟩
          obtain ⟨K1, hK1⟩ : ∃ K : ByteArray, (⟨(keyW xw).toArray⟩ : ByteArray) = K := ⟨_, rfl⟩
          have hrv1' : ∀ W, Calls Try.prog 44 #[.string T1] W fun e w' => e = .returned (.string K1) ∧ Below W.heap.size W w' := fun W => by
            rw [← hT1, ← hK1]
            exact hrv1 W
          have hkl1 : K1.toList = key x := by rw [HKY.out x xw hxw, ← hK1, Lib.toList_data]
          have HRV1 := Lib.hid hrv1'
          obtain ⟨g0, hA0, hgb, -⟩ := HG0.out (by omega)
          subst hA0
          have HSK : Hid (∀ W, Below wr.heap.size wr W → W.cell? ⟨N, 0, none⟩ = some (Value.slice (some ⟨b2, o2, none⟩) n c1) ∧ W.cell? ⟨g0, k, none⟩ = some (Value.int IntKind.i64 (x : Int)) ∧ W.cell? ⟨b2, o2 + x, none⟩ = some (Value.string T1)) := Lib.hid (fun W hb => by
            refine ⟨cell_of (HBX.out W (HBA.out.trans (hb.mono HBA.out.size))) rfl, ?_, ?_⟩
            · have ho := own_below' (N := M) HR.out.own (HQ.out.1.trans (hb.mono HQ.out.1.size))
              rw [HLL.out] at ho
              rw [ho.cellAt k (by omega), List.getElem?_map, List.getElem?_map, hx]
              rfl
            · obtain ⟨b2', o2', e2, -, hj2⟩ := at_str (HW.out W (HBA.out.trans (hb.mono HBA.out.size))) (by rw [HN'.out]; omega)
              cases e2
              rw [← hT1]
              exact hj2 x xw hxw)
          have HXX := Lib.hid hx
          obtain ⟨q, hq⟩ : ∃ q, Op.bytesLess K1.toList K2.toList = q := ⟨_, rfl⟩
          have hqq : q = decide (key x < key m) := by rw [← hq, bytesLess_eq, hkl1, HKL2.out]
          have HQQ := Lib.hid hqq
          clear hxm hxw hrv1 hrv1' hT1 hK1 hkl1 hgb hqq
          cases q with
          | true =>
            have HLT := Lib.hid (show key x < key m from of_decide_eq_true HQQ.out.symm)
            clear HQQ hx d1
            go_wp2_with fail
            refine wp_region_held_drew (S := (fun w' => w'.cell? ⟨N, 0, none⟩ = some (Value.slice (some ⟨b2, o2, none⟩) n c1) ∧ w'.cell? ⟨g0, k, none⟩ = some (Value.int IntKind.i64 (x : Int)) ∧ w'.cell? ⟨b2, o2 + x, none⟩ = some (Value.string T1))) (by kernel_rfl) ?_ (fun hHeld => ?_)
            · (try dsimp only); exact HSK.out _ (Below.refl _ _).drew
            refine wpAnyH_take (i := 0) (oi := ?oi1) (v := ?v1) ?hi1 (by kernel_rfl) (by kernel_rfl) (by kernel_rfl) ?hq1 ?hy1 (by assumption) ?hr1
            case hi1 => (simp only [List.getElem?_toArray, List.getElem?_cons_zero]; rfl)
            case hq1 => exact fun _ _ _ h => h
            case hy1 => exact Or.inl ⟨by rfl, by intro whSw hSw'; (try dsimp only at hSw'); (first | (go_simp; done) | (go_simp; with_reducible rfl))⟩
            try simp only [Act.put, List.setIfInBounds_toArray, List.set_cons_zero, List.set_cons_succ]
            refine wpAnyH_take (i := 1) (oi := ?oi2) (v := ?v2) ?hi2 (by kernel_rfl) (by kernel_rfl) (by kernel_rfl) ?hq2 ?hy2 (by assumption) ?hr2
            case hi2 => (simp only [List.getElem?_toArray, List.getElem?_cons_succ, List.getElem?_cons_zero]; rfl)
            case hq2 => exact fun _ _ _ h => h
            case hy2 => exact Or.inl ⟨by rfl, by intro whSw hSw'; (try dsimp only at hSw'); (first | (go_simp; done) | (go_simp; with_reducible rfl))⟩
            try simp only [Act.put, List.setIfInBounds_toArray, List.set_cons_zero, List.set_cons_succ]
            refine wpAnyH_take (i := 2) (oi := ?oi3) (v := ?v3) ?hi3 (by kernel_rfl) (by kernel_rfl) (by kernel_rfl) ?hq3 ?hy3 (by assumption) ?hr3
            case hi3 => (simp only [List.getElem?_toArray, List.getElem?_cons_succ, List.getElem?_cons_zero]; rfl)
            case hq3 => exact fun _ _ _ h => h
            case hy3 => exact Or.inl ⟨by rfl, by intro whSw hSw'; (try dsimp only at hSw'); (first | (go_simp; done) | (go_simp; with_reducible rfl))⟩
            try simp only [Act.put, List.setIfInBounds_toArray, List.set_cons_zero, List.set_cons_succ]
            refine wpAnyH_take (i := 3) (oi := ?oi4) (v := ?v4) ?hi4 (by kernel_rfl) (by kernel_rfl) (by kernel_rfl) ?hq4 ?hy4 (by assumption) ?hr4
            case hi4 => (simp only [List.getElem?_toArray, List.getElem?_cons_succ, List.getElem?_cons_zero]; rfl)
            case hq4 => exact fun _ _ _ h => h
            case hy4 => exact Or.inl ⟨by rfl, by intro whSw hSw'; (try dsimp only at hSw'); (first | (go_simp; done) | (go_simp; with_reducible rfl))⟩
            try simp only [Act.put, List.setIfInBounds_toArray, List.set_cons_zero, List.set_cons_succ]
            refine wpAnyH_take (i := 4) (oi := ?oi5) (v := ?v5) ?hi5 (by kernel_rfl) (by kernel_rfl) (by kernel_rfl) ?hq5 ?hy5 (by assumption) ?hr5
            case hi5 => (simp only [List.getElem?_toArray, List.getElem?_cons_succ, List.getElem?_cons_zero]; rfl)
            case hq5 => exact fun _ _ _ h => h
            case hy5 => exact Or.inl ⟨by rfl, by intro whSw hSw'; (try dsimp only at hSw'); (first | (go_simp; done) | (go_simp; with_reducible rfl))⟩
            try simp only [Act.put, List.setIfInBounds_toArray, List.set_cons_zero, List.set_cons_succ]
            refine wpAnyH_take (i := 5) (oi := ?oi6) (v := ?v6) ?hi6 (by kernel_rfl) (by kernel_rfl) (by kernel_rfl) ?hq6 ?hy6 (by assumption) ?hr6
            case hi6 => (simp only [List.getElem?_toArray, List.getElem?_cons_succ, List.getElem?_cons_zero]; rfl)
            case hq6 => exact fun _ _ _ h => h
            case hy6 => first | exact Or.inl ⟨by rfl, by intro whSw hSw'; (try dsimp only at hSw'); (first | (go_simp; done) | (go_simp; with_reducible rfl))⟩ | exact Or.inr ⟨by rfl, by with_reducible rfl⟩ | fail
            try simp only [Act.put, List.setIfInBounds_toArray, List.set_cons_zero, List.set_cons_succ]
            refine wpAnyH_take (i := 6) (oi := ?oi7) (v := ?v7) ?hi7 (by kernel_rfl) (by kernel_rfl) (by kernel_rfl) ?hq7 ?hy7 (by assumption) ?hr7
            case hi7 => (simp only [List.getElem?_toArray, List.getElem?_cons_succ, List.getElem?_cons_zero]; rfl)
            case hq7 => exact fun _ _ _ h => h
            case hy7 => first | exact Or.inl ⟨by rfl, by intro whSw hSw'; (try dsimp only at hSw'); (first | (go_simp; done) | (go_simp; with_reducible rfl))⟩ | exact Or.inr ⟨by rfl, by with_reducible rfl⟩ | fail
            try simp only [Act.put, List.setIfInBounds_toArray, List.set_cons_zero, List.set_cons_succ]
            refine wpAnyH_take (i := 7) (oi := ?oi8) (v := ?v8) ?hi8 (by kernel_rfl) (by kernel_rfl) (by kernel_rfl) ?hq8 ?hy8 (by assumption) ?hr8
            case hi8 => (simp only [List.getElem?_toArray, List.getElem?_cons_succ, List.getElem?_cons_zero]; rfl)
            case hq8 => exact fun _ _ _ h => h
            case hy8 => first | exact Or.inl ⟨by rfl, by intro whSw hSw'; (try dsimp only at hSw'); (first | (go_simp; done) | (go_simp; with_reducible rfl))⟩ | exact Or.inr ⟨by rfl, by with_reducible rfl⟩ | fail
            try simp only [Act.put, List.setIfInBounds_toArray, List.set_cons_zero, List.set_cons_succ]
            refine wpAnyH_take (i := 8) (oi := ?oi9) (v := ?v9) ?hi9 (by kernel_rfl) (by kernel_rfl) (by kernel_rfl) ?hq9 ?hy9 (by assumption) ?hr9
            case hi9 => (simp only [List.getElem?_toArray, List.getElem?_cons_succ, List.getElem?_cons_zero]; rfl)
            case hq9 => exact fun _ _ _ h => h
            case hy9 => first | exact Or.inl ⟨by rfl, by intro whSw hSw'; (try dsimp only at hSw'); (first | (go_simp; done) | (go_simp; with_reducible rfl))⟩ | exact Or.inr ⟨by rfl, by with_reducible rfl⟩ | fail
            try simp only [Act.put, List.setIfInBounds_toArray, List.set_cons_zero, List.set_cons_succ]
            refine wpAnyH_take (i := 9) (oi := ?oi10) (v := ?v10) ?hi10 (by kernel_rfl) (by kernel_rfl) (by kernel_rfl) ?hq10 ?hy10 (by assumption) ?hr10
            case hi10 => (simp only [List.getElem?_toArray, List.getElem?_cons_succ, List.getElem?_cons_zero]; rfl)
            case hq10 => exact fun _ _ _ h => h
            case hy10 => first | exact Or.inl ⟨by rfl, by intro whSw hSw'; (try dsimp only at hSw'); (first | (go_simp; done) | (go_simp; with_reducible rfl))⟩ | exact Or.inr ⟨by rfl, by with_reducible rfl⟩ | fail
            try simp only [Act.put, List.setIfInBounds_toArray, List.set_cons_zero, List.set_cons_succ]
            refine wpAnyH_take (i := 10) (oi := ?oi11) (v := ?v11) ?hi11 (by kernel_rfl) (by kernel_rfl) (by kernel_rfl) ?hq11 ?hy11 (by assumption) ?hr11
            case hi11 => (simp only [List.getElem?_toArray, List.getElem?_cons_succ, List.getElem?_cons_zero]; rfl)
            case hq11 => exact fun _ _ _ h => h
            case hy11 => first | exact Or.inl ⟨by rfl, by intro whSw hSw'; (try dsimp only at hSw'); (first | (go_simp; done) | (go_simp; with_reducible rfl))⟩ | exact Or.inr ⟨by rfl, by with_reducible rfl⟩ | fail
            try simp only [Act.put, List.setIfInBounds_toArray, List.set_cons_zero, List.set_cons_succ]
            refine wpAnyH_take (i := 11) (oi := ?oi12) (v := ?v12) ?hi12 (by kernel_rfl) (by kernel_rfl) (by kernel_rfl) ?hq12 ?hy12 (by assumption) ?hr12
            case hi12 => (simp only [List.getElem?_toArray, List.getElem?_cons_succ, List.getElem?_cons_zero]; rfl)
            case hq12 => exact fun _ _ _ h => h
            case hy12 => first | exact Or.inl ⟨by rfl, by intro whSw hSw'; (try dsimp only at hSw'); (first | (go_simp; done) | (go_simp; with_reducible rfl))⟩ | exact Or.inr ⟨by rfl, by with_reducible rfl⟩ | fail
            try simp only [Act.put, List.setIfInBounds_toArray, List.set_cons_zero, List.set_cons_succ]
            refine wpAnyH_take (i := 12) (oi := ?oi13) (v := ?v13) ?hi13 (by kernel_rfl) (by kernel_rfl) (by kernel_rfl) ?hq13 ?hy13 (by assumption) ?hr13
            case hi13 => (simp only [List.getElem?_toArray, List.getElem?_cons_succ, List.getElem?_cons_zero]; rfl)
            case hq13 => exact fun _ _ _ h => h
            case hy13 => first | exact Or.inl ⟨by rfl, by intro whSw hSw'; (try dsimp only at hSw'); (first | (go_simp; done) | (go_simp; with_reducible rfl))⟩ | exact Or.inr ⟨by rfl, by with_reducible rfl⟩ | fail
            try simp only [Act.put, List.setIfInBounds_toArray, List.set_cons_zero, List.set_cons_succ]
            refine wpAnyH_take (i := 14) (oi := ?oi14) (v := ?v14) ?hi14 (by kernel_rfl) (by kernel_rfl) (by kernel_rfl) ?hq14 ?hy14 (by assumption) ?hr14
            case hi14 => (simp only [List.getElem?_toArray, List.getElem?_cons_succ, List.getElem?_cons_zero]; rfl)
            case hq14 => exact fun _ _ _ h => h
            case hy14 => first | exact Or.inl ⟨by rfl, by intro whSw hSw'; (try dsimp only at hSw'); (first | (go_simp; done) | (go_simp; with_reducible rfl))⟩ | exact Or.inr ⟨by rfl, by with_reducible rfl⟩ | fail
            try simp only [Act.put, List.setIfInBounds_toArray, List.set_cons_zero, List.set_cons_succ]
            refine wpAnyH_ready (rs := [13]) (by kernel_rfl) (by simp) ?_
            refine AllReadyH.cons (o := ?oo15) ?hi15 (fun K hK => ?hs15) ?hm15
            case hi15 => (simp only [List.getElem?_toArray, List.getElem?_cons_succ, List.getElem?_cons_zero]; rfl)
            · go_simp
              refine (HRV1.out _).mono ?_
              rintro e y1 ⟨rfl, hy1⟩
              have HY1 : Hid (Below wr.heap.size wr y1) := Lib.hid ((Below.refl _ wr).drew.trans hy1)
              clear hy1
              (try go_wp2_with fail)
              refine hK.out _ _ ?_ (fun hHeld => ?_)
              · (try dsimp only); first | exact HSK.out _ HY2.out | exact HSK.out _ HY1.out | exact HSK.out _ (Below.refl _ _).drew
              clear hK K
              try simp only [Act.put, List.setIfInBounds_toArray, List.set_cons_zero, List.set_cons_succ]
              refine wpAnyH_ready (rs := [15]) (by kernel_rfl) (by simp) ?_
              refine AllReadyH.cons (o := ?oo16) ?hi16 (fun K hK => ?hs16) ?hm16
              case hi16 => (simp only [List.getElem?_toArray, List.getElem?_cons_succ, List.getElem?_cons_zero]; rfl)
              · go_simp
                refine (HRV2.out _).mono ?_
                rintro e y2 ⟨rfl, hy2⟩
                have HY2 : Hid (Below wr.heap.size wr y2) := Lib.hid (HY1.out.trans (hy2.mono HY1.out.size))
                clear hy2
                (try go_wp2_with fail)
                refine hK.out _ _ ?_ (fun hHeld => ?_)
                · (try dsimp only); first | exact HSK.out _ HY2.out | exact HSK.out _ HY1.out | exact HSK.out _ (Below.refl _ _).drew
                clear hK K
                try simp only [Act.put, List.setIfInBounds_toArray, List.set_cons_zero, List.set_cons_succ]
                refine wpAnyH_take (i := 16) (oi := ?oi17) (v := ?v17) ?hi17 (by kernel_rfl) (by kernel_rfl) (by kernel_rfl) ?hq17 ?hy17 (by assumption) ?hr17
                case hi17 => (simp only [List.getElem?_toArray, List.getElem?_cons_succ, List.getElem?_cons_zero]; rfl)
                case hq17 => exact fun _ _ _ h => h
                case hy17 => first | exact Or.inl ⟨by rfl, by intro whSw hSw'; (try dsimp only at hSw'); (first | (go_simp; done) | (go_simp; with_reducible rfl))⟩ | exact Or.inr ⟨by rfl, by with_reducible rfl⟩ | fail
                try simp only [Act.put, List.setIfInBounds_toArray, List.set_cons_zero, List.set_cons_succ]
                refine wpAnyH_take (i := 17) (oi := ?oi18) (v := ?v18) ?hi18 (by kernel_rfl) (by kernel_rfl) (by kernel_rfl) ?hq18 ?hy18 (by assumption) ?hr18
                case hi18 => (simp only [List.getElem?_toArray, List.getElem?_cons_succ, List.getElem?_cons_zero]; rfl)
                case hq18 => exact fun _ _ _ h => h
                case hy18 => exact Or.inl ⟨by rfl, by intro whSw hSw'; (try dsimp only at hSw'); (first | (go_simp; done) | (go_simp; with_reducible rfl))⟩
                try simp only [Act.put, List.setIfInBounds_toArray, List.set_cons_zero, List.set_cons_succ]
                refine wpAnyH_done (by kernel_rfl) ?_ _
                clear hHeld HSK
                go_wp2_with fail
                go_roundg (m - (k + 1))
                case measure => omega
                case rel => exact ⟨k + 1, by go_num, by omega, Nat.le_refl _, Lib.hid ⟨HQ.out.1.trans (HY2.out.mono HQ.out.1.size), fun i y h1 h2 => by
                  rcases Nat.lt_or_ge i k with h | h
                  · exact HQ.out.2 i y h h2
                  · have : i = k := by omega
                    rw [this, HXX.out] at h2
                    cases h2
                    exact HLT.out⟩⟩
              exact AllReadyH.nil
            exact AllReadyH.nil
          | false =>
            have HINS := Lib.hid (show ordK key (m + 1) = l.take k ++ m :: l.drop k by
              rw [HSUCC.out]
              exact insK_at (by rw [HLL.out]; exact hkm) HQ.out.2 (fun a ha => by
                rw [HXX.out] at ha
                cases ha
                exact of_decide_eq_false HQQ.out.symm))
            clear HQQ hx d1
            go_wp2_with fail
            refine wp_region_held_drew (S := (fun w' => w'.cell? ⟨N, 0, none⟩ = some (Value.slice (some ⟨b2, o2, none⟩) n c1) ∧ w'.cell? ⟨g0, k, none⟩ = some (Value.int IntKind.i64 (x : Int)) ∧ w'.cell? ⟨b2, o2 + x, none⟩ = some (Value.string T1))) (by kernel_rfl) ?_ (fun hHeld => ?_)
            · (try dsimp only); exact HSK.out _ (Below.refl _ _).drew
            refine wpAnyH_take (i := 0) (oi := ?oi1001) (v := ?v1001) ?hi1001 (by kernel_rfl) (by kernel_rfl) (by kernel_rfl) ?hq1001 ?hy1001 (by assumption) ?hr1001
            case hi1001 => (simp only [List.getElem?_toArray, List.getElem?_cons_zero]; rfl)
            case hq1001 => exact fun _ _ _ h => h
            case hy1001 => exact Or.inl ⟨by rfl, by intro whSw hSw'; (try dsimp only at hSw'); (first | (go_simp; done) | (go_simp; with_reducible rfl))⟩
            try simp only [Act.put, List.setIfInBounds_toArray, List.set_cons_zero, List.set_cons_succ]
            refine wpAnyH_take (i := 1) (oi := ?oi1002) (v := ?v1002) ?hi1002 (by kernel_rfl) (by kernel_rfl) (by kernel_rfl) ?hq1002 ?hy1002 (by assumption) ?hr1002
            case hi1002 => (simp only [List.getElem?_toArray, List.getElem?_cons_succ, List.getElem?_cons_zero]; rfl)
            case hq1002 => exact fun _ _ _ h => h
            case hy1002 => exact Or.inl ⟨by rfl, by intro whSw hSw'; (try dsimp only at hSw'); (first | (go_simp; done) | (go_simp; with_reducible rfl))⟩
            try simp only [Act.put, List.setIfInBounds_toArray, List.set_cons_zero, List.set_cons_succ]
            refine wpAnyH_take (i := 2) (oi := ?oi1003) (v := ?v1003) ?hi1003 (by kernel_rfl) (by kernel_rfl) (by kernel_rfl) ?hq1003 ?hy1003 (by assumption) ?hr1003
            case hi1003 => (simp only [List.getElem?_toArray, List.getElem?_cons_succ, List.getElem?_cons_zero]; rfl)
            case hq1003 => exact fun _ _ _ h => h
            case hy1003 => exact Or.inl ⟨by rfl, by intro whSw hSw'; (try dsimp only at hSw'); (first | (go_simp; done) | (go_simp; with_reducible rfl))⟩
            try simp only [Act.put, List.setIfInBounds_toArray, List.set_cons_zero, List.set_cons_succ]
            refine wpAnyH_take (i := 3) (oi := ?oi1004) (v := ?v1004) ?hi1004 (by kernel_rfl) (by kernel_rfl) (by kernel_rfl) ?hq1004 ?hy1004 (by assumption) ?hr1004
            case hi1004 => (simp only [List.getElem?_toArray, List.getElem?_cons_succ, List.getElem?_cons_zero]; rfl)
            case hq1004 => exact fun _ _ _ h => h
            case hy1004 => exact Or.inl ⟨by rfl, by intro whSw hSw'; (try dsimp only at hSw'); (first | (go_simp; done) | (go_simp; with_reducible rfl))⟩
            try simp only [Act.put, List.setIfInBounds_toArray, List.set_cons_zero, List.set_cons_succ]
            refine wpAnyH_take (i := 4) (oi := ?oi1005) (v := ?v1005) ?hi1005 (by kernel_rfl) (by kernel_rfl) (by kernel_rfl) ?hq1005 ?hy1005 (by assumption) ?hr1005
            case hi1005 => (simp only [List.getElem?_toArray, List.getElem?_cons_succ, List.getElem?_cons_zero]; rfl)
            case hq1005 => exact fun _ _ _ h => h
            case hy1005 => exact Or.inl ⟨by rfl, by intro whSw hSw'; (try dsimp only at hSw'); (first | (go_simp; done) | (go_simp; with_reducible rfl))⟩
            try simp only [Act.put, List.setIfInBounds_toArray, List.set_cons_zero, List.set_cons_succ]
            refine wpAnyH_take (i := 5) (oi := ?oi1006) (v := ?v1006) ?hi1006 (by kernel_rfl) (by kernel_rfl) (by kernel_rfl) ?hq1006 ?hy1006 (by assumption) ?hr1006
            case hi1006 => (simp only [List.getElem?_toArray, List.getElem?_cons_succ, List.getElem?_cons_zero]; rfl)
            case hq1006 => exact fun _ _ _ h => h
            case hy1006 => first | exact Or.inl ⟨by rfl, by intro whSw hSw'; (try dsimp only at hSw'); (first | (go_simp; done) | (go_simp; with_reducible rfl))⟩ | exact Or.inr ⟨by rfl, by with_reducible rfl⟩ | fail
            try simp only [Act.put, List.setIfInBounds_toArray, List.set_cons_zero, List.set_cons_succ]
            refine wpAnyH_take (i := 6) (oi := ?oi1007) (v := ?v1007) ?hi1007 (by kernel_rfl) (by kernel_rfl) (by kernel_rfl) ?hq1007 ?hy1007 (by assumption) ?hr1007
            case hi1007 => (simp only [List.getElem?_toArray, List.getElem?_cons_succ, List.getElem?_cons_zero]; rfl)
            case hq1007 => exact fun _ _ _ h => h
            case hy1007 => first | exact Or.inl ⟨by rfl, by intro whSw hSw'; (try dsimp only at hSw'); (first | (go_simp; done) | (go_simp; with_reducible rfl))⟩ | exact Or.inr ⟨by rfl, by with_reducible rfl⟩ | fail
            try simp only [Act.put, List.setIfInBounds_toArray, List.set_cons_zero, List.set_cons_succ]
            refine wpAnyH_take (i := 7) (oi := ?oi1008) (v := ?v1008) ?hi1008 (by kernel_rfl) (by kernel_rfl) (by kernel_rfl) ?hq1008 ?hy1008 (by assumption) ?hr1008
            case hi1008 => (simp only [List.getElem?_toArray, List.getElem?_cons_succ, List.getElem?_cons_zero]; rfl)
            case hq1008 => exact fun _ _ _ h => h
            case hy1008 => first | exact Or.inl ⟨by rfl, by intro whSw hSw'; (try dsimp only at hSw'); (first | (go_simp; done) | (go_simp; with_reducible rfl))⟩ | exact Or.inr ⟨by rfl, by with_reducible rfl⟩ | fail
            try simp only [Act.put, List.setIfInBounds_toArray, List.set_cons_zero, List.set_cons_succ]
            refine wpAnyH_take (i := 8) (oi := ?oi1009) (v := ?v1009) ?hi1009 (by kernel_rfl) (by kernel_rfl) (by kernel_rfl) ?hq1009 ?hy1009 (by assumption) ?hr1009
            case hi1009 => (simp only [List.getElem?_toArray, List.getElem?_cons_succ, List.getElem?_cons_zero]; rfl)
            case hq1009 => exact fun _ _ _ h => h
            case hy1009 => first | exact Or.inl ⟨by rfl, by intro whSw hSw'; (try dsimp only at hSw'); (first | (go_simp; done) | (go_simp; with_reducible rfl))⟩ | exact Or.inr ⟨by rfl, by with_reducible rfl⟩ | fail
            try simp only [Act.put, List.setIfInBounds_toArray, List.set_cons_zero, List.set_cons_succ]
            refine wpAnyH_take (i := 9) (oi := ?oi1010) (v := ?v1010) ?hi1010 (by kernel_rfl) (by kernel_rfl) (by kernel_rfl) ?hq1010 ?hy1010 (by assumption) ?hr1010
            case hi1010 => (simp only [List.getElem?_toArray, List.getElem?_cons_succ, List.getElem?_cons_zero]; rfl)
            case hq1010 => exact fun _ _ _ h => h
            case hy1010 => first | exact Or.inl ⟨by rfl, by intro whSw hSw'; (try dsimp only at hSw'); (first | (go_simp; done) | (go_simp; with_reducible rfl))⟩ | exact Or.inr ⟨by rfl, by with_reducible rfl⟩ | fail
            try simp only [Act.put, List.setIfInBounds_toArray, List.set_cons_zero, List.set_cons_succ]
            refine wpAnyH_take (i := 10) (oi := ?oi1011) (v := ?v1011) ?hi1011 (by kernel_rfl) (by kernel_rfl) (by kernel_rfl) ?hq1011 ?hy1011 (by assumption) ?hr1011
            case hi1011 => (simp only [List.getElem?_toArray, List.getElem?_cons_succ, List.getElem?_cons_zero]; rfl)
            case hq1011 => exact fun _ _ _ h => h
            case hy1011 => first | exact Or.inl ⟨by rfl, by intro whSw hSw'; (try dsimp only at hSw'); (first | (go_simp; done) | (go_simp; with_reducible rfl))⟩ | exact Or.inr ⟨by rfl, by with_reducible rfl⟩ | fail
            try simp only [Act.put, List.setIfInBounds_toArray, List.set_cons_zero, List.set_cons_succ]
            refine wpAnyH_take (i := 11) (oi := ?oi1012) (v := ?v1012) ?hi1012 (by kernel_rfl) (by kernel_rfl) (by kernel_rfl) ?hq1012 ?hy1012 (by assumption) ?hr1012
            case hi1012 => (simp only [List.getElem?_toArray, List.getElem?_cons_succ, List.getElem?_cons_zero]; rfl)
            case hq1012 => exact fun _ _ _ h => h
            case hy1012 => first | exact Or.inl ⟨by rfl, by intro whSw hSw'; (try dsimp only at hSw'); (first | (go_simp; done) | (go_simp; with_reducible rfl))⟩ | exact Or.inr ⟨by rfl, by with_reducible rfl⟩ | fail
            try simp only [Act.put, List.setIfInBounds_toArray, List.set_cons_zero, List.set_cons_succ]
            refine wpAnyH_take (i := 12) (oi := ?oi1013) (v := ?v1013) ?hi1013 (by kernel_rfl) (by kernel_rfl) (by kernel_rfl) ?hq1013 ?hy1013 (by assumption) ?hr1013
            case hi1013 => (simp only [List.getElem?_toArray, List.getElem?_cons_succ, List.getElem?_cons_zero]; rfl)
            case hq1013 => exact fun _ _ _ h => h
            case hy1013 => first | exact Or.inl ⟨by rfl, by intro whSw hSw'; (try dsimp only at hSw'); (first | (go_simp; done) | (go_simp; with_reducible rfl))⟩ | exact Or.inr ⟨by rfl, by with_reducible rfl⟩ | fail
            try simp only [Act.put, List.setIfInBounds_toArray, List.set_cons_zero, List.set_cons_succ]
            refine wpAnyH_take (i := 14) (oi := ?oi1014) (v := ?v1014) ?hi1014 (by kernel_rfl) (by kernel_rfl) (by kernel_rfl) ?hq1014 ?hy1014 (by assumption) ?hr1014
            case hi1014 => (simp only [List.getElem?_toArray, List.getElem?_cons_succ, List.getElem?_cons_zero]; rfl)
            case hq1014 => exact fun _ _ _ h => h
            case hy1014 => first | exact Or.inl ⟨by rfl, by intro whSw hSw'; (try dsimp only at hSw'); (first | (go_simp; done) | (go_simp; with_reducible rfl))⟩ | exact Or.inr ⟨by rfl, by with_reducible rfl⟩ | fail
            try simp only [Act.put, List.setIfInBounds_toArray, List.set_cons_zero, List.set_cons_succ]
            refine wpAnyH_ready (rs := [13]) (by kernel_rfl) (by simp) ?_
            refine AllReadyH.cons (o := ?oo1015) ?hi1015 (fun K hK => ?hs1015) ?hm1015
            case hi1015 => (simp only [List.getElem?_toArray, List.getElem?_cons_succ, List.getElem?_cons_zero]; rfl)
            · go_simp
              refine (HRV1.out _).mono ?_
              rintro e y1 ⟨rfl, hy1⟩
              have HY1 : Hid (Below wr.heap.size wr y1) := Lib.hid ((Below.refl _ wr).drew.trans hy1)
              clear hy1
              (try go_wp2_with fail)
              refine hK.out _ _ ?_ (fun hHeld => ?_)
              · (try dsimp only); first | exact HSK.out _ HY2.out | exact HSK.out _ HY1.out | exact HSK.out _ (Below.refl _ _).drew
              clear hK K
              try simp only [Act.put, List.setIfInBounds_toArray, List.set_cons_zero, List.set_cons_succ]
              refine wpAnyH_ready (rs := [15]) (by kernel_rfl) (by simp) ?_
              refine AllReadyH.cons (o := ?oo1016) ?hi1016 (fun K hK => ?hs1016) ?hm1016
              case hi1016 => (simp only [List.getElem?_toArray, List.getElem?_cons_succ, List.getElem?_cons_zero]; rfl)
              · go_simp
                refine (HRV2.out _).mono ?_
                rintro e y2 ⟨rfl, hy2⟩
                have HY2 : Hid (Below wr.heap.size wr y2) := Lib.hid (HY1.out.trans (hy2.mono HY1.out.size))
                clear hy2
                (try go_wp2_with fail)
                refine hK.out _ _ ?_ (fun hHeld => ?_)
                · (try dsimp only); first | exact HSK.out _ HY2.out | exact HSK.out _ HY1.out | exact HSK.out _ (Below.refl _ _).drew
                clear hK K
                try simp only [Act.put, List.setIfInBounds_toArray, List.set_cons_zero, List.set_cons_succ]
                refine wpAnyH_take (i := 16) (oi := ?oi1017) (v := ?v1017) ?hi1017 (by kernel_rfl) (by kernel_rfl) (by kernel_rfl) ?hq1017 ?hy1017 (by assumption) ?hr1017
                case hi1017 => (simp only [List.getElem?_toArray, List.getElem?_cons_succ, List.getElem?_cons_zero]; rfl)
                case hq1017 => exact fun _ _ _ h => h
                case hy1017 => first | exact Or.inl ⟨by rfl, by intro whSw hSw'; (try dsimp only at hSw'); (first | (go_simp; done) | (go_simp; with_reducible rfl))⟩ | exact Or.inr ⟨by rfl, by with_reducible rfl⟩ | fail
                try simp only [Act.put, List.setIfInBounds_toArray, List.set_cons_zero, List.set_cons_succ]
                refine wpAnyH_take (i := 17) (oi := ?oi1018) (v := ?v1018) ?hi1018 (by kernel_rfl) (by kernel_rfl) (by kernel_rfl) ?hq1018 ?hy1018 (by assumption) ?hr1018
                case hi1018 => (simp only [List.getElem?_toArray, List.getElem?_cons_succ, List.getElem?_cons_zero]; rfl)
                case hq1018 => exact fun _ _ _ h => h
                case hy1018 => exact Or.inl ⟨by rfl, by intro whSw hSw'; (try dsimp only at hSw'); (first | (go_simp; done) | (go_simp; with_reducible rfl))⟩
                try simp only [Act.put, List.setIfInBounds_toArray, List.set_cons_zero, List.set_cons_succ]
                refine wpAnyH_done (by kernel_rfl) ?_ _
                clear hHeld HSK
                go_wp2_with fail
                obtain ⟨w4, hw4⟩ : ∃ w4, y2 = w4 := ⟨_, rfl⟩
                have HB4 := Lib.hid (show Below X.heap.size X w4 by rw [← hw4]; exact HBA.out.trans (HY2.out.mono HBA.out.size))
                have hown := own_below' (N := M) HR.out.own (show Below wA.heap.size wA w4 by rw [← hw4]; exact HQ.out.1.trans (HY2.out.mono HQ.out.1.size))
                rw [HLL.out] at hown
                rw [hw4]
                have HMB := Lib.hid (show M ≤ w4.heap.size by rw [← HM.out]; exact HB4.out.size)
                have hs1 := sliceI_to (some ⟨g0, 0, none⟩) m cap0 k hkm hc0
                have hs2 := sliceI_from (some ⟨g0, 0, none⟩) m cap0 k hkm
                obtain ⟨vd, hvd⟩ : ∃ vd, sliced (some ⟨g0, 0, none⟩) k m cap0 1 = vd := ⟨_, rfl⟩
                rw [hvd] at hs2
                have hse := (seesC_own hown).1
                rw [show (intsN l).map (fun x => Value.int .i64 x) = iv l by simp [iv]] at hse
                have hsl : (iv l).length = m := by rw [iv_len, HLL.out]
                have JT := Lib.hid (fun W (h : Below w4.heap.size w4 W) => (sees_to hse hsl hkm).below h)
                have JD := Lib.hid (fun W (h : Below w4.heap.size w4 W) => (sees_from' hse hsl hkm).below h)
                rw [hvd] at JD
                have JTL := Lib.hid (show ((iv l).take k).length = k by rw [List.length_take, hsl]; omega)
                have JDL := Lib.hid (show ((iv l).drop k).length = m - k by rw [List.length_drop, hsl])
                have JT1 := Lib.hid (show ∀ u ∈ (iv l).take k, u.oneCell' = true from fun u hu => iv_one l u (List.mem_of_mem_take hu))
                have JD1 := Lib.hid (show ∀ u ∈ (iv l).drop k, u.oneCell' = true from fun u hu => iv_one l u (List.mem_of_mem_drop hu))
                clear hvd hse hsl hw4 hown
                refine wp_region_any (by kernel_rfl) ?_
                change wpAny _ _ _ _ _ _ _ (World.drew _)
                refine wpAny_take (i := 0) (oi := ?oi2001) (v := ?v2001) ?hi2001 (by kernel_rfl) (by kernel_rfl) (by kernel_rfl) ?hq2001 ?hy2001 ?hr2001
                case hi2001 => (simp only [List.getElem?_toArray, List.getElem?_cons_zero]; rfl)
                case hq2001 => exact fun _ _ _ h => h
                case hy2001 => exact Or.inl ⟨by rfl, by intro w; (first | (go_simp; done) | (go_simp; with_reducible rfl))⟩
                try simp only [Act.put, List.setIfInBounds_toArray, List.set_cons_zero, List.set_cons_succ]
                refine wpAny_take (i := 1) (oi := ?oi2002) (v := ?v2002) ?hi2002 (by kernel_rfl) (by kernel_rfl) (by kernel_rfl) ?hq2002 ?hy2002 ?hr2002
                case hi2002 => (simp only [List.getElem?_toArray, List.getElem?_cons_succ, List.getElem?_cons_zero]; rfl)
                case hq2002 => exact fun _ _ _ h => h
                case hy2002 => exact Or.inl ⟨by rfl, by intro w; (first | (go_simp; done) | (go_simp; with_reducible rfl))⟩
                try simp only [Act.put, List.setIfInBounds_toArray, List.set_cons_zero, List.set_cons_succ]
                refine wpAny_take (i := 2) (oi := ?oi2003) (v := ?v2003) ?hi2003 (by kernel_rfl) (by kernel_rfl) (by kernel_rfl) ?hq2003 ?hy2003 ?hr2003
                case hi2003 => (simp only [List.getElem?_toArray, List.getElem?_cons_succ, List.getElem?_cons_zero]; rfl)
                case hq2003 => exact fun _ _ _ h => h
                case hy2003 => exact Or.inl ⟨by rfl, by intro w; (first | (go_simp; done) | (go_simp; with_reducible rfl))⟩
                try simp only [Act.put, List.setIfInBounds_toArray, List.set_cons_zero, List.set_cons_succ]
                refine wpAny_take (i := 4) (oi := ?oi2004) (v := ?v2004) ?hi2004 (by kernel_rfl) (by kernel_rfl) (by kernel_rfl) ?hq2004 ?hy2004 ?hr2004
                case hi2004 => (simp only [List.getElem?_toArray, List.getElem?_cons_succ, List.getElem?_cons_zero]; rfl)
                case hq2004 => exact fun _ _ _ h => h
                case hy2004 => exact Or.inl ⟨by rfl, by intro w; (first | (go_simp; done) | (go_simp; with_reducible rfl))⟩
                try simp only [Act.put, List.setIfInBounds_toArray, List.set_cons_zero, List.set_cons_succ]
                refine wpAny_take (i := 7) (oi := ?oi2005) (v := ?v2005) ?hi2005 (by kernel_rfl) (by kernel_rfl) (by kernel_rfl) ?hq2005 ?hy2005 ?hr2005
                case hi2005 => (simp only [List.getElem?_toArray, List.getElem?_cons_succ, List.getElem?_cons_zero]; rfl)
                case hq2005 => exact fun _ _ _ h => h
                case hy2005 => exact Or.inl ⟨by rfl, by intro w; (first | (go_simp; done) | (go_simp; with_reducible rfl))⟩
                try simp only [Act.put, List.setIfInBounds_toArray, List.set_cons_zero, List.set_cons_succ]
                refine wpAny_take (i := 8) (oi := ?oi2006) (v := ?v2006) ?hi2006 (by kernel_rfl) (by kernel_rfl) (by kernel_rfl) ?hq2006 ?hy2006 ?hr2006
                case hi2006 => (simp only [List.getElem?_toArray, List.getElem?_cons_succ, List.getElem?_cons_zero]; rfl)
                case hq2006 => exact fun _ _ _ h => h
                case hy2006 => exact Or.inl ⟨by rfl, by intro w; (first | (go_simp; done) | (go_simp; with_reducible rfl))⟩
                try simp only [Act.put, List.setIfInBounds_toArray, List.set_cons_zero, List.set_cons_succ]
                refine wpAny_take (i := 9) (oi := ?oi2007) (v := ?v2007) ?hi2007 (by kernel_rfl) (by kernel_rfl) (by kernel_rfl) ?hq2007 ?hy2007 ?hr2007
                case hi2007 => (simp only [List.getElem?_toArray, List.getElem?_cons_succ, List.getElem?_cons_zero]; rfl)
                case hq2007 => exact fun _ _ _ h => h
                case hy2007 => exact Or.inl ⟨by rfl, by intro w; (first | (go_simp; done) | (go_simp; with_reducible rfl))⟩
                try simp only [Act.put, List.setIfInBounds_toArray, List.set_cons_zero, List.set_cons_succ]
                refine wpAny_ready (rs := [3, 5]) (by kernel_rfl) (by simp) ?_
                refine AllReady.cons (o := ?oo2008) ?hi2008 (fun K hK => ?hs2008) ?hm2008
                case hi2008 => (simp only [List.getElem?_toArray, List.getElem?_cons_succ, List.getElem?_cons_zero]; rfl)
                · refine step_append_any rfl (.const (.slice none 0 0)) (.tmp 37) 25 rfl w4.heap.size 3 j0 _ 8 Try.underlying25 hj hy0 hy1 hy2 rfl _ 0 [] rfl (World.ownsRow_nil _ _ _ _) _ w4.heap.size ((iv l).take k) rfl (by first | exact JT.out _ (Below.refl _ _).drew | exact JT.out _ ((Below.refl _ _).drew.alloc (Nat.le_refl _) _)) JT1.out (by rw [JTL.out]; unfold maxLen; omega) (by rw [JTL.out]; omega) (by first | exact Nat.le_refl _ | simp) ?_
                  intro v1 w1 hown1 hg1 _
                  rw [JTL.out] at hown1
                  have HO1 := Lib.hid hown1
                  have HG1 := Lib.hid hg1
                  have HZ1 : Hid (Below w4.heap.size w4 w1) := Lib.hid (by first | exact (Below.refl _ _).drew.grown hg1 (Nat.le_refl _) (fun k e => nomatch (show (none : Option Nat) = some k from e)) | exact ((Below.refl _ _).drew.alloc (Nat.le_refl _) _).grown hg1 (by simp) (fun k e => nomatch (show (none : Option Nat) = some k from e)))
                  clear hown1 hg1
                  refine hK _ _ ?_; clear hK K
                  try simp only [Act.put, List.setIfInBounds_toArray, List.set_cons_zero, List.set_cons_succ]
                  refine wpAny_ready (rs := [5]) (by kernel_rfl) (by simp) ?_
                  refine AllReady.cons (o := ?oo2009) ?hi2009 (fun K hK => ?hs2009) ?hm2009
                  case hi2009 => (simp only [List.getElem?_toArray, List.getElem?_cons_succ, List.getElem?_cons_zero]; rfl)
                  · go_simp
                    refine hK _ _ ?_; clear hK K
                    try simp only [Act.put, List.setIfInBounds_toArray, List.set_cons_zero, List.set_cons_succ]
                    refine wpAny_ready (rs := [6]) (by kernel_rfl) (by simp) ?_
                    refine AllReady.cons (o := ?oo2010) ?hi2010 (fun K hK => ?hs2010) ?hm2010
                    case hi2010 => (simp only [List.getElem?_toArray, List.getElem?_cons_succ, List.getElem?_cons_zero]; rfl)
                    · refine step_append_any rfl (.tmp 38) (.tmp 40) 25 rfl w4.heap.size 3 j0 _ 8 Try.underlying25 hj hy0 hy1 hy2 rfl _ (0 + k) _ rfl (by first | exact HO1.out | exact HO1.out.alloc _) _ _ [.int .i64 (m : Int)] rfl (by first | exact sees_val _ _ _ | exact (sees_val w4 (.int .i64 (m : Int)) 3).below ((Below.refl _ _).drew.grown HG1.out (Nat.le_refl _) (fun k e => nomatch (show (none : Option Nat) = some k from e))) | exact (sees_val w4.drew (.int .i64 (m : Int)) 3).below ((Below.refl _ _).grown HG1.out (Nat.le_refl _) (fun k e => nomatch (show (none : Option Nat) = some k from e)))) (by simp [Value.oneCell']) (by show 0 + k + 1 ≤ _; unfold maxLen; omega) (by show (0 + k + 1) * 8 ≤ _; omega) (by have := HZ1.out.size; first | exact this | (simp; omega)) ?_
                      intro v2 w2 hown2 hg2 _
                      have HO2 := Lib.hid hown2
                      have HZ2 : Hid (Below w4.heap.size w4 w2) := Lib.hid (by first | exact HZ1.out.grown hg2 HZ1.out.size (fun k e => (own_low HO1.out k e).1) | exact (HZ1.out.alloc HZ1.out.size _).grown hg2 (by have := HZ1.out.size; simp; omega) (fun k e => (own_low HO1.out k e).1))
                      clear hown2 hg2
                      refine hK _ _ ?_; clear hK K
                      try simp only [Act.put, List.setIfInBounds_toArray, List.set_cons_zero, List.set_cons_succ]
                      refine wpAny_ready (rs := [10]) (by kernel_rfl) (by simp) ?_
                      refine AllReady.cons (o := ?oo2011) ?hi2011 (fun K hK => ?hs2011) ?hm2011
                      case hi2011 => (simp only [List.getElem?_toArray, List.getElem?_cons_succ, List.getElem?_cons_zero]; rfl)
                      · refine step_append_any rfl (.tmp 41) (.tmp 44) 25 rfl w4.heap.size 3 j0 _ 8 Try.underlying25 hj hy0 hy1 hy2 rfl _ (0 + k + 1) _ rfl HO2.out _ w4.heap.size ((iv l).drop k) rfl (JD.out _ HZ2.out) JD1.out (by rw [JDL.out]; unfold maxLen; omega) (by rw [JDL.out]; omega) HZ2.out.size ?_
                        intro v3 w3 hown3 hg3 _
                        rw [JDL.out] at hown3
                        obtain ⟨MJ, h9⟩ : ∃ y, 0 + k + 1 + (m - k) = y := ⟨_, rfl⟩
                        rw [h9] at hown3
                        obtain ⟨AJ, cJ, e9, -, -⟩ := own_form' hown3
                        subst e9
                        have H9J := Lib.hid h9
                        have HO3 := Lib.hid hown3
                        have HZ3 : Hid (Below w4.heap.size w4 w3) := Lib.hid (HZ2.out.grown hg3 HZ2.out.size (fun k e => (own_low HO2.out k e).1))
                        clear hown3 hg3 h9
                        refine hK _ _ ?_; clear hK K
                        try simp only [Act.put, List.setIfInBounds_toArray, List.set_cons_zero, List.set_cons_succ]
                        refine wpAny_take (i := 11) (oi := ?oi2012) (v := ?v2012) ?hi2012 (by kernel_rfl) (by kernel_rfl) (by kernel_rfl) ?hq2012 ?hy2012 ?hr2012
                        case hi2012 => (simp only [List.getElem?_toArray, List.getElem?_cons_succ, List.getElem?_cons_zero]; rfl)
                        case hq2012 => exact fun _ _ _ h => h
                        case hy2012 => exact Or.inl ⟨by rfl, by intro w; (first | (go_simp; done) | (go_simp; with_reducible rfl))⟩
                        try simp only [Act.put, List.setIfInBounds_toArray, List.set_cons_zero, List.set_cons_succ]
                        refine wpAny_done (by kernel_rfl) ?_ _
                        have HNX := Lib.hid (show OwnN X w3 M (.slice AJ MJ cJ) (ordK key (m + 1)) from ⟨by
                          rw [HINS.out]
                          refine own_eq (own_base HO3.out HMB.out) (by rw [← H9J.out, mid_len HLL.out hkm]; omega) ?_
                          rw [put_ivm l k m]
                          exact (iv_eq _).symm, HB4.out.trans (HZ3.out.mono HB4.out.size)⟩)
                        clear HO1 HO2 HO3 HG1 HZ1 HZ2 HZ3 H9J JT JTL JT1 JD JDL JD1 hs1 hs2
                        go_wp2_with fail
                        go_roundg (n - (m + 1))
                        case measure => have := HJ.out; omega
                        case rel => exact ⟨m + 1, _, by have := HJ.out; omega, Nat.le_refl _, rfl, by go_num, HNX⟩
                      exact AllReady.nil
                    exact AllReady.nil
                  exact AllReady.nil
                refine AllReady.cons (o := ?oo2013) ?hi2013 (fun K hK => ?hs2013) ?hm2013
                case hi2013 => (simp only [List.getElem?_toArray, List.getElem?_cons_succ, List.getElem?_cons_zero]; rfl)
                · go_simp
                  refine hK _ _ ?_; clear hK K
                  try simp only [Act.put, List.setIfInBounds_toArray, List.set_cons_zero, List.set_cons_succ]
                  refine wpAny_ready (rs := [3]) (by kernel_rfl) (by simp) ?_
                  refine AllReady.cons (o := ?oo2014) ?hi2014 (fun K hK => ?hs2014) ?hm2014
                  case hi2014 => (simp only [List.getElem?_toArray, List.getElem?_cons_succ, List.getElem?_cons_zero]; rfl)
                  · refine step_append_any rfl (.const (.slice none 0 0)) (.tmp 37) 25 rfl w4.heap.size 3 j0 _ 8 Try.underlying25 hj hy0 hy1 hy2 rfl _ 0 [] rfl (World.ownsRow_nil _ _ _ _) _ w4.heap.size ((iv l).take k) rfl (by first | exact JT.out _ (Below.refl _ _).drew | exact JT.out _ ((Below.refl _ _).drew.alloc (Nat.le_refl _) _)) JT1.out (by rw [JTL.out]; unfold maxLen; omega) (by rw [JTL.out]; omega) (by first | exact Nat.le_refl _ | simp) ?_
                    intro v1 w1 hown1 hg1 _
                    rw [JTL.out] at hown1
                    have HO1 := Lib.hid hown1
                    have HG1 := Lib.hid hg1
                    have HZ1 : Hid (Below w4.heap.size w4 w1) := Lib.hid (by first | exact (Below.refl _ _).drew.grown hg1 (Nat.le_refl _) (fun k e => nomatch (show (none : Option Nat) = some k from e)) | exact ((Below.refl _ _).drew.alloc (Nat.le_refl _) _).grown hg1 (by simp) (fun k e => nomatch (show (none : Option Nat) = some k from e)))
                    clear hown1 hg1
                    refine hK _ _ ?_; clear hK K
                    try simp only [Act.put, List.setIfInBounds_toArray, List.set_cons_zero, List.set_cons_succ]
                    refine wpAny_ready (rs := [6]) (by kernel_rfl) (by simp) ?_
                    refine AllReady.cons (o := ?oo2015) ?hi2015 (fun K hK => ?hs2015) ?hm2015
                    case hi2015 => (simp only [List.getElem?_toArray, List.getElem?_cons_succ, List.getElem?_cons_zero]; rfl)
                    · refine step_append_any rfl (.tmp 38) (.tmp 40) 25 rfl w4.heap.size 3 j0 _ 8 Try.underlying25 hj hy0 hy1 hy2 rfl _ (0 + k) _ rfl (by first | exact HO1.out | exact HO1.out.alloc _) _ _ [.int .i64 (m : Int)] rfl (by first | exact sees_val _ _ _ | exact (sees_val w4 (.int .i64 (m : Int)) 3).below ((Below.refl _ _).drew.grown HG1.out (Nat.le_refl _) (fun k e => nomatch (show (none : Option Nat) = some k from e))) | exact (sees_val w4.drew (.int .i64 (m : Int)) 3).below ((Below.refl _ _).grown HG1.out (Nat.le_refl _) (fun k e => nomatch (show (none : Option Nat) = some k from e)))) (by simp [Value.oneCell']) (by show 0 + k + 1 ≤ _; unfold maxLen; omega) (by show (0 + k + 1) * 8 ≤ _; omega) (by have := HZ1.out.size; first | exact this | (simp; omega)) ?_
                      intro v2 w2 hown2 hg2 _
                      have HO2 := Lib.hid hown2
                      have HZ2 : Hid (Below w4.heap.size w4 w2) := Lib.hid (by first | exact HZ1.out.grown hg2 HZ1.out.size (fun k e => (own_low HO1.out k e).1) | exact (HZ1.out.alloc HZ1.out.size _).grown hg2 (by have := HZ1.out.size; simp; omega) (fun k e => (own_low HO1.out k e).1))
                      clear hown2 hg2
                      refine hK _ _ ?_; clear hK K
                      try simp only [Act.put, List.setIfInBounds_toArray, List.set_cons_zero, List.set_cons_succ]
                      refine wpAny_ready (rs := [10]) (by kernel_rfl) (by simp) ?_
                      refine AllReady.cons (o := ?oo2016) ?hi2016 (fun K hK => ?hs2016) ?hm2016
                      case hi2016 => (simp only [List.getElem?_toArray, List.getElem?_cons_succ, List.getElem?_cons_zero]; rfl)
                      · refine step_append_any rfl (.tmp 41) (.tmp 44) 25 rfl w4.heap.size 3 j0 _ 8 Try.underlying25 hj hy0 hy1 hy2 rfl _ (0 + k + 1) _ rfl HO2.out _ w4.heap.size ((iv l).drop k) rfl (JD.out _ HZ2.out) JD1.out (by rw [JDL.out]; unfold maxLen; omega) (by rw [JDL.out]; omega) HZ2.out.size ?_
                        intro v3 w3 hown3 hg3 _
                        rw [JDL.out] at hown3
                        obtain ⟨MJ, h9⟩ : ∃ y, 0 + k + 1 + (m - k) = y := ⟨_, rfl⟩
                        rw [h9] at hown3
                        obtain ⟨AJ, cJ, e9, -, -⟩ := own_form' hown3
                        subst e9
                        have H9J := Lib.hid h9
                        have HO3 := Lib.hid hown3
                        have HZ3 : Hid (Below w4.heap.size w4 w3) := Lib.hid (HZ2.out.grown hg3 HZ2.out.size (fun k e => (own_low HO2.out k e).1))
                        clear hown3 hg3 h9
                        refine hK _ _ ?_; clear hK K
                        try simp only [Act.put, List.setIfInBounds_toArray, List.set_cons_zero, List.set_cons_succ]
                        refine wpAny_take (i := 11) (oi := ?oi2017) (v := ?v2017) ?hi2017 (by kernel_rfl) (by kernel_rfl) (by kernel_rfl) ?hq2017 ?hy2017 ?hr2017
                        case hi2017 => (simp only [List.getElem?_toArray, List.getElem?_cons_succ, List.getElem?_cons_zero]; rfl)
                        case hq2017 => exact fun _ _ _ h => h
                        case hy2017 => exact Or.inl ⟨by rfl, by intro w; (first | (go_simp; done) | (go_simp; with_reducible rfl))⟩
                        try simp only [Act.put, List.setIfInBounds_toArray, List.set_cons_zero, List.set_cons_succ]
                        refine wpAny_done (by kernel_rfl) ?_ _
                        have HNX := Lib.hid (show OwnN X w3 M (.slice AJ MJ cJ) (ordK key (m + 1)) from ⟨by
                          rw [HINS.out]
                          refine own_eq (own_base HO3.out HMB.out) (by rw [← H9J.out, mid_len HLL.out hkm]; omega) ?_
                          rw [put_ivm l k m]
                          exact (iv_eq _).symm, HB4.out.trans (HZ3.out.mono HB4.out.size)⟩)
                        clear HO1 HO2 HO3 HG1 HZ1 HZ2 HZ3 H9J JT JTL JT1 JD JDL JD1 hs1 hs2
                        go_wp2_with fail
                        go_roundg (n - (m + 1))
                        case measure => have := HJ.out; omega
                        case rel => exact ⟨m + 1, _, by have := HJ.out; omega, Nat.le_refl _, rfl, by go_num, HNX⟩
                      exact AllReady.nil
                    exact AllReady.nil
                  exact AllReady.nil
                exact AllReady.nil
              exact AllReadyH.nil
            exact AllReadyH.nil
        · have hkI : ¬ (k : Int) < (m : Int) := by omega
          have hkD : decide (k < m) = false := decide_eq_false hk0
          have HINS := Lib.hid (show ordK key (m + 1) = l.take k ++ m :: l.drop k by
            rw [HSUCC.out]
            exact insK_at (by rw [HLL.out]; exact hkm) HQ.out.2 (fun a ha => absurd (List.getElem?_eq_some_iff.1 ha).1 (by rw [HLL.out]; omega)))
          clear d1
          go_wp2_with fail
          go_quiet (fail)
          go_wp2_with fail
          obtain ⟨w4, hw4⟩ : ∃ w4, wr.drewN nq = w4 := ⟨_, rfl⟩
          have HB4 := Lib.hid (show Below X.heap.size X w4 by rw [← hw4]; exact below_drewN HBA.out _)
          have hown := own_below' (N := M) HR.out.own (show Below wA.heap.size wA w4 by rw [← hw4]; exact below_drewN HQ.out.1 _)
          rw [HLL.out] at hown
          rw [hw4]
          have HMB := Lib.hid (show M ≤ w4.heap.size by rw [← HM.out]; exact HB4.out.size)
          have hs1 := sliceI_to A0 m cap0 k hkm hc0
          have hs2 := sliceI_from A0 m cap0 k hkm
          obtain ⟨vd, hvd⟩ : ∃ vd, sliced A0 k m cap0 1 = vd := ⟨_, rfl⟩
          rw [hvd] at hs2
          have hse := (seesC_own hown).1
          rw [show (intsN l).map (fun x => Value.int .i64 x) = iv l by simp [iv]] at hse
          have hsl : (iv l).length = m := by rw [iv_len, HLL.out]
          have JT := Lib.hid (fun W (h : Below w4.heap.size w4 W) => (sees_to hse hsl hkm).below h)
          have JD := Lib.hid (fun W (h : Below w4.heap.size w4 W) => (sees_from' hse hsl hkm).below h)
          rw [hvd] at JD
          have JTL := Lib.hid (show ((iv l).take k).length = k by rw [List.length_take, hsl]; omega)
          have JDL := Lib.hid (show ((iv l).drop k).length = m - k by rw [List.length_drop, hsl])
          have JT1 := Lib.hid (show ∀ u ∈ (iv l).take k, u.oneCell' = true from fun u hu => iv_one l u (List.mem_of_mem_take hu))
          have JD1 := Lib.hid (show ∀ u ∈ (iv l).drop k, u.oneCell' = true from fun u hu => iv_one l u (List.mem_of_mem_drop hu))
          clear hvd hse hsl hw4 hown
          refine wp_region_any (by kernel_rfl) ?_
          change wpAny _ _ _ _ _ _ _ (World.drew _)
          refine wpAny_take (i := 0) (oi := ?oi3001) (v := ?v3001) ?hi3001 (by kernel_rfl) (by kernel_rfl) (by kernel_rfl) ?hq3001 ?hy3001 ?hr3001
          case hi3001 => (simp only [List.getElem?_toArray, List.getElem?_cons_zero]; rfl)
          case hq3001 => exact fun _ _ _ h => h
          case hy3001 => exact Or.inl ⟨by rfl, by intro w; (first | (go_simp; done) | (go_simp; with_reducible rfl))⟩
          try simp only [Act.put, List.setIfInBounds_toArray, List.set_cons_zero, List.set_cons_succ]
          refine wpAny_take (i := 1) (oi := ?oi3002) (v := ?v3002) ?hi3002 (by kernel_rfl) (by kernel_rfl) (by kernel_rfl) ?hq3002 ?hy3002 ?hr3002
          case hi3002 => (simp only [List.getElem?_toArray, List.getElem?_cons_succ, List.getElem?_cons_zero]; rfl)
          case hq3002 => exact fun _ _ _ h => h
          case hy3002 => exact Or.inl ⟨by rfl, by intro w; (first | (go_simp; done) | (go_simp; with_reducible rfl))⟩
          try simp only [Act.put, List.setIfInBounds_toArray, List.set_cons_zero, List.set_cons_succ]
          refine wpAny_take (i := 2) (oi := ?oi3003) (v := ?v3003) ?hi3003 (by kernel_rfl) (by kernel_rfl) (by kernel_rfl) ?hq3003 ?hy3003 ?hr3003
          case hi3003 => (simp only [List.getElem?_toArray, List.getElem?_cons_succ, List.getElem?_cons_zero]; rfl)
          case hq3003 => exact fun _ _ _ h => h
          case hy3003 => exact Or.inl ⟨by rfl, by intro w; (first | (go_simp; done) | (go_simp; with_reducible rfl))⟩
          try simp only [Act.put, List.setIfInBounds_toArray, List.set_cons_zero, List.set_cons_succ]
          refine wpAny_take (i := 4) (oi := ?oi3004) (v := ?v3004) ?hi3004 (by kernel_rfl) (by kernel_rfl) (by kernel_rfl) ?hq3004 ?hy3004 ?hr3004
          case hi3004 => (simp only [List.getElem?_toArray, List.getElem?_cons_succ, List.getElem?_cons_zero]; rfl)
          case hq3004 => exact fun _ _ _ h => h
          case hy3004 => exact Or.inl ⟨by rfl, by intro w; (first | (go_simp; done) | (go_simp; with_reducible rfl))⟩
          try simp only [Act.put, List.setIfInBounds_toArray, List.set_cons_zero, List.set_cons_succ]
          refine wpAny_take (i := 7) (oi := ?oi3005) (v := ?v3005) ?hi3005 (by kernel_rfl) (by kernel_rfl) (by kernel_rfl) ?hq3005 ?hy3005 ?hr3005
          case hi3005 => (simp only [List.getElem?_toArray, List.getElem?_cons_succ, List.getElem?_cons_zero]; rfl)
          case hq3005 => exact fun _ _ _ h => h
          case hy3005 => exact Or.inl ⟨by rfl, by intro w; (first | (go_simp; done) | (go_simp; with_reducible rfl))⟩
          try simp only [Act.put, List.setIfInBounds_toArray, List.set_cons_zero, List.set_cons_succ]
          refine wpAny_take (i := 8) (oi := ?oi3006) (v := ?v3006) ?hi3006 (by kernel_rfl) (by kernel_rfl) (by kernel_rfl) ?hq3006 ?hy3006 ?hr3006
          case hi3006 => (simp only [List.getElem?_toArray, List.getElem?_cons_succ, List.getElem?_cons_zero]; rfl)
          case hq3006 => exact fun _ _ _ h => h
          case hy3006 => exact Or.inl ⟨by rfl, by intro w; (first | (go_simp; done) | (go_simp; with_reducible rfl))⟩
          try simp only [Act.put, List.setIfInBounds_toArray, List.set_cons_zero, List.set_cons_succ]
          refine wpAny_take (i := 9) (oi := ?oi3007) (v := ?v3007) ?hi3007 (by kernel_rfl) (by kernel_rfl) (by kernel_rfl) ?hq3007 ?hy3007 ?hr3007
          case hi3007 => (simp only [List.getElem?_toArray, List.getElem?_cons_succ, List.getElem?_cons_zero]; rfl)
          case hq3007 => exact fun _ _ _ h => h
          case hy3007 => exact Or.inl ⟨by rfl, by intro w; (first | (go_simp; done) | (go_simp; with_reducible rfl))⟩
          try simp only [Act.put, List.setIfInBounds_toArray, List.set_cons_zero, List.set_cons_succ]
          refine wpAny_ready (rs := [3, 5]) (by kernel_rfl) (by simp) ?_
          refine AllReady.cons (o := ?oo3008) ?hi3008 (fun K hK => ?hs3008) ?hm3008
          case hi3008 => (simp only [List.getElem?_toArray, List.getElem?_cons_succ, List.getElem?_cons_zero]; rfl)
          · refine step_append_any rfl (.const (.slice none 0 0)) (.tmp 37) 25 rfl w4.heap.size 3 j0 _ 8 Try.underlying25 hj hy0 hy1 hy2 rfl _ 0 [] rfl (World.ownsRow_nil _ _ _ _) _ w4.heap.size ((iv l).take k) rfl (by first | exact JT.out _ (Below.refl _ _).drew | exact JT.out _ ((Below.refl _ _).drew.alloc (Nat.le_refl _) _)) JT1.out (by rw [JTL.out]; unfold maxLen; omega) (by rw [JTL.out]; omega) (by first | exact Nat.le_refl _ | simp) ?_
            intro v1 w1 hown1 hg1 _
            rw [JTL.out] at hown1
            have HO1 := Lib.hid hown1
            have HG1 := Lib.hid hg1
            have HZ1 : Hid (Below w4.heap.size w4 w1) := Lib.hid (by first | exact (Below.refl _ _).drew.grown hg1 (Nat.le_refl _) (fun k e => nomatch (show (none : Option Nat) = some k from e)) | exact ((Below.refl _ _).drew.alloc (Nat.le_refl _) _).grown hg1 (by simp) (fun k e => nomatch (show (none : Option Nat) = some k from e)))
            clear hown1 hg1
            refine hK _ _ ?_; clear hK K
            try simp only [Act.put, List.setIfInBounds_toArray, List.set_cons_zero, List.set_cons_succ]
            refine wpAny_ready (rs := [5]) (by kernel_rfl) (by simp) ?_
            refine AllReady.cons (o := ?oo3009) ?hi3009 (fun K hK => ?hs3009) ?hm3009
            case hi3009 => (simp only [List.getElem?_toArray, List.getElem?_cons_succ, List.getElem?_cons_zero]; rfl)
            · go_simp
              refine hK _ _ ?_; clear hK K
              try simp only [Act.put, List.setIfInBounds_toArray, List.set_cons_zero, List.set_cons_succ]
              refine wpAny_ready (rs := [6]) (by kernel_rfl) (by simp) ?_
              refine AllReady.cons (o := ?oo3010) ?hi3010 (fun K hK => ?hs3010) ?hm3010
              case hi3010 => (simp only [List.getElem?_toArray, List.getElem?_cons_succ, List.getElem?_cons_zero]; rfl)
              · refine step_append_any rfl (.tmp 38) (.tmp 40) 25 rfl w4.heap.size 3 j0 _ 8 Try.underlying25 hj hy0 hy1 hy2 rfl _ (0 + k) _ rfl (by first | exact HO1.out | exact HO1.out.alloc _) _ _ [.int .i64 (m : Int)] rfl (by first | exact sees_val _ _ _ | exact (sees_val w4 (.int .i64 (m : Int)) 3).below ((Below.refl _ _).drew.grown HG1.out (Nat.le_refl _) (fun k e => nomatch (show (none : Option Nat) = some k from e))) | exact (sees_val w4.drew (.int .i64 (m : Int)) 3).below ((Below.refl _ _).grown HG1.out (Nat.le_refl _) (fun k e => nomatch (show (none : Option Nat) = some k from e)))) (by simp [Value.oneCell']) (by show 0 + k + 1 ≤ _; unfold maxLen; omega) (by show (0 + k + 1) * 8 ≤ _; omega) (by have := HZ1.out.size; first | exact this | (simp; omega)) ?_
                intro v2 w2 hown2 hg2 _
                have HO2 := Lib.hid hown2
                have HZ2 : Hid (Below w4.heap.size w4 w2) := Lib.hid (by first | exact HZ1.out.grown hg2 HZ1.out.size (fun k e => (own_low HO1.out k e).1) | exact (HZ1.out.alloc HZ1.out.size _).grown hg2 (by have := HZ1.out.size; simp; omega) (fun k e => (own_low HO1.out k e).1))
                clear hown2 hg2
                refine hK _ _ ?_; clear hK K
                try simp only [Act.put, List.setIfInBounds_toArray, List.set_cons_zero, List.set_cons_succ]
                refine wpAny_ready (rs := [10]) (by kernel_rfl) (by simp) ?_
                refine AllReady.cons (o := ?oo3011) ?hi3011 (fun K hK => ?hs3011) ?hm3011
                case hi3011 => (simp only [List.getElem?_toArray, List.getElem?_cons_succ, List.getElem?_cons_zero]; rfl)
                · refine step_append_any rfl (.tmp 41) (.tmp 44) 25 rfl w4.heap.size 3 j0 _ 8 Try.underlying25 hj hy0 hy1 hy2 rfl _ (0 + k + 1) _ rfl HO2.out _ w4.heap.size ((iv l).drop k) rfl (JD.out _ HZ2.out) JD1.out (by rw [JDL.out]; unfold maxLen; omega) (by rw [JDL.out]; omega) HZ2.out.size ?_
                  intro v3 w3 hown3 hg3 _
                  rw [JDL.out] at hown3
                  obtain ⟨MJ, h9⟩ : ∃ y, 0 + k + 1 + (m - k) = y := ⟨_, rfl⟩
                  rw [h9] at hown3
                  obtain ⟨AJ, cJ, e9, -, -⟩ := own_form' hown3
                  subst e9
                  have H9J := Lib.hid h9
                  have HO3 := Lib.hid hown3
                  have HZ3 : Hid (Below w4.heap.size w4 w3) := Lib.hid (HZ2.out.grown hg3 HZ2.out.size (fun k e => (own_low HO2.out k e).1))
                  clear hown3 hg3 h9
                  refine hK _ _ ?_; clear hK K
                  try simp only [Act.put, List.setIfInBounds_toArray, List.set_cons_zero, List.set_cons_succ]
                  refine wpAny_take (i := 11) (oi := ?oi3012) (v := ?v3012) ?hi3012 (by kernel_rfl) (by kernel_rfl) (by kernel_rfl) ?hq3012 ?hy3012 ?hr3012
                  case hi3012 => (simp only [List.getElem?_toArray, List.getElem?_cons_succ, List.getElem?_cons_zero]; rfl)
                  case hq3012 => exact fun _ _ _ h => h
                  case hy3012 => exact Or.inl ⟨by rfl, by intro w; (first | (go_simp; done) | (go_simp; with_reducible rfl))⟩
                  try simp only [Act.put, List.setIfInBounds_toArray, List.set_cons_zero, List.set_cons_succ]
                  refine wpAny_done (by kernel_rfl) ?_ _
                  have HNX := Lib.hid (show OwnN X w3 M (.slice AJ MJ cJ) (ordK key (m + 1)) from ⟨by
                    rw [HINS.out]
                    refine own_eq (own_base HO3.out HMB.out) (by rw [← H9J.out, mid_len HLL.out hkm]; omega) ?_
                    rw [put_ivm l k m]
                    exact (iv_eq _).symm, HB4.out.trans (HZ3.out.mono HB4.out.size)⟩)
                  clear HO1 HO2 HO3 HG1 HZ1 HZ2 HZ3 H9J JT JTL JT1 JD JDL JD1 hs1 hs2
                  go_wp2_with fail
                  go_roundg (n - (m + 1))
                  case measure => have := HJ.out; omega
                  case rel => exact ⟨m + 1, _, by have := HJ.out; omega, Nat.le_refl _, rfl, by go_num, HNX⟩
                exact AllReady.nil
              exact AllReady.nil
            exact AllReady.nil
          refine AllReady.cons (o := ?oo3013) ?hi3013 (fun K hK => ?hs3013) ?hm3013
          case hi3013 => (simp only [List.getElem?_toArray, List.getElem?_cons_succ, List.getElem?_cons_zero]; rfl)
          · go_simp
            refine hK _ _ ?_; clear hK K
            try simp only [Act.put, List.setIfInBounds_toArray, List.set_cons_zero, List.set_cons_succ]
            refine wpAny_ready (rs := [3]) (by kernel_rfl) (by simp) ?_
            refine AllReady.cons (o := ?oo3014) ?hi3014 (fun K hK => ?hs3014) ?hm3014
            case hi3014 => (simp only [List.getElem?_toArray, List.getElem?_cons_succ, List.getElem?_cons_zero]; rfl)
            · refine step_append_any rfl (.const (.slice none 0 0)) (.tmp 37) 25 rfl w4.heap.size 3 j0 _ 8 Try.underlying25 hj hy0 hy1 hy2 rfl _ 0 [] rfl (World.ownsRow_nil _ _ _ _) _ w4.heap.size ((iv l).take k) rfl (by first | exact JT.out _ (Below.refl _ _).drew | exact JT.out _ ((Below.refl _ _).drew.alloc (Nat.le_refl _) _)) JT1.out (by rw [JTL.out]; unfold maxLen; omega) (by rw [JTL.out]; omega) (by first | exact Nat.le_refl _ | simp) ?_
              intro v1 w1 hown1 hg1 _
              rw [JTL.out] at hown1
              have HO1 := Lib.hid hown1
              have HG1 := Lib.hid hg1
              have HZ1 : Hid (Below w4.heap.size w4 w1) := Lib.hid (by first | exact (Below.refl _ _).drew.grown hg1 (Nat.le_refl _) (fun k e => nomatch (show (none : Option Nat) = some k from e)) | exact ((Below.refl _ _).drew.alloc (Nat.le_refl _) _).grown hg1 (by simp) (fun k e => nomatch (show (none : Option Nat) = some k from e)))
              clear hown1 hg1
              refine hK _ _ ?_; clear hK K
              try simp only [Act.put, List.setIfInBounds_toArray, List.set_cons_zero, List.set_cons_succ]
              refine wpAny_ready (rs := [6]) (by kernel_rfl) (by simp) ?_
              refine AllReady.cons (o := ?oo3015) ?hi3015 (fun K hK => ?hs3015) ?hm3015
              case hi3015 => (simp only [List.getElem?_toArray, List.getElem?_cons_succ, List.getElem?_cons_zero]; rfl)
              · refine step_append_any rfl (.tmp 38) (.tmp 40) 25 rfl w4.heap.size 3 j0 _ 8 Try.underlying25 hj hy0 hy1 hy2 rfl _ (0 + k) _ rfl (by first | exact HO1.out | exact HO1.out.alloc _) _ _ [.int .i64 (m : Int)] rfl (by first | exact sees_val _ _ _ | exact (sees_val w4 (.int .i64 (m : Int)) 3).below ((Below.refl _ _).drew.grown HG1.out (Nat.le_refl _) (fun k e => nomatch (show (none : Option Nat) = some k from e))) | exact (sees_val w4.drew (.int .i64 (m : Int)) 3).below ((Below.refl _ _).grown HG1.out (Nat.le_refl _) (fun k e => nomatch (show (none : Option Nat) = some k from e)))) (by simp [Value.oneCell']) (by show 0 + k + 1 ≤ _; unfold maxLen; omega) (by show (0 + k + 1) * 8 ≤ _; omega) (by have := HZ1.out.size; first | exact this | (simp; omega)) ?_
                intro v2 w2 hown2 hg2 _
                have HO2 := Lib.hid hown2
                have HZ2 : Hid (Below w4.heap.size w4 w2) := Lib.hid (by first | exact HZ1.out.grown hg2 HZ1.out.size (fun k e => (own_low HO1.out k e).1) | exact (HZ1.out.alloc HZ1.out.size _).grown hg2 (by have := HZ1.out.size; simp; omega) (fun k e => (own_low HO1.out k e).1))
                clear hown2 hg2
                refine hK _ _ ?_; clear hK K
                try simp only [Act.put, List.setIfInBounds_toArray, List.set_cons_zero, List.set_cons_succ]
                refine wpAny_ready (rs := [10]) (by kernel_rfl) (by simp) ?_
                refine AllReady.cons (o := ?oo3016) ?hi3016 (fun K hK => ?hs3016) ?hm3016
                case hi3016 => (simp only [List.getElem?_toArray, List.getElem?_cons_succ, List.getElem?_cons_zero]; rfl)
                · refine step_append_any rfl (.tmp 41) (.tmp 44) 25 rfl w4.heap.size 3 j0 _ 8 Try.underlying25 hj hy0 hy1 hy2 rfl _ (0 + k + 1) _ rfl HO2.out _ w4.heap.size ((iv l).drop k) rfl (JD.out _ HZ2.out) JD1.out (by rw [JDL.out]; unfold maxLen; omega) (by rw [JDL.out]; omega) HZ2.out.size ?_
                  intro v3 w3 hown3 hg3 _
                  rw [JDL.out] at hown3
                  obtain ⟨MJ, h9⟩ : ∃ y, 0 + k + 1 + (m - k) = y := ⟨_, rfl⟩
                  rw [h9] at hown3
                  obtain ⟨AJ, cJ, e9, -, -⟩ := own_form' hown3
                  subst e9
                  have H9J := Lib.hid h9
                  have HO3 := Lib.hid hown3
                  have HZ3 : Hid (Below w4.heap.size w4 w3) := Lib.hid (HZ2.out.grown hg3 HZ2.out.size (fun k e => (own_low HO2.out k e).1))
                  clear hown3 hg3 h9
                  refine hK _ _ ?_; clear hK K
                  try simp only [Act.put, List.setIfInBounds_toArray, List.set_cons_zero, List.set_cons_succ]
                  refine wpAny_take (i := 11) (oi := ?oi3017) (v := ?v3017) ?hi3017 (by kernel_rfl) (by kernel_rfl) (by kernel_rfl) ?hq3017 ?hy3017 ?hr3017
                  case hi3017 => (simp only [List.getElem?_toArray, List.getElem?_cons_succ, List.getElem?_cons_zero]; rfl)
                  case hq3017 => exact fun _ _ _ h => h
                  case hy3017 => exact Or.inl ⟨by rfl, by intro w; (first | (go_simp; done) | (go_simp; with_reducible rfl))⟩
                  try simp only [Act.put, List.setIfInBounds_toArray, List.set_cons_zero, List.set_cons_succ]
                  refine wpAny_done (by kernel_rfl) ?_ _
                  have HNX := Lib.hid (show OwnN X w3 M (.slice AJ MJ cJ) (ordK key (m + 1)) from ⟨by
                    rw [HINS.out]
                    refine own_eq (own_base HO3.out HMB.out) (by rw [← H9J.out, mid_len HLL.out hkm]; omega) ?_
                    rw [put_ivm l k m]
                    exact (iv_eq _).symm, HB4.out.trans (HZ3.out.mono HB4.out.size)⟩)
                  clear HO1 HO2 HO3 HG1 HZ1 HZ2 HZ3 H9J JT JTL JT1 JD JDL JD1 hs1 hs2
                  go_wp2_with fail
                  go_roundg (n - (m + 1))
                  case measure => have := HJ.out; omega
                  case rel => exact ⟨m + 1, _, by have := HJ.out; omega, Nat.le_refl _, rfl, by go_num, HNX⟩
                exact AllReady.nil
              exact AllReady.nil
            exact AllReady.nil
          exact AllReady.nil
    · obtain rfl : m = n := by omega
      have hmI : ¬ (m : Int) < (m : Int) := by omega
      have HE := Lib.hid (show NumV w (ordK key m) (.returned v) wr from ⟨v, rfl, HR.out.rows, HB0.out.trans (HR.out.below.mono HB0.out.size)⟩)
      clear HR
      go_wp2_with fail
      go_ret
      exact HE.out
end Go.Proofs.Ytfcekoedhbmaeaa
