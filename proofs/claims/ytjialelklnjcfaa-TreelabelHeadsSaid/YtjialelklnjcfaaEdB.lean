/-
  WALKS over the reference of treelabel, second part: Assign.
-/
import Derived.Test.YtjialelklnjcfaaEdA
import Derived.Test.YtjialelklnjcfaaEbD
namespace Go.Proofs.Ytjialelklnjcfaa
open Go Go.RowKit Go.Shelf Go.Lib
set_option linter.unusedVariables false
set_option linter.unusedSimpArgs false

theorem assign_err {h : List Int} {a b : Int} (e : checkH h = (a, b)) (hb : b ≠ 0) : assignH h = ([], a, b) := by
  unfold assignH
  rw [e]
  simp only
  rw [if_neg hb]
theorem assign_okk {h : List Int} (e : checkH h = (0, 0)) : assignH h = (labH h, 0, 0) ∧ Okh h := by
  have hz : (checkH h).2 = 0 := by rw [e]
  refine ⟨?_, okh_check.1 hz⟩
  unfold assignH
  rw [if_pos hz]
theorem Try.infoLabel10 : (Try.prog.info? 43).map (fun i => (i.zero, i.size, i.bytes)) = some (some (.agg #[.int .i64 0, .int .i64 0, .int .i64 0]), 3, 24) := by kernel_rfl
section
attribute [local go_sem] Oper.semAt_some
set_option maxRecDepth 100000 in
set_option maxHeartbeats 8000000 in
theorem refAssign_any {w : World} {v : Value} {h : List Int} (hv : Rows 1 EInt w v h) (hl : h.length ≤ maxLen) :
    Calls Try.prog 12 #[v] w fun e w' => (∃ lv, e = .returned (.tuple #[lv, .int .i64 (assignH h).2.1, .int .i64 (assignH h).2.2]) ∧ Rows 3 ELb w' lv (assignH h).1) ∧ Below w.heap.size w w' := by
  by_cases h4 : 4096 < h.length
  · rw [assign_err (checkH_big h4) (by decide)]
    obtain ⟨A, cap, rfl, hc⟩ := hv.form
    obtain ⟨n, hn⟩ : ∃ n, h.length = n := ⟨_, rfl⟩
    rw [hn] at h4 hl hc ⊢
    unfold maxLen at hl
    have e4 : (n : Int) > 4096 := by omega
    clear hv hn
    go_enter Try.func12, Try.ntmps12
    go_wp2_with fail
    go_ret3
    exact ⟨⟨_, rfl, Rows.nil _⟩, Below.refl _ _⟩
  · have hl4 : h.length ≤ 4096 := by omega
    have hout := fun (k : Nat) (x : Int) => checkH_out hl4 (k := k) (x := x)
    have hin := checkH_in hl4
    have hcy := fun (hi : ∀ x ∈ h, x = -1 ∨ (0 ≤ x ∧ x < h.length)) (k : Nat) (hk : k < h.length) (W : World) (hb : Below w.heap.size w W) => refCyclic10_any (hv.below stays_int hb) hl k hk hi
    obtain ⟨A, cap, rfl, hc⟩ := hv.form
    obtain ⟨n, hn⟩ : ∃ n, h.length = n := ⟨_, rfl⟩
    obtain ⟨⟨r1, r2⟩, hr⟩ : ∃ r, checkH h = r := ⟨_, rfl⟩
    obtain ⟨a1, a2, a3, ha⟩ : ∃ a b c, assignH h = (a, b, c) := ⟨_, _, _, rfl⟩
    rw [ha]
    have HAS := Lib.hid ha
    have HR := Lib.hid hr
    simp only [hr] at hout hin
    have HV := Lib.hid (fun W (hb : Below w.heap.size w W) => hv.below stays_int hb)
    rw [hn] at hc hl h4 hl4 hout hin HV hcy ⊢
    have HOUT := Lib.hid hout
    have HIN := Lib.hid hin
    have HCY := Lib.hid hcy
    have HN := Lib.hid hn
    have e4 : ¬ ((n : Int) > 4096) := by omega
    clear hv hn hr hout hin hcy h4 hl ha
    go_enter Try.func12, Try.ntmps12
    go_wp2_with fail
    go_loopw [14] (fun m wr => ∃ k : Nat, k ≤ n ∧ m = .int .i64 k ∧ Hid (∀ (j : Nat) (y : Int), j < k → h[j]? = some y → outH n y = false) ∧ Below w.heap.size w wr) (fun m _ => n - (Go.RowKit.intOf m).toNat)
    case atStart => exact ⟨0, Nat.zero_le _, rfl, Lib.hid (fun j _ h => absurd h (by omega)), Below.refl _ _⟩
    case round =>
      obtain ⟨k, hk, rfl, hno, hb⟩ := hrel
      by_cases hlt : k < n
      · obtain ⟨x, hx⟩ : ∃ x, h[k]? = some x := ⟨_, List.getElem?_eq_getElem (by rw [HN.out]; exact hlt)⟩
        obtain ⟨b1, o1, rfl, -, hj1⟩ := at_int (HV.out wr hb) (by rw [HN.out]; omega)
        have u0 := hj1 k x hx
        have HB := Lib.hid hb
        have hox : outH n x = (decide (x < -1) || decide (x ≥ (n : Int))) := by
          unfold outH
          rw [Bool.eq_iff_iff]
          simp only [Bool.not_eq_true', Bool.or_eq_false_iff, Bool.and_eq_false_iff, decide_eq_false_iff_not, Bool.or_eq_true, decide_eq_true_iff]
          omega
        by_cases ho : outH n x = true
        · have hee := HOUT.out k x hx ho hno.out
          obtain ⟨rfl, rfl⟩ : r1 = (k : Int) ∧ r2 = 8 := by
            injection hee with h1 h2
            exact ⟨h1, h2⟩
          obtain ⟨rfl, rfl, rfl⟩ : a1 = [] ∧ a2 = (k : Int) ∧ a3 = 8 := by
            have h := assign_err HR.out (by decide)
            rw [HAS.out] at h
            injection h with h1 h2
            injection h2 with h2 h3
            exact ⟨h1, h2, h3⟩
          rw [ho] at hox
          by_cases x1 : x < -1
          · clear hj1 hx hb ho hox hee hno
            go_wp2_with fail
            go_ret3
            exact ⟨⟨_, rfl, Rows.nil _⟩, HB.out⟩
          · have x2 : x ≥ (n : Int) := by simpa [x1] using hox
            clear hj1 hx hb ho hox hee hno
            go_wp2_with fail
            go_ret3
            exact ⟨⟨_, rfl, Rows.nil _⟩, HB.out⟩
        · have ho2 : outH n x = false := by simpa using ho
          rw [ho2] at hox
          have x1 : ¬ x < -1 := by
            intro h
            simp [h] at hox
          have x2 : ¬ x ≥ (n : Int) := by
            intro h
            simp [h] at hox
          have hno' : Hid (∀ (j : Nat) (y : Int), j < k + 1 → h[j]? = some y → outH n y = false) := Lib.hid fun j y hj hy => by
            by_cases e : j = k
            · subst e
              rw [hx] at hy
              cases hy
              exact ho2
            · exact hno.out j y (by omega) hy
          clear hj1 hx hb ho ho2 hox hno
          go_wp2_with fail
          exact ⟨⟨k + 1, by omega, by go_num, hno', HB.out⟩, by simp only [Go.RowKit.intOf]; omega⟩
      · obtain rfl : k = n := by omega
        obtain ⟨hi, hc1, hc0⟩ := HIN.out hno.out
        have HB := Lib.hid hb
        have HC1 := Lib.hid hc1
        have HC0 := Lib.hid hc0
        have HI := Lib.hid (HCY.out hi)
        have HVV := HV
        clear hb hno hi hc1 hc0 HIN HCY HOUT HV
        go_wp2_with fail
        go_loopw [31] (fun m wr2 => ∃ j : Nat, j ≤ k ∧ m = .int .i64 j ∧ Hid (∀ i, i < j → cyc h i = false) ∧ Below w.heap.size w wr2) (fun m _ => k - (Go.RowKit.intOf m).toNat)
        case atStart => exact ⟨0, Nat.zero_le _, rfl, Lib.hid (fun i h => absurd h (by omega)), HB.out⟩
        case round =>
          obtain ⟨j, hj, rfl, hno, hb⟩ := hrel
          by_cases hlt2 : j < k
          · have HCJ := Lib.hid (HI.out j hlt2 _ hb)
            have HB2 := Lib.hid hb
            obtain ⟨q, hq⟩ : ∃ q, cyc h j = q := ⟨_, rfl⟩
            rw [hq] at HCJ
            have HQ := Lib.hid hq
            clear hq hb
            go_wp2_with fail
            refine HCJ.out.mono ?_
            rintro e w1 ⟨rfl, hb1⟩
            have HB3 := Lib.hid (HB2.out.trans (hb1.mono HB2.out.size))
            clear hb1
            cases q with
            | true =>
              obtain ⟨rfl, rfl⟩ : r1 = (j : Int) ∧ r2 = 12 := by
                have := HC1.out j hlt2 HQ.out hno.out
                injection this with h1 h2
                exact ⟨h1, h2⟩
              obtain ⟨rfl, rfl, rfl⟩ : a1 = [] ∧ a2 = (j : Int) ∧ a3 = 12 := by
                have h := assign_err HR.out (by decide)
                rw [HAS.out] at h
                injection h with h1 h2
                injection h2 with h2 h3
                exact ⟨h1, h2, h3⟩
              go_wp2_with fail
              go_ret3
              exact ⟨⟨_, rfl, Rows.nil _⟩, HB3.out⟩
            | false =>
              have hno' : Hid (∀ i, i < j + 1 → cyc h i = false) := Lib.hid fun i hi => by
                by_cases e : i = j
                · subst e; exact HQ.out
                · exact hno.out i (by omega)
              go_wp2_with fail
              exact ⟨⟨j + 1, by omega, by go_num, hno', HB3.out⟩, by simp only [Go.RowKit.intOf]; omega⟩
          · obtain rfl : j = k := by omega
            obtain ⟨rfl, rfl⟩ : r1 = 0 ∧ r2 = 0 := by
              have := HC0.out hno.out
              injection this with h1 h2
              exact ⟨h1, h2⟩
            have hokk := assign_okk HR.out
            rw [HAS.out] at hokk
            obtain ⟨hae, hO⟩ := hokk
            obtain ⟨rfl, rfl, rfl⟩ : a1 = labH h ∧ a2 = 0 ∧ a3 = 0 := by
              injection hae with h1 h2
              injection h2 with h2 h3
              exact ⟨h1, h2, h3⟩
            have hbd := wk_bound hO
            have hlab : labH h = (wk h (j + 1) (-1) 0 (lab0 j, 0, 0)).1 := by rw [← HN.out]; rfl
            rw [HN.out] at hbd
            have hll := labH_len hO
            rw [HN.out] at hll
            obtain ⟨N2, hN2⟩ : ∃ N, wr.heap.size = N := ⟨_, rfl⟩
            obtain ⟨Y0, hY0⟩ : ∃ X, wr.alloc (.cells (labRow (lab0 j)) 43) = X := ⟨_, rfl⟩
            have hy0s : Y0.heap.size = N2 + 1 := by rw [← hY0, alloc_sz, hN2]
            have hbY0 : Below N2 wr Y0 := by rw [← hY0, ← hN2]; exact below_box _ _
            have hl0 : Y0.heap[N2]? = some (.cells (labRow (lab0 j)) 43 (0, 0)) := by rw [← hY0, ← hN2]; exact block_new _ _
            obtain ⟨Y1, hY1⟩ : ∃ X, Y0.alloc (.cells #[.slice A j cap, .slice (some ⟨N2, 0, none⟩) j j, .int .i64 0, .int .i64 0] 63) = X := ⟨_, rfl⟩
            have hbY1 : Below N2 wr Y1 := by rw [← hY1]; exact hbY0.alloc (by omega) _
            have hbx1 : Y1.heap[N2 + 1]? = some (.cells #[.slice A j cap, .slice (some ⟨N2, 0, none⟩) j j, .int .i64 0, .int .i64 0] 63 (0, 0)) := by rw [← hY1, ← hy0s]; exact block_new _ _
            have hl1 : Y1.heap[N2]? = some (.cells (labRow (lab0 j)) 43 (0, 0)) := by rw [← hY1]; exact block_alloc _ hl0
            have hst : RSt N2 wr Y1 (N2 + 1) N2 j (.slice A j cap) (lab0 j, 0, 0) := ⟨hbY1, hbx1, hl1⟩
            have hvv : ∀ W, Below N2 wr W → Rows 1 EInt W (.slice A j cap) h := fun W hbW => HVV.out W (hb.trans (hbW.mono (by rw [← hN2]; exact hb.size)))
            have HWK := Lib.hid (refWalk_any hO HN.out (B := N2) (p := N2 + 1) (bl := N2) ⟨by omega, by omega, by omega⟩ (w := wr) hvv (j + 1) (-1) 0 (by omega) (.inl ⟨rfl, rfl⟩) (lab0 j, 0, 0) Y1 (by simp [lab0]) hbd.1 hbd.2 hst)
            obtain ⟨i1, hi1, hy0, hy1, hy2⟩ := info_parts' Try.infoLabel10
            have hmk : (Instr.makeSlice 27 (.int .i64 j) (.int .i64 j)).run Try.prog wr = .ok (.slice (some ⟨wr.heap.size, 0, none⟩) j j) (wr.alloc (.cells (labRow (lab0 j)) 43)) := by
              have := run_make (P := Try.prog) wr 27 43 i1 _ Try.underlying27 hi1 hy0 .i64 .i64 j j (by omega) (by omega) (by rw [hy2]; omega) (by omega)
              rw [Int.toNat_natCast, hy1] at this
              rw [← made_lab]
              exact this
            have HB2 := Lib.hid (show Below w.heap.size w wr from hb)
            have HLL := Lib.hid (And.intro hlab hll)
            have HY0 := Lib.hid hY0
            have HY1 := Lib.hid hY1
            have HY0S := Lib.hid hy0s
            have HN2 := Lib.hid hN2
            clear hb hno hae hO hbd hlab hll hbY0 hl0 hbY1 hbx1 hl1 hst hvv hY0 hY1 hy0s hN2 hi1 hy0 hy1 hy2 HI HC1 HC0
            go_wp2_with fail
            rw [HY0.out, HN2.out]
            (try rw [HY0S.out])
            rw [HY1.out]
            go_wp2_with fail
            refine HWK.out.mono ?_
            rintro e w3 ⟨rfl, hw3⟩
            have m1 := cell_of (i := 1) hw3.box rfl
            have HW3 := Lib.hid hw3
            clear hw3 hmk
            go_wp2_with fail
            go_ret3
            refine ⟨⟨_, rfl, ?_⟩, HB2.out.trans (HW3.out.below.mono (by rw [← HN2.out]; exact HB2.out.size))⟩
            rw [HLL.out.1]
            exact rows_lab (by rw [← HLL.out.1]; exact HLL.out.2) (Nat.le_refl _) HW3.out.l
end
end Go.Proofs.Ytjialelklnjcfaa
