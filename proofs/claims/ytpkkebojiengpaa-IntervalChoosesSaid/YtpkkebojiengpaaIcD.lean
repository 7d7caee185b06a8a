/-
  IntervalChooses is proved: for every list of spans and every list of spans the call of the law returns true, and each argument reads afterwards as it read before. It has no condition.
-/
import Derived.Test.YtpkkebojiengpaaRows
import Derived.Test.YtpkkebojiengpaaIoO
import Derived.Test.YtpkkebojiengpaaIbT
import Derived.Test.YtpkkebojiengpaaIbS
import Derived.ProofKit
import Derived.OpenShut
import Derived.Carry
namespace Go.Proofs.Ytpkkebojiengpaa.intervalChooses
open Go.ChangeShapes Go.WideShapes Go.ChangeAt Go.RowKit Go.Shelf Go.Lib
set_option linter.unusedVariables false

theorem same_nor {W : World} {v1 v2 : Value} {L : List Sp} (h1 : Rows 2 ESp W v1 L) (h2 : Rows 2 ESp W v2 L) (hl : L.length ≤ 1000000) : Calls Try.prog 16 #[v1, v2] W fun e w' => e = .returned (.bool true) ∧ Below W.heap.size W w' := by
  have h := same_any h1 h2 hl
  unfold BoolV at h
  rw [decide_eq_true rfl] at h
  exact h
theorem choL_le {a b L : List Sp} (h : ∀ x ∈ L, x ∈ normS a) (hs : SortS L) : (choL a b L).length ≤ a.length := by
  unfold choL
  split
  · exact Nat.le_trans (sort_len hs h) (normS_len a)
  · simp
set_option maxRecDepth 100000 in
set_option maxHeartbeats 8000000 in
theorem walk {w : World} (v : Value) (a : List Sp) (hv : Rows 2 ESp w v a) (_ : a.length ≤ maxLen) (hrg : ∀ x ∈ a, okSp x) (u : Value) (b : List Sp) (hu : Rows 2 ESp w u b) (_ : b.length ≤ maxLen) (_ : ∀ x ∈ b, okSp x) :
    Calls Try.prog 7 #[v, u] w fun e w1 => e = .returned (.bool true) ∧ Below w.heap.size w w1 := by
  have HLG := Lib.hid (long2_any hv hu)
  have HA := Lib.hid (fun (W : World) => awake_any W)
  have hr2 : ∀ s ∈ a, s.2 ≤ 9223372036854775807 := fun s hs => (hrg s hs).2.2
  have H1 := Lib.hid (fun W (h : Below w.heap.size w W) => within_any (hv.below stays_sp h) (hu.below stays_sp h))
  have H2 := Lib.hid (fun W (h : Below w.heap.size w W) => refChoose1_any (hv.below stays_sp h) (hu.below stays_sp h))
  have H3 := Lib.hid (fun W (h : Below w.heap.size w W) => containing_any (hv.below stays_sp h) (hu.below stays_sp h))
  have H4 := Lib.hid (fun W (h : Below w.heap.size w W) => refChoose2_any (hv.below stays_sp h) (hu.below stays_sp h))
  have H5 := Lib.hid (fun W (h : Below w.heap.size w W) => overlapping_any (hv.below stays_sp h) (hu.below stays_sp h) hr2)
  have H6 := Lib.hid (fun W (h : Below w.heap.size w W) => refChoose3_any (hv.below stays_sp h) (hu.below stays_sp h))
  have k1 : (choL a b (withinL a b)).length ≤ a.length := choL_le (fun x hx => (List.mem_filter.1 hx).1) ((normS_sort a).filter _)
  have k2 : (choL a b (containL a b)).length ≤ a.length := choL_le (fun x hx => (List.mem_filter.1 hx).1) ((normS_sort a).filter _)
  have k3 : (choL a b (overL a b)).length ≤ a.length := choL_le (fun x hx => (List.mem_filter.1 hx).1) ((normS_sort a).filter _)
  obtain ⟨A1, cap1, rfl, hc1⟩ := hv.form
  obtain ⟨A2, cap2, rfl, hc2⟩ := hu.form
  obtain ⟨n1, hn1⟩ : ∃ n, a.length = n := ⟨_, rfl⟩
  obtain ⟨n2, hn2⟩ : ∃ n, b.length = n := ⟨_, rfl⟩
  obtain ⟨N, hN⟩ : ∃ N, w.heap.size = N := ⟨_, rfl⟩
  obtain ⟨q, hq⟩ : ∃ q, (decide (60 < n1) || decide (60 < n2)) = q := ⟨_, rfl⟩
  obtain ⟨L1, hL1⟩ : ∃ L, choL a b (withinL a b) = L := ⟨_, rfl⟩
  obtain ⟨L2, hL2⟩ : ∃ L, choL a b (containL a b) = L := ⟨_, rfl⟩
  obtain ⟨L3, hL3⟩ : ∃ L, choL a b (overL a b) = L := ⟨_, rfl⟩
  obtain ⟨c, hcc⟩ : ∃ c, chkSS [a, b] = c := ⟨_, rfl⟩
  unfold NorV at H1 H2 H3 H4 H5 H6
  unfold BoolV at HA
  rw [hn1, hn2, hN, hq] at HLG
  rw [hL1, hcc, hn1, hn2, hN] at H1 H2
  rw [hL2, hcc, hn1, hn2, hN] at H3 H4
  rw [hL3, hcc, hn1, hn2, hN] at H5 H6
  rw [hL1, hn1] at k1
  rw [hL2, hn1] at k2
  rw [hL3, hn1] at k3
  rw [hn1] at hc1 ⊢
  rw [hn2] at hc2 ⊢
  rw [hN]
  have HN := Lib.hid hN
  have HQ := Lib.hid hq
  have HL := Lib.hid (And.intro k1 (And.intro k2 k3))
  have hccb : (c == c) = true := by simp
  have hccn : (c != c) = false := by simp
  clear hv hu hrg hr2 hn1 hn2 hN hq hL1 hL2 hL3 hcc k1 k2 k3
  by_cases h60 : 60 < n1 ∨ 60 < n2
  · skip
    obtain rfl : q = true := by rw [← HQ.out]; rcases h60 with h | h <;> simp [h]
    go_enter Try.func7, Try.ntmps7
    go_wp2_with fail
    (try rw [HN.out])
    refine HLG.out.mono ?_
    rintro e w1 ⟨rfl, hb1⟩
    have HB1 := Lib.hid hb1
    clear hb1
    go_wp2_with fail
    go_ret
    exact ⟨rfl, HB1.out⟩
  · obtain rfl : q = false := by rw [← HQ.out, Bool.or_eq_false_iff]; exact ⟨decide_eq_false (by omega), decide_eq_false (by omega)⟩
    have hl6 : n1 ≤ 60 := by omega
    go_enter Try.func7, Try.ntmps7
    go_wp2_with fail
    (try rw [HN.out])
    refine HLG.out.mono ?_
    rintro e w1 ⟨rfl, hb1⟩
    have HB1 : Hid (Below N w w1 ∧ N ≤ w1.heap.size) := Lib.hid ⟨hb1, by rw [← HN.out]; exact (hb1 : Below N w w1).size⟩
    clear hb1
    go_wp2_with fail
    refine (H1.out w1 HB1.out.1).mono ?_
    rintro e w2 ⟨⟨v2, rfl, hr2⟩, hb2⟩
    have hbz : Below w1.heap.size w1 w2 := hb2
    have HB2 : Hid (Below N w w2 ∧ N ≤ w2.heap.size) := Lib.hid ⟨HB1.out.1.trans (hbz.mono HB1.out.2), Nat.le_trans HB1.out.2 hbz.size⟩
    have HRa := Lib.hid (hr2)
    clear hbz hb2 hr2 HB1
    go_wp2_with fail
    refine (H2.out w2 HB2.out.1).mono ?_
    rintro e w3 ⟨⟨v3, rfl, hr3⟩, hb3⟩
    have hbz : Below w2.heap.size w2 w3 := hb3
    have HB3 : Hid (Below N w w3 ∧ N ≤ w3.heap.size) := Lib.hid ⟨HB2.out.1.trans (hbz.mono HB2.out.2), Nat.le_trans HB2.out.2 hbz.size⟩
    have HRa' := Lib.hid (HRa.out.below stays_sp hbz)
    clear HRa
    have HRa := HRa'
    clear HRa'
    have HRb := Lib.hid (hr3)
    clear hbz hb3 hr3 HB2
    go_wp2_with fail
    refine (same_nor HRa.out HRb.out (by have := HL.out.1; omega)).mono ?_
    rintro e w4 ⟨rfl, hb4⟩
    have hbz : Below w3.heap.size w3 w4 := hb4
    have HB4 : Hid (Below N w w4 ∧ N ≤ w4.heap.size) := Lib.hid ⟨HB3.out.1.trans (hbz.mono HB3.out.2), Nat.le_trans HB3.out.2 hbz.size⟩
    have HRa' := Lib.hid (HRa.out.below stays_sp hbz)
    clear HRa
    have HRa := HRa'
    clear HRa'
    have HRb' := Lib.hid (HRb.out.below stays_sp hbz)
    clear HRb
    have HRb := HRb'
    clear HRb'
    clear hbz hb4 HB3
    go_wp2_with fail
    refine (H3.out w4 HB4.out.1).mono ?_
    rintro e w5 ⟨⟨v5, rfl, hr5⟩, hb5⟩
    have hbz : Below w4.heap.size w4 w5 := hb5
    have HB5 : Hid (Below N w w5 ∧ N ≤ w5.heap.size) := Lib.hid ⟨HB4.out.1.trans (hbz.mono HB4.out.2), Nat.le_trans HB4.out.2 hbz.size⟩
    have HRc := Lib.hid (hr5)
    clear hbz hb5 hr5 HB4
    go_wp2_with fail
    refine (H4.out w5 HB5.out.1).mono ?_
    rintro e w6 ⟨⟨v6, rfl, hr6⟩, hb6⟩
    have hbz : Below w5.heap.size w5 w6 := hb6
    have HB6 : Hid (Below N w w6 ∧ N ≤ w6.heap.size) := Lib.hid ⟨HB5.out.1.trans (hbz.mono HB5.out.2), Nat.le_trans HB5.out.2 hbz.size⟩
    have HRc' := Lib.hid (HRc.out.below stays_sp hbz)
    clear HRc
    have HRc := HRc'
    clear HRc'
    have HRd := Lib.hid (hr6)
    clear hbz hb6 hr6 HB5
    go_wp2_with fail
    refine (same_nor HRc.out HRd.out (by have := HL.out.2.1; omega)).mono ?_
    rintro e w7 ⟨rfl, hb7⟩
    have hbz : Below w6.heap.size w6 w7 := hb7
    have HB7 : Hid (Below N w w7 ∧ N ≤ w7.heap.size) := Lib.hid ⟨HB6.out.1.trans (hbz.mono HB6.out.2), Nat.le_trans HB6.out.2 hbz.size⟩
    have HRc' := Lib.hid (HRc.out.below stays_sp hbz)
    clear HRc
    have HRc := HRc'
    clear HRc'
    have HRd' := Lib.hid (HRd.out.below stays_sp hbz)
    clear HRd
    have HRd := HRd'
    clear HRd'
    clear hbz hb7 HB6
    go_wp2_with fail
    refine (H5.out w7 HB7.out.1).mono ?_
    rintro e w8 ⟨⟨v8, rfl, hr8⟩, hb8⟩
    have hbz : Below w7.heap.size w7 w8 := hb8
    have HB8 : Hid (Below N w w8 ∧ N ≤ w8.heap.size) := Lib.hid ⟨HB7.out.1.trans (hbz.mono HB7.out.2), Nat.le_trans HB7.out.2 hbz.size⟩
    have HRe := Lib.hid (hr8)
    clear hbz hb8 hr8 HB7
    go_wp2_with fail
    refine (H6.out w8 HB8.out.1).mono ?_
    rintro e w9 ⟨⟨v9, rfl, hr9⟩, hb9⟩
    have hbz : Below w8.heap.size w8 w9 := hb9
    have HB9 : Hid (Below N w w9 ∧ N ≤ w9.heap.size) := Lib.hid ⟨HB8.out.1.trans (hbz.mono HB8.out.2), Nat.le_trans HB8.out.2 hbz.size⟩
    have HRe' := Lib.hid (HRe.out.below stays_sp hbz)
    clear HRe
    have HRe := HRe'
    clear HRe'
    have HRf := Lib.hid (hr9)
    clear hbz hb9 hr9 HB8
    go_wp2_with fail
    refine (same_nor HRe.out HRf.out (by have := HL.out.2.2; omega)).mono ?_
    rintro e w10 ⟨rfl, hb10⟩
    have hbz : Below w9.heap.size w9 w10 := hb10
    have HB10 : Hid (Below N w w10 ∧ N ≤ w10.heap.size) := Lib.hid ⟨HB9.out.1.trans (hbz.mono HB9.out.2), Nat.le_trans HB9.out.2 hbz.size⟩
    have HRe' := Lib.hid (HRe.out.below stays_sp hbz)
    clear HRe
    have HRe := HRe'
    clear HRe'
    have HRf' := Lib.hid (HRf.out.below stays_sp hbz)
    clear HRf
    have HRf := HRf'
    clear HRf'
    clear hbz hb10 HB9
    go_wp2_with fail
    refine (HA.out w10).mono ?_
    rintro e w11 ⟨rfl, hb11⟩
    have hbz : Below w10.heap.size w10 w11 := hb11
    have HB11 : Hid (Below N w w11 ∧ N ≤ w11.heap.size) := Lib.hid ⟨HB10.out.1.trans (hbz.mono HB10.out.2), Nat.le_trans HB10.out.2 hbz.size⟩
    clear hbz hb11 HB10
    go_wp2_with fail
    go_ret
    exact ⟨rfl, HB11.out.1⟩

theorem own : ownKnob Try.prog.godebug = none := by kernel_rfl

set_option maxRecDepth 100000 in
theorem lifted (os : Os) (started : os.Started) (H : Type) (enc : TypeId × Value → H) :
    ReturnsInHanded {} Try.checked os 7 .any (Rows.intervalChoosesSpec.pre6 enc Try.prog Try.f7 Rows.intervalChoosesRow.domain false) (Rows.intervalChoosesSpec.post enc Try.prog Try.f7 false true false false) := by
  refine returnsInHanded_of_change (C := Try.checked) own started (by kernel_rfl) Try.func7
    (ChangeSpec.witness6 (enc := enc) (C := Try.checked) false ⟨#[], #[.slice none 0 0, .slice none 0 0], []⟩ 8 (by kernel_rfl) (by kernel_rfl) (by kernel_rfl) (by kernel_rfl)) ?_
  intro W base args ds gs before hval0 hW hcnd _
  have hval : ∀ (j : Nat) t v, Try.f7.params[j]? = some t → args[j]? = some v → Value.okWide Try.prog W .any base t v := hval0
  have hW' := hW
  have hplt : ∀ x ∈ before, x.block < W.heap.size := fun x hx => hW.lt x hx
  obtain ⟨p, q, hA0, hV, rfl, hfz, hnd⟩ := hW
  have hA : DataW.TrodAll enc Try.prog W 0 (fun _ => true) true Try.f7.params.toList args.toList ds p := hA0
  rw [Try.params7] at hA hval
  obtain ⟨v0, vs0, d0, ds0, p0, q0, hargs, rfl, rfl, h0, r0⟩ := trodAll_cons hA
  obtain ⟨v1, vs1, d1, ds1, p1, q1, rfl, rfl, rfl, h1, r1⟩ := trodAll_cons r0
  obtain ⟨rfl, rfl, rfl⟩ := trodAll_nil r1
  obtain rfl : args = #[v0, v1] := by cases args; simp_all
  obtain ⟨rfl, rfl⟩ := trodVars_none hV
  obtain ⟨l0, s0, m0, n0⟩ := open_sps (hval 0 22 v0 rfl rfl) h0
  obtain ⟨l1, s1, m1, n1⟩ := open_sps (hval 1 22 v1 rfl rfl) h1
  clear hA0 hval0
  refine (walk v0 l0 s0 m0 n0 v1 l1 s1 m1 n1).mono fun e W' ⟨he, bel⟩ => ?_
  subst he
  exact ⟨_, rfl, _, _, _, [], _, [], hW', trodAll_mk1 (shut_bool Try.underlying4 _), (trodAll_cons_mk (Below.trod Try.laidOut (by kernel_rfl) (of_decide_eq_true (by kernel_rfl)) h0 bel (fun x hx => hplt x (by simp [hx]))) (trodAll_cons_mk (Below.trod Try.laidOut (by kernel_rfl) (of_decide_eq_true (by kernel_rfl)) h1 bel (fun x hx => hplt x (by simp [hx]))) trodAll_mk0)), rfl, World.keptBut_mono (fun x hx => ⟨hx, Or.inr (by simpa using hx)⟩) (bel.frame (· ∈ _)), fun h => by cases h⟩

theorem over : Rows.intervalChoosesRow.holds Try.pinned (OpenSpec.ofChange Rows.intervalChoosesSpec) :=
  OpenClaim.holds_of_wide 7 Try.f7 rfl rfl rfl rfl rfl rfl rfl ⟨rfl, rfl, rfl, rfl, rfl⟩ rfl rfl rfl rfl rfl (by kernel_rfl) Try.func7 (by kernel_rfl)
    (of_decide_eq_true (by kernel_rfl)) (by unfold Func.isWrapper; first | (rw [if_pos (by decide +kernel)]; kernel_rfl) | (rw [if_neg (by decide +kernel)]; exact ⟨rfl, rfl⟩))
    (fun os started H enc _ => lifted os started H enc)

/-- THE STATEMENT. -/
theorem proved : Rows.IntervalChoosesSaid := over
end Go.Proofs.Ytpkkebojiengpaa.intervalChooses
