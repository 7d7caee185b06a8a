/-
  IntervalNormalizes is proved: for every list of spans the call of the law returns true, and each argument reads afterwards as it read before. It has no condition.
-/
import Derived.Test.YtpkkebojiengpaaRows
import Derived.Test.YtpkkebojiengpaaIoO
import Derived.Test.YtpkkebojiengpaaIbT
import Derived.Test.YtpkkebojiengpaaIbQ
import Derived.ProofKit
import Derived.OpenShut
import Derived.Carry
namespace Go.Proofs.Ytpkkebojiengpaa.intervalNormalizes
open Go.ChangeShapes Go.WideShapes Go.ChangeAt Go.RowKit Go.Shelf Go.Lib
set_option linter.unusedVariables false

set_option maxRecDepth 100000 in
set_option maxHeartbeats 8000000 in
theorem walk {w : World} (v : Value) (l : List Sp) (hv : Rows 2 ESp w v l) (_ : l.length ≤ maxLen) (_ : ∀ x ∈ l, okSp x) :
    Calls Try.prog 3 #[v] w fun e w1 => e = .returned (.bool true) ∧ Below w.heap.size w w1 := by
  have HLG := Lib.hid (long1_any hv)
  have HV := Lib.hid (fun W (h : Below w.heap.size w W) => hv.below stays_sp h)
  have HA := Lib.hid (fun (W : World) => awake_any W)
  obtain ⟨A, cap, rfl, hc⟩ := hv.form
  obtain ⟨n, hn⟩ : ∃ n, l.length = n := ⟨_, rfl⟩
  obtain ⟨N, hN⟩ : ∃ N, w.heap.size = N := ⟨_, rfl⟩
  obtain ⟨q, hq⟩ : ∃ q, decide (60 < n) = q := ⟨_, rfl⟩
  have hln : norL l = norL l ∧ (norL l).length ≤ l.length := ⟨rfl, by unfold norL; split; exact normS_len l; simp⟩
  have hlc : (cvL l).length ≤ l.length := by unfold cvL; split; exact covL_len l; simp
  obtain ⟨L1, hL1⟩ : ∃ L, norL l = L := ⟨_, rfl⟩
  obtain ⟨L2, hL2⟩ : ∃ L, cvL l = L := ⟨_, rfl⟩
  obtain ⟨c, hcc⟩ : ∃ c, chkS l = c := ⟨_, rfl⟩
  have HNM := Lib.hid (fun W (h : Below w.heap.size w W) => normalize_any (hv.below stays_sp h))
  have HRN := Lib.hid (fun W (h : Below w.heap.size w W) => refNormalize_any (hv.below stays_sp h))
  have HCV := Lib.hid (fun W (h : Below w.heap.size w W) => cover_any (hv.below stays_sp h))
  have HRC := Lib.hid (fun W (h : Below w.heap.size w W) => refCover_any (hv.below stays_sp h))
  unfold NorV at HNM HRN HCV HRC
  unfold BoolV at HA
  rw [hn, hN, hq] at HLG
  rw [hL1, hcc, hn, hN] at HNM HRN
  rw [hL2, hcc, hn, hN] at HCV HRC
  rw [hn, hN] at HV
  rw [hL1, hn] at hln
  rw [hL2, hn] at hlc
  rw [hn] at hc ⊢
  rw [hN]
  have HN := Lib.hid hN
  have HQ := Lib.hid hq
  have HL := Lib.hid (And.intro hln.2 hlc)
  have hccb : (c == c) = true := by simp
  clear hv hn hN hq hL1 hL2 hcc hln hlc
  by_cases h60 : 60 < n
  · skip
    obtain rfl : q = true := by rw [← HQ.out]; exact decide_eq_true h60
    go_enter Try.func3, Try.ntmps3
    go_wp2_with fail
    (try rw [HN.out])
    refine HLG.out.mono ?_
    rintro e w1 ⟨rfl, hb1⟩
    have HB1 := Lib.hid hb1
    clear hb1
    go_wp2_with fail
    go_ret
    exact ⟨rfl, HB1.out⟩
  · obtain rfl : q = false := by rw [← HQ.out]; exact decide_eq_false h60
    have hl6 : n ≤ 60 := by omega
    go_enter Try.func3, Try.ntmps3
    go_wp2_with fail
    (try rw [HN.out])
    have HB0 : Hid (Below N w w ∧ N ≤ w.heap.size) := Lib.hid ⟨Below.refl _ _, by rw [HN.out]; exact Nat.le_refl _⟩
    refine HLG.out.mono ?_
    rintro e w1 ⟨rfl, hb1⟩
    have HB1 : Hid (Below N w w1 ∧ N ≤ w1.heap.size) := Lib.hid ⟨hb1, by rw [← HN.out]; exact (hb1 : Below N w w1).size⟩
    clear hb1 HB0
    go_wp2_with fail
    refine (HNM.out w1 HB1.out.1).mono ?_
    rintro e w2 ⟨⟨v2, rfl, hr2⟩, hb2⟩
    have hbz : Below w1.heap.size w1 w2 := hb2
    have HB2 : Hid (Below N w w2 ∧ N ≤ w2.heap.size) := Lib.hid ⟨HB1.out.1.trans (hbz.mono HB1.out.2), Nat.le_trans HB1.out.2 hbz.size⟩
    have HRa := Lib.hid (hr2)
    clear hbz hb2 hr2 HB1
    go_wp2_with fail
    refine (HRN.out w2 HB2.out.1).mono ?_
    rintro e w3 ⟨⟨v3, rfl, hr3⟩, hb3⟩
    have hbz : Below w2.heap.size w2 w3 := hb3
    have HB3 : Hid (Below N w w3 ∧ N ≤ w3.heap.size) := Lib.hid ⟨HB2.out.1.trans (hbz.mono HB2.out.2), Nat.le_trans HB2.out.2 hbz.size⟩
    have HRa' := Lib.hid (HRa.out.below stays_sp hbz)
    clear HRa
    have HRa := HRa'
    clear HRa'
    have HRb := Lib.hid (hr3)
    clear hbz hb3 hr3 HB2
    go_wp2_with fail
    refine (HCV.out w3 HB3.out.1).mono ?_
    rintro e w4 ⟨⟨v4, rfl, hr4⟩, hb4⟩
    have hbz : Below w3.heap.size w3 w4 := hb4
    have HB4 : Hid (Below N w w4 ∧ N ≤ w4.heap.size) := Lib.hid ⟨HB3.out.1.trans (hbz.mono HB3.out.2), Nat.le_trans HB3.out.2 hbz.size⟩
    have HRa' := Lib.hid (HRa.out.below stays_sp hbz)
    clear HRa
    have HRa := HRa'
    clear HRa'
    have HRb' := Lib.hid (HRb.out.below stays_sp hbz)
    clear HRb
    have HRb := HRb'
    clear HRb'
    have HRc := Lib.hid (hr4)
    clear hbz hb4 hr4 HB3
    go_wp2_with fail
    refine (HRC.out w4 HB4.out.1).mono ?_
    rintro e w5 ⟨⟨v5, rfl, hr5⟩, hb5⟩
    have hbz : Below w4.heap.size w4 w5 := hb5
    have HB5 : Hid (Below N w w5 ∧ N ≤ w5.heap.size) := Lib.hid ⟨HB4.out.1.trans (hbz.mono HB4.out.2), Nat.le_trans HB4.out.2 hbz.size⟩
    have HRa' := Lib.hid (HRa.out.below stays_sp hbz)
    clear HRa
    have HRa := HRa'
    clear HRa'
    have HRb' := Lib.hid (HRb.out.below stays_sp hbz)
    clear HRb
    have HRb := HRb'
    clear HRb'
    have HRc' := Lib.hid (HRc.out.below stays_sp hbz)
    clear HRc
    have HRc := HRc'
    clear HRc'
    have HRd := Lib.hid (hr5)
    clear hbz hb5 hr5 HB4
    go_wp2_with fail
    have HSM0 : True := trivial
    have hsm := same_any HRa.out HRb.out (by have := HL.out.1; omega)
    unfold BoolV at hsm
    rw [decide_eq_true (rfl : L1 = L1)] at hsm
    have HSM := Lib.hid hsm
    clear hsm
    refine (HSM.out).mono ?_
    rintro e w6 ⟨rfl, hb6⟩
    have hbz : Below w5.heap.size w5 w6 := hb6
    have HB6 : Hid (Below N w w6 ∧ N ≤ w6.heap.size) := Lib.hid ⟨HB5.out.1.trans (hbz.mono HB5.out.2), Nat.le_trans HB5.out.2 hbz.size⟩
    have HRa' := Lib.hid (HRa.out.below stays_sp hbz)
    clear HRa
    have HRa := HRa'
    clear HRa'
    have HRb' := Lib.hid (HRb.out.below stays_sp hbz)
    clear HRb
    have HRb := HRb'
    clear HRb'
    have HRc' := Lib.hid (HRc.out.below stays_sp hbz)
    clear HRc
    have HRc := HRc'
    clear HRc'
    have HRd' := Lib.hid (HRd.out.below stays_sp hbz)
    clear HRd
    have HRd := HRd'
    clear HRd'
    clear hbz hb6 HB5
    go_wp2_with fail
    clear HSM
    have hsm := same_any HRc.out HRd.out (by have := HL.out.2; omega)
    unfold BoolV at hsm
    rw [decide_eq_true (rfl : L2 = L2)] at hsm
    have HSM := Lib.hid hsm
    clear hsm
    refine (HSM.out).mono ?_
    rintro e w7 ⟨rfl, hb7⟩
    have hbz : Below w6.heap.size w6 w7 := hb7
    have HB7 : Hid (Below N w w7 ∧ N ≤ w7.heap.size) := Lib.hid ⟨HB6.out.1.trans (hbz.mono HB6.out.2), Nat.le_trans HB6.out.2 hbz.size⟩
    have HRa' := Lib.hid (HRa.out.below stays_sp hbz)
    clear HRa
    have HRa := HRa'
    clear HRa'
    have HRb' := Lib.hid (HRb.out.below stays_sp hbz)
    clear HRb
    have HRb := HRb'
    clear HRb'
    have HRc' := Lib.hid (HRc.out.below stays_sp hbz)
    clear HRc
    have HRc := HRc'
    clear HRc'
    have HRd' := Lib.hid (HRd.out.below stays_sp hbz)
    clear HRd
    have HRd := HRd'
    clear HRd'
    clear hbz hb7 HB6
    go_wp2_with fail
    clear HSM
    refine (HA.out w7).mono ?_
    rintro e w8 ⟨rfl, hb8⟩
    have hbz : Below w7.heap.size w7 w8 := hb8
    have HB8 : Hid (Below N w w8 ∧ N ≤ w8.heap.size) := Lib.hid ⟨HB7.out.1.trans (hbz.mono HB7.out.2), Nat.le_trans HB7.out.2 hbz.size⟩
    have HRa' := Lib.hid (HRa.out.below stays_sp hbz)
    clear HRa
    have HRa := HRa'
    clear HRa'
    have HRb' := Lib.hid (HRb.out.below stays_sp hbz)
    clear HRb
    have HRb := HRb'
    clear HRb'
    have HRc' := Lib.hid (HRc.out.below stays_sp hbz)
    clear HRc
    have HRc := HRc'
    clear HRc'
    have HRd' := Lib.hid (HRd.out.below stays_sp hbz)
    clear HRd
    have HRd := HRd'
    clear HRd'
    clear hbz hb8 HB7
    go_wp2_with fail
    go_ret
    exact ⟨rfl, HB8.out.1⟩

theorem own : ownKnob Try.prog.godebug = none := by kernel_rfl

set_option maxRecDepth 100000 in
theorem lifted (os : Os) (started : os.Started) (H : Type) (enc : TypeId × Value → H) :
    ReturnsInHanded {} Try.checked os 3 .any (Rows.intervalNormalizesSpec.pre6 enc Try.prog Try.f3 Rows.intervalNormalizesRow.domain false) (Rows.intervalNormalizesSpec.post enc Try.prog Try.f3 false true false false) := by
  refine returnsInHanded_of_change (C := Try.checked) own started (by kernel_rfl) Try.func3
    (ChangeSpec.witness6 (enc := enc) (C := Try.checked) false ⟨#[], #[.slice none 0 0], []⟩ 8 (by kernel_rfl) (by kernel_rfl) (by kernel_rfl) (by kernel_rfl)) ?_
  intro W base args ds gs before hval0 hW hcnd _
  have hval : ∀ (j : Nat) t v, Try.f3.params[j]? = some t → args[j]? = some v → Value.okWide Try.prog W .any base t v := hval0
  have hW' := hW
  have hplt : ∀ x ∈ before, x.block < W.heap.size := fun x hx => hW.lt x hx
  obtain ⟨p, q, hA0, hV, rfl, hfz, hnd⟩ := hW
  have hA : DataW.TrodAll enc Try.prog W 0 (fun _ => true) true Try.f3.params.toList args.toList ds p := hA0
  rw [Try.params3] at hA hval
  obtain ⟨v0, vs0, d0, ds0, p0, q0, hargs, rfl, rfl, h0, r0⟩ := trodAll_cons hA
  obtain ⟨rfl, rfl, rfl⟩ := trodAll_nil r0
  obtain rfl : args = #[v0] := by cases args; simp_all
  obtain ⟨rfl, rfl⟩ := trodVars_none hV
  obtain ⟨l0, s0, m0, n0⟩ := open_sps (hval 0 22 v0 rfl rfl) h0
  clear hA0 hval0
  refine (walk v0 l0 s0 m0 n0).mono fun e W' ⟨he, bel⟩ => ?_
  subst he
  exact ⟨_, rfl, _, _, _, [], _, [], hW', trodAll_mk1 (shut_bool Try.underlying4 _), (trodAll_cons_mk (Below.trod Try.laidOut (by kernel_rfl) (of_decide_eq_true (by kernel_rfl)) h0 bel (fun x hx => hplt x (by simp [hx]))) trodAll_mk0), rfl, World.keptBut_mono (fun x hx => ⟨hx, Or.inr (by simpa using hx)⟩) (bel.frame (· ∈ _)), fun h => by cases h⟩

theorem over : Rows.intervalNormalizesRow.holds Try.pinned (OpenSpec.ofChange Rows.intervalNormalizesSpec) :=
  OpenClaim.holds_of_wide 3 Try.f3 rfl rfl rfl rfl rfl rfl rfl ⟨rfl, rfl, rfl, rfl, rfl⟩ rfl rfl rfl rfl rfl (by kernel_rfl) Try.func3 (by kernel_rfl)
    (of_decide_eq_true (by kernel_rfl)) (by unfold Func.isWrapper; first | (rw [if_pos (by decide +kernel)]; kernel_rfl) | (rw [if_neg (by decide +kernel)]; exact ⟨rfl, rfl⟩))
    (fun os started H enc _ => lifted os started H enc)

/-- THE STATEMENT. -/
theorem proved : Rows.IntervalNormalizesSaid := over
end Go.Proofs.Ytpkkebojiengpaa.intervalNormalizes
