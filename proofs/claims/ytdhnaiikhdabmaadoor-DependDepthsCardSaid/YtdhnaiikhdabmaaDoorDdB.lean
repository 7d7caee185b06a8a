/-
  DependDepths is proved: for every list of numbers and every number the call of the law returns true, and each argument reads afterwards as it read before. The package-level variables that the row lists hold what the program's text lays in them: this is tied to the text.
-/
import Derived.Test.YtdhnaiikhdabmaaDoorRows
import Derived.Test.YtdhnaiikhdabmaaDoorCards
import Derived.Test.YtdhnaiikhdabmaaDoorTie
import Derived.Test.YtdhnaiikhdabmaaDoorDcL
import Derived.Test.YtdhnaiikhdabmaaDoorDcC
import Derived.ProofKit
import Derived.OpenShut
import Derived.Carry
import Derived.SevenTiedAt
import Derived.LaidMore
import Derived.Stop.Joined
namespace Go.Proofs.YtdhnaiikhdabmaaDoor.dependDepths
open Go.ChangeShapes Go.WideShapes Go.ChangeAt Go.RowKit Go.Shelf Go.Lib
set_option linter.unusedVariables false

theorem depth_head {h : List Int} (hO : Okh h) {i b : Nat} (hi : i < h.length) (hb : b < h.length) (hs : stN h i = some b) : depthH h (b : Int) = depthH h (i : Int) - 1 := by
  unfold depthH
  have hok := okh_iff.2 hO
  rw [if_pos ⟨hok, by omega, by omega⟩, if_pos ⟨hok, by omega, by omega⟩, Int.toNat_natCast, Int.toNat_natCast, way_step hO hs, List.length_cons]
  omega
theorem depth_range (h : List Int) (i : Int) (hl : h.length ≤ 4096) : -1 ≤ depthH h i ∧ depthH h i ≤ 4096 := by
  unfold depthH
  split
  · rename_i hh
    have := way_len (okh_iff.1 hh.1) (i := i.toNat) (by omega)
    omega
  · omega
theorem ok_check {h : List Int} (hok : okH h = true) : (checkH h).2 = 0 := by
  unfold okH at hok
  exact of_decide_eq_true hok
theorem bad_check {h : List Int} (hok : okH h = false) : ((checkH h).2 == 0) = false := by
  unfold okH at hok
  simpa using hok
set_option maxRecDepth 100000 in
set_option maxHeartbeats 2000000 in
theorem walk {w : World} (v : Value) (h : List Int) (hv : Rows 1 EInt w v h) (hl : h.length ≤ maxLen) (_ : ∀ x ∈ h, -9223372036854775808 ≤ x ∧ x ≤ 9223372036854775807) (i : Int) (_ : -9223372036854775808 ≤ i) (_ : i ≤ 9223372036854775807) (hE : ErrAt w) :
    Calls Tryd.prog 4 #[v, .int .i64 i] w fun e w1 => e = .returned (.bool true) ∧ Below w.heap.size w w1 := by
  have HC := Lib.hid (fun (W : World) (hb : Below w.heap.size w W) => check_any (hv.below stays_int hb) hl)
  have HD := Lib.hid (fun (i : Int) (W : World) (hb : Below w.heap.size w W) => depth_any (hv.below stays_int hb) hl i)
  have HR := Lib.hid (fun (W : World) (hb : Below w.heap.size w W) => refDepth_any (hv.below stays_int hb) hl i)
  have HA := Lib.hid (fun (W : World) (hb : Below w.heap.size w W) => awake_any (w := W) (ErrAt.same hE (hb.block _ hE.lt)))
  have HV := Lib.hid (fun W (hb : Below w.heap.size w W) => hv.below stays_int hb)
  obtain ⟨A, cap, rfl, hc⟩ := hv.form
  by_cases h100 : 100 < h.length
  · obtain ⟨n, hn⟩ : ∃ n, h.length = n := ⟨_, rfl⟩
    rw [hn] at h100 hl ⊢
    unfold maxLen at hl
    clear hv hc hE HC HD HR HA HV hn
    go_enter Tryd.func4, Tryd.ntmps4
    go_wp2_with fail
    go_ret
    exact ⟨rfl, Below.refl _ _⟩
  have hdr := depth_range h i (by omega)
  by_cases hcase : okH h = true ∧ 0 ≤ i ∧ i < (h.length : Int) ∧ ∃ b : Nat, h[i.toNat]? = some (b : Int)
  · obtain ⟨hok, hi0, hi1, b, hb⟩ := hcase
    obtain ⟨t, rfl⟩ : ∃ t : Nat, i = (t : Int) := ⟨i.toNat, by omega⟩
    rw [Int.toNat_natCast] at hb
    have hO := okh_iff.1 hok
    have ht : t < h.length := by omega
    have hbl : b < h.length := by
      rcases hO.at ht with ⟨h1, _⟩ | ⟨j, h1, h2, _⟩
      · rw [h1] at hb; injection hb with e; omega
      · rw [h1] at hb; injection hb with e; omega
    have hdd := depth_head hO ht hbl (stN_of hb hbl)
    have hck := ok_check hok
    obtain ⟨bk, off, rfl, -, hcel⟩ := at_int hv (by omega)
    have HU := Lib.hid (fun (W : World) (hb' : Below w.heap.size w W) => (show W.cell? ⟨bk, off + t, none⟩ = some (.int .i64 (b : Int)) from by
      obtain ⟨_, _, he, -, hc2⟩ := at_int (HV.out W hb') (by omega)
      cases he
      exact hc2 t _ hb))
    have HDB := Lib.hid (fun W hb => HD.out (b : Int) W hb)
    have HDT := Lib.hid (fun W hb => HD.out (t : Int) W hb)
    rw [hdd] at HDB
    obtain ⟨d, hd⟩ : ∃ d, depthH h (t : Int) = d := ⟨_, rfl⟩
    obtain ⟨⟨r1, r2⟩, hr⟩ : ∃ r, checkH h = r := ⟨_, rfl⟩
    rw [hr] at HC
    rw [hd] at HDB HDT HR hdr
    have hz : r2 = 0 := by rw [hr] at hck; exact hck
    subst hz
    obtain ⟨n, hn⟩ : ∃ n, h.length = n := ⟨_, rfl⟩
    rw [hn] at HC HD HR HDB HDT HV h100 hl hi1 ht hbl hc ⊢
    unfold maxLen at hl
    have t0 : ¬ (t : Int) < 0 := by omega
    clear hok hb hO hdd hck hcel hd hr hn hv hE HD HV
    go_enter Tryd.func4, Tryd.ntmps4
    go_wp2_with fail
    refine (HDT.out w (Below.refl _ _)).mono ?_
    rintro e w1 ⟨rfl, hb1⟩
    have HB1 := Lib.hid hb1
    clear hb1
    go_wp2_with fail
    refine (HC.out w1 HB1.out).mono ?_
    rintro e w2 ⟨rfl, hb2⟩
    have HB2 := Lib.hid (HB1.out.trans (hb2.mono HB1.out.size))
    clear hb2
    have u0 := HU.out w2 HB2.out
    go_wp2_with fail
    refine (HDB.out w2 HB2.out).mono ?_
    rintro e w3 ⟨rfl, hb3⟩
    have HB3 := Lib.hid (HB2.out.trans (hb3.mono HB2.out.size))
    clear hb3
    have e1 : IntKind.i64.wrap (d - 1) = d - 1 := by rw [IntKind.wrap_i64]; omega
    go_wp2_with fail
    refine (HR.out w3 HB3.out).mono ?_
    rintro e w4 ⟨rfl, hb4⟩
    have HB4 := Lib.hid (HB3.out.trans (hb4.mono HB3.out.size))
    clear hb4
    go_wp2_with fail
    refine (HA.out w4 HB4.out).mono ?_
    rintro e w5 ⟨rfl, hb5⟩
    have HB5 := Lib.hid (HB4.out.trans (hb5.mono HB4.out.size))
    clear hb5
    go_wp2_with fail
    go_ret
    exact ⟨rfl, HB5.out⟩
  · have HDT := Lib.hid (fun W hb => HD.out i W hb)
    obtain ⟨d, hd⟩ : ∃ d, depthH h i = d := ⟨_, rfl⟩
    have hck : okH h = true → (checkH h).2 = 0 := ok_check
    have hcb : okH h = false → ((checkH h).2 == 0) = false := bad_check
    have hroot : okH h = true → 0 ≤ i → i < (h.length : Int) → h[i.toNat]? = some (-1) := fun hok h0 h1 => by
      rcases (okh_iff.1 hok).at (i := i.toNat) (by omega) with ⟨h3, _⟩ | ⟨j, h3, _⟩
      · exact h3
      · exact absurd ⟨hok, h0, h1, j, h3⟩ hcase
    obtain ⟨⟨r1, r2⟩, hr⟩ : ∃ r, checkH h = r := ⟨_, rfl⟩
    rw [hr] at HC hck hcb
    simp only at hck hcb
    rw [hd] at HDT HR hdr
    cases hok : okH h with
    | true =>
      have hz : r2 = 0 := hck hok
      subst hz
      by_cases h0 : i < 0
      · obtain ⟨n, hn⟩ : ∃ n, h.length = n := ⟨_, rfl⟩
        rw [hn] at HC HD HR HDT HV h100 hl hc ⊢
        unfold maxLen at hl
        clear hv hE HD HV hroot hck hcb hr hd hok hcase hn
        go_enter Tryd.func4, Tryd.ntmps4
        go_wp2_with fail
        refine (HDT.out w (Below.refl _ _)).mono ?_
        rintro e w1 ⟨rfl, hb1⟩
        have HB1 := Lib.hid hb1
        clear hb1
        go_wp2_with fail
        refine (HC.out w1 HB1.out).mono ?_
        rintro e w2 ⟨rfl, hb2⟩
        have HB2 := Lib.hid (HB1.out.trans (hb2.mono HB1.out.size))
        clear hb2
        go_wp2_with fail
        refine (HR.out w2 HB2.out).mono ?_
        rintro e w4 ⟨rfl, hb4⟩
        have HB4 := Lib.hid (HB2.out.trans (hb4.mono HB2.out.size))
        clear hb4
        go_wp2_with fail
        refine (HA.out w4 HB4.out).mono ?_
        rintro e w5 ⟨rfl, hb5⟩
        have HB5 := Lib.hid (HB4.out.trans (hb5.mono HB4.out.size))
        clear hb5
        go_wp2_with fail
        go_ret
        exact ⟨rfl, HB5.out⟩
      · by_cases h1 : i < (h.length : Int)
        · obtain ⟨t, rfl⟩ : ∃ t : Nat, i = (t : Int) := ⟨i.toNat, by omega⟩
          have hx := hroot hok (by omega) h1
          rw [Int.toNat_natCast] at hx
          obtain ⟨bk, off, rfl, -, hcel⟩ := at_int hv (by omega)
          have HU := Lib.hid (fun (W : World) (hb' : Below w.heap.size w W) => (show W.cell? ⟨bk, off + t, none⟩ = some (.int .i64 (-1)) from by
            obtain ⟨_, _, he, -, hc2⟩ := at_int (HV.out W hb') (by omega)
            cases he
            exact hc2 t _ hx))
          obtain ⟨n, hn⟩ : ∃ n, h.length = n := ⟨_, rfl⟩
          rw [hn] at HC HD HR HDT HV h100 hl hc h1 ⊢
          unfold maxLen at hl
          clear hv hE HD HV hroot hck hcb hr hd hok hcase hn hx hcel
          go_enter Tryd.func4, Tryd.ntmps4
          go_wp2_with fail
          refine (HDT.out w (Below.refl _ _)).mono ?_
          rintro e w1 ⟨rfl, hb1⟩
          have HB1 := Lib.hid hb1
          clear hb1
          go_wp2_with fail
          refine (HC.out w1 HB1.out).mono ?_
          rintro e w2 ⟨rfl, hb2⟩
          have HB2 := Lib.hid (HB1.out.trans (hb2.mono HB1.out.size))
          clear hb2
          have u0 := HU.out w2 HB2.out
          go_wp2_with fail
          refine (HR.out w2 HB2.out).mono ?_
          rintro e w4 ⟨rfl, hb4⟩
          have HB4 := Lib.hid (HB2.out.trans (hb4.mono HB2.out.size))
          clear hb4
          go_wp2_with fail
          refine (HA.out w4 HB4.out).mono ?_
          rintro e w5 ⟨rfl, hb5⟩
          have HB5 := Lib.hid (HB4.out.trans (hb5.mono HB4.out.size))
          clear hb5
          go_wp2_with fail
          go_ret
          exact ⟨rfl, HB5.out⟩
        · obtain ⟨n, hn⟩ : ∃ n, h.length = n := ⟨_, rfl⟩
          rw [hn] at HC HD HR HDT HV h100 hl hc h1 ⊢
          unfold maxLen at hl
          clear hv hE HD HV hroot hck hcb hr hd hok hcase hn
          go_enter Tryd.func4, Tryd.ntmps4
          go_wp2_with fail
          refine (HDT.out w (Below.refl _ _)).mono ?_
          rintro e w1 ⟨rfl, hb1⟩
          have HB1 := Lib.hid hb1
          clear hb1
          go_wp2_with fail
          refine (HC.out w1 HB1.out).mono ?_
          rintro e w2 ⟨rfl, hb2⟩
          have HB2 := Lib.hid (HB1.out.trans (hb2.mono HB1.out.size))
          clear hb2
          go_wp2_with fail
          refine (HR.out w2 HB2.out).mono ?_
          rintro e w4 ⟨rfl, hb4⟩
          have HB4 := Lib.hid (HB2.out.trans (hb4.mono HB2.out.size))
          clear hb4
          go_wp2_with fail
          refine (HA.out w4 HB4.out).mono ?_
          rintro e w5 ⟨rfl, hb5⟩
          have HB5 := Lib.hid (HB4.out.trans (hb5.mono HB4.out.size))
          clear hb5
          go_wp2_with fail
          go_ret
          exact ⟨rfl, HB5.out⟩
    | false =>
      have hz : (r2 == 0) = false := hcb hok
      obtain ⟨n, hn⟩ : ∃ n, h.length = n := ⟨_, rfl⟩
      rw [hn] at HC HD HR HDT HV h100 hl hc ⊢
      unfold maxLen at hl
      clear hv hE HD HV hroot hck hcb hr hd hok hcase hn
      go_enter Tryd.func4, Tryd.ntmps4
      go_wp2_with fail
      refine (HDT.out w (Below.refl _ _)).mono ?_
      rintro e w1 ⟨rfl, hb1⟩
      have HB1 := Lib.hid hb1
      clear hb1
      go_wp2_with fail
      refine (HC.out w1 HB1.out).mono ?_
      rintro e w2 ⟨rfl, hb2⟩
      have HB2 := Lib.hid (HB1.out.trans (hb2.mono HB1.out.size))
      clear hb2
      go_wp2_with fail
      refine (HR.out w2 HB2.out).mono ?_
      rintro e w4 ⟨rfl, hb4⟩
      have HB4 := Lib.hid (HB2.out.trans (hb4.mono HB2.out.size))
      clear hb4
      go_wp2_with fail
      refine (HA.out w4 HB4.out).mono ?_
      rintro e w5 ⟨rfl, hb5⟩
      have HB5 := Lib.hid (HB4.out.trans (hb5.mono HB4.out.size))
      clear hb5
      go_wp2_with fail
      go_ret
      exact ⟨rfl, HB5.out⟩

theorem own : ownKnob Tryd.prog.godebug = none := by kernel_rfl

set_option maxRecDepth 100000 in
theorem lifted (os : Os) (started : os.Started) (H : Type) (enc : TypeId × Value → H) :
    ReturnsInHanded {} Tryd.checked os 4 .any (fun w args => (Rows.dependDepthsSpec.pre enc Tryd.prog Tryd.f4 [] false w args ∧ laidMetH Tryd.prog Rows.dependDepthsRow.laid w) ∧ sizedMet enc Tryd.prog Tryd.f4 (OpenSpec.ofChange Rows.dependDepthsSpec) false w args)
      (Rows.dependDepthsSpec.post enc Tryd.prog Tryd.f4 false true false false) := by
  refine returnsInHanded_of_change_and (C := Tryd.checked) (X := fun w _ => laidMetH Tryd.prog Rows.dependDepthsRow.laid w) (fun _ _ _ hh h => h.of_heap hh) own started (by kernel_rfl) Tryd.func4
    (ChangeSpec.witness_shaped (enc := enc) (C := Tryd.checked) (os := os) (X := fun w _ => laidMetH Tryd.prog Rows.dependDepthsRow.laid w) false (World.laidAll Tryd.prog os laidAll) #[.slice none 0 0, .int .i64 0] 8 (World.laidAll_os _ _ _) (all_shaped os) (by kernel_rfl) (by kernel_rfl) (by kernel_rfl) (all_met os _)) ?_
  intro W base args ds gs before hval0 hW _ _ hL _
  have hval : ∀ (j : Nat) t v, Tryd.f4.params[j]? = some t → args[j]? = some v → Value.okWide Tryd.prog W .any base t v := hval0
  have hW' := hW
  have hplt : ∀ x ∈ before, x.block < W.heap.size := fun x hx => hW.lt x hx
  obtain ⟨p, q, hA0, hV, rfl, hfz, hnd⟩ := hW
  have hA : DataW.TrodAll enc Tryd.prog W 0 (fun _ => true) true Tryd.f4.params.toList args.toList ds p := hA0
  rw [Tryd.params4] at hA hval
  obtain ⟨v0, vs0, d0, ds0, p0, q0, hargs, rfl, rfl, h0, r0⟩ := trodAll_cons hA
  obtain ⟨v1, vs1, d1, ds1, p1, q1, rfl, rfl, rfl, h1, r1⟩ := trodAll_cons r0
  obtain ⟨rfl, rfl, rfl⟩ := trodAll_nil r1
  obtain rfl : args = #[v0, v1] := by cases args; simp_all
  obtain ⟨rfl, rfl⟩ := trodVars_none hV
  obtain ⟨l0, s0, m0, n0⟩ := open_rowI (hval 0 22 v0 rfl rfl) h0
  obtain ⟨x1, rfl, m1, n1⟩ := open_i64 (hval 1 3 v1 rfl rfl) h1
  clear hA0 hval0
  refine (walk v0 l0 s0 m0 n0 x1 m1 n1 (err_of_laid hL)).mono fun e W' ⟨he, bel⟩ => ?_
  subst he
  exact ⟨_, rfl, _, _, _, [], _, [], hW', trodAll_mk1 (shut_bool Tryd.underlying4 _), (trodAll_cons_mk (Below.trod Tryd.laidOut (by kernel_rfl) (of_decide_eq_true (by kernel_rfl)) h0 bel (fun x hx => hplt x (by simp [hx]))) (trodAll_cons_mk (Below.trod Tryd.laidOut (by kernel_rfl) (of_decide_eq_true (by kernel_rfl)) h1 bel (fun x hx => hplt x (by simp [hx]))) trodAll_mk0)), rfl, World.keptBut_mono (fun x hx => ⟨hx, Or.inr (by simpa using hx)⟩) (bel.frame (· ∈ _)), fun h => by cases h⟩

theorem over : Rows.dependDepthsRow.holds Tryd.pinned (OpenSpec.ofChange Rows.dependDepthsSpec) :=
  OpenClaim.holds_of_wide 4 Tryd.f4 rfl rfl rfl rfl rfl rfl rfl ⟨rfl, rfl, rfl, rfl, rfl⟩ rfl rfl rfl rfl rfl (by kernel_rfl) Tryd.func4 (by kernel_rfl)
    (of_decide_eq_true (by kernel_rfl)) (by unfold Func.isWrapper; first | (rw [if_pos (by decide +kernel)]; kernel_rfl) | (rw [if_neg (by decide +kernel)]; exact ⟨rfl, rfl⟩))
    (fun os started H enc _ => lifted os started H enc)

/-- THE STATEMENT: the tied card. -/
theorem proved : Rows.DependDepthsCardSaid :=
  Claim7.holds_tied_plain_at .later [] Rows.dependDepthsCard.laidKinds true Rows.dependDepthsCard.stood.harness Rows.dependDepthsCard.stood.looks
    over (fun _ h => by cases h) (by kernel_rfl) (fun _ h => by cases h) dependDepths_row_tie rfl ⟨rfl, rfl⟩ (by kernel_rfl) rfl
    (fun f fn hf hfn => by
      obtain rfl : f = 4 := Option.some.inj ((show Tryd.prog.funcNamed "corpora/corporalaw09.DependDepths" = some 4 by kernel_rfl).symm.trans hf) |>.symm
      obtain rfl : fn = Tryd.f4 := (Option.some.inj (Tryd.func4.symm.trans hfn)).symm
      exact ⟨by kernel_rfl, fun j t ht => by
        rw [Tryd.params4] at ht
        have hm : t ∈ [22, 3] := by simpa using Array.mem_of_getElem? ht
        have hall : ([22, 3].all fun u => !Tryd.prog.wantsStandIn u) = true := by kernel_rfl
        exact (show Tryd.prog.wantsStandIn t = false by simpa using List.all_eq_true.1 hall t hm)⟩)
    (by kernel_rfl)
end Go.Proofs.YtdhnaiikhdabmaaDoor.dependDepths
