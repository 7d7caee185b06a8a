/-
  MarkupPrefixes is proved: for every string and every string and every number the call of the law returns true, and each argument reads afterwards as it read before. The package-level variables that the row lists hold what the program's text lays in them: this is tied to the text.
-/
import Derived.Test.YtihekappojkgiaaGreatDoorRows
import Derived.Test.YtihekappojkgiaaGreatDoorCards
import Derived.Test.YtihekappojkgiaaGreatDoorTie
import Derived.Test.YtihekappojkgiaaGreatDoorMnM
import Derived.Test.YtihekappojkgiaaGreatDoorAtG
import Derived.Test.YtihekappojkgiaaGreatDoorPrM
import Derived.ProofKit
import Derived.OpenShut
import Derived.Carry
import Derived.SevenTiedAt
import Derived.LaidMore
import Derived.Stop.Joined
namespace Go.Proofs.YtihekappojkgiaaGreatDoor.markupPrefixes
open Go.ChangeShapes Go.WideShapes Go.ChangeAt Go.RowKit Go.Shelf Go.Lib
set_option linter.unusedVariables false

set_option maxHeartbeats 2000000 in
theorem walk (s : ByteArray) (hs : s.size ≤ maxLen) (t : ByteArray) (ht : t.size ≤ maxLen) (i : Int) (hi1 : -9223372036854775808 ≤ i) (hi2 : i ≤ 9223372036854775807) {w : World} (m : Mem w) :
    Calls Tryz.prog 5 #[.string s, .string t, .int .i64 i] w fun e w1 => e = .returned (.bool true) ∧ Below w.heap.size w w1 := by
  have hsz : s.data.toList.length = s.size := (Lib.size_eq s).symm
  have htz : t.data.toList.length = t.size := (Lib.size_eq t).symm
  have h1 := fun W => validValue_any s hs W
  have h2 := fun W => validValue_any t ht W
  have H5 := Lib.hid (fun (W : World) (h : Mem W) => awake_any h)
  have HM := Lib.hid m
  clear m
  by_cases hz : valE s.data.toList = 0
  · rw [hz] at h1
    by_cases hy : valE t.data.toList = 0
    · rw [hy] at h2
      have hls := (valE_zero.1 hz).1
      have hlt := (valE_zero.1 hy).1
      rw [hsz] at hls
      rw [htz] at hlt
      have hcut := fun (u : U) (hu : u ∈ unitsA s.data.toList 0) => valE_cut hz hu
      have hj := valE_join hz hy
      rw [hsz, htz] at hj
      have hcat : (s ++ t).data.toList = s.data.toList ++ t.data.toList := by rw [ByteArray.data_append, Array.toList_append]
      have h3 := fun W => validValue_any (s ++ t) (by rw [ByteArray.size_append]; unfold maxLen; omega) W
      rw [hcat, hj] at h3
      have h4 := fun W => at_any s (by omega) i W
      have z1 : ¬ (9223372036854775807 < s.size + t.size) := by omega
      obtain ⟨R, hR⟩ : ∃ R, atU s i = R := ⟨_, rfl⟩
      rw [hR] at h4
      have H1 := Lib.hid h1
      have H2 := Lib.hid h2
      have H3 := Lib.hid h3
      have H4 := Lib.hid h4
      unfold maxLen at hs ht
      cases R with
      | none =>
        clear h1 h2 h3 h4 hcat hj hcut hR hz hy
        by_cases hbig : 120 < s.size + t.size
        · rw [if_pos hbig] at H3
          have hbi : (120 : Int) < (s.size : Int) + (t.size : Int) := by omega
          go_enter Tryz.func5, Tryz.ntmps5
          go_wp2_with fail
          refine (H1.out _).mono ?_
          rintro e w1 ⟨rfl, hb1⟩
          have HB1 := Lib.hid hb1
          clear hb1
          go_wp2_with fail
          refine (H2.out _).mono ?_
          rintro e w2 ⟨rfl, hb2⟩
          have HB2 := Lib.hid (HB1.out.trans (hb2.mono HB1.out.size))
          clear hb2
          go_wp2_with fail
          refine (H4.out _).mono ?_
          rintro e w3 ⟨rfl, hb3⟩
          have HB3 := Lib.hid (HB2.out.trans (hb3.mono HB2.out.size))
          clear hb3
          simp only [atV]
          go_wp2_with fail
          refine (H3.out _).mono ?_
          rintro e w6 ⟨rfl, hb6⟩
          have HB6 := Lib.hid (HB3.out.trans (hb6.mono HB3.out.size))
          clear hb6
          go_wp2_with fail
          refine (H5.out _ (HM.out.below HB6.out (Nat.le_refl _))).mono ?_
          rintro e w7 ⟨rfl, hb7⟩
          have HB7 := Lib.hid (HB6.out.trans (hb7.mono HB6.out.size))
          clear hb7
          go_wp2
          go_ret
          exact ⟨rfl, HB7.out⟩
        · rw [if_neg hbig] at H3
          have hbi : (s.size : Int) + (t.size : Int) ≤ 120 := by omega
          go_enter Tryz.func5, Tryz.ntmps5
          go_wp2_with fail
          refine (H1.out _).mono ?_
          rintro e w1 ⟨rfl, hb1⟩
          have HB1 := Lib.hid hb1
          clear hb1
          go_wp2_with fail
          refine (H2.out _).mono ?_
          rintro e w2 ⟨rfl, hb2⟩
          have HB2 := Lib.hid (HB1.out.trans (hb2.mono HB1.out.size))
          clear hb2
          go_wp2_with fail
          refine (H4.out _).mono ?_
          rintro e w3 ⟨rfl, hb3⟩
          have HB3 := Lib.hid (HB2.out.trans (hb3.mono HB2.out.size))
          clear hb3
          simp only [atV]
          go_wp2_with fail
          refine (H3.out _).mono ?_
          rintro e w6 ⟨rfl, hb6⟩
          have HB6 := Lib.hid (HB3.out.trans (hb6.mono HB3.out.size))
          clear hb6
          go_wp2_with fail
          refine (H5.out _ (HM.out.below HB6.out (Nat.le_refl _))).mono ?_
          rintro e w7 ⟨rfl, hb7⟩
          have HB7 := Lib.hid (HB6.out.trans (hb7.mono HB6.out.size))
          clear hb7
          go_wp2
          go_ret
          exact ⟨rfl, HB7.out⟩
      | some u =>
        have hu : u ∈ unitsA s.data.toList 0 := by
          unfold atU at hR
          split at hR
          · exact List.mem_of_getElem? hR
          · cases hR
        obtain ⟨p1, p2, p3⟩ := hcut u hu
        rw [hsz] at p1
        obtain ⟨uc, up, uw⟩ := u
        simp only at p1 p2 p3
        obtain ⟨X, hX⟩ : ∃ X, s.extract 0 up = X := ⟨_, rfl⟩
        obtain ⟨Y, hY⟩ : ∃ Y, s.extract up s.size = Y := ⟨_, rfl⟩
        have hXd : X.data.toList = s.data.toList.take up := by rw [← hX, Lib.extract_upto]
        have hYd : Y.data.toList = s.data.toList.drop up := by
          rw [← hY, Lib.extract_eq]
          exact List.take_of_length_le (by rw [List.length_drop, hsz]; exact Nat.le_refl _)
        have h6 := fun W => validValue_any X (by rw [Lib.size_eq, hXd, List.length_take]; unfold maxLen; omega) W
        have h7 := fun W => validValue_any Y (by rw [Lib.size_eq, hYd, List.length_drop]; unfold maxLen; omega) W
        rw [hXd, p2] at h6
        rw [hYd, p3] at h7
        have H6 := Lib.hid h6
        have H7 := Lib.hid h7
        clear h1 h2 h3 h4 h6 h7 hcat hj hcut hR hz hy hu hXd hYd p2 p3
        by_cases hbig : 120 < s.size + t.size
        · rw [if_pos hbig] at H3
          have hbi : (120 : Int) < (s.size : Int) + (t.size : Int) := by omega
          go_enter Tryz.func5, Tryz.ntmps5
          go_wp2_with fail
          refine (H1.out _).mono ?_
          rintro e w1 ⟨rfl, hb1⟩
          have HB1 := Lib.hid hb1
          clear hb1
          go_wp2_with fail
          refine (H2.out _).mono ?_
          rintro e w2 ⟨rfl, hb2⟩
          have HB2 := Lib.hid (HB1.out.trans (hb2.mono HB1.out.size))
          clear hb2
          go_wp2_with fail
          refine (H4.out _).mono ?_
          rintro e w3 ⟨rfl, hb3⟩
          have HB3 := Lib.hid (HB2.out.trans (hb3.mono HB2.out.size))
          clear hb3
          simp only [atV]
          go_wp2_with fail
          refine (H6.out _).mono ?_
          rintro e w4 ⟨rfl, hb4⟩
          have HB3 := Lib.hid (HB3.out.trans (hb4.mono HB3.out.size))
          clear hb4
          go_wp2_with fail
          refine (H7.out _).mono ?_
          rintro e w5 ⟨rfl, hb5⟩
          have HB3 := Lib.hid (HB3.out.trans (hb5.mono HB3.out.size))
          clear hb5
          go_wp2_with fail
          refine (H3.out _).mono ?_
          rintro e w6 ⟨rfl, hb6⟩
          have HB6 := Lib.hid (HB3.out.trans (hb6.mono HB3.out.size))
          clear hb6
          go_wp2_with fail
          refine (H5.out _ (HM.out.below HB6.out (Nat.le_refl _))).mono ?_
          rintro e w7 ⟨rfl, hb7⟩
          have HB7 := Lib.hid (HB6.out.trans (hb7.mono HB6.out.size))
          clear hb7
          go_wp2
          go_ret
          exact ⟨rfl, HB7.out⟩
        · rw [if_neg hbig] at H3
          have hbi : (s.size : Int) + (t.size : Int) ≤ 120 := by omega
          go_enter Tryz.func5, Tryz.ntmps5
          go_wp2_with fail
          refine (H1.out _).mono ?_
          rintro e w1 ⟨rfl, hb1⟩
          have HB1 := Lib.hid hb1
          clear hb1
          go_wp2_with fail
          refine (H2.out _).mono ?_
          rintro e w2 ⟨rfl, hb2⟩
          have HB2 := Lib.hid (HB1.out.trans (hb2.mono HB1.out.size))
          clear hb2
          go_wp2_with fail
          refine (H4.out _).mono ?_
          rintro e w3 ⟨rfl, hb3⟩
          have HB3 := Lib.hid (HB2.out.trans (hb3.mono HB2.out.size))
          clear hb3
          simp only [atV]
          go_wp2_with fail
          refine (H6.out _).mono ?_
          rintro e w4 ⟨rfl, hb4⟩
          have HB3 := Lib.hid (HB3.out.trans (hb4.mono HB3.out.size))
          clear hb4
          go_wp2_with fail
          refine (H7.out _).mono ?_
          rintro e w5 ⟨rfl, hb5⟩
          have HB3 := Lib.hid (HB3.out.trans (hb5.mono HB3.out.size))
          clear hb5
          go_wp2_with fail
          refine (H3.out _).mono ?_
          rintro e w6 ⟨rfl, hb6⟩
          have HB6 := Lib.hid (HB3.out.trans (hb6.mono HB3.out.size))
          clear hb6
          go_wp2_with fail
          refine (H5.out _ (HM.out.below HB6.out (Nat.le_refl _))).mono ?_
          rintro e w7 ⟨rfl, hb7⟩
          have HB7 := Lib.hid (HB6.out.trans (hb7.mono HB6.out.size))
          clear hb7
          go_wp2
          go_ret
          exact ⟨rfl, HB7.out⟩
    · have H1 := Lib.hid h1
      obtain ⟨e2, he2⟩ : ∃ e2, valE t.data.toList = e2 := ⟨_, rfl⟩
      rw [he2] at h2 hy
      have H2 := Lib.hid h2
      have hyi : ¬ ((e2 : Int) = 0) := by omega
      clear h1 h2 he2
      go_enter Tryz.func5, Tryz.ntmps5
      go_wp2_with fail
      refine (H1.out _).mono ?_
      rintro e w1 ⟨rfl, hb1⟩
      have HB1 := Lib.hid hb1
      clear hb1
      go_wp2_with fail
      refine (H2.out _).mono ?_
      rintro e w2 ⟨rfl, hb2⟩
      have HB2 := Lib.hid (HB1.out.trans (hb2.mono HB1.out.size))
      clear hb2
      go_wp2
      go_ret
      exact ⟨rfl, HB2.out⟩
  · obtain ⟨e1, he1⟩ : ∃ e1, valE s.data.toList = e1 := ⟨_, rfl⟩
    rw [he1] at h1 hz
    have H1 := Lib.hid h1
    have hyi : ¬ ((e1 : Int) = 0) := by omega
    clear h1 h2 he1
    go_enter Tryz.func5, Tryz.ntmps5
    go_wp2_with fail
    refine (H1.out _).mono ?_
    rintro e w1 ⟨rfl, hb1⟩
    have HB1 := Lib.hid hb1
    clear hb1
    go_wp2
    go_ret
    exact ⟨rfl, HB1.out⟩

theorem own : ownKnob Tryz.prog.godebug = none := by kernel_rfl

set_option maxRecDepth 100000 in
theorem lifted (os : Os) (started : os.Started) (H : Type) (enc : TypeId × Value → H) :
    ReturnsInHanded {} Tryz.checked os 5 .any (fun w args => (Rows.markupPrefixesSpec.pre enc Tryz.prog Tryz.f5 [] false w args ∧ laidMetH Tryz.prog Rows.markupPrefixesRow.laid w) ∧ sizedMet enc Tryz.prog Tryz.f5 (OpenSpec.ofChange Rows.markupPrefixesSpec) false w args)
      (Rows.markupPrefixesSpec.post enc Tryz.prog Tryz.f5 false true false false) := by
  refine returnsInHanded_of_change_and (C := Tryz.checked) (X := fun w _ => laidMetH Tryz.prog Rows.markupPrefixesRow.laid w) (fun _ _ _ hh h => h.of_heap hh) own started (by kernel_rfl) Tryz.func5
    (ChangeSpec.witness_shaped (enc := enc) (C := Tryz.checked) (os := os) (X := fun w _ => laidMetH Tryz.prog Rows.markupPrefixesRow.laid w) false (World.laidAll Tryz.prog os laidAll) #[.string ⟨#[]⟩, .string ⟨#[]⟩, .int .i64 0] 8 (World.laidAll_os _ _ _) (all_shaped os) (by kernel_rfl) (by kernel_rfl) (by kernel_rfl) (all_met os _)) ?_
  intro W base args ds gs before hval0 hW _ _ hL _
  have hval : ∀ (j : Nat) t v, Tryz.f5.params[j]? = some t → args[j]? = some v → Value.okWide Tryz.prog W .any base t v := hval0
  have hW' := hW
  have hplt : ∀ x ∈ before, x.block < W.heap.size := fun x hx => hW.lt x hx
  obtain ⟨p, q, hA0, hV, rfl, hfz, hnd⟩ := hW
  have hA : DataW.TrodAll enc Tryz.prog W 0 (fun _ => true) true Tryz.f5.params.toList args.toList ds p := hA0
  rw [Tryz.params5] at hA hval
  obtain ⟨v0, vs0, d0, ds0, p0, q0, hargs, rfl, rfl, h0, r0⟩ := trodAll_cons hA
  obtain ⟨v1, vs1, d1, ds1, p1, q1, rfl, rfl, rfl, h1, r1⟩ := trodAll_cons r0
  obtain ⟨v2, vs2, d2, ds2, p2, q2, rfl, rfl, rfl, h2, r2⟩ := trodAll_cons r1
  obtain ⟨rfl, rfl, rfl⟩ := trodAll_nil r2
  obtain rfl : args = #[v0, v1, v2] := by cases args; simp_all
  obtain ⟨rfl, rfl⟩ := trodVars_none hV
  obtain ⟨a0, rfl, m0⟩ := open_str (hval 0 9 v0 rfl rfl) h0
  obtain ⟨a1, rfl, m1⟩ := open_str (hval 1 9 v1 rfl rfl) h1
  obtain ⟨x2, rfl, m2, n2⟩ := open_i64 (hval 2 3 v2 rfl rfl) h2
  clear hA0 hval0
  refine (walk a0 m0 a1 m1 x2 m2 n2 (mem_of_laid hL)).mono fun e W' ⟨he, bel⟩ => ?_
  subst he
  exact ⟨_, rfl, _, _, _, [], _, [], hW', trodAll_mk1 (shut_bool Tryz.underlying4 _), (trodAll_cons_mk (Below.trod Tryz.laidOut (by kernel_rfl) (of_decide_eq_true (by kernel_rfl)) h0 bel (fun x hx => hplt x (by simp [hx]))) (trodAll_cons_mk (Below.trod Tryz.laidOut (by kernel_rfl) (of_decide_eq_true (by kernel_rfl)) h1 bel (fun x hx => hplt x (by simp [hx]))) (trodAll_cons_mk (Below.trod Tryz.laidOut (by kernel_rfl) (of_decide_eq_true (by kernel_rfl)) h2 bel (fun x hx => hplt x (by simp [hx]))) trodAll_mk0))), rfl, World.keptBut_mono (fun x hx => ⟨hx, Or.inr (by simpa using hx)⟩) (bel.frame (· ∈ _)), fun h => by cases h⟩

theorem over : Rows.markupPrefixesRow.holds Tryz.pinned (OpenSpec.ofChange Rows.markupPrefixesSpec) :=
  OpenClaim.holds_of_wide 5 Tryz.f5 rfl rfl rfl rfl rfl rfl rfl ⟨rfl, rfl, rfl, rfl, rfl⟩ rfl rfl rfl rfl rfl (by kernel_rfl) Tryz.func5 (by kernel_rfl)
    (of_decide_eq_true (by kernel_rfl)) (by unfold Func.isWrapper; first | (rw [if_pos (by decide +kernel)]; kernel_rfl) | (rw [if_neg (by decide +kernel)]; exact ⟨rfl, rfl⟩))
    (fun os started H enc _ => lifted os started H enc)

/-- THE STATEMENT: the tied card. -/
theorem proved : Rows.MarkupPrefixesCardSaid :=
  Claim7.holds_tied_plain_at .later [] Rows.markupPrefixesCard.laidKinds true Rows.markupPrefixesCard.stood.harness Rows.markupPrefixesCard.stood.looks
    over (fun _ h => by cases h) (by kernel_rfl) (fun _ h => by cases h) markupPrefixes_row_tie rfl ⟨rfl, rfl⟩ (by kernel_rfl) rfl
    (fun f fn hf hfn => by
      obtain rfl : f = 5 := Option.some.inj ((show Tryz.prog.funcNamed "corpora/corporalaw04.MarkupPrefixes" = some 5 by kernel_rfl).symm.trans hf) |>.symm
      obtain rfl : fn = Tryz.f5 := (Option.some.inj (Tryz.func5.symm.trans hfn)).symm
      exact ⟨by kernel_rfl, fun j t ht => by
        rw [Tryz.params5] at ht
        have hm : t ∈ [9, 9, 3] := by simpa using Array.mem_of_getElem? ht
        have hall : ([9, 9, 3].all fun u => !Tryz.prog.wantsStandIn u) = true := by kernel_rfl
        exact (show Tryz.prog.wantsStandIn t = false by simpa using List.all_eq_true.1 hall t hm)⟩)
    (by kernel_rfl)
end Go.Proofs.YtihekappojkgiaaGreatDoor.markupPrefixes
