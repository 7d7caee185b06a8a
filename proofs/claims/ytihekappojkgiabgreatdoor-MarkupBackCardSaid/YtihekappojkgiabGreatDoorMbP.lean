/-
  MarkupBack is proved: for every string and every string the call of the law returns true, and each argument reads afterwards as it read before. The package-level variables that the row lists hold what the program's text lays in them: this is tied to the text.
-/
import Derived.Test.YtihekappojkgiabGreatDoorRows
import Derived.Test.YtihekappojkgiabGreatDoorCards
import Derived.Test.YtihekappojkgiabGreatDoorTie
import Derived.Test.YtihekappojkgiabGreatDoorMkL
import Derived.ProofKit
import Derived.OpenShut
import Derived.Carry
import Derived.SevenTiedAt
import Derived.LaidMore
import Derived.Stop.Joined
namespace Go.Proofs.YtihekappojkgiabGreatDoor.markupBack
open Go.ChangeShapes Go.WideShapes Go.ChangeAt Go.RowKit Go.Shelf Go.Lib
set_option linter.unusedVariables false

theorem walk (s : ByteArray) (hs : s.size ≤ maxLen) (t : ByteArray) (ht : t.size ≤ maxLen) {w : World} (m : Mem w) :
    Calls Tryz.prog 3 #[.string s, .string t] w fun e w1 => e = .returned (.bool true) ∧ Below w.heap.size w w1 := by
  unfold maxLen at hs ht
  have HM := Lib.hid m
  clear m
  by_cases hl : s.size ≤ 300
  · by_cases hlt : t.size ≤ 300
    · have h1 := fun (W : World) (h : Mem W) => escapeAll_any s (by omega) W h.named
      have h2 := fun (W : World) (h : Mem W) => escapeAll_any t (by omega) W h.named
      have h3 := fun (W : World) (h : Mem W) => escapeAll_any (s ++ t) (by rw [ByteArray.size_append]; omega) W h.named
      have hcat : (⟨(esc (s ++ t).data.toList).toArray⟩ : ByteArray) = ⟨(esc s.data.toList).toArray⟩ ++ ⟨(esc t.data.toList).toArray⟩ := by
        have hd : (s ++ t).data.toList = s.data.toList ++ t.data.toList := by
          rw [ByteArray.data_append, Array.toList_append]
        rw [hd, esc_app, ByteArray.mk_append_mk]
      have hl1 := esc_len s.data.toList
      have hl2 := esc_len t.data.toList
      rw [← Lib.size_eq] at hl1 hl2
      have h4 := fun (W : World) (h : Mem W) => unescape_any ⟨(esc s.data.toList).toArray⟩ (by show (esc s.data.toList).length ≤ _; omega) W h
      have hun : unV (unesc (⟨(esc s.data.toList).toArray⟩ : ByteArray).data.toList) = .tuple #[.string s, .int .i64 0, .int .i64 0] := by
        have e : (⟨(esc s.data.toList).toArray⟩ : ByteArray).data.toList = esc s.data.toList := rfl
        rw [e, unesc_esc]
        unfold unV
        simp only [Lib.mk_data]
      rw [hun] at h4
      rw [hcat] at h3
      obtain ⟨q1, hq1⟩ : ∃ q : ByteArray, ⟨(esc s.data.toList).toArray⟩ = q := ⟨_, rfl⟩
      obtain ⟨q2, hq2⟩ : ∃ q : ByteArray, ⟨(esc t.data.toList).toArray⟩ = q := ⟨_, rfl⟩
      have hz1 : q1.size ≤ 6000 := by rw [← hq1]; show (esc s.data.toList).length ≤ _; omega
      have hz2 : q2.size ≤ 6000 := by rw [← hq2]; show (esc t.data.toList).length ≤ _; omega
      rw [hq1] at h1 h3 h4
      rw [hq2] at h2 h3
      have H1 := Lib.hid h1
      have H2 := Lib.hid h2
      have H3 := Lib.hid h3
      have H4 := Lib.hid h4
      have H5 := Lib.hid (fun (W : World) (h : Mem W) => awake_any h)
      have z1 : ¬ (9223372036854775807 < s.size + t.size) := by omega
      have z2 : ¬ (9223372036854775807 < q1.size + q2.size) := by omega
      clear h1 h2 h3 h4 hcat hl1 hl2 hun hq1 hq2
      go_enter Tryz.func3, Tryz.ntmps3
      go_wp2_with fail
      refine (H1.out _ HM.out).mono ?_
      rintro e w1 ⟨rfl, hb1⟩
      have HB1 := Lib.hid hb1
      clear hb1
      go_wp2_with fail
      refine (H4.out _ (HM.out.below HB1.out (Nat.le_refl _))).mono ?_
      rintro e w2 ⟨rfl, hb2⟩
      have HB2 := Lib.hid (HB1.out.trans (hb2.mono HB1.out.size))
      clear hb2
      go_wp2_with fail
      refine (H3.out _ (HM.out.below HB2.out (Nat.le_refl _))).mono ?_
      rintro e w3 ⟨rfl, hb3⟩
      have HB3 := Lib.hid (HB2.out.trans (hb3.mono HB2.out.size))
      clear hb3
      go_wp2_with fail
      refine (H1.out _ (HM.out.below HB3.out (Nat.le_refl _))).mono ?_
      rintro e w4 ⟨rfl, hb4⟩
      have HB4 := Lib.hid (HB3.out.trans (hb4.mono HB3.out.size))
      clear hb4
      go_wp2_with fail
      refine (H2.out _ (HM.out.below HB4.out (Nat.le_refl _))).mono ?_
      rintro e w5 ⟨rfl, hb5⟩
      have HB5 := Lib.hid (HB4.out.trans (hb5.mono HB4.out.size))
      clear hb5
      go_wp2_with fail
      refine (H5.out _ (HM.out.below HB5.out (Nat.le_refl _))).mono ?_
      rintro e w6 ⟨rfl, hb6⟩
      have HB6 := Lib.hid (HB5.out.trans (hb6.mono HB5.out.size))
      clear hb6
      go_wp2
      go_ret
      exact ⟨rfl, HB6.out⟩
    · have hl2 : (300 : Int) < t.size := by omega
      go_enter Tryz.func3, Tryz.ntmps3
      go_wp2
      go_ret
      exact ⟨rfl, Below.refl _ _⟩
  · have hl2 : (300 : Int) < s.size := by omega
    go_enter Tryz.func3, Tryz.ntmps3
    go_wp2
    go_ret
    exact ⟨rfl, Below.refl _ _⟩

theorem own : ownKnob Tryz.prog.godebug = none := by kernel_rfl

set_option maxRecDepth 100000 in
theorem lifted (os : Os) (started : os.Started) (H : Type) (enc : TypeId × Value → H) :
    ReturnsInHanded {} Tryz.checked os 3 .any (fun w args => (Rows.markupBackSpec.pre enc Tryz.prog Tryz.f3 [] false w args ∧ laidMetH Tryz.prog Rows.markupBackRow.laid w) ∧ sizedMet enc Tryz.prog Tryz.f3 (OpenSpec.ofChange Rows.markupBackSpec) false w args)
      (Rows.markupBackSpec.post enc Tryz.prog Tryz.f3 false true false false) := by
  refine returnsInHanded_of_change_and (C := Tryz.checked) (X := fun w _ => laidMetH Tryz.prog Rows.markupBackRow.laid w) (fun _ _ _ hh h => h.of_heap hh) own started (by kernel_rfl) Tryz.func3
    (ChangeSpec.witness_shaped (enc := enc) (C := Tryz.checked) (os := os) (X := fun w _ => laidMetH Tryz.prog Rows.markupBackRow.laid w) false (World.laidAll Tryz.prog os laidAll) #[.string ⟨#[]⟩, .string ⟨#[]⟩] 8 (World.laidAll_os _ _ _) (all_shaped os) (by kernel_rfl) (by kernel_rfl) (by kernel_rfl) (all_met os _)) ?_
  intro W base args ds gs before hval0 hW _ _ hL _
  have hval : ∀ (j : Nat) t v, Tryz.f3.params[j]? = some t → args[j]? = some v → Value.okWide Tryz.prog W .any base t v := hval0
  have hW' := hW
  have hplt : ∀ x ∈ before, x.block < W.heap.size := fun x hx => hW.lt x hx
  obtain ⟨p, q, hA0, hV, rfl, hfz, hnd⟩ := hW
  have hA : DataW.TrodAll enc Tryz.prog W 0 (fun _ => true) true Tryz.f3.params.toList args.toList ds p := hA0
  rw [Tryz.params3] at hA hval
  obtain ⟨v0, vs0, d0, ds0, p0, q0, hargs, rfl, rfl, h0, r0⟩ := trodAll_cons hA
  obtain ⟨v1, vs1, d1, ds1, p1, q1, rfl, rfl, rfl, h1, r1⟩ := trodAll_cons r0
  obtain ⟨rfl, rfl, rfl⟩ := trodAll_nil r1
  obtain rfl : args = #[v0, v1] := by cases args; simp_all
  obtain ⟨rfl, rfl⟩ := trodVars_none hV
  obtain ⟨a0, rfl, m0⟩ := open_str (hval 0 9 v0 rfl rfl) h0
  obtain ⟨a1, rfl, m1⟩ := open_str (hval 1 9 v1 rfl rfl) h1
  clear hA0 hval0
  refine (walk a0 m0 a1 m1 (mem_of_laid hL)).mono fun e W' ⟨he, bel⟩ => ?_
  subst he
  exact ⟨_, rfl, _, _, _, [], _, [], hW', trodAll_mk1 (shut_bool Tryz.underlying4 _), (trodAll_cons_mk (Below.trod Tryz.laidOut (by kernel_rfl) (of_decide_eq_true (by kernel_rfl)) h0 bel (fun x hx => hplt x (by simp [hx]))) (trodAll_cons_mk (Below.trod Tryz.laidOut (by kernel_rfl) (of_decide_eq_true (by kernel_rfl)) h1 bel (fun x hx => hplt x (by simp [hx]))) trodAll_mk0)), rfl, World.keptBut_mono (fun x hx => ⟨hx, Or.inr (by simpa using hx)⟩) (bel.frame (· ∈ _)), fun h => by cases h⟩

theorem over : Rows.markupBackRow.holds Tryz.pinned (OpenSpec.ofChange Rows.markupBackSpec) :=
  OpenClaim.holds_of_wide 3 Tryz.f3 rfl rfl rfl rfl rfl rfl rfl ⟨rfl, rfl, rfl, rfl, rfl⟩ rfl rfl rfl rfl rfl (by kernel_rfl) Tryz.func3 (by kernel_rfl)
    (of_decide_eq_true (by kernel_rfl)) (by unfold Func.isWrapper; first | (rw [if_pos (by decide +kernel)]; kernel_rfl) | (rw [if_neg (by decide +kernel)]; exact ⟨rfl, rfl⟩))
    (fun os started H enc _ => lifted os started H enc)

/-- THE STATEMENT: the tied card. -/
theorem proved : Rows.MarkupBackCardSaid :=
  Claim7.holds_tied_plain_at .later [] Rows.markupBackCard.laidKinds true Rows.markupBackCard.stood.harness Rows.markupBackCard.stood.looks
    over (fun _ h => by cases h) (by kernel_rfl) (fun _ h => by cases h) markupBack_row_tie rfl ⟨rfl, rfl⟩ (by kernel_rfl) rfl
    (fun f fn hf hfn => by
      obtain rfl : f = 3 := Option.some.inj ((show Tryz.prog.funcNamed "corpora/corporalaw04.MarkupBack" = some 3 by kernel_rfl).symm.trans hf) |>.symm
      obtain rfl : fn = Tryz.f3 := (Option.some.inj (Tryz.func3.symm.trans hfn)).symm
      exact ⟨by kernel_rfl, fun j t ht => by
        rw [Tryz.params3] at ht
        have hm : t ∈ [9, 9] := by simpa using Array.mem_of_getElem? ht
        have hall : ([9, 9].all fun u => !Tryz.prog.wantsStandIn u) = true := by kernel_rfl
        exact (show Tryz.prog.wantsStandIn t = false by simpa using List.all_eq_true.1 hall t hm)⟩)
    (by kernel_rfl)
end Go.Proofs.YtihekappojkgiabGreatDoor.markupBack
