/-
  MarkupStays is proved: for every string and every string the call of the law returns true, and each argument reads afterwards as it read before. The package-level variables that the row lists hold what the program's text lays in them: this is tied to the text.
-/
import Derived.Test.YtihekappojkgiabGreatDoorRows
import Derived.Test.YtihekappojkgiabGreatDoorCards
import Derived.Test.YtihekappojkgiabGreatDoorTie
import Derived.Test.YtihekappojkgiabGreatDoorMkL
import Derived.Test.YtihekappojkgiabGreatDoorMsM
import Derived.ProofKit
import Derived.OpenShut
import Derived.Carry
import Derived.SevenTiedAt
import Derived.LaidMore
import Derived.Stop.Joined
namespace Go.Proofs.YtihekappojkgiabGreatDoor.markupStays
open Go.ChangeShapes Go.WideShapes Go.ChangeAt Go.RowKit Go.Shelf Go.Lib
set_option linter.unusedVariables false

theorem walk (s : ByteArray) (hs : s.size ≤ maxLen) (t : ByteArray) (ht : t.size ≤ maxLen) {w : World} (m : Mem w) :
    Calls Tryz.prog 5 #[.string s, .string t] w fun e w1 => e = .returned (.bool true) ∧ Below w.heap.size w w1 := by
  unfold maxLen at hs ht
  have HM := Lib.hid m
  clear m
  by_cases hl : s.size ≤ 1000
  · by_cases hlt : t.size ≤ 300
    · have hp := parseTag_any HM.out s (by omega)
      have H5 := Lib.hid (fun (W : World) (h : Mem W) => awake_any h)
      have hcat : (s ++ ⟨#[62]⟩ ++ t).data.toList = s.data.toList ++ 62 :: t.data.toList := by
        rw [ByteArray.data_append, ByteArray.data_append, Array.toList_append, Array.toList_append, List.append_assoc]
        rfl
      have hpc := fun (W : World) (h : Mem W) => parseTag_any h (s ++ ⟨#[62]⟩ ++ t) (by
        rw [ByteArray.size_append, ByteArray.size_append]
        show s.size + 1 + t.size ≤ _
        omega)
      rw [hcat] at hpc
      have hkeep := fun a e => tag_keep (L := s.data.toList) (T := t.data.toList) (a := a) (e := e)
      obtain ⟨R, hR⟩ : ∃ R, pTag s.data.toList = R := ⟨_, rfl⟩
      rw [hR] at hp hkeep
      have hsz : s.data.toList.length = s.size := (Lib.size_eq s).symm
      rw [hsz] at hkeep
      have HP := Lib.hid hp
      have HPC := Lib.hid hpc
      clear hp hpc hcat hR hsz
      have z1 : ¬ (9223372036854775807 < s.size + 1) := by omega
      have z2 : ¬ (9223372036854775807 < s.size + 1 + t.size) := by omega
      cases R with
      | ok tg i =>
        clear hkeep
        go_enter Tryz.func5, Tryz.ntmps5
        go_wp2_with fail
        refine HP.out.mono ?_
        rintro e w1 ⟨hb1, v, rfl, ks, rfl, hk⟩
        obtain ⟨A, cap, rfl, _⟩ := hk
        have HB1 := Lib.hid (hb1.trans (((Below.refl _ w1).alloc (Nat.le_refl _) (.cells #[.bool tg.close, .string ⟨tg.name.toArray⟩, .slice A (sortP tg.keys).length cap] 30)).mono hb1.size))
        clear hb1
        go_wp2_with fail
        refine (H5.out _ (HM.out.below HB1.out (Nat.le_refl _))).mono ?_
        rintro e w6 ⟨rfl, hb6⟩
        have HB6 := Lib.hid (HB1.out.trans (hb6.mono HB1.out.size))
        clear hb6
        go_wp2
        go_ret
        exact ⟨rfl, HB6.out⟩
      | err a er =>
        by_cases hz0 : er = 0
        · subst hz0
          clear hkeep
          go_enter Tryz.func5, Tryz.ntmps5
          go_wp2_with fail
          refine HP.out.mono ?_
          rintro e w1 ⟨hb1, v, rfl, rfl⟩
          have HB1 := Lib.hid (hb1.trans (((Below.refl _ w1).alloc (Nat.le_refl _) (.cells #[.bool false, .string ⟨#[]⟩, .slice none 0 0] 30)).mono hb1.size))
          clear hb1
          go_wp2_with fail
          refine (H5.out _ (HM.out.below HB1.out (Nat.le_refl _))).mono ?_
          rintro e w6 ⟨rfl, hb6⟩
          have HB6 := Lib.hid (HB1.out.trans (hb6.mono HB1.out.size))
          clear hb6
          go_wp2
          go_ret
          exact ⟨rfl, HB6.out⟩
        by_cases hz1 : s.size ≤ a
        · clear hkeep
          have hzt : ((er : Int) == 0 || decide (s.size ≤ a)) = true := by
            simp
            omega
          have hz2 : ((er : Int) == 0) = false := by
            simp
            omega
          go_enter Tryz.func5, Tryz.ntmps5
          go_wp2_with fail
          refine HP.out.mono ?_
          rintro e w1 ⟨hb1, v, rfl, rfl⟩
          have HB1 := Lib.hid (hb1.trans (((Below.refl _ w1).alloc (Nat.le_refl _) (.cells #[.bool false, .string ⟨#[]⟩, .slice none 0 0] 30)).mono hb1.size))
          clear hb1
          go_wp2_with fail
          refine (H5.out _ (HM.out.below HB1.out (Nat.le_refl _))).mono ?_
          rintro e w6 ⟨rfl, hb6⟩
          have HB6 := Lib.hid (HB1.out.trans (hb6.mono HB1.out.size))
          clear hb6
          go_wp2
          go_ret
          exact ⟨rfl, HB6.out⟩
        · have hk := hkeep a er rfl (by omega)
          rw [hk] at HPC
          clear hkeep hk
          have hzt : ((er : Int) == 0 || decide (s.size ≤ a)) = false := by
            simp
            omega
          go_enter Tryz.func5, Tryz.ntmps5
          go_wp2_with fail
          refine HP.out.mono ?_
          rintro e w1 ⟨hb1, v, rfl, rfl⟩
          have HB1 := Lib.hid (hb1.trans (((Below.refl _ w1).alloc (Nat.le_refl _) (.cells #[.bool false, .string ⟨#[]⟩, .slice none 0 0] 30)).mono hb1.size))
          clear hb1
          go_wp2_with fail
          refine (HPC.out _ (HM.out.below HB1.out (Nat.le_refl _))).mono ?_
          rintro e w2 ⟨hb2, v, rfl, rfl⟩
          have hb12 := HB1.out.trans (hb2.mono HB1.out.size)
          have HB2 := Lib.hid (hb12.trans (((Below.refl _ w2).alloc (Nat.le_refl _) (.cells #[.bool false, .string ⟨#[]⟩, .slice none 0 0] 30)).mono hb12.size))
          clear hb2 hb12
          go_wp2_with fail
          refine (H5.out _ (HM.out.below HB2.out (Nat.le_refl _))).mono ?_
          rintro e w6 ⟨rfl, hb6⟩
          have HB6 := Lib.hid (HB2.out.trans (hb6.mono HB2.out.size))
          clear hb6
          go_wp2
          go_ret
          exact ⟨rfl, HB6.out⟩
    · have hl2 : (300 : Int) < t.size := by omega
      go_enter Tryz.func5, Tryz.ntmps5
      go_wp2
      go_ret
      exact ⟨rfl, Below.refl _ _⟩
  · have hl2 : (1000 : Int) < s.size := by omega
    go_enter Tryz.func5, Tryz.ntmps5
    go_wp2
    go_ret
    exact ⟨rfl, Below.refl _ _⟩

theorem own : ownKnob Tryz.prog.godebug = none := by kernel_rfl

set_option maxRecDepth 100000 in
theorem lifted (os : Os) (started : os.Started) (H : Type) (enc : TypeId × Value → H) :
    ReturnsInHanded {} Tryz.checked os 5 .any (fun w args => (Rows.markupStaysSpec.pre enc Tryz.prog Tryz.f5 [] false w args ∧ laidMetH Tryz.prog Rows.markupStaysRow.laid w) ∧ sizedMet enc Tryz.prog Tryz.f5 (OpenSpec.ofChange Rows.markupStaysSpec) false w args)
      (Rows.markupStaysSpec.post enc Tryz.prog Tryz.f5 false true false false) := by
  refine returnsInHanded_of_change_and (C := Tryz.checked) (X := fun w _ => laidMetH Tryz.prog Rows.markupStaysRow.laid w) (fun _ _ _ hh h => h.of_heap hh) own started (by kernel_rfl) Tryz.func5
    (ChangeSpec.witness_shaped (enc := enc) (C := Tryz.checked) (os := os) (X := fun w _ => laidMetH Tryz.prog Rows.markupStaysRow.laid w) false (World.laidAll Tryz.prog os laidAll) #[.string ⟨#[]⟩, .string ⟨#[]⟩] 8 (World.laidAll_os _ _ _) (all_shaped os) (by kernel_rfl) (by kernel_rfl) (by kernel_rfl) (all_met os _)) ?_
  intro W base args ds gs before hval0 hW _ _ hL _
  have hval : ∀ (j : Nat) t v, Tryz.f5.params[j]? = some t → args[j]? = some v → Value.okWide Tryz.prog W .any base t v := hval0
  have hW' := hW
  have hplt : ∀ x ∈ before, x.block < W.heap.size := fun x hx => hW.lt x hx
  obtain ⟨p, q, hA0, hV, rfl, hfz, hnd⟩ := hW
  have hA : DataW.TrodAll enc Tryz.prog W 0 (fun _ => true) true Tryz.f5.params.toList args.toList ds p := hA0
  rw [Tryz.params5] at hA hval
  obtain ⟨v0, vs0, d0, ds0, p0, q0, hargs, rfl, rfl, h0, r0⟩ := trodAll_cons hA
  obtain ⟨v1, vs1, d1, ds1, p1, q1, rfl, rfl, rfl, h1, r1⟩ := trodAll_cons r0
  obtain ⟨rfl, rfl, rfl⟩ := trodAll_nil r1
  obtain rfl : args = #[v0, v1] := by cases args; simp_all
  obtain ⟨rfl, rfl⟩ := trodVars_none hV
  obtain ⟨a0, rfl, m0⟩ := open_str (hval 0 9 v0 rfl rfl) h0
  obtain ⟨a1, rfl, m1⟩ := open_str (hval 1 9 v1 rfl rfl) h1
  clear hA0 hval0
  refine (walk a0 m0 a1 m1 (mem_of_laid hL)).mono fun e W' ⟨he, bel⟩ => ?_
  subst he
  exact ⟨_, rfl, _, _, _, [], _, [], hW', trodAll_mk1 (shut_bool Tryz.underlying4 _), (trodAll_cons_mk (Below.trod Tryz.laidOut (by kernel_rfl) (of_decide_eq_true (by kernel_rfl)) h0 bel (fun x hx => hplt x (by simp [hx]))) (trodAll_cons_mk (Below.trod Tryz.laidOut (by kernel_rfl) (of_decide_eq_true (by kernel_rfl)) h1 bel (fun x hx => hplt x (by simp [hx]))) trodAll_mk0)), rfl, World.keptBut_mono (fun x hx => ⟨hx, Or.inr (by simpa using hx)⟩) (bel.frame (· ∈ _)), fun h => by cases h⟩

theorem over : Rows.markupStaysRow.holds Tryz.pinned (OpenSpec.ofChange Rows.markupStaysSpec) :=
  OpenClaim.holds_of_wide 5 Tryz.f5 rfl rfl rfl rfl rfl rfl rfl ⟨rfl, rfl, rfl, rfl, rfl⟩ rfl rfl rfl rfl rfl (by kernel_rfl) Tryz.func5 (by kernel_rfl)
    (of_decide_eq_true (by kernel_rfl)) (by unfold Func.isWrapper; first | (rw [if_pos (by decide +kernel)]; kernel_rfl) | (rw [if_neg (by decide +kernel)]; exact ⟨rfl, rfl⟩))
    (fun os started H enc _ => lifted os started H enc)

/-- THE STATEMENT: the tied card. -/
theorem proved : Rows.MarkupStaysCardSaid :=
  Claim7.holds_tied_plain_at .later [] Rows.markupStaysCard.laidKinds true Rows.markupStaysCard.stood.harness Rows.markupStaysCard.stood.looks
    over (fun _ h => by cases h) (by kernel_rfl) (fun _ h => by cases h) markupStays_row_tie rfl ⟨rfl, rfl⟩ (by kernel_rfl) rfl
    (fun f fn hf hfn => by
      obtain rfl : f = 5 := Option.some.inj ((show Tryz.prog.funcNamed "corpora/corporalaw04.MarkupStays" = some 5 by kernel_rfl).symm.trans hf) |>.symm
      obtain rfl : fn = Tryz.f5 := (Option.some.inj (Tryz.func5.symm.trans hfn)).symm
      exact ⟨by kernel_rfl, fun j t ht => by
        rw [Tryz.params5] at ht
        have hm : t ∈ [9, 9] := by simpa using Array.mem_of_getElem? ht
        have hall : ([9, 9].all fun u => !Tryz.prog.wantsStandIn u) = true := by kernel_rfl
        exact (show Tryz.prog.wantsStandIn t = false by simpa using List.all_eq_true.1 hall t hm)⟩)
    (by kernel_rfl)
end Go.Proofs.YtihekappojkgiabGreatDoor.markupStays
