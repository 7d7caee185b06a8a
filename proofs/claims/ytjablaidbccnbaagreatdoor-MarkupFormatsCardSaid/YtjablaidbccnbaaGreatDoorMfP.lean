/-
  MarkupFormats is proved: for every tag the call of the law returns true, and each argument reads afterwards as it read before. The package-level variables that the row lists hold what the program's text lays in them: this is tied to the text.
-/
import Derived.Test.YtjablaidbccnbaaGreatDoorRows
import Derived.Test.YtjablaidbccnbaaGreatDoorCards
import Derived.Test.YtjablaidbccnbaaGreatDoorTie
import Derived.Test.YtjablaidbccnbaaGreatDoorMkL
import Derived.Test.YtjablaidbccnbaaGreatDoorOsM
import Derived.Test.YtjablaidbccnbaaGreatDoorLgM
import Derived.Test.YtjablaidbccnbaaGreatDoorFrM
import Derived.Test.YtjablaidbccnbaaGreatDoorOwM
import Derived.ProofKit
import Derived.OpenShut
import Derived.Carry
import Derived.SevenTiedAt
import Derived.LaidMore
import Derived.Stop.Joined
namespace Go.Proofs.YtjablaidbccnbaaGreatDoor.markupFormats
open Go.ChangeShapes Go.WideShapes Go.ChangeAt Go.RowKit Go.Shelf Go.Lib
set_option linter.unusedVariables false

theorem walk {w : World} (t : TagL) (kv : Value) (hk : Keys w kv t.keys) (hl : t.keys.length ≤ maxLen) (hn : t.name.length ≤ reachBytes) (hs : ∀ q ∈ t.keys, q.1.length ≤ reachBytes ∧ q.2.length ≤ reachBytes) (m : Mem w) :
    Calls Tryz.prog 4 #[.agg #[.bool t.close, .string ⟨t.name.toArray⟩, kv]] w fun e w1 => e = .returned (.bool true) ∧ Below w.heap.size w w1 := by
  unfold reachBytes at hn hs
  obtain ⟨A, cap, hv, hc, _⟩ := id hk
  obtain ⟨l, hll⟩ : ∃ l, t.keys.length = l := ⟨_, rfl⟩
  obtain ⟨c, hcl⟩ : ∃ c, t.close = c := ⟨_, rfl⟩
  obtain ⟨SN, hSN⟩ : ∃ S : ByteArray, (⟨t.name.toArray⟩ : ByteArray) = S := ⟨_, rfl⟩
  obtain ⟨FS, hFS⟩ : ∃ S : ByteArray, (⟨(formatS t).toArray⟩ : ByteArray) = S := ⟨_, rfl⟩
  obtain ⟨E, hE⟩ : ∃ E, checkT t = E := ⟨_, rfl⟩
  have hSz : SN.size = t.name.length := by rw [← hSN]; rfl
  rw [hll] at hv hc
  subst hv
  have hbV : Below w.heap.size w (w.alloc (.cells #[.bool c, .string SN, .slice A l cap] 24)) := (Below.refl _ w).alloc (Nat.le_refl _) _
  have hlg := large_any (w := w.alloc (.cells #[.bool c, .string SN, .slice A l cap] 24)) c SN (hk.below hbV) hl (by rw [hSz]; exact hn) hs
  have hlf := fun (h : largeB SN.size t.keys = false) => largeB_false h
  obtain ⟨R, hR⟩ : ∃ R, largeB SN.size t.keys = R := ⟨_, rfl⟩
  rw [hR] at hlg
  have h1 := fun (hb : t.name.length + totP t.keys ≤ 2000 ∧ t.keys.length ≤ 12) (W : World) (h : Mem W) (hK : Keys W (.slice A l cap) t.keys) => formatTag_any t h.named hK (by omega) (by omega) (fun p hp => by have := totP_le hp; omega)
  have h2 := fun (hb : t.name.length + totP t.keys ≤ 2000 ∧ t.keys.length ≤ 12) (W : World) (hK : Keys W (.slice A l cap) t.keys) => refFormat_any t hK (by omega) (by omega) (fun p hp => by have := totP_le hp; omega)
  simp only [hcl, hSN, hFS, hE] at h1 h2
  have h3 := fun (W : World) (h : Mem W) => awake_any h
  have hB := block_new w (.cells #[.bool c, .string SN, .slice A l cap] 24)
  have a0 := cell_of (i := 0) hB rfl
  have a1 := cell_of (i := 1) hB rfl
  have a2 := cell_of (i := 2) hB rfl
  rw [hcl, hSN]
  have HLG := Lib.hid hlg
  have HLF : Hid (R = false → t.name.length + totP t.keys ≤ 2000 ∧ t.keys.length ≤ 12) := Lib.hid (fun h => by have := hlf (hR.trans h); rw [hSz] at this; exact this)
  have H1 := Lib.hid h1
  have H2 := Lib.hid h2
  have H3 := Lib.hid h3
  have HM := Lib.hid m
  have HK := Lib.hid hk
  have HB := Lib.hid hB
  have HBV := Lib.hid hbV
  clear hk hl hn hs m hll hcl hSN hFS hE hSz hbV hlg hlf hR h1 h2 h3 hB
  cases R with
  | true =>
    go_enter Tryz.func4, Tryz.ntmps4
    go_wp2_with fail
    refine HLG.out.mono ?_
    rintro e w1 ⟨rfl, hb1⟩
    have HB1 := Lib.hid (HBV.out.trans (hb1.mono HBV.out.size))
    clear hb1
    go_wp2_with fail
    go_ret
    exact ⟨rfl, HB1.out⟩
  | false =>
    have hbd := HLF.out rfl
    have HF := Lib.hid (H1.out hbd)
    have HRF := Lib.hid (H2.out hbd)
    clear hbd
    go_enter Tryz.func4, Tryz.ntmps4
    go_wp2_with fail
    refine HLG.out.mono ?_
    rintro e w1 ⟨rfl, hb1⟩
    have hB1 := block_below HB.out hb1 (Array.getElem?_eq_some_iff.1 HB.out).1
    have b0 := cell_of (i := 0) hB1 rfl
    have b1 := cell_of (i := 1) hB1 rfl
    have b2 := cell_of (i := 2) hB1 rfl
    have HB1 := Lib.hid hB1
    have HBW1 := Lib.hid (HBV.out.trans (hb1.mono HBV.out.size))
    clear hb1 hB1 a0 a1 a2
    go_wp2_with fail
    refine (HF.out _ (HM.out.below HBW1.out (Nat.le_refl _)) (HK.out.below HBW1.out)).mono ?_
    rintro e w2 ⟨rfl, hb2⟩
    have hB2 := block_below HB1.out hb2 (Array.getElem?_eq_some_iff.1 HB1.out).1
    have d0 := cell_of (i := 0) hB2 rfl
    have d1 := cell_of (i := 1) hB2 rfl
    have d2 := cell_of (i := 2) hB2 rfl
    have HBW2 := Lib.hid (HBW1.out.trans (hb2.mono HBW1.out.size))
    clear hb2 hB2 b0 b1 b2
    go_wp2_with fail
    refine (own_any _ _ _ _ _ _).mono ?_
    rintro e w3 ⟨rfl, hb3⟩
    have HBW3 := Lib.hid (HBW2.out.trans (hb3.mono HBW2.out.size))
    clear hb3 d0 d1 d2
    go_wp2_with fail
    refine (HRF.out _ (HK.out.below HBW3.out)).mono ?_
    rintro e w4 ⟨rfl, hb4⟩
    have HBW4 := Lib.hid (HBW3.out.trans (hb4.mono HBW3.out.size))
    clear hb4
    go_wp2_with fail
    refine (H3.out _ (HM.out.below HBW4.out (Nat.le_refl _))).mono ?_
    rintro e w5 ⟨rfl, hb5⟩
    have HBW5 := Lib.hid (HBW4.out.trans (hb5.mono HBW4.out.size))
    clear hb5
    go_wp2
    go_ret
    exact ⟨rfl, HBW5.out⟩

theorem own : ownKnob Tryz.prog.godebug = none := by kernel_rfl

set_option maxRecDepth 100000 in
theorem lifted (os : Os) (started : os.Started) (H : Type) (enc : TypeId × Value → H) :
    ReturnsInHanded {} Tryz.checked os 4 .any (fun w args => (Rows.markupFormatsSpec.pre enc Tryz.prog Tryz.f4 [] false w args ∧ laidMetH Tryz.prog Rows.markupFormatsRow.laid w) ∧ sizedMet enc Tryz.prog Tryz.f4 (OpenSpec.ofChange Rows.markupFormatsSpec) false w args)
      (Rows.markupFormatsSpec.post enc Tryz.prog Tryz.f4 false true false false) := by
  refine returnsInHanded_of_change_and (C := Tryz.checked) (X := fun w _ => laidMetH Tryz.prog Rows.markupFormatsRow.laid w) (fun _ _ _ hh h => h.of_heap hh) own started (by kernel_rfl) Tryz.func4
    (ChangeSpec.witness_shaped (enc := enc) (C := Tryz.checked) (os := os) (X := fun w _ => laidMetH Tryz.prog Rows.markupFormatsRow.laid w) false (World.laidAll Tryz.prog os laidAll) #[.agg #[.bool false, .string ⟨#[]⟩, .slice none 0 0]] 8 (World.laidAll_os _ _ _) (all_shaped os) (by kernel_rfl) (by kernel_rfl) (by kernel_rfl) (all_met os _)) ?_
  intro W base args ds gs before hval0 hW _ hsz hL _
  have hval : ∀ (j : Nat) t v, Tryz.f4.params[j]? = some t → args[j]? = some v → Value.okWide Tryz.prog W .any base t v := hval0
  have hW' := hW
  have hplt : ∀ x ∈ before, x.block < W.heap.size := fun x hx => hW.lt x hx
  obtain ⟨p, q, hA0, hV, rfl, hfz, hnd⟩ := hW
  have hA : DataW.TrodAll enc Tryz.prog W 0 (fun _ => true) true Tryz.f4.params.toList args.toList ds p := hA0
  rw [Tryz.params4] at hA hval
  obtain ⟨v0, vs0, d0, ds0, p0, q0, hargs, rfl, rfl, h0, r0⟩ := trodAll_cons hA
  obtain ⟨rfl, rfl, rfl⟩ := trodAll_nil r0
  obtain rfl : args = #[v0] := by cases args; simp_all
  obtain ⟨rfl, rfl⟩ := trodVars_none hV
  have hz0 : (d0.weights Tryz.prog 24).all (· ≤ reachBytes) = true := by
    have h := hsz
    rw [Tryz.params4] at h
    simp only [List.cons_append, List.nil_append, DataW.weightsEach, List.all_append, Bool.and_eq_true] at h
    exact h.1
  obtain ⟨t0, kv0, rfl, hk0, hl0, hn0, hs0⟩ := open_tagS (hval 0 24 v0 rfl rfl) h0 hz0
  clear hA0 hval0
  refine (walk t0 kv0 hk0 hl0 hn0 hs0 (mem_of_laid hL)).mono fun e W' ⟨he, bel⟩ => ?_
  subst he
  exact ⟨_, rfl, _, _, _, [], _, [], hW', trodAll_mk1 (shut_bool Tryz.underlying4 _), (trodAll_cons_mk (Below.trod Tryz.laidOut (by kernel_rfl) (of_decide_eq_true (by kernel_rfl)) h0 bel (fun x hx => hplt x (by simp [hx]))) trodAll_mk0), rfl, World.keptBut_mono (fun x hx => ⟨hx, Or.inr (by simpa using hx)⟩) (bel.frame (· ∈ _)), fun h => by cases h⟩

theorem over : Rows.markupFormatsRow.holds Tryz.pinned (OpenSpec.ofChange Rows.markupFormatsSpec) :=
  OpenClaim.holds_of_wide 4 Tryz.f4 rfl rfl rfl rfl rfl rfl rfl ⟨rfl, rfl, rfl, rfl, rfl⟩ rfl rfl rfl rfl rfl (by kernel_rfl) Tryz.func4 (by kernel_rfl)
    (of_decide_eq_true (by kernel_rfl)) (by unfold Func.isWrapper; first | (rw [if_pos (by decide +kernel)]; kernel_rfl) | (rw [if_neg (by decide +kernel)]; exact ⟨rfl, rfl⟩))
    (fun os started H enc _ => lifted os started H enc)

/-- THE STATEMENT: the tied card. -/
theorem proved : Rows.MarkupFormatsCardSaid :=
  Claim7.holds_tied_plain_at .later [] Rows.markupFormatsCard.laidKinds true Rows.markupFormatsCard.stood.harness Rows.markupFormatsCard.stood.looks
    over (fun _ h => by cases h) (by kernel_rfl) (fun _ h => by cases h) markupFormats_row_tie rfl ⟨rfl, rfl⟩ (by kernel_rfl) rfl
    (fun f fn hf hfn => by
      obtain rfl : f = 4 := Option.some.inj ((show Tryz.prog.funcNamed "corpora/corporalaw04.MarkupFormats" = some 4 by kernel_rfl).symm.trans hf) |>.symm
      obtain rfl : fn = Tryz.f4 := (Option.some.inj (Tryz.func4.symm.trans hfn)).symm
      exact ⟨by kernel_rfl, fun j t ht => by
        rw [Tryz.params4] at ht
        have hm : t ∈ [24] := by simpa using Array.mem_of_getElem? ht
        have hall : ([24].all fun u => !Tryz.prog.wantsStandIn u) = true := by kernel_rfl
        exact (show Tryz.prog.wantsStandIn t = false by simpa using List.all_eq_true.1 hall t hm)⟩)
    (by kernel_rfl)
end Go.Proofs.YtjablaidbccnbaaGreatDoor.markupFormats
