/-
  ChecksumCombines is proved: for every byte slice and every byte slice the call of the law returns true, and each argument reads afterwards as it read before. The package-level variables that the row lists hold what the program's text lays in them: this is tied to the text.
-/
import Derived.Test.YtgclmiheahfakaaDoorRows
import Derived.Test.YtgclmiheahfakaaDoorCards
import Derived.Test.YtgclmiheahfakaaDoorTie
import Derived.Test.YtgclmiheahfakaaDoorCkO
import Derived.Test.YtgclmiheahfakaaDoorCkF
import Derived.ProofKit
import Derived.OpenShut
import Derived.Carry
import Derived.SevenTiedAt
import Derived.LaidMore
import Derived.Stop.Joined
namespace Go.Proofs.YtgclmiheahfakaaDoor.checksumCombines
open Go.ChangeShapes Go.WideShapes Go.ChangeAt Go.RowKit Go.Shelf Go.Lib
set_option linter.unusedVariables false

set_option maxRecDepth 100000 in
set_option maxHeartbeats 1000000 in
theorem walk (v : Value) (L : List UInt8) {w : World} (hs : Sees w w.heap.size v L) (hm : L.length ≤ maxLen) (v' : Value) (L' : List UInt8) (hs' : Sees w w.heap.size v' L') (hm' : L'.length ≤ maxLen) (ht : Tab w) :
    Calls Tryd.prog 4 #[v, v'] w fun e w1 => e = .returned (.bool true) ∧ Below w.heap.size w w1 := by
  unfold maxLen at hm hm'
  obtain ⟨A, cap, hv, hcap⟩ := hs.le
  obtain ⟨A', cap', hv', hcap'⟩ := hs'.le
  obtain ⟨n, hn⟩ : ∃ n, L.length = n := ⟨_, rfl⟩
  obtain ⟨n', hn'⟩ : ∃ n, L'.length = n := ⟨_, rfl⟩
  by_cases hL : L.length ≤ 1000
  · by_cases hL' : L'.length ≤ 1000
    · obtain ⟨i0, hi, hz0, hz1, hz2⟩ := info_parts' Tryd.infoByte
      have hcl := byteCells_length L
      have hcl' := byteCells_length L'
      rw [hn] at hv hL hm hcap hcl
      rw [hn'] at hv' hL' hm' hcap' hcl'
      have hlt := sumL_lt L
      have hlt' := sumL_lt L'
      have hcs := comb_sum L L'
      rw [hn'] at hcs
      have HS := Lib.hid hs
      have HS' := Lib.hid hs'
      have HT := Lib.hid ht
      have HCL := Lib.hid hcl
      have HCL' := Lib.hid hcl'
      have HN := Lib.hid hn
      have HN' := Lib.hid hn'
      have HON := Lib.hid (bytes_one L)
      have HON' := Lib.hid (bytes_one L')
      have HLT := Lib.hid hlt
      have HLT' := Lib.hid hlt'
      have HCS := Lib.hid hcs
      have HSC := Lib.hid hs.cells
      subst hv
      subst hv'
      clear hs hs' ht hcl hcl' hn hn' hlt hlt' hcs
      go_enter Tryd.func4, Tryd.ntmps4
      go_wp2_with (at_builtin; refine wpList_append_sees rfl (.const (.slice none 0 0)) (.tmp 14) 22 rfl w.heap.size 5 i0 _ 1 Tryd.underlying22 hi hz0 hz1 hz2 rfl _ 0 [] rfl (World.ownsRow_nil _ _ _ _) _ _ (byteCells L) rfl HSC.out HON.out (by rw [HCL.out]; unfold maxLen; omega) (by rw [HCL.out]; omega) (Nat.le_refl _) ?_)
      intro v1 w1 hown1 hgrow1 _
      rw [HCL.out] at hown1
      have hb1 : Below w.heap.size w w1 := (Below.refl _ w).grown hgrow1 (Nat.le_refl _) (fun k e => by simp [Value.ownBlock] at e)
      have HO1 := Lib.hid hown1
      have HB1 := Lib.hid hb1
      have HSB := Lib.hid (HS'.out.below hb1).cells
      have hsz1 := hb1.size
      clear hown1 hgrow1 hb1
      go_wp2_with (at_builtin; refine wpList_append_sees rfl (.tmp 15) (.tmp 16) 22 rfl w.heap.size 5 i0 _ 1 Tryd.underlying22 hi hz0 hz1 hz2 rfl _ _ _ rfl HO1.out _ _ (byteCells L') rfl HSB.out HON'.out (by rw [HCL'.out]; unfold maxLen; omega) (by rw [HCL'.out]; omega) hsz1 ?_)
      intro v2 w2 hown2 hgrow2 _
      rw [HCL'.out] at hown2
      have hb2 := HB1.out.grown hgrow2 hsz1 (fun k e => (own_low HO1.out k e).1)
      have hs2 := sees_own (L := L ++ L') (by rw [byteCells_app, List.length_append, HN.out, HN'.out]; simpa using hown2)
      have ht2 := HT.out.below hb2 HT.out.pos
      have hq1 := sum_any (HS.out.below hb2) (by rw [HN.out]; omega) ht2
      have hq2 := sum_any (HS'.out.below hb2) (by rw [HN'.out]; omega) ht2
      have hq3 := combine_any _ _ n' n' rfl HLT.out HLT'.out (by omega) ht2 ht2.pos
      rw [HCS.out] at hq3
      obtain ⟨s, hse⟩ : ∃ s, sumL L = s := ⟨_, rfl⟩
      obtain ⟨s', hse'⟩ : ∃ s, sumL L' = s := ⟨_, rfl⟩
      rw [hse] at hq1 hq3
      rw [hse'] at hq2 hq3
      have HQ1 := Lib.hid hq1
      have HQ2 := Lib.hid hq2
      have HQ3 := Lib.hid hq3
      have HS2 := Lib.hid hs2
      have HB2 := Lib.hid hb2
      have HT2 := Lib.hid ht2
      clear hown2 hgrow2 hb2 hs2 ht2 hq1 hq2 hq3 hse hse'
      go_wp2_with fail
      refine HQ1.out.mono ?_
      rintro e w3 ⟨rfl, rfl⟩
      go_wp2_with fail
      refine HQ2.out.mono ?_
      rintro e w3 ⟨rfl, rfl⟩
      go_wp2_with fail
      refine HQ3.out.mono ?_
      rintro e w3 ⟨rfl, hb3⟩
      have hq4 := sum_any (HS2.out.below hb3) (by rw [List.length_append, HN.out, HN'.out]; omega) (HT2.out.below hb3 HT2.out.pos)
      have HQ4 := Lib.hid hq4
      have HB3 := Lib.hid (HB2.out.trans (hb3.mono HB2.out.size))
      have HT3 := Lib.hid (HT2.out.below hb3 HT2.out.pos)
      clear hb3 hq4
      go_wp2_with fail
      refine HQ4.out.mono ?_
      rintro e w4 ⟨rfl, rfl⟩
      go_wp2_with fail
      refine (awake_any HT3.out HT3.out.pos).mono ?_
      rintro e w4 ⟨rfl, hb4⟩
      have HB4 := Lib.hid (HB3.out.trans (hb4.mono HB3.out.size))
      clear hb4
      go_wp2
      go_ret
      exact ⟨rfl, HB4.out⟩
    · rw [hn] at hv hL hm
      rw [hn'] at hv' hL' hm'
      subst hv
      subst hv'
      have hl1 : (n : Int) ≤ 1000 := by omega
      have hl2 : (1000 : Int) < n' := by omega
      clear hs hs' hn hn' ht hcap hcap'
      go_enter Tryd.func4, Tryd.ntmps4
      go_wp2
      go_ret
      exact ⟨rfl, Below.refl _ _⟩
  · rw [hn] at hv hL hm
    rw [hn'] at hv' hm'
    subst hv
    subst hv'
    have hl2 : (1000 : Int) < n := by omega
    clear hs hs' hn hn' ht hcap hcap'
    go_enter Tryd.func4, Tryd.ntmps4
    go_wp2
    go_ret
    exact ⟨rfl, Below.refl _ _⟩

theorem own : ownKnob Tryd.prog.godebug = none := by kernel_rfl

set_option maxRecDepth 100000 in
theorem lifted (os : Os) (started : os.Started) (H : Type) (enc : TypeId × Value → H) :
    ReturnsInHanded {} Tryd.checked os 4 .any (fun w args => (Rows.checksumCombinesSpec.pre enc Tryd.prog Tryd.f4 [] false w args ∧ laidMetH Tryd.prog Rows.checksumCombinesRow.laid w) ∧ sizedMet enc Tryd.prog Tryd.f4 (OpenSpec.ofChange Rows.checksumCombinesSpec) false w args)
      (Rows.checksumCombinesSpec.post enc Tryd.prog Tryd.f4 false true false false) := by
  refine returnsInHanded_of_change_and (C := Tryd.checked) (X := fun w _ => laidMetH Tryd.prog Rows.checksumCombinesRow.laid w) (fun _ _ _ hh h => h.of_heap hh) own started (by kernel_rfl) Tryd.func4
    (ChangeSpec.witness_shaped (enc := enc) (C := Tryd.checked) (os := os) (X := fun w _ => laidMetH Tryd.prog Rows.checksumCombinesRow.laid w) false (World.doorLaid Tryd.prog 400 os) #[.slice none 0 0, .slice none 0 0] 8 rfl (World.shaped_of_RefB (by kernel_rfl) (by kernel_rfl)) (by kernel_rfl) (by kernel_rfl) (by kernel_rfl) (door_met os _)) ?_
  intro W base args ds gs before hval0 hW _ _ hL _
  have hval : ∀ (j : Nat) t v, Tryd.f4.params[j]? = some t → args[j]? = some v → Value.okWide Tryd.prog W .any base t v := hval0
  have hW' := hW
  have hplt : ∀ x ∈ before, x.block < W.heap.size := fun x hx => hW.lt x hx
  obtain ⟨p, q, hA0, hV, rfl, hfz, hnd⟩ := hW
  have hA : DataW.TrodAll enc Tryd.prog W 0 (fun _ => true) true Tryd.f4.params.toList args.toList ds p := hA0
  rw [Tryd.params4] at hA hval
  obtain ⟨v0, vs0, d0, ds0, p0, q0, hargs, rfl, rfl, h0, r0⟩ := trodAll_cons hA
  obtain ⟨v1, vs1, d1, ds1, p1, q1, rfl, rfl, rfl, h1, r1⟩ := trodAll_cons r0
  obtain ⟨rfl, rfl, rfl⟩ := trodAll_nil r1
  obtain rfl : args = #[v0, v1] := by cases args; simp_all
  obtain ⟨rfl, rfl⟩ := trodVars_none hV
  obtain ⟨L0, s0, m0⟩ := open_bytes (hval 0 22 v0 rfl rfl) h0
  obtain ⟨L1, s1, m1⟩ := open_bytes (hval 1 22 v1 rfl rfl) h1
  clear hA0 hval0
  refine (walk v0 L0 s0 m0 v1 L1 s1 m1 (tab_of_laid hL)).mono fun e W' ⟨he, bel⟩ => ?_
  subst he
  exact ⟨_, rfl, _, _, _, [], _, [], hW', trodAll_mk1 (shut_bool Tryd.underlying4 _), (trodAll_cons_mk (Below.trod Tryd.laidOut (by kernel_rfl) (of_decide_eq_true (by kernel_rfl)) h0 bel (fun x hx => hplt x (by simp [hx]))) (trodAll_cons_mk (Below.trod Tryd.laidOut (by kernel_rfl) (of_decide_eq_true (by kernel_rfl)) h1 bel (fun x hx => hplt x (by simp [hx]))) trodAll_mk0)), rfl, World.keptBut_mono (fun x hx => ⟨hx, Or.inr (by simpa using hx)⟩) (bel.frame (· ∈ _)), fun h => by cases h⟩

theorem over : Rows.checksumCombinesRow.holds Tryd.pinned (OpenSpec.ofChange Rows.checksumCombinesSpec) :=
  OpenClaim.holds_of_wide 4 Tryd.f4 rfl rfl rfl rfl rfl rfl rfl ⟨rfl, rfl, rfl, rfl, rfl⟩ rfl rfl rfl rfl rfl (by kernel_rfl) Tryd.func4 (by kernel_rfl)
    (of_decide_eq_true (by kernel_rfl)) (by unfold Func.isWrapper; first | (rw [if_pos (by decide +kernel)]; kernel_rfl) | (rw [if_neg (by decide +kernel)]; exact ⟨rfl, rfl⟩))
    (fun os started H enc _ => lifted os started H enc)

/-- THE STATEMENT: the tied card. -/
theorem proved : Rows.ChecksumCombinesCardSaid :=
  Claim7.holds_tied_plain_at .later [] Rows.checksumCombinesCard.laidKinds true Rows.checksumCombinesCard.stood.harness Rows.checksumCombinesCard.stood.looks
    over (fun _ h => by cases h) (by kernel_rfl) (fun _ h => by cases h) checksumCombines_row_tie rfl ⟨rfl, rfl⟩ (by kernel_rfl) rfl
    (fun f fn hf hfn => by
      obtain rfl : f = 4 := Option.some.inj ((show Tryd.prog.funcNamed "corpora/corporalaw03.ChecksumCombines" = some 4 by kernel_rfl).symm.trans hf) |>.symm
      obtain rfl : fn = Tryd.f4 := (Option.some.inj (Tryd.func4.symm.trans hfn)).symm
      exact ⟨by kernel_rfl, fun j t ht => by
        rw [Tryd.params4] at ht
        have hm : t ∈ [22, 22] := by simpa using Array.mem_of_getElem? ht
        have hall : ([22, 22].all fun u => !Tryd.prog.wantsStandIn u) = true := by kernel_rfl
        exact (show Tryd.prog.wantsStandIn t = false by simpa using List.all_eq_true.1 hall t hm)⟩)
    (by kernel_rfl)
end Go.Proofs.YtgclmiheahfakaaDoor.checksumCombines
