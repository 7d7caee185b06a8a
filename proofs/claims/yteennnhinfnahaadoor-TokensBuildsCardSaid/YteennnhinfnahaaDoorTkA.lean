/-
  TokensBuilds is proved: for every list of numbers the call of the law returns true, and each argument reads afterwards as it read before. The package-level variables that the row lists hold what the program's text lays in them: this is tied to the text.
-/
import Derived.Test.YteennnhinfnahaaDoorRows
import Derived.Test.YteennnhinfnahaaDoorCards
import Derived.Test.YteennnhinfnahaaDoorTie
import Derived.Test.YteennnhinfnahaaDoorToO
import Derived.Test.YteennnhinfnahaaDoorTzV
import Derived.Test.YteennnhinfnahaaDoorTzQ
import Derived.ProofKit
import Derived.OpenShut
import Derived.Carry
import Derived.SevenTiedAt
import Derived.LaidMore
import Derived.Stop.Joined
namespace Go.Proofs.YteennnhinfnahaaDoor.tokensBuilds
open Go.ChangeShapes Go.WideShapes Go.ChangeAt Go.RowKit Go.Shelf Go.Lib
set_option linter.unusedVariables false

set_option maxRecDepth 100000 in
set_option maxHeartbeats 8000000 in
theorem walk {w : World} (v : Value) (cs : List Int) (hv : Rows 1 EInt w v cs) (hm : cs.length ≤ maxLen) (_ : ∀ x ∈ cs, -9223372036854775808 ≤ x ∧ x ≤ 9223372036854775807) (ht : Tab w) :
    Calls Tryd.prog 3 #[v] w fun e w1 => e = .returned (.bool true) ∧ Below w.heap.size w w1 := by
  have HBU := Lib.hid (builtT_any hv hm)
  have h0 := ht.pos
  have HA := Lib.hid (fun (W : World) (hb : Below w.heap.size w W) => awakeT_any (ht.below hb h0) (Nat.lt_of_lt_of_le h0 hb.size))
  obtain ⟨A, cap, rfl, -⟩ := hv.form
  obtain ⟨n, hn⟩ : ∃ n, cs.length = n := ⟨_, rfl⟩
  rw [hn] at HBU hm ⊢
  unfold maxLen at hm
  have HN := Lib.hid hn
  clear hv hn ht h0
  go_enter Tryd.func3, Tryd.ntmps3
  by_cases hbig : 400 < n
  · have hI : decide ((n : Int) > 400) = true := decide_eq_true (by omega)
    have hI2 : decide (400 < n) = true := decide_eq_true hbig
    have hI3 : (400 : Int) < (n : Int) := by omega
    go_wp2_with fail
    go_ret
    exact ⟨rfl, Below.refl _ _⟩
  · have hI : decide ((n : Int) > 400) = false := decide_eq_false (by omega)
    have hI2 : decide (400 < n) = false := decide_eq_false hbig
    have hI3 : ¬ (400 : Int) < (n : Int) := by omega
    clear hbig hm
    go_wp2_with fail
    refine HBU.out.mono ?_
    rintro e w2 ⟨hb2, ⟨hz, rfl⟩ | ⟨hz, hok, hnat, g, rfl, hs2⟩⟩
    · have HB2 := Lib.hid hb2
      have HA2 := Lib.hid (HA.out w2 hb2)
      clear hz hb2 HBU HA
      go_wp2_with fail
      refine HA2.out.mono ?_
      rintro e w3 ⟨rfl, hb3⟩
      have HE := Lib.hid (HB2.out.trans (hb3.mono HB2.out.size))
      clear hb3
      go_wp2_with fail
      go_ret
      exact ⟨rfl, HE.out⟩
    · have HB2 := Lib.hid hb2
      have HA2 := Lib.hid (HA.out w2 hb2)
      have HL := Lib.hid (lenT_any hs2)
      have hnn : (bstS (natT cs)).size = n := by rw [bst_size]; unfold natT; rw [List.length_map, HN.out]
      rw [hnn] at HL
      clear hz hok hnat hs2 hb2 hnn HBU HA
      go_wp2_with fail
      refine HL.out.mono ?_
      rintro e w3 ⟨rfl, rfl⟩
      go_wp2_with fail
      refine HA2.out.mono ?_
      rintro e w4 ⟨rfl, hb4⟩
      have HE := Lib.hid (HB2.out.trans (hb4.mono HB2.out.size))
      clear hb4
      go_wp2_with fail
      go_ret
      exact ⟨rfl, HE.out⟩

theorem own : ownKnob Tryd.prog.godebug = none := by kernel_rfl

set_option maxRecDepth 100000 in
theorem lifted (os : Os) (started : os.Started) (H : Type) (enc : TypeId × Value → H) :
    ReturnsInHanded {} Tryd.checked os 3 .any (fun w args => (Rows.tokensBuildsSpec.pre enc Tryd.prog Tryd.f3 [] false w args ∧ laidMetH Tryd.prog Rows.tokensBuildsRow.laid w) ∧ sizedMet enc Tryd.prog Tryd.f3 (OpenSpec.ofChange Rows.tokensBuildsSpec) false w args)
      (Rows.tokensBuildsSpec.post enc Tryd.prog Tryd.f3 false true false false) := by
  refine returnsInHanded_of_change_and (C := Tryd.checked) (X := fun w _ => laidMetH Tryd.prog Rows.tokensBuildsRow.laid w) (fun _ _ _ hh h => h.of_heap hh) own started (by kernel_rfl) Tryd.func3
    (ChangeSpec.witness_shaped (enc := enc) (C := Tryd.checked) (os := os) (X := fun w _ => laidMetH Tryd.prog Rows.tokensBuildsRow.laid w) false (World.doorLaid Tryd.prog 400 os) #[.slice none 0 0] 8 rfl (World.shaped_of_RefB (by kernel_rfl) (by kernel_rfl)) (by kernel_rfl) (by kernel_rfl) (by kernel_rfl) (door_met os _)) ?_
  intro W base args ds gs before hval0 hW _ _ hL _
  have hval : ∀ (j : Nat) t v, Tryd.f3.params[j]? = some t → args[j]? = some v → Value.okWide Tryd.prog W .any base t v := hval0
  have hW' := hW
  have hplt : ∀ x ∈ before, x.block < W.heap.size := fun x hx => hW.lt x hx
  obtain ⟨p, q, hA0, hV, rfl, hfz, hnd⟩ := hW
  have hA : DataW.TrodAll enc Tryd.prog W 0 (fun _ => true) true Tryd.f3.params.toList args.toList ds p := hA0
  rw [Tryd.params3] at hA hval
  obtain ⟨v0, vs0, d0, ds0, p0, q0, hargs, rfl, rfl, h0, r0⟩ := trodAll_cons hA
  obtain ⟨rfl, rfl, rfl⟩ := trodAll_nil r0
  obtain rfl : args = #[v0] := by cases args; simp_all
  obtain ⟨rfl, rfl⟩ := trodVars_none hV
  obtain ⟨l0, s0, m0, n0⟩ := open_rowI (hval 0 22 v0 rfl rfl) h0
  clear hA0 hval0
  refine (walk v0 l0 s0 m0 n0 (tab_of_laid hL)).mono fun e W' ⟨he, bel⟩ => ?_
  subst he
  exact ⟨_, rfl, _, _, _, [], _, [], hW', trodAll_mk1 (shut_bool Tryd.underlying4 _), (trodAll_cons_mk (Below.trod Tryd.laidOut (by kernel_rfl) (of_decide_eq_true (by kernel_rfl)) h0 bel (fun x hx => hplt x (by simp [hx]))) trodAll_mk0), rfl, World.keptBut_mono (fun x hx => ⟨hx, Or.inr (by simpa using hx)⟩) (bel.frame (· ∈ _)), fun h => by cases h⟩

theorem over : Rows.tokensBuildsRow.holds Tryd.pinned (OpenSpec.ofChange Rows.tokensBuildsSpec) :=
  OpenClaim.holds_of_wide 3 Tryd.f3 rfl rfl rfl rfl rfl rfl rfl ⟨rfl, rfl, rfl, rfl, rfl⟩ rfl rfl rfl rfl rfl (by kernel_rfl) Tryd.func3 (by kernel_rfl)
    (of_decide_eq_true (by kernel_rfl)) (by unfold Func.isWrapper; first | (rw [if_pos (by decide +kernel)]; kernel_rfl) | (rw [if_neg (by decide +kernel)]; exact ⟨rfl, rfl⟩))
    (fun os started H enc _ => lifted os started H enc)

/-- THE STATEMENT: the tied card. -/
theorem proved : Rows.TokensBuildsCardSaid :=
  Claim7.holds_tied_plain_at .later [] Rows.tokensBuildsCard.laidKinds true Rows.tokensBuildsCard.stood.harness Rows.tokensBuildsCard.stood.looks
    over (fun _ h => by cases h) (by kernel_rfl) (fun _ h => by cases h) tokensBuilds_row_tie rfl ⟨rfl, rfl⟩ (by kernel_rfl) rfl
    (fun f fn hf hfn => by
      obtain rfl : f = 3 := Option.some.inj ((show Tryd.prog.funcNamed "corpora/corporalaw16.TokensBuilds" = some 3 by kernel_rfl).symm.trans hf) |>.symm
      obtain rfl : fn = Tryd.f3 := (Option.some.inj (Tryd.func3.symm.trans hfn)).symm
      exact ⟨by kernel_rfl, fun j t ht => by
        rw [Tryd.params3] at ht
        have hm : t ∈ [22] := by simpa using Array.mem_of_getElem? ht
        have hall : ([22].all fun u => !Tryd.prog.wantsStandIn u) = true := by kernel_rfl
        exact (show Tryd.prog.wantsStandIn t = false by simpa using List.all_eq_true.1 hall t hm)⟩)
    (by kernel_rfl)
end Go.Proofs.YteennnhinfnahaaDoor.tokensBuilds
