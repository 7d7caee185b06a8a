/-
  TokensSlices is proved: for every list of numbers and every number and every number the call of the law returns true, and each argument reads afterwards as it read before. The package-level variables that the row lists hold what the program's text lays in them: this is tied to the text.
-/
import Derived.Test.YteennnhinfnahaaDoorRows
import Derived.Test.YteennnhinfnahaaDoorCards
import Derived.Test.YteennnhinfnahaaDoorTie
import Derived.Test.YteennnhinfnahaaDoorToO
import Derived.Test.YteennnhinfnahaaDoorTzV
import Derived.Test.YteennnhinfnahaaDoorTzQ
import Derived.ProofKit
import Derived.OpenShut
import Derived.Carry
import Derived.SevenTiedAt
import Derived.LaidMore
import Derived.Stop.Joined
namespace Go.Proofs.YteennnhinfnahaaDoor.tokensSlices
open Go.ChangeShapes Go.WideShapes Go.ChangeAt Go.RowKit Go.Shelf Go.Lib
set_option linter.unusedVariables false

set_option maxRecDepth 100000 in
set_option maxHeartbeats 8000000 in
theorem walk {w : World} (v : Value) (cs : List Int) (hv : Rows 1 EInt w v cs) (hm : cs.length ≤ maxLen) (_ : ∀ x ∈ cs, -9223372036854775808 ≤ x ∧ x ≤ 9223372036854775807) (a : Int) (a0 : -9223372036854775808 ≤ a) (a1 : a ≤ 9223372036854775807) (b : Int) (b0 : -9223372036854775808 ≤ b) (b1 : b ≤ 9223372036854775807) (ht : Tab w) :
    Calls Tryd.prog 6 #[v, .int .i64 a, .int .i64 b] w fun e w1 => e = .returned (.bool true) ∧ Below w.heap.size w w1 := by
  have HBU := Lib.hid (builtT_any hv hm)
  have h0 := ht.pos
  have HA := Lib.hid (fun (W : World) (hb : Below w.heap.size w W) => awakeT_any (ht.below hb h0) (Nat.lt_of_lt_of_le h0 hb.size))
  have HV := Lib.hid (fun W (hb : Below w.heap.size w W) => hv.below stays_int hb)
  obtain ⟨A, cap, rfl, hcap⟩ := hv.form
  obtain ⟨n, hn⟩ : ∃ n, cs.length = n := ⟨_, rfl⟩
  rw [hn] at HBU HV hm hcap ⊢
  unfold maxLen at hm
  have HN := Lib.hid hn
  have HCAP := Lib.hid hcap
  clear hv hn ht h0 hcap
  go_enter Tryd.func6, Tryd.ntmps6
  by_cases hbig : 400 < n
  · have hI3 : (400 : Int) < (n : Int) := by omega
    go_wp2_with fail
    go_ret
    exact ⟨rfl, Below.refl _ _⟩
  · have hI3 : ¬ (400 : Int) < (n : Int) := by omega
    have hn4 : n ≤ 400 := by omega
    clear hbig hm
    go_wp2_with fail
    refine HBU.out.mono ?_
    rintro e w2 ⟨hb2, ⟨hz, rfl⟩ | ⟨hz, hok, hnat, g, rfl, hs2⟩⟩
    · have HB2 := Lib.hid hb2
      have HA2 := Lib.hid (HA.out w2 hb2)
      clear hz hb2 HBU HA HV
      go_wp2_with fail
      refine HA2.out.mono ?_
      rintro e w3 ⟨rfl, hb3⟩
      have HE := Lib.hid (HB2.out.trans (hb3.mono HB2.out.size))
      clear hb3
      go_wp2_with fail
      go_ret
      exact ⟨rfl, HE.out⟩
    · have HB2 := Lib.hid hb2
      have HSL := Lib.hid (sliceT_any hs2 hok a b a0 a1 b0 b1)
      have hnn : (natT cs).length = n := by unfold natT; rw [List.length_map, HN.out]
      have HNN := Lib.hid hnn
      have HNAT := Lib.hid hnat
      clear hz hok hnat hs2 hb2 hnn HBU
      go_wp2_with fail
      refine HSL.out.mono ?_
      rintro e w3 ⟨hb3, ⟨hc, v3, rfl, hr3⟩ | ⟨hc, rfl⟩⟩
      · rw [HNN.out] at hc
        obtain ⟨c1, c2, c3⟩ := hc
        obtain ⟨lo, rfl⟩ : ∃ k : Nat, a = k := ⟨a.toNat, by omega⟩
        obtain ⟨hi, rfl⟩ : ∃ k : Nat, b = k := ⟨b.toNat, by omega⟩
        rw [Int.toNat_natCast, Int.toNat_natCast] at hr3
        have HB3 := Lib.hid (HB2.out.trans (hb3.mono HB2.out.size))
        obtain ⟨A', c', hsl, hrow⟩ := sliceT_rows A n cap HN.out HCAP.out lo hi (by omega) (by omega)
        have hr4 := hrow w3 (HV.out w3 HB3.out)
        have e1 : castN' (((natT cs).take hi).drop lo) = (cs.take hi).drop lo := by
          conv => rhs; rw [← HNAT.out]
          unfold castN'
          rw [List.map_drop, List.map_take]
        rw [e1] at hr3
        have hll : ((cs.take hi).drop lo).length ≤ 400 := by rw [List.length_drop, List.length_take, HN.out]; omega
        have HSI := Lib.hid (sameIntsB_any hr3 hr4 (by unfold maxLen; omega) (by unfold maxLen; omega))
        obtain ⟨A3, k3, rfl, -⟩ := hr3.form
        obtain ⟨l3, hl3⟩ : ∃ l, ((cs.take hi).drop lo).length = l := ⟨_, rfl⟩
        rw [hl3] at HSI
        simp only [hl3]
        have d1 : decide ((lo : Int) < 0) = false := decide_eq_false (by omega)
        have d2 : decide ((lo : Int) > (hi : Int)) = false := decide_eq_false (by omega)
        have d2' : decide (hi < lo) = false := decide_eq_false (by omega)
        have d3 : decide ((hi : Int) > (n : Int)) = false := decide_eq_false (by omega)
        have d3' : decide (n < hi) = false := decide_eq_false (by omega)
        have hdec : decide ((cs.take hi).drop lo = (cs.take hi).drop lo) = true := decide_eq_true rfl
        rw [hdec] at HSI
        clear hr3 hr4 hrow e1 hll hl3 hb3 hdec c1 c2 c3 HSL HV
        go_wp2_with fail
        refine HSI.out.mono ?_
        rintro e w4 ⟨rfl, hb4⟩
        have HB4 := Lib.hid (HB3.out.trans (hb4.mono HB3.out.size))
        have HA4 := Lib.hid (HA.out w4 HB4.out)
        clear hb4 HSI HB3 HA
        go_wp2_with fail
        refine HA4.out.mono ?_
        rintro e w5 ⟨rfl, hb5⟩
        have HE := Lib.hid (HB4.out.trans (hb5.mono HB4.out.size))
        clear hb5
        go_wp2_with fail
        go_ret
        exact ⟨rfl, HE.out⟩
      · rw [HNN.out] at hc
        have HB3 := Lib.hid (HB2.out.trans (hb3.mono HB2.out.size))
        have HA3 := Lib.hid (HA.out w3 HB3.out)
        have hcc : a < 0 ∨ (¬ a < 0 ∧ b < a) ∨ (¬ a < 0 ∧ ¬ b < a ∧ (n : Int) < b) := by
          rcases Int.lt_or_le a 0 with h | h
          · exact .inl h
          · rcases Int.lt_or_le b a with h2 | h2
            · exact .inr (.inl ⟨by omega, h2⟩)
            · rcases Int.lt_or_le (n : Int) b with h3 | h3
              · exact .inr (.inr ⟨by omega, by omega, h3⟩)
              · exact absurd ⟨h, h2, h3⟩ hc
        clear hc hb3 HSL HV HA
        rcases hcc with d | ⟨d, d'⟩ | ⟨d, d', d''⟩
        · have d1 : decide (a < 0) = true := decide_eq_true d
          go_wp2_with fail
          refine HA3.out.mono ?_
          rintro e w4 ⟨rfl, hb4⟩
          have HE := Lib.hid (HB3.out.trans (hb4.mono HB3.out.size))
          clear hb4
          go_wp2_with fail
          go_ret
          exact ⟨rfl, HE.out⟩
        · have d1 : decide (a < 0) = false := decide_eq_false d
          have d2 : decide (a > b) = true := decide_eq_true d'
          have d2' : decide (b < a) = true := decide_eq_true d'
          go_wp2_with fail
          refine HA3.out.mono ?_
          rintro e w4 ⟨rfl, hb4⟩
          have HE := Lib.hid (HB3.out.trans (hb4.mono HB3.out.size))
          clear hb4
          go_wp2_with fail
          go_ret
          exact ⟨rfl, HE.out⟩
        · have d1 : decide (a < 0) = false := decide_eq_false d
          have d2 : decide (a > b) = false := decide_eq_false d'
          have d2' : decide (b < a) = false := decide_eq_false d'
          have d3 : decide (b > (n : Int)) = true := decide_eq_true d''
          have d3' : decide ((n : Int) < b) = true := decide_eq_true d''
          go_wp2_with fail
          refine HA3.out.mono ?_
          rintro e w4 ⟨rfl, hb4⟩
          have HE := Lib.hid (HB3.out.trans (hb4.mono HB3.out.size))
          clear hb4
          go_wp2_with fail
          go_ret
          exact ⟨rfl, HE.out⟩

theorem own : ownKnob Tryd.prog.godebug = none := by kernel_rfl

set_option maxRecDepth 100000 in
theorem lifted (os : Os) (started : os.Started) (H : Type) (enc : TypeId × Value → H) :
    ReturnsInHanded {} Tryd.checked os 6 .any (fun w args => (Rows.tokensSlicesSpec.pre enc Tryd.prog Tryd.f6 [] false w args ∧ laidMetH Tryd.prog Rows.tokensSlicesRow.laid w) ∧ sizedMet enc Tryd.prog Tryd.f6 (OpenSpec.ofChange Rows.tokensSlicesSpec) false w args)
      (Rows.tokensSlicesSpec.post enc Tryd.prog Tryd.f6 false true false false) := by
  refine returnsInHanded_of_change_and (C := Tryd.checked) (X := fun w _ => laidMetH Tryd.prog Rows.tokensSlicesRow.laid w) (fun _ _ _ hh h => h.of_heap hh) own started (by kernel_rfl) Tryd.func6
    (ChangeSpec.witness_shaped (enc := enc) (C := Tryd.checked) (os := os) (X := fun w _ => laidMetH Tryd.prog Rows.tokensSlicesRow.laid w) false (World.doorLaid Tryd.prog 400 os) #[.slice none 0 0, .int .i64 0, .int .i64 0] 8 rfl (World.shaped_of_RefB (by kernel_rfl) (by kernel_rfl)) (by kernel_rfl) (by kernel_rfl) (by kernel_rfl) (door_met os _)) ?_
  intro W base args ds gs before hval0 hW _ _ hL _
  have hval : ∀ (j : Nat) t v, Tryd.f6.params[j]? = some t → args[j]? = some v → Value.okWide Tryd.prog W .any base t v := hval0
  have hW' := hW
  have hplt : ∀ x ∈ before, x.block < W.heap.size := fun x hx => hW.lt x hx
  obtain ⟨p, q, hA0, hV, rfl, hfz, hnd⟩ := hW
  have hA : DataW.TrodAll enc Tryd.prog W 0 (fun _ => true) true Tryd.f6.params.toList args.toList ds p := hA0
  rw [Tryd.params6] at hA hval
  obtain ⟨v0, vs0, d0, ds0, p0, q0, hargs, rfl, rfl, h0, r0⟩ := trodAll_cons hA
  obtain ⟨v1, vs1, d1, ds1, p1, q1, rfl, rfl, rfl, h1, r1⟩ := trodAll_cons r0
  obtain ⟨v2, vs2, d2, ds2, p2, q2, rfl, rfl, rfl, h2, r2⟩ := trodAll_cons r1
  obtain ⟨rfl, rfl, rfl⟩ := trodAll_nil r2
  obtain rfl : args = #[v0, v1, v2] := by cases args; simp_all
  obtain ⟨rfl, rfl⟩ := trodVars_none hV
  obtain ⟨l0, s0, m0, n0⟩ := open_rowI (hval 0 22 v0 rfl rfl) h0
  obtain ⟨x1, rfl, m1, n1⟩ := open_i64 (hval 1 3 v1 rfl rfl) h1
  obtain ⟨x2, rfl, m2, n2⟩ := open_i64 (hval 2 3 v2 rfl rfl) h2
  clear hA0 hval0
  refine (walk v0 l0 s0 m0 n0 x1 m1 n1 x2 m2 n2 (tab_of_laid hL)).mono fun e W' ⟨he, bel⟩ => ?_
  subst he
  exact ⟨_, rfl, _, _, _, [], _, [], hW', trodAll_mk1 (shut_bool Tryd.underlying4 _), (trodAll_cons_mk (Below.trod Tryd.laidOut (by kernel_rfl) (of_decide_eq_true (by kernel_rfl)) h0 bel (fun x hx => hplt x (by simp [hx]))) (trodAll_cons_mk (Below.trod Tryd.laidOut (by kernel_rfl) (of_decide_eq_true (by kernel_rfl)) h1 bel (fun x hx => hplt x (by simp [hx]))) (trodAll_cons_mk (Below.trod Tryd.laidOut (by kernel_rfl) (of_decide_eq_true (by kernel_rfl)) h2 bel (fun x hx => hplt x (by simp [hx]))) trodAll_mk0))), rfl, World.keptBut_mono (fun x hx => ⟨hx, Or.inr (by simpa using hx)⟩) (bel.frame (· ∈ _)), fun h => by cases h⟩

theorem over : Rows.tokensSlicesRow.holds Tryd.pinned (OpenSpec.ofChange Rows.tokensSlicesSpec) :=
  OpenClaim.holds_of_wide 6 Tryd.f6 rfl rfl rfl rfl rfl rfl rfl ⟨rfl, rfl, rfl, rfl, rfl⟩ rfl rfl rfl rfl rfl (by kernel_rfl) Tryd.func6 (by kernel_rfl)
    (of_decide_eq_true (by kernel_rfl)) (by unfold Func.isWrapper; first | (rw [if_pos (by decide +kernel)]; kernel_rfl) | (rw [if_neg (by decide +kernel)]; exact ⟨rfl, rfl⟩))
    (fun os started H enc _ => lifted os started H enc)

/-- THE STATEMENT: the tied card. -/
theorem proved : Rows.TokensSlicesCardSaid :=
  Claim7.holds_tied_plain_at .later [] Rows.tokensSlicesCard.laidKinds true Rows.tokensSlicesCard.stood.harness Rows.tokensSlicesCard.stood.looks
    over (fun _ h => by cases h) (by kernel_rfl) (fun _ h => by cases h) tokensSlices_row_tie rfl ⟨rfl, rfl⟩ (by kernel_rfl) rfl
    (fun f fn hf hfn => by
      obtain rfl : f = 6 := Option.some.inj ((show Tryd.prog.funcNamed "corpora/corporalaw16.TokensSlices" = some 6 by kernel_rfl).symm.trans hf) |>.symm
      obtain rfl : fn = Tryd.f6 := (Option.some.inj (Tryd.func6.symm.trans hfn)).symm
      exact ⟨by kernel_rfl, fun j t ht => by
        rw [Tryd.params6] at ht
        have hm : t ∈ [22, 3, 3] := by simpa using Array.mem_of_getElem? ht
        have hall : ([22, 3, 3].all fun u => !Tryd.prog.wantsStandIn u) = true := by kernel_rfl
        exact (show Tryd.prog.wantsStandIn t = false by simpa using List.all_eq_true.1 hall t hm)⟩)
    (by kernel_rfl)
end Go.Proofs.YteennnhinfnahaaDoor.tokensSlices
