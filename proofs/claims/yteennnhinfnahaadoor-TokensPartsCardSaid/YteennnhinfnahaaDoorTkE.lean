/-
  TokensParts is proved: for every list of numbers and every number the call of the law returns true, and each argument reads afterwards as it read before. The package-level variables that the row lists hold what the program's text lays in them: this is tied to the text.
-/
import Derived.Test.YteennnhinfnahaaDoorRows
import Derived.Test.YteennnhinfnahaaDoorCards
import Derived.Test.YteennnhinfnahaaDoorTie
import Derived.Test.YteennnhinfnahaaDoorToO
import Derived.Test.YteennnhinfnahaaDoorTzV
import Derived.Test.YteennnhinfnahaaDoorTzQ
import Derived.ProofKit
import Derived.OpenShut
import Derived.Carry
import Derived.SevenTiedAt
import Derived.LaidMore
import Derived.Stop.Joined
namespace Go.Proofs.YteennnhinfnahaaDoor.tokensParts
open Go.ChangeShapes Go.WideShapes Go.ChangeAt Go.RowKit Go.Shelf Go.Lib
set_option linter.unusedVariables false

set_option maxRecDepth 100000 in
set_option maxHeartbeats 8000000 in
theorem walk {w : World} (v : Value) (cs : List Int) (hv : Rows 1 EInt w v cs) (hm : cs.length ≤ maxLen) (_ : ∀ x ∈ cs, -9223372036854775808 ≤ x ∧ x ≤ 9223372036854775807) (z : Int) (z0 : -9223372036854775808 ≤ z) (z1 : z ≤ 9223372036854775807) (ht : Tab w) :
    Calls Tryd.prog 7 #[v, .int .i64 z] w fun e w1 => e = .returned (.bool true) ∧ Below w.heap.size w w1 := by
  have HBU := Lib.hid (buildT_any hv hm)
  have h0 := ht.pos
  have HA := Lib.hid (fun (W : World) (hb : Below w.heap.size w W) => awakeT_any (ht.below hb h0) (Nat.lt_of_lt_of_le h0 hb.size))
  obtain ⟨A, cap, rfl, -⟩ := hv.form
  obtain ⟨n, hn⟩ : ∃ n, cs.length = n := ⟨_, rfl⟩
  rw [hn] at HBU hm ⊢
  unfold maxLen at hm
  have HN := Lib.hid hn
  clear hv hn ht h0
  go_enter Tryd.func7, Tryd.ntmps7
  go_wp2_with fail
  refine HBU.out.mono ?_
  rintro e w2 ⟨hb2, h⟩
  have HB2 := Lib.hid hb2
  by_cases hbig : 300 < n
  · have d1 : decide ((n : Int) > 300) = true := decide_eq_true (by omega)
    have d1' : decide (300 < n) = true := decide_eq_true hbig
    clear hb2 HBU HA
    rcases h with ⟨-, rfl⟩ | ⟨-, -, -, g, rfl, -⟩
    · clear hbig
      go_wp2_with fail
      go_ret
      exact ⟨rfl, HB2.out⟩
    · clear hbig
      go_wp2_with fail
      go_ret
      exact ⟨rfl, HB2.out⟩
  · have d1 : decide ((n : Int) > 300) = false := decide_eq_false (by omega)
    have d1' : decide (300 < n) = false := decide_eq_false hbig
    have hn3 : n ≤ 300 := by omega
    rcases h with ⟨hz, rfl⟩ | ⟨-, hok, hnat, g, rfl, hs2⟩
    · obtain ⟨c, hc⟩ : ∃ c, chkT cs = c := ⟨_, rfl⟩
      rw [hc] at hz ⊢
      have d2 : (c != 0) = true := by simpa using hz
      clear hb2 HBU HA hz hc hbig
      go_wp2_with fail
      go_ret
      exact ⟨rfl, HB2.out⟩
    · by_cases hz0 : z < 0
      · have d2 : decide (z < 0) = true := decide_eq_true hz0
        clear hb2 HBU HA hbig hok hnat hs2
        go_wp2_with fail
        go_ret
        exact ⟨rfl, HB2.out⟩
      · have d2 : decide (z < 0) = false := decide_eq_false hz0
        by_cases hz1 : (n : Int) < z
        · have d3 : decide (z > (n : Int)) = true := decide_eq_true hz1
          have d3' : decide ((n : Int) < z) = true := decide_eq_true hz1
          clear hb2 HBU HA hbig hok hnat hs2
          go_wp2_with fail
          go_ret
          exact ⟨rfl, HB2.out⟩
        · obtain ⟨c, rfl⟩ : ∃ c : Nat, z = c := ⟨z.toNat, by omega⟩
          have hcn : c ≤ n := by omega
          have d3 : decide ((c : Int) > (n : Int)) = false := decide_eq_false hz1
          have d3' : decide (n < c) = false := decide_eq_false (by omega)
          have d2' : decide ((c : Int) < 0) = false := d2
          obtain ⟨ns, hns⟩ : ∃ ns, natT cs = ns := ⟨_, rfl⟩
          have hnn : ns.length = n := by rw [← hns]; unfold natT; rw [List.length_map, HN.out]
          rw [hns] at hok hnat hs2
          have HNN := Lib.hid hnn
          have HS1 := Lib.hid (sliceT_any hs2 hok 0 (c : Int) (by omega) (by omega) (by omega) (by omega))
          have HS2 := Lib.hid (fun (W : World) (hb : Below w2.heap.size w2 W) => sliceT_any (hs2.below hb) hok (c : Int) (n : Int) (by omega) (by omega) (by omega) (by omega))
          have HAT := Lib.hid (fun (W : World) (hb : Below w2.heap.size w2 W) (i : Nat) (hi : i < n) => atT_any (hs2.below hb) hok (i : Int) (by omega) (by omega))
          clear hb2 HBU hbig hok hnat hs2 hz0 hz1 hns hnn d2
          go_wp2_with fail
          refine HS1.out.mono ?_
          rintro e w3 ⟨hb3, ⟨-, v3, rfl, hr3⟩ | ⟨hno, -⟩⟩
          case inr => exact absurd ⟨by omega, by omega, by rw [HNN.out]; omega⟩ hno
          have HB3 := Lib.hid hb3
          have HC2 := Lib.hid (HS2.out w3 hb3)
          have hl3 : (castN' ((ns.take (c : Int).toNat).drop (0 : Int).toNat)).length = c := by
            have := HNN.out
            simp only [castN'_len, List.length_drop, List.length_take, Int.toNat_natCast]
            omega
          have HR3 := Lib.hid (fun W (hb : Below w3.heap.size w3 W) => hr3.below stays_int hb)
          obtain ⟨A3, k3, rfl, -⟩ := hr3.form
          rw [hl3] at HR3 ⊢
          clear hb3 hr3 hl3 HS1 HS2
          go_wp2_with fail
          refine HC2.out.mono ?_
          rintro e w4 ⟨hb4, ⟨-, v4, rfl, hr4⟩ | ⟨hno, -⟩⟩
          case inr => exact absurd ⟨by omega, by omega, by rw [HNN.out]; omega⟩ hno
          have HB4 := Lib.hid (HB3.out.trans (hb4.mono HB3.out.size))
          have HR3b := Lib.hid (HR3.out w4 hb4)
          obtain ⟨d, hd⟩ : ∃ d, n - c = d := ⟨_, rfl⟩
          have hl4 : (castN' ((ns.take (n : Int).toNat).drop (c : Int).toNat)).length = d := by
            have := HNN.out
            simp only [castN'_len, List.length_drop, List.length_take, Int.toNat_natCast]
            omega
          have HR4 := Lib.hid hr4
          obtain ⟨A4, k4, rfl, -⟩ := hr4.form
          rw [hl4] at HR4 ⊢
          have HL3 := Lib.hid (show ∀ i y, ns[i]? = some y → i < c → (castN' ((ns.take (c : Int).toNat).drop (0 : Int).toNat))[i]? = some ((y : Nat) : Int) from fun i y hy hi => by
            unfold castN'
            rw [List.getElem?_map, show (0 : Int).toNat = 0 from rfl, List.drop_zero, List.getElem?_take, Int.toNat_natCast, if_pos hi, hy]; rfl)
          have HL4 := Lib.hid (show ∀ i y, ns[i]? = some y → c ≤ i → (castN' ((ns.take (n : Int).toNat).drop (c : Int).toNat))[i - c]? = some ((y : Nat) : Int) from fun i y hy hi => by
            have hin := (List.getElem?_eq_some_iff.1 hy).1
            unfold castN'
            rw [List.getElem?_map, List.getElem?_drop, List.getElem?_take, Int.toNat_natCast, Int.toNat_natCast, if_pos (by have := HNN.out; omega), show c + (i - c) = i by omega, hy]; rfl)
          have HK3 := Lib.hid (show (castN' ((ns.take (c : Int).toNat).drop (0 : Int).toNat)).length = c by
            have := HNN.out
            simp only [castN'_len, List.length_drop, List.length_take, Int.toNat_natCast]
            omega)
          have HK4 := Lib.hid hl4
          have q1 : (n : Int) - (c : Int) = (d : Int) := by omega
          have q2 : IntKind.i64.wrap (d : Int) = (d : Int) := by rw [IntKind.wrap_i64]; omega
          have q3 : ((c : Int) != (c : Int)) = false := by simp
          have q4 : ((d : Int) != (d : Int)) = false := by simp
          have HD := Lib.hid hd
          clear hb4 hr4 hl4 HR3 HC2 hd
          go_wp2_with fail
          go_loopw [12] (fun iv wr => ∃ k : Nat, k ≤ n ∧ iv = .int .i64 (k : Nat) ∧ Hid (Below w4.heap.size w4 wr)) (fun iv _ => n - (Go.RowKit.intOf iv).toNat)
          case atStart => exact ⟨0, Nat.zero_le _, rfl, Lib.hid (Below.refl _ _)⟩
          case round =>
            obtain ⟨k, hk, rfl, HBR⟩ := hrel
            by_cases hlt : k < n
            · have hlti : (k : Int) < (n : Int) := by omega
              obtain ⟨y, hy⟩ : ∃ y, ns[k]? = some y := ⟨_, List.getElem?_eq_getElem (by rw [HNN.out]; exact hlt)⟩
              have hC := HAT.out wr (HB4.out.trans (HBR.out.mono HB4.out.size)) k hlt
              have HCE : Hid (Calls Tryd.prog 12 #[.pointer (some ⟨g, 0, none⟩), .int .i64 (k : Nat)] wr fun e w' => e = .returned (.tuple #[.int .i64 (y : Nat), .bool true]) ∧ Below wr.heap.size wr w') := Lib.hid (hC.mono (by
                rintro e w' ⟨rfl, hb⟩
                rw [atT_yes hy, inT_yes (by rw [HNN.out]; exact hlt)]
                exact ⟨rfl, hb⟩))
              have e1 : ((y : Int) != (y : Int)) = false := by simp
              clear hC
              by_cases hkc : k < c
              · have p1 : decide ((k : Int) < (c : Int)) = true := decide_eq_true (by omega)
                have p1' : decide (k < c) = true := decide_eq_true hkc
                have p2 : decide ((k : Int) ≥ (c : Int)) = false := decide_eq_false (by omega)
                have p2' : decide (c ≤ k) = false := decide_eq_false (by omega)
                have hki : (k : Int) < (c : Int) := by omega
                have HX := Lib.hid (HL3.out k y hy hkc)
                clear hy
                go_wp2_with fail
                refine HCE.out.mono ?_
                rintro e w5 ⟨rfl, hb5⟩
                have hb5w := HBR.out.trans (hb5.mono HBR.out.size)
                obtain ⟨b, o, rfl, -, hjj⟩ := at_int (HR3b.out.below stays_int hb5w) (by rw [HK3.out]; omega)
                have u0 := hjj k (y : Int) HX.out
                have HB5 := Lib.hid hb5w
                clear hjj hb5 hb5w HCE HX
                go_wp2_with fail
                exact ⟨⟨k + 1, by omega, by go_num, HB5⟩, by simp only [Go.RowKit.intOf]; omega⟩
              · have p1 : decide ((k : Int) < (c : Int)) = false := decide_eq_false (by omega)
                have p1' : decide (k < c) = false := decide_eq_false hkc
                have p2 : decide ((k : Int) ≥ (c : Int)) = true := decide_eq_true (by omega)
                have p2' : decide (c ≤ k) = true := decide_eq_true (by omega)
                obtain ⟨m, hmm⟩ : ∃ m, k - c = m := ⟨_, rfl⟩
                have p3 : (k : Int) - (c : Int) = (m : Int) := by omega
                have p4 : IntKind.i64.wrap (m : Int) = (m : Int) := by rw [IntKind.wrap_i64]; omega
                have hmd : (m : Int) < (d : Int) := by have := HD.out; omega
                have HX := Lib.hid (HL4.out k y hy (by omega))
                rw [hmm] at HX
                have hdp : 0 < d := by omega
                clear hy hmm
                go_wp2_with fail
                refine HCE.out.mono ?_
                rintro e w5 ⟨rfl, hb5⟩
                have hb5w := HBR.out.trans (hb5.mono HBR.out.size)
                obtain ⟨b, o, rfl, -, hjj⟩ := at_int (HR4.out.below stays_int hb5w) (by rw [HK4.out]; omega)
                have u0 := hjj m (y : Int) HX.out
                have HB5 := Lib.hid hb5w
                clear hjj hb5 hb5w HCE HX
                go_wp2_with fail
                exact ⟨⟨k + 1, by omega, by go_num, HB5⟩, by simp only [Go.RowKit.intOf]; omega⟩
            · obtain rfl : k = n := by omega
              have hlti : ¬ (k : Int) < (k : Int) := by omega
              have hbw := HB2.out.trans ((HB4.out.trans (HBR.out.mono HB4.out.size)).mono HB2.out.size)
              have HBW := Lib.hid hbw
              have HAW := Lib.hid (HA.out wr hbw)
              clear hbw HA HAT
              go_wp2_with fail
              refine HAW.out.mono ?_
              rintro e w6 ⟨rfl, hb6⟩
              have HE := Lib.hid (HBW.out.trans (hb6.mono HBW.out.size))
              clear hb6
              go_wp2_with fail
              go_ret
              exact ⟨rfl, HE.out⟩

theorem own : ownKnob Tryd.prog.godebug = none := by kernel_rfl

set_option maxRecDepth 100000 in
theorem lifted (os : Os) (started : os.Started) (H : Type) (enc : TypeId × Value → H) :
    ReturnsInHanded {} Tryd.checked os 7 .any (fun w args => (Rows.tokensPartsSpec.pre enc Tryd.prog Tryd.f7 [] false w args ∧ laidMetH Tryd.prog Rows.tokensPartsRow.laid w) ∧ sizedMet enc Tryd.prog Tryd.f7 (OpenSpec.ofChange Rows.tokensPartsSpec) false w args)
      (Rows.tokensPartsSpec.post enc Tryd.prog Tryd.f7 false true false false) := by
  refine returnsInHanded_of_change_and (C := Tryd.checked) (X := fun w _ => laidMetH Tryd.prog Rows.tokensPartsRow.laid w) (fun _ _ _ hh h => h.of_heap hh) own started (by kernel_rfl) Tryd.func7
    (ChangeSpec.witness_shaped (enc := enc) (C := Tryd.checked) (os := os) (X := fun w _ => laidMetH Tryd.prog Rows.tokensPartsRow.laid w) false (World.doorLaid Tryd.prog 400 os) #[.slice none 0 0, .int .i64 0] 8 rfl (World.shaped_of_RefB (by kernel_rfl) (by kernel_rfl)) (by kernel_rfl) (by kernel_rfl) (by kernel_rfl) (door_met os _)) ?_
  intro W base args ds gs before hval0 hW _ _ hL _
  have hval : ∀ (j : Nat) t v, Tryd.f7.params[j]? = some t → args[j]? = some v → Value.okWide Tryd.prog W .any base t v := hval0
  have hW' := hW
  have hplt : ∀ x ∈ before, x.block < W.heap.size := fun x hx => hW.lt x hx
  obtain ⟨p, q, hA0, hV, rfl, hfz, hnd⟩ := hW
  have hA : DataW.TrodAll enc Tryd.prog W 0 (fun _ => true) true Tryd.f7.params.toList args.toList ds p := hA0
  rw [Tryd.params7] at hA hval
  obtain ⟨v0, vs0, d0, ds0, p0, q0, hargs, rfl, rfl, h0, r0⟩ := trodAll_cons hA
  obtain ⟨v1, vs1, d1, ds1, p1, q1, rfl, rfl, rfl, h1, r1⟩ := trodAll_cons r0
  obtain ⟨rfl, rfl, rfl⟩ := trodAll_nil r1
  obtain rfl : args = #[v0, v1] := by cases args; simp_all
  obtain ⟨rfl, rfl⟩ := trodVars_none hV
  obtain ⟨l0, s0, m0, n0⟩ := open_rowI (hval 0 22 v0 rfl rfl) h0
  obtain ⟨x1, rfl, m1, n1⟩ := open_i64 (hval 1 3 v1 rfl rfl) h1
  clear hA0 hval0
  refine (walk v0 l0 s0 m0 n0 x1 m1 n1 (tab_of_laid hL)).mono fun e W' ⟨he, bel⟩ => ?_
  subst he
  exact ⟨_, rfl, _, _, _, [], _, [], hW', trodAll_mk1 (shut_bool Tryd.underlying4 _), (trodAll_cons_mk (Below.trod Tryd.laidOut (by kernel_rfl) (of_decide_eq_true (by kernel_rfl)) h0 bel (fun x hx => hplt x (by simp [hx]))) (trodAll_cons_mk (Below.trod Tryd.laidOut (by kernel_rfl) (of_decide_eq_true (by kernel_rfl)) h1 bel (fun x hx => hplt x (by simp [hx]))) trodAll_mk0)), rfl, World.keptBut_mono (fun x hx => ⟨hx, Or.inr (by simpa using hx)⟩) (bel.frame (· ∈ _)), fun h => by cases h⟩

theorem over : Rows.tokensPartsRow.holds Tryd.pinned (OpenSpec.ofChange Rows.tokensPartsSpec) :=
  OpenClaim.holds_of_wide 7 Tryd.f7 rfl rfl rfl rfl rfl rfl rfl ⟨rfl, rfl, rfl, rfl, rfl⟩ rfl rfl rfl rfl rfl (by kernel_rfl) Tryd.func7 (by kernel_rfl)
    (of_decide_eq_true (by kernel_rfl)) (by unfold Func.isWrapper; first | (rw [if_pos (by decide +kernel)]; kernel_rfl) | (rw [if_neg (by decide +kernel)]; exact ⟨rfl, rfl⟩))
    (fun os started H enc _ => lifted os started H enc)

/-- THE STATEMENT: the tied card. -/
theorem proved : Rows.TokensPartsCardSaid :=
  Claim7.holds_tied_plain_at .later [] Rows.tokensPartsCard.laidKinds true Rows.tokensPartsCard.stood.harness Rows.tokensPartsCard.stood.looks
    over (fun _ h => by cases h) (by kernel_rfl) (fun _ h => by cases h) tokensParts_row_tie rfl ⟨rfl, rfl⟩ (by kernel_rfl) rfl
    (fun f fn hf hfn => by
      obtain rfl : f = 7 := Option.some.inj ((show Tryd.prog.funcNamed "corpora/corporalaw16.TokensParts" = some 7 by kernel_rfl).symm.trans hf) |>.symm
      obtain rfl : fn = Tryd.f7 := (Option.some.inj (Tryd.func7.symm.trans hfn)).symm
      exact ⟨by kernel_rfl, fun j t ht => by
        rw [Tryd.params7] at ht
        have hm : t ∈ [22, 3] := by simpa using Array.mem_of_getElem? ht
        have hall : ([22, 3].all fun u => !Tryd.prog.wantsStandIn u) = true := by kernel_rfl
        exact (show Tryd.prog.wantsStandIn t = false by simpa using List.all_eq_true.1 hall t hm)⟩)
    (by kernel_rfl)
end Go.Proofs.YteennnhinfnahaaDoor.tokensParts
