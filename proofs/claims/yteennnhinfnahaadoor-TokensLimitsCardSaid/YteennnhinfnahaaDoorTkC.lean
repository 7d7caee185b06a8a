/-
  TokensLimits is proved: for every number and every number the call of the law returns true, and each argument reads afterwards as it read before. The package-level variables that the row lists hold what the program's text lays in them: this is tied to the text.
-/
import Derived.Test.YteennnhinfnahaaDoorRows
import Derived.Test.YteennnhinfnahaaDoorCards
import Derived.Test.YteennnhinfnahaaDoorTie
import Derived.Test.YteennnhinfnahaaDoorToO
import Derived.Test.YteennnhinfnahaaDoorTzV
import Derived.Test.YteennnhinfnahaaDoorTzQ
import Derived.Test.YteennnhinfnahaaDoorToJ
import Derived.ProofKit
import Derived.OpenShut
import Derived.Carry
import Derived.SevenTiedAt
import Derived.LaidMore
import Derived.Stop.Joined
namespace Go.Proofs.YteennnhinfnahaaDoor.tokensLimits
open Go.ChangeShapes Go.WideShapes Go.ChangeAt Go.RowKit Go.Shelf Go.Lib
set_option linter.unusedVariables false

set_option maxRecDepth 100000 in
set_option maxHeartbeats 8000000 in
theorem walk {w : World} (a : Int) (a0 : -9223372036854775808 ≤ a) (a1 : a ≤ 9223372036854775807) (v : Int) (v0 : -9223372036854775808 ≤ v) (v1 : v ≤ 9223372036854775807) (ht : Tab w) :
    Calls Tryd.prog 4 #[.int .i64 a, .int .i64 v] w fun e w1 => e = .returned (.bool true) ∧ Below w.heap.size w w1 := by
  have h0 := ht.pos
  have HA := Lib.hid (fun (W : World) (hb : Below w.heap.size w W) => awakeT_any (ht.below hb h0) (Nat.lt_of_lt_of_le h0 hb.size))
  clear ht h0
  go_enter Tryd.func4, Tryd.ntmps4
  by_cases d : a < 0
  · have d1 : decide (a < 0) = true := decide_eq_true d
    go_wp2_with fail
    go_ret
    exact ⟨rfl, Below.refl _ _⟩
  · have d1 : decide (a < 0) = false := decide_eq_false d
    by_cases d' : 4097 < a
    · have d2 : decide (a > 4097) = true := decide_eq_true d'
      have d2' : decide (4097 < a) = true := decide_eq_true d'
      go_wp2_with fail
      go_ret
      exact ⟨rfl, Below.refl _ _⟩
    · obtain ⟨n, rfl⟩ : ∃ n : Nat, a = n := ⟨a.toNat, by omega⟩
      have d2 : decide ((n : Int) > 4097) = false := decide_eq_false d'
      have d2' : decide (4097 < n) = false := decide_eq_false (by omega)
      have hn : n ≤ 4097 := by omega
      have hmk := make_intT n (by omega) w
      have hnn : (0 : Int) ≤ (n : Int) := by omega
      obtain ⟨B, hB⟩ : ∃ B, w.heap.size = B := ⟨_, rfl⟩
      have HBB := Lib.hid hB
      by_cases hn0 : n = 0
      · subst hn0
        have hbb : Below w.heap.size w (w.alloc (.cells (intRow []) 3)) := below_box _ _
        have hr : Rows 1 EInt (w.alloc (.cells (intRow []) 3)) (.slice (some ⟨w.heap.size, 0, none⟩) 0 0) (limT 0 v) := by rw [limT_zero]; exact Rows.empty _ _ _
        have hz := limT_good (n := 0) (v := v) (by omega) (.inl rfl)
        obtain ⟨X, hX⟩ : ∃ X, w.alloc (.cells (intRow []) 3) = X := ⟨_, rfl⟩
        rw [hX] at hbb hr
        have HBU := Lib.hid (buildT_any hr (by rw [limT_zero]; decide))
        have HB1 := Lib.hid hbb
        have HX := Lib.hid hX
        have HZ := Lib.hid hz
        clear hbb hr hz hX d d' hB d2 d2'
        have hmk0 : (Instr.makeSlice 22 (.int .i64 0) (.int .i64 0)).run Tryd.prog w = .ok (.slice (some ⟨w.heap.size, 0, none⟩) 0 0) (w.alloc (.cells (intRow []) 3)) := hmk
        clear hmk
        have d2 : decide (((0 : Nat) : Int) > 4097) = false := rfl
        have d2z : decide ((0 : Int) > 4097) = false := rfl
        have d3 : decide ((0 : Int) > 0) = false := rfl
        have d4 : decide ((0 : Int) > 4096) = false := rfl
        go_wp2_with fail
        rw [HX.out]
        refine HBU.out.mono ?_
        rintro e w2 ⟨hb2, ⟨hno, -⟩ | ⟨-, hok, -, g, rfl, hs2⟩⟩
        · exact absurd HZ.out hno
        have hb2w := HB1.out.trans (hb2.mono HB1.out.size)
        have hnz : natT (limT 0 v) = [] := by rw [limT_zero]; rfl
        rw [hnz] at hok hs2
        have HAT := Lib.hid (atT_any hs2 hok (-1) (by omega) (by omega))
        have HL := Lib.hid (fun (W : World) (hb : Below w2.heap.size w2 W) => lenT_any (hs2.below hb))
        have e1 : atT [] (-1) = 0 := atT_no (inT_no (.inl (by omega)))
        have e2 : inT [] (-1) = false := inT_no (.inl (by omega))
        unfold AtTV at HAT
        rw [e1, e2] at HAT
        have HB2 := Lib.hid hb2w
        have hw1 : IntKind.i64.wrap ((0 : Int) - 1) = -1 := by rw [IntKind.wrap_i64]; omega
        clear hb2 hok hs2 hb2w hnz e1 e2 HBU
        go_wp2_with fail
        refine HAT.out.mono ?_
        rintro e w3 ⟨rfl, hb3⟩
        have HL3 := Lib.hid (HL.out w3 hb3)
        have hsz0 : (((bstS []).size : Nat) : Int) = 0 := by rw [bst_size]; rfl
        have HB3 := Lib.hid (HB2.out.trans (hb3.mono HB2.out.size))
        have HA3 := Lib.hid (HA.out w3 HB3.out)
        clear hb3 HAT HL HA
        go_wp2_with fail
        refine HL3.out.mono ?_
        rintro e w4 ⟨rfl, rfl⟩
        rw [hsz0]
        go_wp2_with fail
        refine HA3.out.mono ?_
        rintro e w5 ⟨rfl, hb5⟩
        have HE := Lib.hid (HB3.out.trans (hb5.mono HB3.out.size))
        clear hb5
        go_wp2_with fail
        go_ret
        exact ⟨rfl, HE.out⟩
      · have hpos : 0 < n := by omega
        have d3 : decide ((n : Int) > 0) = true := decide_eq_true (by omega)
        have d3' : decide (0 < n) = true := decide_eq_true hpos
        have d3i : (0 : Int) < (n : Int) := by omega
        obtain ⟨m, hm⟩ : ∃ m, n - 1 = m := ⟨_, rfl⟩
        have q1 : (n : Int) - 1 = (m : Int) := by omega
        have q2 : IntKind.i64.wrap (m : Int) = (m : Int) := by rw [IntKind.wrap_i64]; omega
        have hmn : (m : Int) < (n : Int) := by omega
        have hblk := block_new w (.cells (intRow (List.replicate n 0)) 3)
        have u0 : (w.alloc (.cells (intRow (List.replicate n 0)) 3)).cell? ⟨w.heap.size, m, none⟩ = some (.int .i64 0) := by
          have h := intRow_get (l := List.replicate n (0 : Int)) (i := m) (by rw [List.length_replicate]; omega)
          rw [cell_of hblk h, List.getD_eq_getElem?_getD, List.getElem?_replicate, if_pos (by omega)]
          rfl
        have u1 : (w.alloc (.cells (intRow (List.replicate n 0)) 3)).frozen? ⟨w.heap.size, m, none⟩ = false := frozen_of hblk
        have hb2 := block_new w (.cells ((intRow (List.replicate n 0)).setIfInBounds m (.int .i64 v)) 3)
        have hbb : Below w.heap.size w (w.alloc (.cells ((intRow (List.replicate n 0)).setIfInBounds m (.int .i64 v)) 3)) := below_box w _
        have e9 : (intRow (List.replicate n (0 : Int))).setIfInBounds m (.int .i64 v) = intRow (limT n v) := by rw [intRow_set, ← hm]; rfl
        have hrow : (w.alloc (.cells ((intRow (List.replicate n 0)).setIfInBounds m (.int .i64 v)) 3)).heap[w.heap.size]? = some (.cells (intRow (limT n v)) 3 (0, 0)) := by rw [← e9]; exact hb2
        have hrr := rows_int (cap := n) (limT_len n v) (Nat.le_refl _) hrow
        have HLAST := Lib.hid (limT_last hpos v)
        rw [hm] at HLAST
        obtain ⟨X, hX⟩ : ∃ X, w.alloc (.cells ((intRow (List.replicate n 0)).setIfInBounds m (.int .i64 v)) 3) = X := ⟨_, rfl⟩
        rw [hX] at hrr hbb
        have HBU := Lib.hid (buildT_any hrr (by rw [limT_len]; unfold maxLen; omega))
        have HB1 := Lib.hid hbb
        have HX := Lib.hid hX
        have HM := Lib.hid hm
        clear hblk hrow hbb hb2 e9 hrr hX d d' hB hn0 hm
        by_cases hbig : 4096 < n
        · have d4 : decide ((n : Int) > 4096) = true := decide_eq_true (by omega)
          have d4' : decide (4096 < n) = true := decide_eq_true hbig
          have HZ := Lib.hid (show chkT (limT n v) = 2 from chkT_big (by rw [limT_len]; exact hbig))
          clear hbig
          go_wp2_with fail
          rw [HX.out]
          refine HBU.out.mono ?_
          rintro e w2 ⟨hb2, ⟨-, rfl⟩ | ⟨hz, -⟩⟩
          case inr => rw [HZ.out] at hz; omega
          rw [HZ.out]
          have HB2 := Lib.hid (HB1.out.trans (hb2.mono HB1.out.size))
          have HA2 := Lib.hid (HA.out w2 HB2.out)
          clear hb2 HBU HA u0 u1
          go_wp2_with fail
          refine HA2.out.mono ?_
          rintro e w3 ⟨rfl, hb3⟩
          have HE := Lib.hid (HB2.out.trans (hb3.mono HB2.out.size))
          clear hb3
          go_wp2_with fail
          go_ret
          exact ⟨rfl, HE.out⟩
        · have d4 : decide ((n : Int) > 4096) = false := decide_eq_false (by omega)
          have d4' : decide (4096 < n) = false := decide_eq_false hbig
          have hn6 : n ≤ 4096 := by omega
          by_cases hv1 : v < 0
          · have c1 : decide (v < 0) = true := decide_eq_true hv1
            have HZ := Lib.hid (limT_bad hpos hn6 (.inl hv1))
            clear hbig hv1
            go_wp2_with fail
            rw [HX.out]
            refine HBU.out.mono ?_
            rintro e w2 ⟨hb2, ⟨-, rfl⟩ | ⟨hz, -⟩⟩
            case inr => rw [HZ.out] at hz; omega
            rw [HZ.out]
            have HB2 := Lib.hid (HB1.out.trans (hb2.mono HB1.out.size))
            have HA2 := Lib.hid (HA.out w2 HB2.out)
            clear hb2 HBU HA u0 u1
            go_wp2_with fail
            refine HA2.out.mono ?_
            rintro e w3 ⟨rfl, hb3⟩
            have HE := Lib.hid (HB2.out.trans (hb3.mono HB2.out.size))
            clear hb3
            go_wp2_with fail
            go_ret
            exact ⟨rfl, HE.out⟩
          · have c1 : decide (v < 0) = false := decide_eq_false hv1
            by_cases hv2 : 1024 ≤ v
            · have c2 : decide (v ≥ 1024) = true := decide_eq_true hv2
              have c2' : decide (1024 ≤ v) = true := decide_eq_true hv2
              have HZ := Lib.hid (limT_bad hpos hn6 (.inr hv2))
              clear hbig hv1 hv2
              go_wp2_with fail
              rw [HX.out]
              refine HBU.out.mono ?_
              rintro e w2 ⟨hb2, ⟨-, rfl⟩ | ⟨hz, -⟩⟩
              case inr => rw [HZ.out] at hz; omega
              rw [HZ.out]
              have HB2 := Lib.hid (HB1.out.trans (hb2.mono HB1.out.size))
              have HA2 := Lib.hid (HA.out w2 HB2.out)
              clear hb2 HBU HA u0 u1
              go_wp2_with fail
              refine HA2.out.mono ?_
              rintro e w3 ⟨rfl, hb3⟩
              have HE := Lib.hid (HB2.out.trans (hb3.mono HB2.out.size))
              clear hb3
              go_wp2_with fail
              go_ret
              exact ⟨rfl, HE.out⟩
            · obtain ⟨y, rfl⟩ : ∃ y : Nat, v = y := ⟨v.toNat, by omega⟩
              have c2 : decide ((y : Int) ≥ 1024) = false := decide_eq_false hv2
              have c2' : decide (1024 ≤ y) = false := decide_eq_false (by omega)
              have HZ := Lib.hid (limT_good (v := (y : Int)) hn6 (.inr ⟨by omega, by omega⟩))
              clear hbig hv1 hv2
              go_wp2_with fail
              rw [HX.out]
              refine HBU.out.mono ?_
              rintro e w2 ⟨hb2, ⟨hno, -⟩ | ⟨-, hok, -, g, rfl, hs2⟩⟩
              · exact absurd HZ.out hno
              obtain ⟨ns, hns⟩ : ∃ ns, natT (limT n (y : Int)) = ns := ⟨_, rfl⟩
              have hlen : ns.length = n := by rw [← hns]; unfold natT; rw [List.length_map, limT_len]
              have hat : ns[m]? = some y := by
                rw [← hns]
                unfold natT
                rw [List.getElem?_map, HLAST.out]
                simp
              rw [hns] at hok hs2
              have HAT := Lib.hid (atT_any hs2 hok (m : Int) (by omega) (by omega))
              have HL := Lib.hid (fun (W : World) (hb : Below w2.heap.size w2 W) => lenT_any (hs2.below hb))
              unfold AtTV at HAT
              rw [atT_yes hat, inT_yes (by rw [hlen]; omega)] at HAT
              have HB2 := Lib.hid (HB1.out.trans (hb2.mono HB1.out.size))
              have hsz : (((bstS ns).size : Nat) : Int) = (n : Int) := by rw [bst_size, hlen]
              have HSZ := Lib.hid hsz
              clear hb2 hok hs2 hns hlen hat hsz HBU u0 u1
              go_wp2_with fail
              refine HAT.out.mono ?_
              rintro e w3 ⟨rfl, hb3⟩
              have HL3 := Lib.hid (HL.out w3 hb3)
              have HB3 := Lib.hid (HB2.out.trans (hb3.mono HB2.out.size))
              have HA3 := Lib.hid (HA.out w3 HB3.out)
              have e0 : ((n : Int) == 0) = false := by simp; omega
              clear hb3 HAT HL HA
              go_wp2_with fail
              refine HL3.out.mono ?_
              rintro e w4 ⟨rfl, rfl⟩
              rw [HSZ.out]
              go_wp2_with fail
              refine HA3.out.mono ?_
              rintro e w5 ⟨rfl, hb5⟩
              have HE := Lib.hid (HB3.out.trans (hb5.mono HB3.out.size))
              clear hb5
              go_wp2_with fail
              go_ret
              exact ⟨rfl, HE.out⟩

theorem own : ownKnob Tryd.prog.godebug = none := by kernel_rfl

set_option maxRecDepth 100000 in
theorem lifted (os : Os) (started : os.Started) (H : Type) (enc : TypeId × Value → H) :
    ReturnsInHanded {} Tryd.checked os 4 .any (fun w args => (Rows.tokensLimitsSpec.pre enc Tryd.prog Tryd.f4 [] false w args ∧ laidMetH Tryd.prog Rows.tokensLimitsRow.laid w) ∧ sizedMet enc Tryd.prog Tryd.f4 (OpenSpec.ofChange Rows.tokensLimitsSpec) false w args)
      (Rows.tokensLimitsSpec.post enc Tryd.prog Tryd.f4 false true false false) := by
  refine returnsInHanded_of_change_and (C := Tryd.checked) (X := fun w _ => laidMetH Tryd.prog Rows.tokensLimitsRow.laid w) (fun _ _ _ hh h => h.of_heap hh) own started (by kernel_rfl) Tryd.func4
    (ChangeSpec.witness_shaped (enc := enc) (C := Tryd.checked) (os := os) (X := fun w _ => laidMetH Tryd.prog Rows.tokensLimitsRow.laid w) false (World.doorLaid Tryd.prog 400 os) #[.int .i64 0, .int .i64 0] 8 rfl (World.shaped_of_RefB (by kernel_rfl) (by kernel_rfl)) (by kernel_rfl) (by kernel_rfl) (by kernel_rfl) (door_met os _)) ?_
  intro W base args ds gs before hval0 hW _ _ hL _
  have hval : ∀ (j : Nat) t v, Tryd.f4.params[j]? = some t → args[j]? = some v → Value.okWide Tryd.prog W .any base t v := hval0
  have hW' := hW
  have hplt : ∀ x ∈ before, x.block < W.heap.size := fun x hx => hW.lt x hx
  obtain ⟨p, q, hA0, hV, rfl, hfz, hnd⟩ := hW
  have hA : DataW.TrodAll enc Tryd.prog W 0 (fun _ => true) true Tryd.f4.params.toList args.toList ds p := hA0
  rw [Tryd.params4] at hA hval
  obtain ⟨v0, vs0, d0, ds0, p0, q0, hargs, rfl, rfl, h0, r0⟩ := trodAll_cons hA
  obtain ⟨v1, vs1, d1, ds1, p1, q1, rfl, rfl, rfl, h1, r1⟩ := trodAll_cons r0
  obtain ⟨rfl, rfl, rfl⟩ := trodAll_nil r1
  obtain rfl : args = #[v0, v1] := by cases args; simp_all
  obtain ⟨rfl, rfl⟩ := trodVars_none hV
  obtain ⟨x0, rfl, m0, n0⟩ := open_i64 (hval 0 3 v0 rfl rfl) h0
  obtain ⟨x1, rfl, m1, n1⟩ := open_i64 (hval 1 3 v1 rfl rfl) h1
  clear hA0 hval0
  refine (walk x0 m0 n0 x1 m1 n1 (tab_of_laid hL)).mono fun e W' ⟨he, bel⟩ => ?_
  subst he
  exact ⟨_, rfl, _, _, _, [], _, [], hW', trodAll_mk1 (shut_bool Tryd.underlying4 _), (trodAll_cons_mk (Below.trod Tryd.laidOut (by kernel_rfl) (of_decide_eq_true (by kernel_rfl)) h0 bel (fun x hx => hplt x (by simp [hx]))) (trodAll_cons_mk (Below.trod Tryd.laidOut (by kernel_rfl) (of_decide_eq_true (by kernel_rfl)) h1 bel (fun x hx => hplt x (by simp [hx]))) trodAll_mk0)), rfl, World.keptBut_mono (fun x hx => ⟨hx, Or.inr (by simpa using hx)⟩) (bel.frame (· ∈ _)), fun h => by cases h⟩

theorem over : Rows.tokensLimitsRow.holds Tryd.pinned (OpenSpec.ofChange Rows.tokensLimitsSpec) :=
  OpenClaim.holds_of_wide 4 Tryd.f4 rfl rfl rfl rfl rfl rfl rfl ⟨rfl, rfl, rfl, rfl, rfl⟩ rfl rfl rfl rfl rfl (by kernel_rfl) Tryd.func4 (by kernel_rfl)
    (of_decide_eq_true (by kernel_rfl)) (by unfold Func.isWrapper; first | (rw [if_pos (by decide +kernel)]; kernel_rfl) | (rw [if_neg (by decide +kernel)]; exact ⟨rfl, rfl⟩))
    (fun os started H enc _ => lifted os started H enc)

/-- THE STATEMENT: the tied card. -/
theorem proved : Rows.TokensLimitsCardSaid :=
  Claim7.holds_tied_plain_at .later [] Rows.tokensLimitsCard.laidKinds true Rows.tokensLimitsCard.stood.harness Rows.tokensLimitsCard.stood.looks
    over (fun _ h => by cases h) (by kernel_rfl) (fun _ h => by cases h) tokensLimits_row_tie rfl ⟨rfl, rfl⟩ (by kernel_rfl) rfl
    (fun f fn hf hfn => by
      obtain rfl : f = 4 := Option.some.inj ((show Tryd.prog.funcNamed "corpora/corporalaw16.TokensLimits" = some 4 by kernel_rfl).symm.trans hf) |>.symm
      obtain rfl : fn = Tryd.f4 := (Option.some.inj (Tryd.func4.symm.trans hfn)).symm
      exact ⟨by kernel_rfl, fun j t ht => by
        rw [Tryd.params4] at ht
        have hm : t ∈ [3, 3] := by simpa using Array.mem_of_getElem? ht
        have hall : ([3, 3].all fun u => !Tryd.prog.wantsStandIn u) = true := by kernel_rfl
        exact (show Tryd.prog.wantsStandIn t = false by simpa using List.all_eq_true.1 hall t hm)⟩)
    (by kernel_rfl)
end Go.Proofs.YteennnhinfnahaaDoor.tokensLimits
