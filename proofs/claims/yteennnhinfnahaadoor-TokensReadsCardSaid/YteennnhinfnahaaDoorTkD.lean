/-
  TokensReads is proved: for every list of numbers and every number the call of the law returns true, and each argument reads afterwards as it read before. The package-level variables that the row lists hold what the program's text lays in them: this is tied to the text.
-/
import Derived.Test.YteennnhinfnahaaDoorRows
import Derived.Test.YteennnhinfnahaaDoorCards
import Derived.Test.YteennnhinfnahaaDoorTie
import Derived.Test.YteennnhinfnahaaDoorToO
import Derived.Test.YteennnhinfnahaaDoorTzV
import Derived.Test.YteennnhinfnahaaDoorTzQ
import Derived.ProofKit
import Derived.OpenShut
import Derived.Carry
import Derived.SevenTiedAt
import Derived.LaidMore
import Derived.Stop.Joined
namespace Go.Proofs.YteennnhinfnahaaDoor.tokensReads
open Go.ChangeShapes Go.WideShapes Go.ChangeAt Go.RowKit Go.Shelf Go.Lib
set_option linter.unusedVariables false

set_option maxRecDepth 100000 in
set_option maxHeartbeats 8000000 in
theorem walk {w : World} (v : Value) (cs : List Int) (hv : Rows 1 EInt w v cs) (hm : cs.length ≤ maxLen) (hrng : ∀ x ∈ cs, -9223372036854775808 ≤ x ∧ x ≤ 9223372036854775807) (z : Int) (z0 : -9223372036854775808 ≤ z) (z1 : z ≤ 9223372036854775807) (ht : Tab w) :
    Calls Tryd.prog 5 #[v, .int .i64 z] w fun e w1 => e = .returned (.bool true) ∧ Below w.heap.size w w1 := by
  have HBU := Lib.hid (builtT_any hv hm)
  have h0 := ht.pos
  have HA := Lib.hid (fun (W : World) (hb : Below w.heap.size w W) => awakeT_any (ht.below hb h0) (Nat.lt_of_lt_of_le h0 hb.size))
  have HV := Lib.hid (fun W (hb : Below w.heap.size w W) => hv.below stays_int hb)
  obtain ⟨A, cap, rfl, hcap⟩ := hv.form
  obtain ⟨n, hn⟩ : ∃ n, cs.length = n := ⟨_, rfl⟩
  rw [hn] at HBU HV hm hcap ⊢
  unfold maxLen at hm
  have HN := Lib.hid hn
  clear hv hn ht h0 hcap hrng
  go_enter Tryd.func5, Tryd.ntmps5
  by_cases hbig : 300 < n
  · have hI3 : (300 : Int) < (n : Int) := by omega
    go_wp2_with fail
    go_ret
    exact ⟨rfl, Below.refl _ _⟩
  · have hI3 : ¬ (300 : Int) < (n : Int) := by omega
    have hn4 : n ≤ 300 := by omega
    clear hbig hm
    go_wp2_with fail
    refine HBU.out.mono ?_
    rintro e w2 ⟨hb2, ⟨hz, rfl⟩ | ⟨hz, hok, hnat, g, rfl, hs2⟩⟩
    · have HB2 := Lib.hid hb2
      have HA2 := Lib.hid (HA.out w2 hb2)
      clear hz hb2 HBU HA HV
      go_wp2_with fail
      refine HA2.out.mono ?_
      rintro e w3 ⟨rfl, hb3⟩
      have HE := Lib.hid (HB2.out.trans (hb3.mono HB2.out.size))
      clear hb3
      go_wp2_with fail
      go_ret
      exact ⟨rfl, HE.out⟩
    · obtain ⟨ns, hns⟩ : ∃ ns, natT cs = ns := ⟨_, rfl⟩
      have hnn : ns.length = n := by rw [← hns]; unfold natT; rw [List.length_map, HN.out]
      rw [hns] at hok hnat hs2
      have HNN := Lib.hid hnn
      have HNAT := Lib.hid hnat
      have HAT := Lib.hid (fun (W : World) (hb : Below w2.heap.size w2 W) (i : Int) (i0 : -9223372036854775808 ≤ i) (i1 : i ≤ 9223372036854775807) => atT_any (hs2.below hb) hok i i0 i1)
      have HB2 := Lib.hid hb2
      clear hz hok hnat hs2 hb2 hnn hns HBU
      go_wp2_with fail
      go_loopw [7] (fun iv wr => ∃ k : Nat, k ≤ n + 2 ∧ iv = .int .i64 ((k : Int) - 1) ∧ Hid (Below w2.heap.size w2 wr)) (fun iv _ => n + 2 - (Go.RowKit.intOf iv + 1).toNat)
      case atStart => exact ⟨0, by omega, rfl, Lib.hid (Below.refl _ _)⟩
      case round =>
        obtain ⟨k, hk, rfl, HBR⟩ := hrel
        by_cases hlt : k < n + 2
        · obtain ⟨j, hj⟩ : ∃ j : Int, (k : Int) - 1 = j := ⟨_, rfl⟩
          rw [hj]
          have hjn : j ≤ (n : Int) := by omega
          have hC := HAT.out wr HBR.out j (by omega) (by omega)
          have hw1 : IntKind.i64.wrap (j + 1) = j + 1 := by rw [IntKind.wrap_i64]; omega
          have HJ := Lib.hid hj
          by_cases hin : 0 ≤ j ∧ j < (n : Int)
          · obtain ⟨m, rfl⟩ : ∃ m : Nat, j = m := ⟨j.toNat, by omega⟩
            have hmn : m < n := by omega
            obtain ⟨y, hy⟩ : ∃ y, ns[m]? = some y := ⟨_, List.getElem?_eq_getElem (by rw [HNN.out]; exact hmn)⟩
            have hcy : cs[m]? = some (y : Int) := by rw [← HNAT.out]; unfold castN'; rw [List.getElem?_map, hy]; rfl
            have hCE : Hid (Calls Tryd.prog 12 #[.pointer (some ⟨g, 0, none⟩), .int .i64 (m : Nat)] wr fun e w' => e = .returned (.tuple #[.int .i64 (y : Nat), .bool true]) ∧ Below wr.heap.size wr w') := Lib.hid (hC.mono (by
              rintro e w' ⟨rfl, hb⟩
              rw [atT_yes hy, inT_yes (by rw [HNN.out]; exact hmn)]
              exact ⟨rfl, hb⟩))
            have hbw : Below w.heap.size w wr := HB2.out.trans (HBR.out.mono HB2.out.size)
            have HCELL := Lib.hid (fun (W : World) (hb : Below w.heap.size w W) => at_int (HV.out W hb) (by rw [HN.out]; omega))
            have HCY := Lib.hid hcy
            have d1 : decide ((m : Int) ≥ 0) = true := decide_eq_true (by omega)
            have d2 : decide ((m : Int) < (n : Int)) = true := decide_eq_true (by omega)
            have d3 : decide (m < n) = true := decide_eq_true hmn
            have d4 : decide (0 ≤ (m : Int)) = true := decide_eq_true (by omega)
            have hmi : (m : Int) < (n : Int) := by omega
            have hmi2 : (m : Int) ≤ (n : Int) := by omega
            have hk2 : m + 1 = k := by omega
            have HK2 := Lib.hid hk2
            have HBW := Lib.hid hbw
            clear hC hin hy hcy hbw hk2 hj hjn
            go_wp2_with fail
            refine hCE.out.mono ?_
            rintro e w3 ⟨rfl, hb3⟩
            obtain ⟨b, o, rfl, -, hjj⟩ := HCELL.out w3 (HBW.out.trans (hb3.mono HBW.out.size))
            have u0 := hjj m (y : Int) HCY.out
            have HB3 := Lib.hid (HBR.out.trans (hb3.mono HBR.out.size))
            have e1 : ((y : Int) != (y : Int)) = false := by simp
            clear hjj hb3 hCE HCELL
            go_wp2_with fail
            exact ⟨⟨k + 1, by omega, by rw [show (((k + 1 : Nat) : Int) - 1) = (m : Int) + 1 by have := HK2.out; omega], HB3⟩, by have := HK2.out; simp only [Go.RowKit.intOf]; omega⟩
          · have hCE : Hid (Calls Tryd.prog 12 #[.pointer (some ⟨g, 0, none⟩), .int .i64 j] wr fun e w' => e = .returned (.tuple #[.int .i64 0, .bool false]) ∧ Below wr.heap.size wr w') := Lib.hid (hC.mono (by
              rintro e w' ⟨rfl, hb⟩
              have h := inT_no (ns := ns) (i := j) (by rw [HNN.out]; omega)
              rw [atT_no h, h]
              exact ⟨rfl, hb⟩))
            have hjle : j ≤ (n : Int) := hjn
            clear hC hjn
            rcases Int.lt_or_le j 0 with d | d
            · have d1 : decide (j ≥ 0) = false := decide_eq_false (by omega)
              have d4 : decide (0 ≤ j) = false := decide_eq_false (by omega)
              clear hin hj
              go_wp2_with fail
              refine hCE.out.mono ?_
              rintro e w3 ⟨rfl, hb3⟩
              have HB3 := Lib.hid (HBR.out.trans (hb3.mono HBR.out.size))
              clear hb3 hCE
              go_wp2_with fail
              exact ⟨⟨k + 1, by omega, by rw [show (((k + 1 : Nat) : Int) - 1) = j + 1 by have := HJ.out; omega], HB3⟩, by have := HJ.out; simp only [Go.RowKit.intOf]; omega⟩
            · have d1 : decide (j ≥ 0) = true := decide_eq_true d
              have d4 : decide (0 ≤ j) = true := decide_eq_true d
              have d2 : decide (j < (n : Int)) = false := decide_eq_false (by omega)
              clear hin hj
              go_wp2_with fail
              refine hCE.out.mono ?_
              rintro e w3 ⟨rfl, hb3⟩
              have HB3 := Lib.hid (HBR.out.trans (hb3.mono HBR.out.size))
              clear hb3 hCE
              go_wp2_with fail
              exact ⟨⟨k + 1, by omega, by rw [show (((k + 1 : Nat) : Int) - 1) = j + 1 by have := HJ.out; omega], HB3⟩, by have := HJ.out; simp only [Go.RowKit.intOf]; omega⟩
        · obtain rfl : k = n + 2 := by omega
          have hge : ¬ (((n + 2 : Nat) : Int) - 1 ≤ (n : Int)) := by omega
          have hC := HAT.out wr HBR.out z z0 z1
          have hbw : Below w.heap.size w wr := HB2.out.trans (HBR.out.mono HB2.out.size)
          by_cases hin : 0 ≤ z ∧ z < (n : Int)
          · obtain ⟨m, rfl⟩ : ∃ m : Nat, z = m := ⟨z.toNat, by omega⟩
            have hmn : m < n := by omega
            obtain ⟨y, hy⟩ : ∃ y, ns[m]? = some y := ⟨_, List.getElem?_eq_getElem (by rw [HNN.out]; exact hmn)⟩
            have hcy : cs[m]? = some (y : Int) := by rw [← HNAT.out]; unfold castN'; rw [List.getElem?_map, hy]; rfl
            have hCE : Hid (Calls Tryd.prog 12 #[.pointer (some ⟨g, 0, none⟩), .int .i64 (m : Nat)] wr fun e w' => e = .returned (.tuple #[.int .i64 (y : Nat), .bool true]) ∧ Below wr.heap.size wr w') := Lib.hid (hC.mono (by
              rintro e w' ⟨rfl, hb⟩
              rw [atT_yes hy, inT_yes (by rw [HNN.out]; exact hmn)]
              exact ⟨rfl, hb⟩))
            have HCELL := Lib.hid (fun (W : World) (hb : Below w.heap.size w W) => at_int (HV.out W hb) (by rw [HN.out]; omega))
            have HCY := Lib.hid hcy
            have HBW := Lib.hid hbw
            have d1 : decide ((m : Int) ≥ 0) = true := decide_eq_true (by omega)
            have d2 : decide ((m : Int) < (n : Int)) = true := decide_eq_true (by omega)
            have d3 : decide (m < n) = true := decide_eq_true hmn
            have d4 : decide (0 ≤ (m : Int)) = true := decide_eq_true (by omega)
            have hmi : (m : Int) < (n : Int) := by omega
            clear hC hin hy hcy hbw hk hlt
            go_wp2_with fail
            refine hCE.out.mono ?_
            rintro e w3 ⟨rfl, hb3⟩
            have hb3w := HBW.out.trans (hb3.mono HBW.out.size)
            obtain ⟨b, o, rfl, -, hjj⟩ := HCELL.out w3 hb3w
            have u0 := hjj m (y : Int) HCY.out
            have HB3 := Lib.hid hb3w
            have HA3 := Lib.hid (HA.out w3 hb3w)
            have e1 : ((y : Int) == (y : Int)) = true := by simp
            clear hjj hb3 hb3w hCE HCELL HA
            go_wp2_with fail
            refine HA3.out.mono ?_
            rintro e w4 ⟨rfl, hb4⟩
            have HE := Lib.hid (HB3.out.trans (hb4.mono HB3.out.size))
            clear hb4
            go_wp2_with fail
            go_ret
            exact ⟨rfl, HE.out⟩
          · have hCE : Hid (Calls Tryd.prog 12 #[.pointer (some ⟨g, 0, none⟩), .int .i64 z] wr fun e w' => e = .returned (.tuple #[.int .i64 0, .bool false]) ∧ Below wr.heap.size wr w') := Lib.hid (hC.mono (by
              rintro e w' ⟨rfl, hb⟩
              have h := inT_no (ns := ns) (i := z) (by rw [HNN.out]; omega)
              rw [atT_no h, h]
              exact ⟨rfl, hb⟩))
            have HBW := Lib.hid hbw
            clear hC hbw hk hlt
            rcases Int.lt_or_le z 0 with d | d
            · have d1 : decide (z ≥ 0) = false := decide_eq_false (by omega)
              have d4 : decide (0 ≤ z) = false := decide_eq_false (by omega)
              clear hin
              go_wp2_with fail
              refine hCE.out.mono ?_
              rintro e w3 ⟨rfl, hb3⟩
              have hb3w := HBW.out.trans (hb3.mono HBW.out.size)
              have HB3 := Lib.hid hb3w
              have HA3 := Lib.hid (HA.out w3 hb3w)
              clear hb3 hb3w hCE HA
              go_wp2_with fail
              refine HA3.out.mono ?_
              rintro e w4 ⟨rfl, hb4⟩
              have HE := Lib.hid (HB3.out.trans (hb4.mono HB3.out.size))
              clear hb4
              go_wp2_with fail
              go_ret
              exact ⟨rfl, HE.out⟩
            · have d1 : decide (z ≥ 0) = true := decide_eq_true d
              have d4 : decide (0 ≤ z) = true := decide_eq_true d
              have d2 : decide (z < (n : Int)) = false := decide_eq_false (by omega)
              clear hin
              go_wp2_with fail
              refine hCE.out.mono ?_
              rintro e w3 ⟨rfl, hb3⟩
              have hb3w := HBW.out.trans (hb3.mono HBW.out.size)
              have HB3 := Lib.hid hb3w
              have HA3 := Lib.hid (HA.out w3 hb3w)
              clear hb3 hb3w hCE HA
              go_wp2_with fail
              refine HA3.out.mono ?_
              rintro e w4 ⟨rfl, hb4⟩
              have HE := Lib.hid (HB3.out.trans (hb4.mono HB3.out.size))
              clear hb4
              go_wp2_with fail
              go_ret
              exact ⟨rfl, HE.out⟩

theorem own : ownKnob Tryd.prog.godebug = none := by kernel_rfl

set_option maxRecDepth 100000 in
theorem lifted (os : Os) (started : os.Started) (H : Type) (enc : TypeId × Value → H) :
    ReturnsInHanded {} Tryd.checked os 5 .any (fun w args => (Rows.tokensReadsSpec.pre enc Tryd.prog Tryd.f5 [] false w args ∧ laidMetH Tryd.prog Rows.tokensReadsRow.laid w) ∧ sizedMet enc Tryd.prog Tryd.f5 (OpenSpec.ofChange Rows.tokensReadsSpec) false w args)
      (Rows.tokensReadsSpec.post enc Tryd.prog Tryd.f5 false true false false) := by
  refine returnsInHanded_of_change_and (C := Tryd.checked) (X := fun w _ => laidMetH Tryd.prog Rows.tokensReadsRow.laid w) (fun _ _ _ hh h => h.of_heap hh) own started (by kernel_rfl) Tryd.func5
    (ChangeSpec.witness_shaped (enc := enc) (C := Tryd.checked) (os := os) (X := fun w _ => laidMetH Tryd.prog Rows.tokensReadsRow.laid w) false (World.doorLaid Tryd.prog 400 os) #[.slice none 0 0, .int .i64 0] 8 rfl (World.shaped_of_RefB (by kernel_rfl) (by kernel_rfl)) (by kernel_rfl) (by kernel_rfl) (by kernel_rfl) (door_met os _)) ?_
  intro W base args ds gs before hval0 hW _ _ hL _
  have hval : ∀ (j : Nat) t v, Tryd.f5.params[j]? = some t → args[j]? = some v → Value.okWide Tryd.prog W .any base t v := hval0
  have hW' := hW
  have hplt : ∀ x ∈ before, x.block < W.heap.size := fun x hx => hW.lt x hx
  obtain ⟨p, q, hA0, hV, rfl, hfz, hnd⟩ := hW
  have hA : DataW.TrodAll enc Tryd.prog W 0 (fun _ => true) true Tryd.f5.params.toList args.toList ds p := hA0
  rw [Tryd.params5] at hA hval
  obtain ⟨v0, vs0, d0, ds0, p0, q0, hargs, rfl, rfl, h0, r0⟩ := trodAll_cons hA
  obtain ⟨v1, vs1, d1, ds1, p1, q1, rfl, rfl, rfl, h1, r1⟩ := trodAll_cons r0
  obtain ⟨rfl, rfl, rfl⟩ := trodAll_nil r1
  obtain rfl : args = #[v0, v1] := by cases args; simp_all
  obtain ⟨rfl, rfl⟩ := trodVars_none hV
  obtain ⟨l0, s0, m0, n0⟩ := open_rowI (hval 0 22 v0 rfl rfl) h0
  obtain ⟨x1, rfl, m1, n1⟩ := open_i64 (hval 1 3 v1 rfl rfl) h1
  clear hA0 hval0
  refine (walk v0 l0 s0 m0 n0 x1 m1 n1 (tab_of_laid hL)).mono fun e W' ⟨he, bel⟩ => ?_
  subst he
  exact ⟨_, rfl, _, _, _, [], _, [], hW', trodAll_mk1 (shut_bool Tryd.underlying4 _), (trodAll_cons_mk (Below.trod Tryd.laidOut (by kernel_rfl) (of_decide_eq_true (by kernel_rfl)) h0 bel (fun x hx => hplt x (by simp [hx]))) (trodAll_cons_mk (Below.trod Tryd.laidOut (by kernel_rfl) (of_decide_eq_true (by kernel_rfl)) h1 bel (fun x hx => hplt x (by simp [hx]))) trodAll_mk0)), rfl, World.keptBut_mono (fun x hx => ⟨hx, Or.inr (by simpa using hx)⟩) (bel.frame (· ∈ _)), fun h => by cases h⟩

theorem over : Rows.tokensReadsRow.holds Tryd.pinned (OpenSpec.ofChange Rows.tokensReadsSpec) :=
  OpenClaim.holds_of_wide 5 Tryd.f5 rfl rfl rfl rfl rfl rfl rfl ⟨rfl, rfl, rfl, rfl, rfl⟩ rfl rfl rfl rfl rfl (by kernel_rfl) Tryd.func5 (by kernel_rfl)
    (of_decide_eq_true (by kernel_rfl)) (by unfold Func.isWrapper; first | (rw [if_pos (by decide +kernel)]; kernel_rfl) | (rw [if_neg (by decide +kernel)]; exact ⟨rfl, rfl⟩))
    (fun os started H enc _ => lifted os started H enc)

/-- THE STATEMENT: the tied card. -/
theorem proved : Rows.TokensReadsCardSaid :=
  Claim7.holds_tied_plain_at .later [] Rows.tokensReadsCard.laidKinds true Rows.tokensReadsCard.stood.harness Rows.tokensReadsCard.stood.looks
    over (fun _ h => by cases h) (by kernel_rfl) (fun _ h => by cases h) tokensReads_row_tie rfl ⟨rfl, rfl⟩ (by kernel_rfl) rfl
    (fun f fn hf hfn => by
      obtain rfl : f = 5 := Option.some.inj ((show Tryd.prog.funcNamed "corpora/corporalaw16.TokensReads" = some 5 by kernel_rfl).symm.trans hf) |>.symm
      obtain rfl : fn = Tryd.f5 := (Option.some.inj (Tryd.func5.symm.trans hfn)).symm
      exact ⟨by kernel_rfl, fun j t ht => by
        rw [Tryd.params5] at ht
        have hm : t ∈ [22, 3] := by simpa using Array.mem_of_getElem? ht
        have hall : ([22, 3].all fun u => !Tryd.prog.wantsStandIn u) = true := by kernel_rfl
        exact (show Tryd.prog.wantsStandIn t = false by simpa using List.all_eq_true.1 hall t hm)⟩)
    (by kernel_rfl)
end Go.Proofs.YteennnhinfnahaaDoor.tokensReads
