/-
  BlockRoundTrips is proved: for every list of numbers and every number the call of the law returns true, and each argument reads afterwards as it read before. It has no condition.
-/
import Derived.Test.YtbfnkmibbieijaaRows
import Derived.Test.YtbfnkmibbieijaaHoO
import Derived.Test.YtbfnkmibbieijaaBkW
import Derived.ProofKit
import Derived.OpenShut
import Derived.Carry
namespace Go.Proofs.Ytbfnkmibbieijaa.blockRoundTrips
open Go.ChangeShapes Go.WideShapes Go.ChangeAt Go.RowKit Go.Shelf Go.Lib
set_option linter.unusedVariables false

set_option maxRecDepth 100000 in
set_option maxHeartbeats 8000000 in
theorem walk {w : World} (v : Value) (cs : List Int) (hv : Rows 1 EInt w v cs) (hm : cs.length ≤ maxLen) (_ : ∀ x ∈ cs, -9223372036854775808 ≤ x ∧ x ≤ 9223372036854775807) (i : Int) (h0 : -9223372036854775808 ≤ i) (h1 : i ≤ 9223372036854775807) :
    Calls Try.prog 8 #[v, .int .i64 i] w fun e w1 => e = .returned (.bool true) ∧ Below w.heap.size w w1 := by
  have HCK := Lib.hid (refCheckB_any hv hm)
  have HA := Lib.hid (fun (W : World) => awake_any W)
  obtain ⟨A, cap, rfl, hc⟩ := hv.form
  obtain ⟨n, hn⟩ : ∃ n, cs.length = n := ⟨_, rfl⟩
  by_cases hz : chkB cs = 0
  · obtain ⟨hcs, hok⟩ := chk_ok hz
    obtain ⟨ns, hns⟩ : ∃ ns, natB cs = ns := ⟨_, rfl⟩
    rw [hns] at hcs hok
    have hnl : ns.length = n := by rw [← hn, ← hcs, castB_len]
    have hpk : packB cs = blkB ns (wid ns) := by unfold packB; rw [hns]
    have hbl : (blkB ns (wid ns)).length ≤ 12500 := by
      have := cst_le hok (wid_le ns)
      unfold cst at this
      omega
    have HPK := Lib.hid (pack_ok hv hm hz hpk)
    have hup := unpB_pack hok
    have HUP := Lib.hid (fun (W : World) (u : Value) (h : Sees W W.heap.size u (blkB ns (wid ns))) => unpackB_any h hbl)
    have HGT := Lib.hid (fun (W : World) (u : Value) (h : Sees W W.heap.size u (blkB ns (wid ns))) => getB_any h hbl i h0 h1)
    rw [hup] at HUP HGT
    obtain ⟨P, hP⟩ : ∃ P, blkB ns (wid ns) = P := ⟨_, rfl⟩
    rw [hP] at HPK HUP HGT
    rw [hz] at HCK
    have HV := Lib.hid (fun W (hb : Below w.heap.size w W) => hv.below stays_int hb)
    have HM := Lib.hid hm
    have HCS := Lib.hid hcs
    have HNL := Lib.hid hnl
    have HN := Lib.hid hn
    rw [hn] at HCK HPK HV ⊢
    clear hv hm hc hz hcs hok hns hpk hbl hup hP hn
    go_enter Try.func8, Try.ntmps8
    go_wp2_with fail
    refine HCK.out.mono ?_
    rintro e w' ⟨rfl, rfl⟩
    go_wp2_with fail
    refine HPK.out.mono ?_
    rintro e w1 ⟨v1, rfl, hs1, -, hb1⟩
    have HU1 := Lib.hid (HUP.out w1 v1 hs1)
    have HS1 := Lib.hid hs1
    have HB1 := Lib.hid hb1
    clear hs1 hb1 HPK HUP HCK
    go_wp2_with fail
    refine HU1.out.mono ?_
    rintro e w2 ⟨hb2, ⟨vs, hvs, hok2, v2, rfl, hr2⟩ | ⟨habs, _⟩⟩
    · cases hvs
      rw [HCS.out] at hr2
      have HB2 := Lib.hid (HB1.out.trans (hb2.mono HB1.out.size))
      have HSM := Lib.hid (sameIntsB_any hr2 (HV.out w2 HB2.out) HM.out HM.out)
      have HS2 := Lib.hid ((HS1.out.below hb2).mono hb2.size)
      obtain ⟨A2, cp2, rfl, -⟩ := hr2.form
      rw [HN.out] at HSM ⊢
      clear hb2 hok2 hr2 HU1 HS1 HB1
      go_wp2_with fail
      refine HSM.out.mono ?_
      rintro e w3 ⟨rfl, hb3⟩
      have HB3 := Lib.hid (HB2.out.trans (hb3.mono HB2.out.size))
      have HG := Lib.hid (HGT.out w3 v1 ((HS2.out.below hb3).mono hb3.size))
      obtain ⟨t, ht⟩ : ∃ t, getE (some ns) i = t := ⟨_, rfl⟩
      rw [ht] at HG
      have HTT := Lib.hid ht
      clear hb3 HSM HGT HS2 HB2 ht
      go_wp2_with fail
      refine HG.out.mono ?_
      rintro e w4 ⟨rfl, hb4⟩
      have HB4 := Lib.hid (HB3.out.trans (hb4.mono HB3.out.size))
      clear hb4 HB3 HG
      by_cases c1 : i < 0
      · have b1 : decide (i < 0) = true := decide_eq_true c1
        have hE : t = (0, 8) := by rw [← HTT.out]; simp only [getE]; rw [if_pos (.inl c1)]
        subst hE
        go_wp2_with fail
        refine (HA.out _).mono ?_
        rintro e w5 ⟨rfl, hb5⟩
        have HB5 := Lib.hid (HB4.out.trans (hb5.mono HB4.out.size))
        clear hb5
        go_wp2_with fail
        go_ret
        exact ⟨rfl, HB5.out⟩
      · have b1 : decide (i < 0) = false := decide_eq_false c1
        by_cases c2 : (n : Int) ≤ i
        · have b2 : decide (i ≥ (n : Int)) = true := decide_eq_true c2
          have hE : t = (0, 8) := by rw [← HTT.out]; simp only [getE]; rw [if_pos (.inr (by rw [HNL.out]; exact c2))]
          subst hE
          go_wp2_with fail
          refine (HA.out _).mono ?_
          rintro e w5 ⟨rfl, hb5⟩
          have HB5 := Lib.hid (HB4.out.trans (hb5.mono HB4.out.size))
          clear hb5
          go_wp2_with fail
          go_ret
          exact ⟨rfl, HB5.out⟩
        · have b2 : decide (i ≥ (n : Int)) = false := decide_eq_false c2
          obtain ⟨k, rfl⟩ : ∃ k : Nat, i = k := ⟨i.toNat, by omega⟩
          have hkn : k < n := by omega
          have hknI : (k : Int) < (n : Int) := by omega
          obtain ⟨x, hx⟩ : ∃ x, ns[k]? = some x := ⟨_, List.getElem?_eq_getElem (by rw [HNL.out]; exact hkn)⟩
          have hE : t = ((x : Int), 0) := by
            rw [← HTT.out]
            simp only [getE]
            rw [if_neg (by rw [HNL.out]; omega), Int.toNat_natCast, List.getD_eq_getElem?_getD, hx]
            rfl
          subst hE
          obtain ⟨bb, o, rfl, -, hj⟩ := at_int (HV.out w4 HB4.out) (by rw [HN.out]; omega)
          have u0 := hj k (x : Int) (by rw [← HCS.out]; exact castB_at hx)
          have hxx : ((x : Int) == (x : Int)) = true := beq_self_eq_true _
          clear hj hx
          go_wp2_with fail
          refine (HA.out _).mono ?_
          rintro e w5 ⟨rfl, hb5⟩
          have HB5 := Lib.hid (HB4.out.trans (hb5.mono HB4.out.size))
          clear hb5
          go_wp2_with fail
          go_ret
          exact ⟨rfl, HB5.out⟩
    · cases habs
  · obtain ⟨r, hr⟩ : ∃ r, chkB cs = r := ⟨_, rfl⟩
    rw [hr] at hz HCK
    have hb : (r != 0) = true := by simpa using hz
    rw [hn] at HCK ⊢
    clear hv hm hr hc hn
    go_enter Try.func8, Try.ntmps8
    go_wp2_with fail
    refine HCK.out.mono ?_
    rintro e w' ⟨rfl, rfl⟩
    go_wp2_with fail
    go_ret
    exact ⟨rfl, Below.refl _ _⟩

theorem own : ownKnob Try.prog.godebug = none := by kernel_rfl

set_option maxRecDepth 100000 in
theorem lifted (os : Os) (started : os.Started) (H : Type) (enc : TypeId × Value → H) :
    ReturnsInHanded {} Try.checked os 8 .any (Rows.blockRoundTripsSpec.pre6 enc Try.prog Try.f8 Rows.blockRoundTripsRow.domain false) (Rows.blockRoundTripsSpec.post enc Try.prog Try.f8 false true false false) := by
  refine returnsInHanded_of_change (C := Try.checked) own started (by kernel_rfl) Try.func8
    (ChangeSpec.witness6 (enc := enc) (C := Try.checked) false ⟨#[], #[.slice none 0 0, .int .i64 0], []⟩ 8 (by kernel_rfl) (by kernel_rfl) (by kernel_rfl) (by kernel_rfl)) ?_
  intro W base args ds gs before hval0 hW hcnd _
  have hval : ∀ (j : Nat) t v, Try.f8.params[j]? = some t → args[j]? = some v → Value.okWide Try.prog W .any base t v := hval0
  have hW' := hW
  have hplt : ∀ x ∈ before, x.block < W.heap.size := fun x hx => hW.lt x hx
  obtain ⟨p, q, hA0, hV, rfl, hfz, hnd⟩ := hW
  have hA : DataW.TrodAll enc Try.prog W 0 (fun _ => true) true Try.f8.params.toList args.toList ds p := hA0
  rw [Try.params8] at hA hval
  obtain ⟨v0, vs0, d0, ds0, p0, q0, hargs, rfl, rfl, h0, r0⟩ := trodAll_cons hA
  obtain ⟨v1, vs1, d1, ds1, p1, q1, rfl, rfl, rfl, h1, r1⟩ := trodAll_cons r0
  obtain ⟨rfl, rfl, rfl⟩ := trodAll_nil r1
  obtain rfl : args = #[v0, v1] := by cases args; simp_all
  obtain ⟨rfl, rfl⟩ := trodVars_none hV
  obtain ⟨l0, s0, m0, n0⟩ := open_rowI (hval 0 22 v0 rfl rfl) h0
  obtain ⟨x1, rfl, m1, n1⟩ := open_i64 (hval 1 3 v1 rfl rfl) h1
  clear hA0 hval0
  refine (walk v0 l0 s0 m0 n0 x1 m1 n1).mono fun e W' ⟨he, bel⟩ => ?_
  subst he
  exact ⟨_, rfl, _, _, _, [], _, [], hW', trodAll_mk1 (shut_bool Try.underlying4 _), (trodAll_cons_mk (Below.trod Try.laidOut (by kernel_rfl) (of_decide_eq_true (by kernel_rfl)) h0 bel (fun x hx => hplt x (by simp [hx]))) (trodAll_cons_mk (Below.trod Try.laidOut (by kernel_rfl) (of_decide_eq_true (by kernel_rfl)) h1 bel (fun x hx => hplt x (by simp [hx]))) trodAll_mk0)), rfl, World.keptBut_mono (fun x hx => ⟨hx, Or.inr (by simpa using hx)⟩) (bel.frame (· ∈ _)), fun h => by cases h⟩

theorem over : Rows.blockRoundTripsRow.holds Try.pinned (OpenSpec.ofChange Rows.blockRoundTripsSpec) :=
  OpenClaim.holds_of_wide 8 Try.f8 rfl rfl rfl rfl rfl rfl rfl ⟨rfl, rfl, rfl, rfl, rfl⟩ rfl rfl rfl rfl rfl (by kernel_rfl) Try.func8 (by kernel_rfl)
    (of_decide_eq_true (by kernel_rfl)) (by unfold Func.isWrapper; first | (rw [if_pos (by decide +kernel)]; kernel_rfl) | (rw [if_neg (by decide +kernel)]; exact ⟨rfl, rfl⟩))
    (fun os started H enc _ => lifted os started H enc)

/-- THE STATEMENT. -/
theorem proved : Rows.BlockRoundTripsSaid := over
end Go.Proofs.Ytbfnkmibbieijaa.blockRoundTrips
