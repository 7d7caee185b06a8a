/-
  FeatureAssociates is proved: for every string and every string and every string the call of the law returns true, and each argument reads afterwards as it read before. It has no condition.
-/
import Derived.Test.YthagjdhfngdigaaRows
import Derived.Test.YthagjdhfngdigaaFoM
import Derived.Test.YthagjdhfngdigaaFuM
import Derived.Test.YthagjdhfngdigaaFqM
import Derived.ProofKit
import Derived.OpenShut
import Derived.Carry
namespace Go.Proofs.Ythagjdhfngdigaa.featureAssociates
open Go.ChangeShapes Go.WideShapes Go.ChangeAt Go.RowKit Go.Shelf Go.Lib
set_option linter.unusedVariables false

theorem size_union (a b : Bs) : (⟨(unionL a b).1.toArray⟩ : ByteArray).size ≤ maxLen := by
  rw [Lib.size_eq]
  have := unionL_len a b
  unfold maxLen
  show (unionL a b).1.length ≤ _
  omega
theorem size_inter (a b : Bs) : (⟨(interL a b).1.toArray⟩ : ByteArray).size ≤ maxLen := by
  rw [Lib.size_eq]
  have := interL_len a b
  unfold maxLen
  show (interL a b).1.length ≤ _
  omega

set_option maxRecDepth 100000 in
set_option maxHeartbeats 4000000 in
theorem walk (a : ByteArray) (ha : a.size ≤ maxLen) (b : ByteArray) (hb : b.size ≤ maxLen) (c : ByteArray) (hc : c.size ≤ maxLen) {w : World} :
    Calls Try.prog 10 #[.string a, .string b, .string c] w fun e w1 => e = .returned (.bool true) ∧ Below w.heap.size w w1 := by
  have hU := fun W => union_any a b ha hb W
  have hV := fun W => union_any c b hc hb W
  have hX := fun W => union_any _ c (size_union a.data.toList b.data.toList) hc W
  have hY := fun W => union_any a _ ha (size_union c.data.toList b.data.toList) W
  have hhU := fun h1 h2 => union_assoc (a := a.data.toList) (b := b.data.toList) (c := c.data.toList) h1 h2
  obtain ⟨zX, eX⟩ : ∃ z, unionL (unionL a.data.toList b.data.toList).1 c.data.toList = z := ⟨_, rfl⟩
  obtain ⟨zY, eY⟩ : ∃ z, unionL a.data.toList (unionL c.data.toList b.data.toList).1 = z := ⟨_, rfl⟩
  simp only [eX] at hX hhU
  simp only [eY] at hY hhU
  obtain ⟨U, fU⟩ : ∃ z : ByteArray, (⟨(unionL a.data.toList b.data.toList).1.toArray⟩ : ByteArray) = z := ⟨_, rfl⟩
  obtain ⟨V, fV⟩ : ∃ z : ByteArray, (⟨(unionL c.data.toList b.data.toList).1.toArray⟩ : ByteArray) = z := ⟨_, rfl⟩
  obtain ⟨kU, gU⟩ : ∃ z, (unionL a.data.toList b.data.toList).2 = z := ⟨_, rfl⟩
  obtain ⟨kV, gV⟩ : ∃ z, (unionL c.data.toList b.data.toList).2 = z := ⟨_, rfl⟩
  simp only [fU, gU] at hU hX hhU
  simp only [fV, gV] at hV hY hhU
  have HU := Lib.hid hU
  have HV := Lib.hid hV
  have HX := Lib.hid hX
  have HY := Lib.hid hY
  have HHU := Lib.hid hhU
  clear hU hV hX hY hhU eX eY fU fV gU gV
  have hI := fun W => inter_any a b ha hb W
  have hJ := fun W => inter_any c b hc hb W
  have hK := fun W => inter_any _ c (size_inter a.data.toList b.data.toList) hc W
  have hM := fun W => inter_any a _ ha (size_inter c.data.toList b.data.toList) W
  have hhI := fun h1 h2 => inter_assoc (a := a.data.toList) (b := b.data.toList) (c := c.data.toList) h1 h2
  obtain ⟨zK, eK⟩ : ∃ z, interL (interL a.data.toList b.data.toList).1 c.data.toList = z := ⟨_, rfl⟩
  obtain ⟨zM, eM⟩ : ∃ z, interL a.data.toList (interL c.data.toList b.data.toList).1 = z := ⟨_, rfl⟩
  simp only [eK] at hK hhI
  simp only [eM] at hM hhI
  obtain ⟨I, fI⟩ : ∃ z : ByteArray, (⟨(interL a.data.toList b.data.toList).1.toArray⟩ : ByteArray) = z := ⟨_, rfl⟩
  obtain ⟨J, fJ⟩ : ∃ z : ByteArray, (⟨(interL c.data.toList b.data.toList).1.toArray⟩ : ByteArray) = z := ⟨_, rfl⟩
  obtain ⟨kI, gI⟩ : ∃ z, (interL a.data.toList b.data.toList).2 = z := ⟨_, rfl⟩
  obtain ⟨kJ, gJ⟩ : ∃ z, (interL c.data.toList b.data.toList).2 = z := ⟨_, rfl⟩
  simp only [fI, gI] at hI hK hhI
  simp only [fJ, gJ] at hJ hM hhI
  have HI := Lib.hid hI
  have HJ := Lib.hid hJ
  have HK := Lib.hid hK
  have HM := Lib.hid hM
  have HHI := Lib.hid hhI
  clear hI hJ hK hM hhI eK eM fI fJ gI gJ
  have HW := Lib.hid (fun W => awake_any W)
  clear ha hb hc
  by_cases qU : kU = 0
  · subst qU
    by_cases qV : kV = 0
    · subst qV
      have eU := HHU.out rfl rfl
      subst eU
      go_enter Try.func10, Try.ntmps10
      go_wp2_with fail
      refine (HU.out _).mono ?_
      rintro e w1 ⟨rfl, hb1⟩
      have HB1 := Lib.hid hb1
      clear hb1
      go_wp2_with fail
      refine (HV.out _).mono ?_
      rintro e w2 ⟨rfl, hb2⟩
      have HB2 := Lib.hid (HB1.out.trans (hb2.mono HB1.out.size))
      clear hb2
      go_wp2_with fail
      refine (HX.out _).mono ?_
      rintro e w3 ⟨rfl, hb3⟩
      have HB3 := Lib.hid (HB2.out.trans (hb3.mono HB2.out.size))
      clear hb3
      go_wp2_with fail
      refine (HY.out _).mono ?_
      rintro e w4 ⟨rfl, hb4⟩
      have HB4 := Lib.hid (HB3.out.trans (hb4.mono HB3.out.size))
      clear hb4
      go_wp2_with fail
      by_cases qI : kI = 0
      · subst qI
        by_cases qJ : kJ = 0
        · subst qJ
          have eI := HHI.out rfl rfl
          subst eI
          refine (HI.out _).mono ?_
          rintro e w5 ⟨rfl, hb5⟩
          have HB5 := Lib.hid (HB4.out.trans (hb5.mono HB4.out.size))
          clear hb5
          go_wp2_with fail
          refine (HJ.out _).mono ?_
          rintro e w6 ⟨rfl, hb6⟩
          have HB6 := Lib.hid (HB5.out.trans (hb6.mono HB5.out.size))
          clear hb6
          go_wp2_with fail
          refine (HK.out _).mono ?_
          rintro e w7 ⟨rfl, hb7⟩
          have HB7 := Lib.hid (HB6.out.trans (hb7.mono HB6.out.size))
          clear hb7
          go_wp2_with fail
          refine (HM.out _).mono ?_
          rintro e w8 ⟨rfl, hb8⟩
          have HB8 := Lib.hid (HB7.out.trans (hb8.mono HB7.out.size))
          clear hb8
          go_wp2_with fail
          refine (HW.out _).mono ?_
          rintro e w9 ⟨rfl, hb9⟩
          have HB9 := Lib.hid (HB8.out.trans (hb9.mono HB8.out.size))
          clear hb9
          go_wp2_with fail
          go_ret
          exact ⟨rfl, HB9.out⟩
        · have nJ : ((kJ : Int) == 0) = false := by simp [qJ]
          have mJ : ¬ ((kJ : Int) = 0) := by omega
          refine (HI.out _).mono ?_
          rintro e w5 ⟨rfl, hb5⟩
          have HB5 := Lib.hid (HB4.out.trans (hb5.mono HB4.out.size))
          clear hb5
          go_wp2_with fail
          refine (HJ.out _).mono ?_
          rintro e w6 ⟨rfl, hb6⟩
          have HB6 := Lib.hid (HB5.out.trans (hb6.mono HB5.out.size))
          clear hb6
          go_wp2_with fail
          go_ret
          exact ⟨rfl, HB6.out⟩
      · have nI : ((kI : Int) == 0) = false := by simp [qI]
        have mI : ¬ ((kI : Int) = 0) := by omega
        refine (HI.out _).mono ?_
        rintro e w5 ⟨rfl, hb5⟩
        have HB5 := Lib.hid (HB4.out.trans (hb5.mono HB4.out.size))
        clear hb5
        go_wp2_with fail
        refine (HJ.out _).mono ?_
        rintro e w6 ⟨rfl, hb6⟩
        have HB6 := Lib.hid (HB5.out.trans (hb6.mono HB5.out.size))
        clear hb6
        go_wp2_with fail
        go_ret
        exact ⟨rfl, HB6.out⟩
    · have nV : ((kV : Int) == 0) = false := by simp [qV]
      have mV : ¬ ((kV : Int) = 0) := by omega
      go_enter Try.func10, Try.ntmps10
      go_wp2_with fail
      refine (HU.out _).mono ?_
      rintro e w1 ⟨rfl, hb1⟩
      have HB1 := Lib.hid hb1
      clear hb1
      go_wp2_with fail
      refine (HV.out _).mono ?_
      rintro e w2 ⟨rfl, hb2⟩
      have HB2 := Lib.hid (HB1.out.trans (hb2.mono HB1.out.size))
      clear hb2
      go_wp2_with fail
      refine (HX.out _).mono ?_
      rintro e w3 ⟨rfl, hb3⟩
      have HB3 := Lib.hid (HB2.out.trans (hb3.mono HB2.out.size))
      clear hb3
      go_wp2_with fail
      refine (HY.out _).mono ?_
      rintro e w4 ⟨rfl, hb4⟩
      have HB4 := Lib.hid (HB3.out.trans (hb4.mono HB3.out.size))
      clear hb4
      go_wp2_with fail
      by_cases qI : kI = 0
      · subst qI
        by_cases qJ : kJ = 0
        · subst qJ
          have eI := HHI.out rfl rfl
          subst eI
          refine (HI.out _).mono ?_
          rintro e w5 ⟨rfl, hb5⟩
          have HB5 := Lib.hid (HB4.out.trans (hb5.mono HB4.out.size))
          clear hb5
          go_wp2_with fail
          refine (HJ.out _).mono ?_
          rintro e w6 ⟨rfl, hb6⟩
          have HB6 := Lib.hid (HB5.out.trans (hb6.mono HB5.out.size))
          clear hb6
          go_wp2_with fail
          refine (HK.out _).mono ?_
          rintro e w7 ⟨rfl, hb7⟩
          have HB7 := Lib.hid (HB6.out.trans (hb7.mono HB6.out.size))
          clear hb7
          go_wp2_with fail
          refine (HM.out _).mono ?_
          rintro e w8 ⟨rfl, hb8⟩
          have HB8 := Lib.hid (HB7.out.trans (hb8.mono HB7.out.size))
          clear hb8
          go_wp2_with fail
          refine (HW.out _).mono ?_
          rintro e w9 ⟨rfl, hb9⟩
          have HB9 := Lib.hid (HB8.out.trans (hb9.mono HB8.out.size))
          clear hb9
          go_wp2_with fail
          go_ret
          exact ⟨rfl, HB9.out⟩
        · have nJ : ((kJ : Int) == 0) = false := by simp [qJ]
          have mJ : ¬ ((kJ : Int) = 0) := by omega
          refine (HI.out _).mono ?_
          rintro e w5 ⟨rfl, hb5⟩
          have HB5 := Lib.hid (HB4.out.trans (hb5.mono HB4.out.size))
          clear hb5
          go_wp2_with fail
          refine (HJ.out _).mono ?_
          rintro e w6 ⟨rfl, hb6⟩
          have HB6 := Lib.hid (HB5.out.trans (hb6.mono HB5.out.size))
          clear hb6
          go_wp2_with fail
          go_ret
          exact ⟨rfl, HB6.out⟩
      · have nI : ((kI : Int) == 0) = false := by simp [qI]
        have mI : ¬ ((kI : Int) = 0) := by omega
        refine (HI.out _).mono ?_
        rintro e w5 ⟨rfl, hb5⟩
        have HB5 := Lib.hid (HB4.out.trans (hb5.mono HB4.out.size))
        clear hb5
        go_wp2_with fail
        refine (HJ.out _).mono ?_
        rintro e w6 ⟨rfl, hb6⟩
        have HB6 := Lib.hid (HB5.out.trans (hb6.mono HB5.out.size))
        clear hb6
        go_wp2_with fail
        go_ret
        exact ⟨rfl, HB6.out⟩
  · have nU : ((kU : Int) == 0) = false := by simp [qU]
    have mU : ¬ ((kU : Int) = 0) := by omega
    go_enter Try.func10, Try.ntmps10
    go_wp2_with fail
    refine (HU.out _).mono ?_
    rintro e w1 ⟨rfl, hb1⟩
    have HB1 := Lib.hid hb1
    clear hb1
    go_wp2_with fail
    refine (HV.out _).mono ?_
    rintro e w2 ⟨rfl, hb2⟩
    have HB2 := Lib.hid (HB1.out.trans (hb2.mono HB1.out.size))
    clear hb2
    go_wp2_with fail
    refine (HX.out _).mono ?_
    rintro e w3 ⟨rfl, hb3⟩
    have HB3 := Lib.hid (HB2.out.trans (hb3.mono HB2.out.size))
    clear hb3
    go_wp2_with fail
    refine (HY.out _).mono ?_
    rintro e w4 ⟨rfl, hb4⟩
    have HB4 := Lib.hid (HB3.out.trans (hb4.mono HB3.out.size))
    clear hb4
    go_wp2_with fail
    by_cases qI : kI = 0
    · subst qI
      by_cases qJ : kJ = 0
      · subst qJ
        have eI := HHI.out rfl rfl
        subst eI
        refine (HI.out _).mono ?_
        rintro e w5 ⟨rfl, hb5⟩
        have HB5 := Lib.hid (HB4.out.trans (hb5.mono HB4.out.size))
        clear hb5
        go_wp2_with fail
        refine (HJ.out _).mono ?_
        rintro e w6 ⟨rfl, hb6⟩
        have HB6 := Lib.hid (HB5.out.trans (hb6.mono HB5.out.size))
        clear hb6
        go_wp2_with fail
        refine (HK.out _).mono ?_
        rintro e w7 ⟨rfl, hb7⟩
        have HB7 := Lib.hid (HB6.out.trans (hb7.mono HB6.out.size))
        clear hb7
        go_wp2_with fail
        refine (HM.out _).mono ?_
        rintro e w8 ⟨rfl, hb8⟩
        have HB8 := Lib.hid (HB7.out.trans (hb8.mono HB7.out.size))
        clear hb8
        go_wp2_with fail
        refine (HW.out _).mono ?_
        rintro e w9 ⟨rfl, hb9⟩
        have HB9 := Lib.hid (HB8.out.trans (hb9.mono HB8.out.size))
        clear hb9
        go_wp2_with fail
        go_ret
        exact ⟨rfl, HB9.out⟩
      · have nJ : ((kJ : Int) == 0) = false := by simp [qJ]
        have mJ : ¬ ((kJ : Int) = 0) := by omega
        refine (HI.out _).mono ?_
        rintro e w5 ⟨rfl, hb5⟩
        have HB5 := Lib.hid (HB4.out.trans (hb5.mono HB4.out.size))
        clear hb5
        go_wp2_with fail
        refine (HJ.out _).mono ?_
        rintro e w6 ⟨rfl, hb6⟩
        have HB6 := Lib.hid (HB5.out.trans (hb6.mono HB5.out.size))
        clear hb6
        go_wp2_with fail
        go_ret
        exact ⟨rfl, HB6.out⟩
    · have nI : ((kI : Int) == 0) = false := by simp [qI]
      have mI : ¬ ((kI : Int) = 0) := by omega
      refine (HI.out _).mono ?_
      rintro e w5 ⟨rfl, hb5⟩
      have HB5 := Lib.hid (HB4.out.trans (hb5.mono HB4.out.size))
      clear hb5
      go_wp2_with fail
      refine (HJ.out _).mono ?_
      rintro e w6 ⟨rfl, hb6⟩
      have HB6 := Lib.hid (HB5.out.trans (hb6.mono HB5.out.size))
      clear hb6
      go_wp2_with fail
      go_ret
      exact ⟨rfl, HB6.out⟩

theorem own : ownKnob Try.prog.godebug = none := by kernel_rfl

set_option maxRecDepth 100000 in
theorem lifted (os : Os) (started : os.Started) (H : Type) (enc : TypeId × Value → H) :
    ReturnsInHanded {} Try.checked os 10 .any (Rows.featureAssociatesSpec.pre6 enc Try.prog Try.f10 Rows.featureAssociatesRow.domain false) (Rows.featureAssociatesSpec.post enc Try.prog Try.f10 false true false false) := by
  refine returnsInHanded_of_change (C := Try.checked) own started (by kernel_rfl) Try.func10
    (ChangeSpec.witness6 (enc := enc) (C := Try.checked) false ⟨#[], #[.string ⟨#[]⟩, .string ⟨#[]⟩, .string ⟨#[]⟩], []⟩ 8 (by kernel_rfl) (by kernel_rfl) (by kernel_rfl) (by kernel_rfl)) ?_
  intro W base args ds gs before hval0 hW hcnd _
  have hval : ∀ (j : Nat) t v, Try.f10.params[j]? = some t → args[j]? = some v → Value.okWide Try.prog W .any base t v := hval0
  have hW' := hW
  have hplt : ∀ x ∈ before, x.block < W.heap.size := fun x hx => hW.lt x hx
  obtain ⟨p, q, hA0, hV, rfl, hfz, hnd⟩ := hW
  have hA : DataW.TrodAll enc Try.prog W 0 (fun _ => true) true Try.f10.params.toList args.toList ds p := hA0
  rw [Try.params10] at hA hval
  obtain ⟨v0, vs0, d0, ds0, p0, q0, hargs, rfl, rfl, h0, r0⟩ := trodAll_cons hA
  obtain ⟨v1, vs1, d1, ds1, p1, q1, rfl, rfl, rfl, h1, r1⟩ := trodAll_cons r0
  obtain ⟨v2, vs2, d2, ds2, p2, q2, rfl, rfl, rfl, h2, r2⟩ := trodAll_cons r1
  obtain ⟨rfl, rfl, rfl⟩ := trodAll_nil r2
  obtain rfl : args = #[v0, v1, v2] := by cases args; simp_all
  obtain ⟨rfl, rfl⟩ := trodVars_none hV
  obtain ⟨a0, rfl, m0⟩ := open_str (hval 0 9 v0 rfl rfl) h0
  obtain ⟨a1, rfl, m1⟩ := open_str (hval 1 9 v1 rfl rfl) h1
  obtain ⟨a2, rfl, m2⟩ := open_str (hval 2 9 v2 rfl rfl) h2
  clear hA0 hval0
  refine (walk a0 m0 a1 m1 a2 m2).mono fun e W' ⟨he, bel⟩ => ?_
  subst he
  exact ⟨_, rfl, _, _, _, [], _, [], hW', trodAll_mk1 (shut_bool Try.underlying4 _), (trodAll_cons_mk (Below.trod Try.laidOut (by kernel_rfl) (of_decide_eq_true (by kernel_rfl)) h0 bel (fun x hx => hplt x (by simp [hx]))) (trodAll_cons_mk (Below.trod Try.laidOut (by kernel_rfl) (of_decide_eq_true (by kernel_rfl)) h1 bel (fun x hx => hplt x (by simp [hx]))) (trodAll_cons_mk (Below.trod Try.laidOut (by kernel_rfl) (of_decide_eq_true (by kernel_rfl)) h2 bel (fun x hx => hplt x (by simp [hx]))) trodAll_mk0))), rfl, World.keptBut_mono (fun x hx => ⟨hx, Or.inr (by simpa using hx)⟩) (bel.frame (· ∈ _)), fun h => by cases h⟩

theorem over : Rows.featureAssociatesRow.holds Try.pinned (OpenSpec.ofChange Rows.featureAssociatesSpec) :=
  OpenClaim.holds_of_wide 10 Try.f10 rfl rfl rfl rfl rfl rfl rfl ⟨rfl, rfl, rfl, rfl, rfl⟩ rfl rfl rfl rfl rfl (by kernel_rfl) Try.func10 (by kernel_rfl)
    (of_decide_eq_true (by kernel_rfl)) (by unfold Func.isWrapper; first | (rw [if_pos (by decide +kernel)]; kernel_rfl) | (rw [if_neg (by decide +kernel)]; exact ⟨rfl, rfl⟩))
    (fun os started H enc _ => lifted os started H enc)

/-- THE STATEMENT. -/
theorem proved : Rows.FeatureAssociatesSaid := over
end Go.Proofs.Ythagjdhfngdigaa.featureAssociates
