/-
  FeatureMembers is proved: for every string and every string and every string the call of the law returns true, and each argument reads afterwards as it read before. It has no condition.
-/
import Derived.Test.YthagjdhfngdigaaRows
import Derived.Test.YthagjdhfngdigaaFoM
import Derived.Test.YthagjdhfngdigaaFuM
import Derived.Test.YthagjdhfngdigaaFqM
import Derived.ProofKit
import Derived.OpenShut
import Derived.Carry
namespace Go.Proofs.Ythagjdhfngdigaa.featureMembers
open Go.ChangeShapes Go.WideShapes Go.ChangeAt Go.RowKit Go.Shelf Go.Lib
set_option linter.unusedVariables false

set_option maxRecDepth 100000 in
set_option maxHeartbeats 2000000 in
theorem walk (a : ByteArray) (ha : a.size ≤ maxLen) (b : ByteArray) (hb : b.size ≤ maxLen) (f : ByteArray) (hf : f.size ≤ maxLen) {w : World} :
    Calls Try.prog 8 #[.string a, .string b, .string f] w fun e w1 => e = .returned (.bool true) ∧ Below w.heap.size w w1 := by
  have hu := fun W => union_any a b ha hb W
  have hi := fun W => inter_any a b ha hb W
  have hxa := fun W => has_any a f ha W
  have hxb := fun W => has_any b f hb W
  have hul : (⟨(unionL a.data.toList b.data.toList).1.toArray⟩ : ByteArray).size ≤ maxLen := by
    rw [Lib.size_eq]
    have := unionL_len a.data.toList b.data.toList
    unfold maxLen
    show (unionL a.data.toList b.data.toList).1.length ≤ _
    omega
  have hil : (⟨(interL a.data.toList b.data.toList).1.toArray⟩ : ByteArray).size ≤ maxLen := by
    rw [Lib.size_eq]
    have := interL_len a.data.toList b.data.toList
    unfold maxLen
    show (interL a.data.toList b.data.toList).1.length ≤ _
    omega
  have hxu := fun W => has_any _ f hul W
  have hxi := fun W => has_any _ f hil W
  have hmu : (unionL a.data.toList b.data.toList).2 = 0 → hasL (⟨(unionL a.data.toList b.data.toList).1.toArray⟩ : ByteArray).data.toList f.data.toList = (hasL a.data.toList f.data.toList || hasL b.data.toList f.data.toList) := fun h => has_union h _
  have hmi : (interL a.data.toList b.data.toList).2 = 0 → hasL (⟨(interL a.data.toList b.data.toList).1.toArray⟩ : ByteArray).data.toList f.data.toList = (hasL a.data.toList f.data.toList && hasL b.data.toList f.data.toList) := fun h => has_inter h _
  obtain ⟨U, hU⟩ : ∃ U : ByteArray, (⟨(unionL a.data.toList b.data.toList).1.toArray⟩ : ByteArray) = U := ⟨_, rfl⟩
  obtain ⟨I, hI⟩ : ∃ U : ByteArray, (⟨(interL a.data.toList b.data.toList).1.toArray⟩ : ByteArray) = U := ⟨_, rfl⟩
  obtain ⟨ku, hku⟩ : ∃ k, (unionL a.data.toList b.data.toList).2 = k := ⟨_, rfl⟩
  obtain ⟨ki, hki⟩ : ∃ k, (interL a.data.toList b.data.toList).2 = k := ⟨_, rfl⟩
  rw [hU] at hxu hmu
  rw [hI] at hxi hmi
  simp only [hU, hku] at hu
  simp only [hI, hki] at hi
  rw [hku] at hmu
  rw [hki] at hmi
  obtain ⟨xa, hxA⟩ : ∃ x, hasL a.data.toList f.data.toList = x := ⟨_, rfl⟩
  obtain ⟨xb, hxB⟩ : ∃ x, hasL b.data.toList f.data.toList = x := ⟨_, rfl⟩
  obtain ⟨xu, hxU⟩ : ∃ x, hasL U.data.toList f.data.toList = x := ⟨_, rfl⟩
  obtain ⟨xi, hxI⟩ : ∃ x, hasL I.data.toList f.data.toList = x := ⟨_, rfl⟩
  rw [hxA, hxB, hxU] at hmu
  rw [hxA, hxB, hxI] at hmi
  simp only [hxA] at hxa
  simp only [hxB] at hxb
  simp only [hxU] at hxu
  simp only [hxI] at hxi
  have HU := Lib.hid hu
  have HI := Lib.hid hi
  have HXA := Lib.hid hxa
  have HXB := Lib.hid hxb
  have HXU := Lib.hid hxu
  have HXI := Lib.hid hxi
  clear hu hi hxa hxb hxu hxi hU hI hku hki hxA hxB hxU hxI hul hil ha hb hf
  by_cases h1 : ku = 0
  · subst h1
    have HMU := hmu rfl
    by_cases h2 : ki = 0
    · subst h2
      have HMI := hmi rfl
      subst HMU HMI
      clear hmu hmi
      have HW := Lib.hid (fun W => awake_any W)
      cases xa <;> cases xb
      all_goals
        go_enter Try.func8, Try.ntmps8
        go_wp2_with fail
        refine (HU.out _).mono ?_
        rintro e w1 ⟨rfl, hb1⟩
        have HB1 := Lib.hid hb1
        clear hb1
        go_wp2_with fail
        refine (HI.out _).mono ?_
        rintro e w2 ⟨rfl, hb2⟩
        have HB2 := Lib.hid (HB1.out.trans (hb2.mono HB1.out.size))
        clear hb2
        go_wp2_with fail
        refine (HXA.out _).mono ?_
        rintro e w3 ⟨rfl, hb3⟩
        have HB3 := Lib.hid (HB2.out.trans (hb3.mono HB2.out.size))
        clear hb3
        go_wp2_with fail
        refine (HXB.out _).mono ?_
        rintro e w4 ⟨rfl, hb4⟩
        have HB4 := Lib.hid (HB3.out.trans (hb4.mono HB3.out.size))
        clear hb4
        go_wp2_with fail
        refine (HXU.out _).mono ?_
        rintro e w5 ⟨rfl, hb5⟩
        have HB5 := Lib.hid (HB4.out.trans (hb5.mono HB4.out.size))
        clear hb5
        go_wp2_with fail
        refine (HXI.out _).mono ?_
        rintro e w6 ⟨rfl, hb6⟩
        have HB6 := Lib.hid (HB5.out.trans (hb6.mono HB5.out.size))
        clear hb6
        go_wp2_with fail
        refine (HW.out _).mono ?_
        rintro e w7 ⟨rfl, hb7⟩
        have HB7 := Lib.hid (HB6.out.trans (hb7.mono HB6.out.size))
        clear hb7
        go_wp2_with fail
        go_ret
        exact ⟨rfl, HB7.out⟩
    · have h0i : ¬ ((ki : Int) = 0) := by omega
      clear hmu hmi HMU
      go_enter Try.func8, Try.ntmps8
      go_wp2_with fail
      refine (HU.out _).mono ?_
      rintro e w1 ⟨rfl, hb1⟩
      have HB1 := Lib.hid hb1
      clear hb1
      go_wp2_with fail
      refine (HI.out _).mono ?_
      rintro e w2 ⟨rfl, hb2⟩
      have HB2 := Lib.hid (HB1.out.trans (hb2.mono HB1.out.size))
      clear hb2
      go_wp2_with fail
      go_ret
      exact ⟨rfl, HB2.out⟩
  · have h0i : ¬ ((ku : Int) = 0) := by omega
    clear hmu hmi
    go_enter Try.func8, Try.ntmps8
    go_wp2_with fail
    refine (HU.out _).mono ?_
    rintro e w1 ⟨rfl, hb1⟩
    have HB1 := Lib.hid hb1
    clear hb1
    go_wp2_with fail
    refine (HI.out _).mono ?_
    rintro e w2 ⟨rfl, hb2⟩
    have HB2 := Lib.hid (HB1.out.trans (hb2.mono HB1.out.size))
    clear hb2
    go_wp2_with fail
    go_ret
    exact ⟨rfl, HB2.out⟩

theorem own : ownKnob Try.prog.godebug = none := by kernel_rfl

set_option maxRecDepth 100000 in
theorem lifted (os : Os) (started : os.Started) (H : Type) (enc : TypeId × Value → H) :
    ReturnsInHanded {} Try.checked os 8 .any (Rows.featureMembersSpec.pre6 enc Try.prog Try.f8 Rows.featureMembersRow.domain false) (Rows.featureMembersSpec.post enc Try.prog Try.f8 false true false false) := by
  refine returnsInHanded_of_change (C := Try.checked) own started (by kernel_rfl) Try.func8
    (ChangeSpec.witness6 (enc := enc) (C := Try.checked) false ⟨#[], #[.string ⟨#[]⟩, .string ⟨#[]⟩, .string ⟨#[]⟩], []⟩ 8 (by kernel_rfl) (by kernel_rfl) (by kernel_rfl) (by kernel_rfl)) ?_
  intro W base args ds gs before hval0 hW hcnd _
  have hval : ∀ (j : Nat) t v, Try.f8.params[j]? = some t → args[j]? = some v → Value.okWide Try.prog W .any base t v := hval0
  have hW' := hW
  have hplt : ∀ x ∈ before, x.block < W.heap.size := fun x hx => hW.lt x hx
  obtain ⟨p, q, hA0, hV, rfl, hfz, hnd⟩ := hW
  have hA : DataW.TrodAll enc Try.prog W 0 (fun _ => true) true Try.f8.params.toList args.toList ds p := hA0
  rw [Try.params8] at hA hval
  obtain ⟨v0, vs0, d0, ds0, p0, q0, hargs, rfl, rfl, h0, r0⟩ := trodAll_cons hA
  obtain ⟨v1, vs1, d1, ds1, p1, q1, rfl, rfl, rfl, h1, r1⟩ := trodAll_cons r0
  obtain ⟨v2, vs2, d2, ds2, p2, q2, rfl, rfl, rfl, h2, r2⟩ := trodAll_cons r1
  obtain ⟨rfl, rfl, rfl⟩ := trodAll_nil r2
  obtain rfl : args = #[v0, v1, v2] := by cases args; simp_all
  obtain ⟨rfl, rfl⟩ := trodVars_none hV
  obtain ⟨a0, rfl, m0⟩ := open_str (hval 0 9 v0 rfl rfl) h0
  obtain ⟨a1, rfl, m1⟩ := open_str (hval 1 9 v1 rfl rfl) h1
  obtain ⟨a2, rfl, m2⟩ := open_str (hval 2 9 v2 rfl rfl) h2
  clear hA0 hval0
  refine (walk a0 m0 a1 m1 a2 m2).mono fun e W' ⟨he, bel⟩ => ?_
  subst he
  exact ⟨_, rfl, _, _, _, [], _, [], hW', trodAll_mk1 (shut_bool Try.underlying4 _), (trodAll_cons_mk (Below.trod Try.laidOut (by kernel_rfl) (of_decide_eq_true (by kernel_rfl)) h0 bel (fun x hx => hplt x (by simp [hx]))) (trodAll_cons_mk (Below.trod Try.laidOut (by kernel_rfl) (of_decide_eq_true (by kernel_rfl)) h1 bel (fun x hx => hplt x (by simp [hx]))) (trodAll_cons_mk (Below.trod Try.laidOut (by kernel_rfl) (of_decide_eq_true (by kernel_rfl)) h2 bel (fun x hx => hplt x (by simp [hx]))) trodAll_mk0))), rfl, World.keptBut_mono (fun x hx => ⟨hx, Or.inr (by simpa using hx)⟩) (bel.frame (· ∈ _)), fun h => by cases h⟩

theorem over : Rows.featureMembersRow.holds Try.pinned (OpenSpec.ofChange Rows.featureMembersSpec) :=
  OpenClaim.holds_of_wide 8 Try.f8 rfl rfl rfl rfl rfl rfl rfl ⟨rfl, rfl, rfl, rfl, rfl⟩ rfl rfl rfl rfl rfl (by kernel_rfl) Try.func8 (by kernel_rfl)
    (of_decide_eq_true (by kernel_rfl)) (by unfold Func.isWrapper; first | (rw [if_pos (by decide +kernel)]; kernel_rfl) | (rw [if_neg (by decide +kernel)]; exact ⟨rfl, rfl⟩))
    (fun os started H enc _ => lifted os started H enc)

/-- THE STATEMENT. -/
theorem proved : Rows.FeatureMembersSaid := over
end Go.Proofs.Ythagjdhfngdigaa.featureMembers
