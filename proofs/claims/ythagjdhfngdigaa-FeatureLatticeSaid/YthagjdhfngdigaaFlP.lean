/-
  FeatureLattice is proved: for every string and every string the call of the law returns true, and each argument reads afterwards as it read before. It has no condition.
-/
import Derived.Test.YthagjdhfngdigaaRows
import Derived.Test.YthagjdhfngdigaaFoM
import Derived.Test.YthagjdhfngdigaaFuM
import Derived.Test.YthagjdhfngdigaaFqM
import Derived.ProofKit
import Derived.OpenShut
import Derived.Carry
namespace Go.Proofs.Ythagjdhfngdigaa.featureLattice
open Go.ChangeShapes Go.WideShapes Go.ChangeAt Go.RowKit Go.Shelf Go.Lib
set_option linter.unusedVariables false

theorem str_eq (x y : ByteArray) : (x.toList == y.toList) = decide (x.data.toList = y.data.toList) := by
  rw [Lib.toList_data, Lib.toList_data, Bool.eq_iff_iff]
  simp

set_option maxRecDepth 100000 in
set_option maxHeartbeats 2000000 in
theorem walk (a : ByteArray) (ha : a.size ≤ maxLen) (b : ByteArray) (hb : b.size ≤ maxLen) {w : World} :
    Calls Try.prog 9 #[.string a, .string b] w fun e w1 => e = .returned (.bool true) ∧ Below w.heap.size w w1 := by
  have hs := fun W => subset_any a b ha hb W
  have hu := fun W => union_any a b ha hb W
  have hi := fun W => inter_any a b ha hb W
  have h1 := fun h => sub_inter (a := a.data.toList) (b := b.data.toList) h
  have h2 := fun h => sub_union (a := a.data.toList) (b := b.data.toList) h
  have hie : ((⟨(interL a.data.toList b.data.toList).1.toArray⟩ : ByteArray).toList == a.toList) = decide ((interL a.data.toList b.data.toList).1 = a.data.toList) := str_eq _ _
  have hue : ((⟨(unionL a.data.toList b.data.toList).1.toArray⟩ : ByteArray).toList == b.toList) = decide ((unionL a.data.toList b.data.toList).1 = b.data.toList) := str_eq _ _
  obtain ⟨U, hU⟩ : ∃ U : ByteArray, (⟨(unionL a.data.toList b.data.toList).1.toArray⟩ : ByteArray) = U := ⟨_, rfl⟩
  obtain ⟨I, hI⟩ : ∃ U : ByteArray, (⟨(interL a.data.toList b.data.toList).1.toArray⟩ : ByteArray) = U := ⟨_, rfl⟩
  obtain ⟨ku, hku⟩ : ∃ k, (unionL a.data.toList b.data.toList).2 = k := ⟨_, rfl⟩
  obtain ⟨ki, hki⟩ : ∃ k, (interL a.data.toList b.data.toList).2 = k := ⟨_, rfl⟩
  obtain ⟨ks, hks⟩ : ∃ k, (subL a.data.toList b.data.toList).2 = k := ⟨_, rfl⟩
  obtain ⟨s, hsb⟩ : ∃ k, (subL a.data.toList b.data.toList).1 = k := ⟨_, rfl⟩
  simp only [hU, hku] at hu
  simp only [hI, hki] at hi
  simp only [hks, hsb] at hs
  rw [hI] at hie
  rw [hU] at hue
  rw [hks, hki, hsb] at h1
  rw [hks, hku, hsb] at h2
  rw [← hie] at h1
  rw [← hue] at h2
  have HS := Lib.hid hs
  have HU := Lib.hid hu
  have HI := Lib.hid hi
  have HW := Lib.hid (fun W => awake_any W)
  clear hs hu hi hie hue hU hI hku hki hks hsb ha hb
  by_cases h0 : ks = 0
  · subst h0
    obtain ⟨rfl, hia⟩ := h1 rfl
    obtain ⟨g1, g2⟩ := h2 rfl
    clear h1 h2
    by_cases hk : ku = 0
    · subst hk
      have hub := g1 rfl
      clear g1 g2
      cases s
      all_goals
        go_enter Try.func9, Try.ntmps9
        go_wp2_with fail
        refine (HS.out _).mono ?_
        rintro e w1 ⟨rfl, hb1⟩
        have HB1 := Lib.hid hb1
        clear hb1
        go_wp2_with fail
        refine (HU.out _).mono ?_
        rintro e w2 ⟨rfl, hb2⟩
        have HB2 := Lib.hid (HB1.out.trans (hb2.mono HB1.out.size))
        clear hb2
        go_wp2_with fail
        refine (HI.out _).mono ?_
        rintro e w3 ⟨rfl, hb3⟩
        have HB3 := Lib.hid (HB2.out.trans (hb3.mono HB2.out.size))
        clear hb3
        go_wp2_with fail
        refine (HW.out _).mono ?_
        rintro e w4 ⟨rfl, hb4⟩
        have HB4 := Lib.hid (HB3.out.trans (hb4.mono HB3.out.size))
        clear hb4
        go_wp2_with fail
        go_ret
        exact ⟨rfl, HB4.out⟩
    · obtain ⟨rfl, rfl⟩ := g2 hk
      clear g1 g2 hk
      go_enter Try.func9, Try.ntmps9
      go_wp2_with fail
      refine (HS.out _).mono ?_
      rintro e w1 ⟨rfl, hb1⟩
      have HB1 := Lib.hid hb1
      clear hb1
      go_wp2_with fail
      refine (HU.out _).mono ?_
      rintro e w2 ⟨rfl, hb2⟩
      have HB2 := Lib.hid (HB1.out.trans (hb2.mono HB1.out.size))
      clear hb2
      go_wp2_with fail
      refine (HI.out _).mono ?_
      rintro e w3 ⟨rfl, hb3⟩
      have HB3 := Lib.hid (HB2.out.trans (hb3.mono HB2.out.size))
      clear hb3
      go_wp2_with fail
      refine (HW.out _).mono ?_
      rintro e w4 ⟨rfl, hb4⟩
      have HB4 := Lib.hid (HB3.out.trans (hb4.mono HB3.out.size))
      clear hb4
      go_wp2_with fail
      go_ret
      exact ⟨rfl, HB4.out⟩
  · have h0i : ¬ ((ks : Int) = 0) := by omega
    clear h1 h2
    go_enter Try.func9, Try.ntmps9
    go_wp2_with fail
    refine (HS.out _).mono ?_
    rintro e w1 ⟨rfl, hb1⟩
    have HB1 := Lib.hid hb1
    clear hb1
    go_wp2_with fail
    go_ret
    exact ⟨rfl, HB1.out⟩

theorem own : ownKnob Try.prog.godebug = none := by kernel_rfl

set_option maxRecDepth 100000 in
theorem lifted (os : Os) (started : os.Started) (H : Type) (enc : TypeId × Value → H) :
    ReturnsInHanded {} Try.checked os 9 .any (Rows.featureLatticeSpec.pre6 enc Try.prog Try.f9 Rows.featureLatticeRow.domain false) (Rows.featureLatticeSpec.post enc Try.prog Try.f9 false true false false) := by
  refine returnsInHanded_of_change (C := Try.checked) own started (by kernel_rfl) Try.func9
    (ChangeSpec.witness6 (enc := enc) (C := Try.checked) false ⟨#[], #[.string ⟨#[]⟩, .string ⟨#[]⟩], []⟩ 8 (by kernel_rfl) (by kernel_rfl) (by kernel_rfl) (by kernel_rfl)) ?_
  intro W base args ds gs before hval0 hW hcnd _
  have hval : ∀ (j : Nat) t v, Try.f9.params[j]? = some t → args[j]? = some v → Value.okWide Try.prog W .any base t v := hval0
  have hW' := hW
  have hplt : ∀ x ∈ before, x.block < W.heap.size := fun x hx => hW.lt x hx
  obtain ⟨p, q, hA0, hV, rfl, hfz, hnd⟩ := hW
  have hA : DataW.TrodAll enc Try.prog W 0 (fun _ => true) true Try.f9.params.toList args.toList ds p := hA0
  rw [Try.params9] at hA hval
  obtain ⟨v0, vs0, d0, ds0, p0, q0, hargs, rfl, rfl, h0, r0⟩ := trodAll_cons hA
  obtain ⟨v1, vs1, d1, ds1, p1, q1, rfl, rfl, rfl, h1, r1⟩ := trodAll_cons r0
  obtain ⟨rfl, rfl, rfl⟩ := trodAll_nil r1
  obtain rfl : args = #[v0, v1] := by cases args; simp_all
  obtain ⟨rfl, rfl⟩ := trodVars_none hV
  obtain ⟨a0, rfl, m0⟩ := open_str (hval 0 9 v0 rfl rfl) h0
  obtain ⟨a1, rfl, m1⟩ := open_str (hval 1 9 v1 rfl rfl) h1
  clear hA0 hval0
  refine (walk a0 m0 a1 m1).mono fun e W' ⟨he, bel⟩ => ?_
  subst he
  exact ⟨_, rfl, _, _, _, [], _, [], hW', trodAll_mk1 (shut_bool Try.underlying4 _), (trodAll_cons_mk (Below.trod Try.laidOut (by kernel_rfl) (of_decide_eq_true (by kernel_rfl)) h0 bel (fun x hx => hplt x (by simp [hx]))) (trodAll_cons_mk (Below.trod Try.laidOut (by kernel_rfl) (of_decide_eq_true (by kernel_rfl)) h1 bel (fun x hx => hplt x (by simp [hx]))) trodAll_mk0)), rfl, World.keptBut_mono (fun x hx => ⟨hx, Or.inr (by simpa using hx)⟩) (bel.frame (· ∈ _)), fun h => by cases h⟩

theorem over : Rows.featureLatticeRow.holds Try.pinned (OpenSpec.ofChange Rows.featureLatticeSpec) :=
  OpenClaim.holds_of_wide 9 Try.f9 rfl rfl rfl rfl rfl rfl rfl ⟨rfl, rfl, rfl, rfl, rfl⟩ rfl rfl rfl rfl rfl (by kernel_rfl) Try.func9 (by kernel_rfl)
    (of_decide_eq_true (by kernel_rfl)) (by unfold Func.isWrapper; first | (rw [if_pos (by decide +kernel)]; kernel_rfl) | (rw [if_neg (by decide +kernel)]; exact ⟨rfl, rfl⟩))
    (fun os started H enc _ => lifted os started H enc)

/-- THE STATEMENT. -/
theorem proved : Rows.FeatureLatticeSaid := over
end Go.Proofs.Ythagjdhfngdigaa.featureLattice
