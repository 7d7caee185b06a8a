/-
  FeatureCombines is proved: for every string and every string the call of the law returns true, and each argument reads afterwards as it read before. It has no condition.
-/
import Derived.Test.YthagjdhfngdigaaRows
import Derived.Test.YthagjdhfngdigaaFoM
import Derived.Test.YthagjdhfngdigaaFlM
import Derived.ProofKit
import Derived.OpenShut
import Derived.Carry
namespace Go.Proofs.Ythagjdhfngdigaa.featureCombines
open Go.ChangeShapes Go.WideShapes Go.ChangeAt Go.RowKit Go.Shelf Go.Lib
set_option linter.unusedVariables false

theorem longB_two (a b : ByteArray) : longB [a.data.toList, b.data.toList] = (decide (300 < a.size) || decide (300 < b.size)) := by
  unfold longB
  rw [Lib.size_eq, Lib.size_eq]
  simp
theorem two_le {a b : ByteArray} (ha : a.size ≤ maxLen) (hb : b.size ≤ maxLen) : ∀ f ∈ [a.data.toList, b.data.toList], f.length ≤ maxLen := by
  intro f hf
  simp only [List.mem_cons, List.not_mem_nil, or_false] at hf
  rcases hf with rfl | rfl
  · rw [← Lib.size_eq]; exact ha
  · rw [← Lib.size_eq]; exact hb

set_option maxRecDepth 100000 in
set_option maxHeartbeats 2000000 in
theorem walk (a : ByteArray) (ha : a.size ≤ maxLen) (b : ByteArray) (hb : b.size ≤ maxLen) {w : World} :
    Calls Try.prog 7 #[.string a, .string b] w fun e w1 => e = .returned (.bool true) ∧ Below w.heap.size w w1 := by
  have hlg := long_any (rs_two w a b) (by unfold maxLen; simp) (two_le ha hb)
  rw [longB_two] at hlg
  obtain ⟨q, hq⟩ : ∃ q, (decide (300 < a.size) || decide (300 < b.size)) = q := ⟨_, rfl⟩
  rw [hq] at hlg
  have HLG := Lib.hid hlg
  clear hlg
  cases q with
  | true =>
    clear hq
    go_enter Try.func7, Try.ntmps7
    go_wp2_with fail
    refine HLG.out.mono ?_
    rintro e w1 ⟨rfl, hb1⟩
    have HB1 := Lib.hid (below_new _ hb1)
    clear hb1
    go_wp2_with fail
    go_ret
    exact ⟨rfl, HB1.out⟩
  | false =>
    rw [Bool.or_eq_false_iff, decide_eq_false_iff_not, decide_eq_false_iff_not] at hq
    have hu := fun W => union_any a b ha hb W
    have hru := fun W => refUnion_any a b (by omega) (by omega) W
    have hi := fun W => inter_any a b ha hb W
    have hri := fun W => refInter_any a b (by omega) (by omega) W
    have hs := fun W => subset_any a b ha hb W
    have hrs := fun W => refSubset_any a b (by omega) (by omega) W
    obtain ⟨U, hU⟩ : ∃ T : ByteArray, (⟨(unionL a.data.toList b.data.toList).1.toArray⟩ : ByteArray) = T := ⟨_, rfl⟩
    obtain ⟨ku, hku⟩ : ∃ k : Nat, (unionL a.data.toList b.data.toList).2 = k := ⟨_, rfl⟩
    obtain ⟨I, hI⟩ : ∃ T : ByteArray, (⟨(interL a.data.toList b.data.toList).1.toArray⟩ : ByteArray) = T := ⟨_, rfl⟩
    obtain ⟨ki, hki⟩ : ∃ k : Nat, (interL a.data.toList b.data.toList).2 = k := ⟨_, rfl⟩
    obtain ⟨t, ht⟩ : ∃ k, (subL a.data.toList b.data.toList).1 = k := ⟨_, rfl⟩
    obtain ⟨ks, hks⟩ : ∃ k : Nat, (subL a.data.toList b.data.toList).2 = k := ⟨_, rfl⟩
    simp only [hU, hku] at hu hru
    simp only [hI, hki] at hi hri
    simp only [ht, hks] at hs hrs
    have HU := Lib.hid hu
    have HRU := Lib.hid hru
    have HI := Lib.hid hi
    have HRI := Lib.hid hri
    have HS := Lib.hid hs
    have HRS := Lib.hid hrs
    have HW := Lib.hid (fun W => awake_any W)
    clear hu hru hi hri hs hrs hU hku hI hki ht hks hq ha hb
    go_enter Try.func7, Try.ntmps7
    go_wp2_with fail
    refine HLG.out.mono ?_
    rintro e w1 ⟨rfl, hb1⟩
    have HB1 := Lib.hid (below_new _ hb1)
    clear hb1
    go_wp2_with fail
    refine (HU.out _).mono ?_
    rintro e w2 ⟨rfl, hb2⟩
    have HB2 := Lib.hid (HB1.out.trans (hb2.mono HB1.out.size))
    clear hb2
    go_wp2_with fail
    refine (HRU.out _).mono ?_
    rintro e w3 ⟨rfl, hb3⟩
    have HB3 := Lib.hid (HB2.out.trans (hb3.mono HB2.out.size))
    clear hb3
    go_wp2_with fail
    refine (HI.out _).mono ?_
    rintro e w4 ⟨rfl, hb4⟩
    have HB4 := Lib.hid (HB3.out.trans (hb4.mono HB3.out.size))
    clear hb4
    go_wp2_with fail
    refine (HRI.out _).mono ?_
    rintro e w5 ⟨rfl, hb5⟩
    have HB5 := Lib.hid (HB4.out.trans (hb5.mono HB4.out.size))
    clear hb5
    go_wp2_with fail
    refine (HS.out _).mono ?_
    rintro e w6 ⟨rfl, hb6⟩
    have HB6 := Lib.hid (HB5.out.trans (hb6.mono HB5.out.size))
    clear hb6
    go_wp2_with fail
    refine (HRS.out _).mono ?_
    rintro e w7 ⟨rfl, hb7⟩
    have HB7 := Lib.hid (HB6.out.trans (hb7.mono HB6.out.size))
    clear hb7
    go_wp2_with fail
    refine (HW.out _).mono ?_
    rintro e w8 ⟨rfl, hb8⟩
    have HB8 := Lib.hid (HB7.out.trans (hb8.mono HB7.out.size))
    clear hb8
    go_wp2_with fail
    go_ret
    exact ⟨rfl, HB8.out⟩

theorem own : ownKnob Try.prog.godebug = none := by kernel_rfl

set_option maxRecDepth 100000 in
theorem lifted (os : Os) (started : os.Started) (H : Type) (enc : TypeId × Value → H) :
    ReturnsInHanded {} Try.checked os 7 .any (Rows.featureCombinesSpec.pre6 enc Try.prog Try.f7 Rows.featureCombinesRow.domain false) (Rows.featureCombinesSpec.post enc Try.prog Try.f7 false true false false) := by
  refine returnsInHanded_of_change (C := Try.checked) own started (by kernel_rfl) Try.func7
    (ChangeSpec.witness6 (enc := enc) (C := Try.checked) false ⟨#[], #[.string ⟨#[]⟩, .string ⟨#[]⟩], []⟩ 8 (by kernel_rfl) (by kernel_rfl) (by kernel_rfl) (by kernel_rfl)) ?_
  intro W base args ds gs before hval0 hW hcnd _
  have hval : ∀ (j : Nat) t v, Try.f7.params[j]? = some t → args[j]? = some v → Value.okWide Try.prog W .any base t v := hval0
  have hW' := hW
  have hplt : ∀ x ∈ before, x.block < W.heap.size := fun x hx => hW.lt x hx
  obtain ⟨p, q, hA0, hV, rfl, hfz, hnd⟩ := hW
  have hA : DataW.TrodAll enc Try.prog W 0 (fun _ => true) true Try.f7.params.toList args.toList ds p := hA0
  rw [Try.params7] at hA hval
  obtain ⟨v0, vs0, d0, ds0, p0, q0, hargs, rfl, rfl, h0, r0⟩ := trodAll_cons hA
  obtain ⟨v1, vs1, d1, ds1, p1, q1, rfl, rfl, rfl, h1, r1⟩ := trodAll_cons r0
  obtain ⟨rfl, rfl, rfl⟩ := trodAll_nil r1
  obtain rfl : args = #[v0, v1] := by cases args; simp_all
  obtain ⟨rfl, rfl⟩ := trodVars_none hV
  obtain ⟨a0, rfl, m0⟩ := open_str (hval 0 9 v0 rfl rfl) h0
  obtain ⟨a1, rfl, m1⟩ := open_str (hval 1 9 v1 rfl rfl) h1
  clear hA0 hval0
  refine (walk a0 m0 a1 m1).mono fun e W' ⟨he, bel⟩ => ?_
  subst he
  exact ⟨_, rfl, _, _, _, [], _, [], hW', trodAll_mk1 (shut_bool Try.underlying4 _), (trodAll_cons_mk (Below.trod Try.laidOut (by kernel_rfl) (of_decide_eq_true (by kernel_rfl)) h0 bel (fun x hx => hplt x (by simp [hx]))) (trodAll_cons_mk (Below.trod Try.laidOut (by kernel_rfl) (of_decide_eq_true (by kernel_rfl)) h1 bel (fun x hx => hplt x (by simp [hx]))) trodAll_mk0)), rfl, World.keptBut_mono (fun x hx => ⟨hx, Or.inr (by simpa using hx)⟩) (bel.frame (· ∈ _)), fun h => by cases h⟩

theorem over : Rows.featureCombinesRow.holds Try.pinned (OpenSpec.ofChange Rows.featureCombinesSpec) :=
  OpenClaim.holds_of_wide 7 Try.f7 rfl rfl rfl rfl rfl rfl rfl ⟨rfl, rfl, rfl, rfl, rfl⟩ rfl rfl rfl rfl rfl (by kernel_rfl) Try.func7 (by kernel_rfl)
    (of_decide_eq_true (by kernel_rfl)) (by unfold Func.isWrapper; first | (rw [if_pos (by decide +kernel)]; kernel_rfl) | (rw [if_neg (by decide +kernel)]; exact ⟨rfl, rfl⟩))
    (fun os started H enc _ => lifted os started H enc)

/-- THE STATEMENT. -/
theorem proved : Rows.FeatureCombinesSaid := over
end Go.Proofs.Ythagjdhfngdigaa.featureCombines
