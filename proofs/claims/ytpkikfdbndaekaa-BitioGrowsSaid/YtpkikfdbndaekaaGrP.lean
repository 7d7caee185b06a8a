/-
  BitioGrows is proved: for every number and every number the call of the law returns true, and each argument reads afterwards as it read before. It has no condition.
-/
import Derived.Test.YtpkikfdbndaekaaRows
import Derived.Test.YtpkikfdbndaekaaBiH
import Derived.Test.YtpkikfdbndaekaaBiE
import Derived.Test.YtpkikfdbndaekaaBiO
import Derived.ProofKit
import Derived.OpenShut
import Derived.Carry
namespace Go.Proofs.Ytpkikfdbndaekaa.bitioGrows
open Go.ChangeShapes Go.WideShapes Go.ChangeAt Go.RowKit Go.Shelf Go.Lib
set_option linter.unusedVariables false

set_option maxRecDepth 100000 in
set_option maxHeartbeats 1000000 in
theorem walk (x : Nat) (hx : x < 18446744073709551616) (y : Nat) (hy : y < 18446744073709551616) {w : World} :
    Calls Try.prog 6 #[.int .u64 x, .int .u64 y] w fun e w1 => e = .returned (.bool true) ∧ Below w.heap.size w w1 := by
  have hten := enc_ten x hx
  have hpos := enc_pos x
  have hmono := fun h => enc_mono x y h
  have hinj : decide (enc x = enc y) = decide (x = y) := by
    rw [Bool.eq_iff_iff]
    simp only [decide_eq_true_eq]
    exact ⟨enc_inj x y, fun h => by rw [h]⟩
  have hp1 := fun w => put_any (Sees.nil w w.heap.size) (by simp) x hx
  have hp2 := fun w => put_any (Sees.nil w w.heap.size) (by simp) y hy
  simp only [List.nil_append] at hp1 hp2
  have hsame := fun (w : World) (a b : Nat) (u u' : Value) (h : Sees w a u (enc x)) (h' : Sees w b u' (enc y)) => same_any h h'
  rw [hinj] at hsame
  obtain ⟨n, hn⟩ : ∃ n, (enc x).length = n := ⟨_, rfl⟩
  obtain ⟨m, hm⟩ : ∃ m, (enc y).length = m := ⟨_, rfl⟩
  rw [hn] at hten hpos hmono hp1
  rw [hm] at hmono hp2
  have heq : decide (x = y) = ((x : Int) == (y : Int)) := by rw [Bool.eq_iff_iff]; simp; omega
  rw [heq] at hsame
  have HP1 := Lib.hid hp1
  have HP2 := Lib.hid hp2
  have HN := Lib.hid hn
  have HM := Lib.hid hm
  have HSM := Lib.hid hsame
  have hmono' : ¬ (y : Int) < x → (n : Int) ≤ m := by
    intro h
    have := hmono (by omega)
    omega
  have HMO := Lib.hid hmono'
  clear hp1 hp2 hn hm hsame hinj heq hmono hmono'
  by_cases hle : (y : Int) < x
  · go_enter Try.func6, Try.ntmps6
    go_wp2_with fail
    refine (HP1.out _).mono ?_
    rintro e w1 ⟨v1, rfl, hown1, hb1⟩
    obtain ⟨A1, c1, rfl, hc1⟩ := own_form hown1
    have HO1 := Lib.hid hown1
    have HB1 := Lib.hid hb1
    clear hown1 hb1
    go_wp2_with fail
    refine (HP2.out _).mono ?_
    rintro e w2 ⟨v2, rfl, hown2, hb2⟩
    obtain ⟨A2, c2, rfl, hc2⟩ := own_form hown2
    have s2 := sees_own (L := enc y) (by rw [HM.out]; exact hown2)
    have s1 := sees_own (L := enc x) (own_below (w := w1) (w' := w2) (by rw [HN.out]; exact HO1.out) (fun k e => hb2.block k (own_low HO1.out k e).2))
    have HQ := Lib.hid (HSM.out w2 _ _ _ _ s1 s2)
    have HB2 := Lib.hid (HB1.out.trans (hb2.mono HB1.out.size))
    clear hown2 hb2 s1 s2 hc1 hc2
    go_wp2_with fail
    refine HQ.out.mono ?_
    rintro e w3 ⟨rfl, rfl⟩
    go_wp2_with fail
    refine (awake_any _).mono ?_
    rintro e w3 ⟨rfl, hb3⟩
    have HB3 := Lib.hid hb3
    clear hb3
    go_wp2
    go_ret
    exact ⟨rfl, HB2.out.trans (HB3.out.mono HB2.out.size)⟩
  · have hnm := HMO.out hle
    go_enter Try.func6, Try.ntmps6
    go_wp2_with fail
    refine (HP1.out _).mono ?_
    rintro e w1 ⟨v1, rfl, hown1, hb1⟩
    obtain ⟨A1, c1, rfl, hc1⟩ := own_form hown1
    have HO1 := Lib.hid hown1
    have HB1 := Lib.hid hb1
    clear hown1 hb1
    go_wp2_with fail
    refine (HP2.out _).mono ?_
    rintro e w2 ⟨v2, rfl, hown2, hb2⟩
    obtain ⟨A2, c2, rfl, hc2⟩ := own_form hown2
    have s2 := sees_own (L := enc y) (by rw [HM.out]; exact hown2)
    have s1 := sees_own (L := enc x) (own_below (w := w1) (w' := w2) (by rw [HN.out]; exact HO1.out) (fun k e => hb2.block k (own_low HO1.out k e).2))
    have HQ := Lib.hid (HSM.out w2 _ _ _ _ s1 s2)
    have HB2 := Lib.hid (HB1.out.trans (hb2.mono HB1.out.size))
    clear hown2 hb2 s1 s2 hc1 hc2
    go_wp2_with fail
    refine HQ.out.mono ?_
    rintro e w3 ⟨rfl, rfl⟩
    go_wp2_with fail
    refine (awake_any _).mono ?_
    rintro e w3 ⟨rfl, hb3⟩
    have HB3 := Lib.hid hb3
    clear hb3
    go_wp2
    go_ret
    exact ⟨rfl, HB2.out.trans (HB3.out.mono HB2.out.size)⟩

theorem own : ownKnob Try.prog.godebug = none := by kernel_rfl

set_option maxRecDepth 100000 in
theorem lifted (os : Os) (started : os.Started) (H : Type) (enc : TypeId × Value → H) :
    ReturnsInHanded {} Try.checked os 6 .any (Rows.bitioGrowsSpec.pre6 enc Try.prog Try.f6 Rows.bitioGrowsRow.domain false) (Rows.bitioGrowsSpec.post enc Try.prog Try.f6 false true false false) := by
  refine returnsInHanded_of_change (C := Try.checked) own started (by kernel_rfl) Try.func6
    (ChangeSpec.witness6 (enc := enc) (C := Try.checked) false ⟨#[], #[.int .u64 0, .int .u64 0], []⟩ 8 (by kernel_rfl) (by kernel_rfl) (by kernel_rfl) (by kernel_rfl)) ?_
  intro W base args ds gs before hval0 hW hcnd _
  have hval : ∀ (j : Nat) t v, Try.f6.params[j]? = some t → args[j]? = some v → Value.okWide Try.prog W .any base t v := hval0
  have hW' := hW
  have hplt : ∀ x ∈ before, x.block < W.heap.size := fun x hx => hW.lt x hx
  obtain ⟨p, q, hA0, hV, rfl, hfz, hnd⟩ := hW
  have hA : DataW.TrodAll enc Try.prog W 0 (fun _ => true) true Try.f6.params.toList args.toList ds p := hA0
  rw [Try.params6] at hA hval
  obtain ⟨v0, vs0, d0, ds0, p0, q0, hargs, rfl, rfl, h0, r0⟩ := trodAll_cons hA
  obtain ⟨v1, vs1, d1, ds1, p1, q1, rfl, rfl, rfl, h1, r1⟩ := trodAll_cons r0
  obtain ⟨rfl, rfl, rfl⟩ := trodAll_nil r1
  obtain rfl : args = #[v0, v1] := by cases args; simp_all
  obtain ⟨rfl, rfl⟩ := trodVars_none hV
  obtain ⟨x0, rfl, m0⟩ := open_u64 (hval 0 23 v0 rfl rfl) h0
  obtain ⟨x1, rfl, m1⟩ := open_u64 (hval 1 23 v1 rfl rfl) h1
  clear hA0 hval0
  refine (walk x0 m0 x1 m1).mono fun e W' ⟨he, bel⟩ => ?_
  subst he
  exact ⟨_, rfl, _, _, _, [], _, [], hW', trodAll_mk1 (shut_bool Try.underlying4 _), (trodAll_cons_mk (Below.trod Try.laidOut (by kernel_rfl) (of_decide_eq_true (by kernel_rfl)) h0 bel (fun x hx => hplt x (by simp [hx]))) (trodAll_cons_mk (Below.trod Try.laidOut (by kernel_rfl) (of_decide_eq_true (by kernel_rfl)) h1 bel (fun x hx => hplt x (by simp [hx]))) trodAll_mk0)), rfl, World.keptBut_mono (fun x hx => ⟨hx, Or.inr (by simpa using hx)⟩) (bel.frame (· ∈ _)), fun h => by cases h⟩

theorem over : Rows.bitioGrowsRow.holds Try.pinned (OpenSpec.ofChange Rows.bitioGrowsSpec) :=
  OpenClaim.holds_of_wide 6 Try.f6 rfl rfl rfl rfl rfl rfl rfl ⟨rfl, rfl, rfl, rfl, rfl⟩ rfl rfl rfl rfl rfl (by kernel_rfl) Try.func6 (by kernel_rfl)
    (of_decide_eq_true (by kernel_rfl)) (by unfold Func.isWrapper; first | (rw [if_pos (by decide +kernel)]; kernel_rfl) | (rw [if_neg (by decide +kernel)]; exact ⟨rfl, rfl⟩))
    (fun os started H enc _ => lifted os started H enc)

/-- THE STATEMENT. -/
theorem proved : Rows.BitioGrowsSaid := over
end Go.Proofs.Ytpkikfdbndaekaa.bitioGrows
