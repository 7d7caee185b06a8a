/-
  IntervalRelates is proved: for every span and every span the call of the law returns true, and each argument reads afterwards as it read before. It has no condition.
-/
import Derived.Test.YtpkkebojiengpaaRows
import Derived.Test.YtpkkebojiengpaaIoO
import Derived.Test.YtpkkebojiengpaaIbO
import Derived.ProofKit
import Derived.OpenShut
import Derived.Carry
namespace Go.Proofs.Ytpkkebojiengpaa.intervalRelates
open Go.ChangeShapes Go.WideShapes Go.ChangeAt Go.RowKit Go.Shelf Go.Lib
set_option linter.unusedVariables false

set_option maxRecDepth 100000 in
set_option maxHeartbeats 4000000 in
theorem walk {w : World} (a : Sp) (_ : okSp a) (b : Sp) (_ : okSp b) :
    Calls Try.prog 5 #[.agg #[.int .i64 a.1, .int .i64 a.2], .agg #[.int .i64 b.1, .int .i64 b.2]] w fun e w1 => e = .returned (.bool true) ∧ Below w.heap.size w w1 := by
  have h1 := fun W => relation_any a b W
  have h2 := fun W => relation_any b a W
  have h3 := fun W => refRelation_any a b W
  have HA := Lib.hid (fun (W : World) => awake_any W)
  have ht := relZ_turn a b
  obtain ⟨x, hx⟩ : ∃ x, relZ a b = x := ⟨_, rfl⟩
  obtain ⟨y, hy⟩ : ∃ x, relZ b a = x := ⟨_, rfl⟩
  rw [hx] at h1 h3 ht
  rw [hy] at h2 ht
  obtain ⟨b1, e1⟩ := a
  obtain ⟨b2, e2⟩ := b
  simp only at h1 h2 h3 ⊢
  have H1 := Lib.hid h1
  have H2 := Lib.hid h2
  have H3 := Lib.hid h3
  obtain ⟨X, N, hX, hN, hbX, hNX, hcell⟩ := boxes2 w b1 e1 b2 e2
  have HX := Lib.hid hX
  have HN := Lib.hid hN
  have HBX := Lib.hid (And.intro hbX hNX)
  have HC := Lib.hid hcell
  have hxx : (x == x) = true := by simp
  obtain ⟨c0, c1, d0, d1⟩ := hcell X (Below.refl _ _)
  rw [hN]
  clear h1 h2 h3 hx hy hX hN hbX hNX hcell
  go_enter Try.func5, Try.ntmps5
  go_wp2_with fail
  rw [HX.out, HN.out]
  go_wp2_with fail
  refine (H1.out _).mono ?_
  rintro e w2 ⟨rfl, hb2⟩
  have HB2 := Lib.hid hb2
  clear hb2 c0 c1 d0 d1
  obtain ⟨c0, c1, d0, d1⟩ := HC.out w2 HB2.out
  go_wp2_with fail
  refine (H2.out _).mono ?_
  rintro e w3 ⟨rfl, hb3⟩
  have HB3 := Lib.hid (HB2.out.trans (hb3.mono HB2.out.size))
  clear hb3 c0 c1 d0 d1 HB2
  obtain ⟨c0, c1, d0, d1⟩ := HC.out w3 HB3.out
  go_wp2_with fail
  refine (H3.out _).mono ?_
  rintro e w4 ⟨rfl, hb4⟩
  have HB4 : Hid (Below N w w4 ∧ N ≤ w4.heap.size) := Lib.hid (by
    have h := HB3.out.trans (hb4.mono HB3.out.size)
    exact ⟨HBX.out.1.trans (h.mono HBX.out.2), Nat.le_trans HBX.out.2 h.size⟩)
  clear hb4 c0 c1 d0 d1 HB3
  by_cases hz : x = 0
  · subst hz
    by_cases hy0 : y = 0
    · subst hy0
      clear ht
      go_wp2_with fail
      refine (HA.out w4).mono ?_
      rintro e w5 ⟨rfl, hb5⟩
      have HB5 := Lib.hid (HB4.out.1.trans (hb5.mono HB4.out.2))
      clear hb5
      go_wp2_with fail
      go_ret
      exact ⟨rfl, HB5.out⟩
    · obtain rfl : y = 14 := by omega
      clear ht
      go_wp2_with fail
      refine (HA.out w4).mono ?_
      rintro e w5 ⟨rfl, hb5⟩
      have HB5 := Lib.hid (HB4.out.1.trans (hb5.mono HB4.out.2))
      clear hb5
      go_wp2_with fail
      go_ret
      exact ⟨rfl, HB5.out⟩
  · have hs : x + y = 14 := by omega
    have hxz : (x == 0) = false := beq_eq_false_iff_ne.2 hz
    clear ht
    go_wp2_with fail
    refine (HA.out w4).mono ?_
    rintro e w5 ⟨rfl, hb5⟩
    have HB5 := Lib.hid (HB4.out.1.trans (hb5.mono HB4.out.2))
    clear hb5
    go_wp2_with fail
    go_ret
    exact ⟨rfl, HB5.out⟩

theorem own : ownKnob Try.prog.godebug = none := by kernel_rfl

set_option maxRecDepth 100000 in
theorem lifted (os : Os) (started : os.Started) (H : Type) (enc : TypeId × Value → H) :
    ReturnsInHanded {} Try.checked os 5 .any (Rows.intervalRelatesSpec.pre6 enc Try.prog Try.f5 Rows.intervalRelatesRow.domain false) (Rows.intervalRelatesSpec.post enc Try.prog Try.f5 false true false false) := by
  refine returnsInHanded_of_change (C := Try.checked) own started (by kernel_rfl) Try.func5
    (ChangeSpec.witness6 (enc := enc) (C := Try.checked) false ⟨#[], #[.agg #[.int .i64 0, .int .i64 0], .agg #[.int .i64 0, .int .i64 0]], []⟩ 8 (by kernel_rfl) (by kernel_rfl) (by kernel_rfl) (by kernel_rfl)) ?_
  intro W base args ds gs before hval0 hW hcnd _
  have hval : ∀ (j : Nat) t v, Try.f5.params[j]? = some t → args[j]? = some v → Value.okWide Try.prog W .any base t v := hval0
  have hW' := hW
  have hplt : ∀ x ∈ before, x.block < W.heap.size := fun x hx => hW.lt x hx
  obtain ⟨p, q, hA0, hV, rfl, hfz, hnd⟩ := hW
  have hA : DataW.TrodAll enc Try.prog W 0 (fun _ => true) true Try.f5.params.toList args.toList ds p := hA0
  rw [Try.params5] at hA hval
  obtain ⟨v0, vs0, d0, ds0, p0, q0, hargs, rfl, rfl, h0, r0⟩ := trodAll_cons hA
  obtain ⟨v1, vs1, d1, ds1, p1, q1, rfl, rfl, rfl, h1, r1⟩ := trodAll_cons r0
  obtain ⟨rfl, rfl, rfl⟩ := trodAll_nil r1
  obtain rfl : args = #[v0, v1] := by cases args; simp_all
  obtain ⟨rfl, rfl⟩ := trodVars_none hV
  obtain ⟨x0, rfl, m0⟩ := open_sp (hval 0 31 v0 rfl rfl) h0
  obtain ⟨x1, rfl, m1⟩ := open_sp (hval 1 31 v1 rfl rfl) h1
  clear hA0 hval0
  refine (walk x0 m0 x1 m1).mono fun e W' ⟨he, bel⟩ => ?_
  subst he
  exact ⟨_, rfl, _, _, _, [], _, [], hW', trodAll_mk1 (shut_bool Try.underlying4 _), (trodAll_cons_mk (Below.trod Try.laidOut (by kernel_rfl) (of_decide_eq_true (by kernel_rfl)) h0 bel (fun x hx => hplt x (by simp [hx]))) (trodAll_cons_mk (Below.trod Try.laidOut (by kernel_rfl) (of_decide_eq_true (by kernel_rfl)) h1 bel (fun x hx => hplt x (by simp [hx]))) trodAll_mk0)), rfl, World.keptBut_mono (fun x hx => ⟨hx, Or.inr (by simpa using hx)⟩) (bel.frame (· ∈ _)), fun h => by cases h⟩

theorem over : Rows.intervalRelatesRow.holds Try.pinned (OpenSpec.ofChange Rows.intervalRelatesSpec) :=
  OpenClaim.holds_of_wide 5 Try.f5 rfl rfl rfl rfl rfl rfl rfl ⟨rfl, rfl, rfl, rfl, rfl⟩ rfl rfl rfl rfl rfl (by kernel_rfl) Try.func5 (by kernel_rfl)
    (of_decide_eq_true (by kernel_rfl)) (by unfold Func.isWrapper; first | (rw [if_pos (by decide +kernel)]; kernel_rfl) | (rw [if_neg (by decide +kernel)]; exact ⟨rfl, rfl⟩))
    (fun os started H enc _ => lifted os started H enc)

/-- THE STATEMENT. -/
theorem proved : Rows.IntervalRelatesSaid := over
end Go.Proofs.Ytpkkebojiengpaa.intervalRelates
