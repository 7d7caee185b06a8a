/-
  CodepointPositions is proved: for every string and every number the call of the law returns true, and each argument reads afterwards as it read before. It has no condition.
-/
import Derived.Test.YtilgbjakhpgkcaaRows
import Derived.Test.YtilgbjakhpgkcaaRuD
import Derived.ProofKit
import Derived.OpenShut
import Derived.ShutString
namespace Go.Proofs.Ytilgbjakhpgkcaa.codepointPositions
open Go.ChangeShapes Go.WideShapes Go.ChangeAt Go.RowKit Go.Shelf Go.Lib
open Go.ChangeMaps (open_string shut_string)
set_option linter.unusedVariables false

theorem walk_out (s : ByteArray) (i : Int) (hs : s.size ≤ maxLen) (w : World) (h : longB [s] = true) :
    Calls Try.prog 5 #[.string s, .int .i64 i] w fun e w' => e = .returned (.bool true) ∧ Below w.heap.size w w' := by
  have hl := long_one s hs w
  rw [h] at hl
  have HL := Lib.hid hl
  clear hl h hs
  go_enter Try.func5, Try.ntmps5
  go_wp2_with (go_at_call 13; refine HL.out.mono ?_; rintro e w1 ⟨rfl, rfl⟩)
  go_ret
  exact ⟨rfl, (Below.refl _ _).alloc (Nat.le_refl _) _⟩

set_option maxRecDepth 100000 in
set_option maxHeartbeats 1000000 in
theorem walk (s : ByteArray) (i : Int) (hs : s.size ≤ maxLen) (hi : (Lit.int .i64 i).wf = true) (w : World) :
    Calls Try.prog 5 #[.string s, .int .i64 i] w fun e w' => e = .returned (.bool true) ∧ Below w.heap.size w w' := by
  cases hl0 : longB [s] with
  | true => exact walk_out s i hs w hl0
  | false =>
    have hl := long_one s hs w
    rw [hl0] at hl
    have HL := Lib.hid hl
    have hsz : s.size ≤ 400 := (longB_iff [s]).1 hl0 s (by simp)
    have hxy : ∀ x : Int, ∃ p q : Int, (∀ w, Calls Try.prog 21 #[.string s, .int .i64 x] w fun e w' => e = .returned (.agg #[.int .i64 p, .int .i64 q]) ∧ Below w.heap.size w w') ∧
        (∀ w, Calls Try.prog 22 #[.string s, .int .i64 x] w fun e w' => e = .returned (.agg #[.int .i64 p, .int .i64 q]) ∧ Below w.heap.size w w') :=
      fun x => ⟨((posP (before s x)).1 : Nat), ((posP (before s x)).2 : Nat), fun w => position_any s (by omega) x w, fun w => refPosition_any s hsz x w⟩
    have HXY := Lib.hid hxy
    clear hl hs hl0 hxy
    go_enter Try.func5, Try.ntmps5
    go_wp2_with (go_at_call 13; refine HL.out.mono ?_; rintro e w1 ⟨rfl, rfl⟩)
    go_loopw [5] (fun i wr => ∃ x : Int, i = .int .i64 x ∧ -1 ≤ x ∧ x ≤ (s.size : Int) + 2 ∧ Below w.heap.size w wr) (fun i _ => ((s.size : Int) + 2 - intOf i).toNat)
    case atStart => exact ⟨-1, rfl, by omega, by omega, (Below.refl _ w).alloc (Nat.le_refl _) _⟩
    case round =>
      obtain ⟨x, rfl, hx1, hx2, hb⟩ := hrel
      by_cases hlt : x ≤ (s.size : Int) + 1
      · obtain ⟨p, q, hp, hq⟩ := HXY.out x
        have HP := Lib.hid hp
        have HQ := Lib.hid hq
        clear hp hq
        go_wp2_with fail
        refine (HP.out _).mono ?_; rintro e w2 ⟨rfl, hb2⟩; go_wp2_with fail
        refine (HQ.out _).mono ?_; rintro e w3 ⟨rfl, hb3⟩; go_wp2_with fail
        go_roundw
        case rel => exact ⟨x + 1, by go_num, by omega, by omega, hb.trans ((nextB2 hb2 hb3).mono hb.size)⟩
        case measure => simp [intOf]; omega
      · obtain ⟨p, q, hp, hq⟩ := HXY.out i
        have HP := Lib.hid hp
        have HQ := Lib.hid hq
        clear hp hq
        go_wp2_with fail
        refine (HP.out _).mono ?_; rintro e w2 ⟨rfl, hb2⟩; go_wp2_with fail
        refine (HQ.out _).mono ?_; rintro e w3 ⟨rfl, hb3⟩; go_wp2_with fail
        refine (awake_any _).mono ?_; rintro e w4 ⟨rfl, hb4⟩; go_wp2_with fail
        go_ret
        exact ⟨rfl, hb.trans ((nextB2 (nextB2 hb2 hb3) hb4).mono hb.size)⟩

theorem own : ownKnob Try.prog.godebug = none := by kernel_rfl

set_option maxRecDepth 100000 in
theorem lifted (os : Os) (started : os.Started) (H : Type) (enc : TypeId × Value → H) :
    ReturnsInHanded {} Try.checked os 5 .any (Rows.codepointPositionsSpec.pre6 enc Try.prog Try.f5 Rows.codepointPositionsRow.domain false) (Rows.codepointPositionsSpec.post enc Try.prog Try.f5 false true false false) := by
  refine returnsInHanded_of_change (C := Try.checked) own started (by kernel_rfl) Try.func5
    (ChangeSpec.witness6 (enc := enc) (C := Try.checked) false ⟨#[], #[.string ByteArray.empty, .int .i64 0], []⟩ 8 (by kernel_rfl) (by kernel_rfl) (by kernel_rfl) (by kernel_rfl)) ?_
  intro W base args ds gs before hval0 hW hcnd _
  have hval : ∀ (j : Nat) t v, Try.f5.params[j]? = some t → args[j]? = some v → Value.okWide Try.prog W .any base t v := hval0
  have hW' := hW
  obtain ⟨p, q, hA0, hV, rfl, hfz, hnd⟩ := hW
  have hA : DataW.TrodAll enc Try.prog W 0 (fun _ => true) true Try.f5.params.toList args.toList ds p := hA0
  rw [Try.params5] at hA hval
  obtain ⟨v0, vs0, d0, ds0, p0, q0, hargs, rfl, rfl, h0, r0⟩ := trodAll_cons hA
  obtain ⟨v1, vs1, d1, ds1, p1, q1, rfl, rfl, rfl, h1, r1⟩ := trodAll_cons r0
  obtain ⟨rfl, rfl, rfl⟩ := trodAll_nil r1
  obtain rfl : args = #[v0, v1] := by cases args; simp_all
  obtain ⟨rfl, rfl⟩ := trodVars_none hV
  obtain ⟨a0, rfl, rfl, rfl, w0⟩ := open_string Try.underlying9 (hval 0 9 v0 rfl rfl) h0
  obtain ⟨a1, rfl, rfl, rfl, w1⟩ := open_int Try.underlying3 (hval 1 3 v1 rfl rfl) h1
  clear hA0 hval0
  simp only [List.append_nil] at hW'
  refine (walk a0 a1 w0 w1 W).mono fun e W' ⟨he, bel⟩ => ?_
  subst he
  exact ⟨_, rfl, _, _, _, [], _, [], hW', trodAll_mk1 (shut_bool Try.underlying4 _), (trodAll_cons_mk (shut_string Try.underlying9 w0) (trodAll_cons_mk (shut_int Try.underlying3 w1) trodAll_mk0)), rfl, bel.frame _, fun h => by cases h⟩

theorem over : Rows.codepointPositionsRow.holds Try.pinned (OpenSpec.ofChange Rows.codepointPositionsSpec) :=
  OpenClaim.holds_of_wide 5 Try.f5 rfl rfl rfl rfl rfl rfl rfl ⟨rfl, rfl, rfl, rfl, rfl⟩ rfl rfl rfl rfl rfl (by kernel_rfl) Try.func5 (by kernel_rfl)
    (of_decide_eq_true (by kernel_rfl)) (by unfold Func.isWrapper; first | (rw [if_pos (by decide +kernel)]; kernel_rfl) | (rw [if_neg (by decide +kernel)]; exact ⟨rfl, rfl⟩))
    (fun os started H enc _ => lifted os started H enc)

/-- THE STATEMENT. -/
theorem proved : Rows.CodepointPositionsSaid := over
end Go.Proofs.Ytilgbjakhpgkcaa.codepointPositions
