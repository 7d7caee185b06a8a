/-
  CodepointUnits is proved: for every string and every number the call of the law returns true, and each argument reads afterwards as it read before. It has no condition.
-/
import Derived.Test.YtilgbjakhpgkcaaRows
import Derived.Test.YtilgbjakhpgkcaaRuD
import Derived.Test.YtilgbjakhpgkcaaCpC
import Derived.ProofKit
import Derived.OpenShut
import Derived.ShutString
namespace Go.Proofs.Ytilgbjakhpgkcaa.codepointUnits
open Go.ChangeShapes Go.WideShapes Go.ChangeAt Go.RowKit Go.Shelf Go.Lib
open Go.ChangeMaps (open_string shut_string)
set_option linter.unusedVariables false

theorem walk_out (s : ByteArray) (i : Int) (hs : s.size ≤ maxLen) (w : World) (h : longB [s] = true) :
    Calls Try.prog 3 #[.string s, .int .i64 i] w fun e w' => e = .returned (.bool true) ∧ Below w.heap.size w w' := by
  have hl := long_one s hs w
  rw [h] at hl
  have HL := Lib.hid hl
  clear hl h hs
  go_enter Try.func3, Try.ntmps3
  go_wp2_with (go_at_call 13; refine HL.out.mono ?_; rintro e w1 ⟨rfl, rfl⟩)
  go_ret
  exact ⟨rfl, (Below.refl _ _).alloc (Nat.le_refl _) _⟩

theorem atV_form (o : Option U) : ∃ (r p n : Int) (b : Bool), atV o = #[.int .i32 r, .int .i64 p, .int .i64 n, .bool b] := by
  cases o with
  | none => exact ⟨0, 0, 0, false, rfl⟩
  | some u => exact ⟨u.c, u.p, u.w, true, rfl⟩

set_option maxRecDepth 100000 in
set_option maxHeartbeats 1000000 in
theorem walk (s : ByteArray) (i : Int) (hs : s.size ≤ maxLen) (hi : (Lit.int .i64 i).wf = true) (w : World) :
    Calls Try.prog 3 #[.string s, .int .i64 i] w fun e w' => e = .returned (.bool true) ∧ Below w.heap.size w w' := by
  cases hl0 : longB [s] with
  | true => exact walk_out s i hs w hl0
  | false =>
    have hl := long_one s hs w
    rw [hl0] at hl
    have HL := Lib.hid hl
    have hsz : s.size ≤ 400 := (longB_iff [s]).1 hl0 s (by simp)
    have hxy : ∀ x : Int, ∃ (r p n : Int) (b : Bool), (∀ w, Calls Try.prog 15 #[.string s, .int .i64 x] w fun e w' => e = .returned (.tuple #[.int .i32 r, .int .i64 p, .int .i64 n, .bool b]) ∧ Below w.heap.size w w') ∧
        (∀ w, Calls Try.prog 16 #[.string s, .int .i64 x] w fun e w' => e = .returned (.tuple #[.int .i32 r, .int .i64 p, .int .i64 n, .bool b]) ∧ Below w.heap.size w w') := fun x => by
      obtain ⟨r, p, n, b, h⟩ := atV_form (atU s x)
      refine ⟨r, p, n, b, fun w => ?_, fun w => ?_⟩
      · rw [← h]; exact at_any s (by omega) x w
      · rw [← h]; exact refAt_any s hsz x w
    have HXY := Lib.hid hxy
    have hc := fun w => count_any s hs w
    have hu := fun w => refUnits_gen s hsz w
    have hul := units_le s
    obtain ⟨m, hm⟩ : ∃ m, (units s).length = m := ⟨_, rfl⟩
    rw [hm] at hul
    simp only [hm] at hc hu
    have hm4 : m ≤ 400 := by omega
    have HC := Lib.hid hc
    have HU := Lib.hid hu
    clear hl hs hl0 hxy hc hu hul hm
    go_enter Try.func3, Try.ntmps3
    go_wp2_with (go_at_call 13; refine HL.out.mono ?_; rintro e w1 ⟨rfl, rfl⟩)
    refine (HU.out _).mono ?_; rintro e w1 ⟨ao, cap, rfl, _, hb1⟩; go_wp2_with fail
    go_loopw [6] (fun i wr => ∃ x : Int, i = .int .i64 x ∧ -1 ≤ x ∧ x ≤ (m : Int) + 1 ∧ Below w.heap.size w wr) (fun i _ => ((m : Int) + 1 - intOf i).toNat)
    case atStart => exact ⟨-1, rfl, by omega, by omega, nextB2 ((Below.refl _ w).alloc (Nat.le_refl _) _) hb1⟩
    case round =>
      obtain ⟨x, rfl, hx1, hx2, hb⟩ := hrel
      by_cases hlt : x ≤ (m : Int)
      · obtain ⟨r, p, n, b, hp, hq⟩ := HXY.out x
        have HP := Lib.hid hp
        have HQ := Lib.hid hq
        clear hp hq
        go_wp2_with fail
        refine (HP.out _).mono ?_; rintro e w2 ⟨rfl, hb2⟩; go_wp2_with fail
        refine (HQ.out _).mono ?_; rintro e w3 ⟨rfl, hb3⟩; go_wp2_with fail
        go_roundw
        case rel => exact ⟨x + 1, by go_num, by omega, by omega, hb.trans ((nextB2 hb2 hb3).mono hb.size)⟩
        case measure => simp [intOf]; omega
      · obtain ⟨r, p, n, b, hp, hq⟩ := HXY.out i
        have HP := Lib.hid hp
        have HQ := Lib.hid hq
        clear hp hq
        go_wp2_with fail
        refine (HP.out _).mono ?_; rintro e w2 ⟨rfl, hb2⟩; go_wp2_with fail
        refine (HQ.out _).mono ?_; rintro e w3 ⟨rfl, hb3⟩; go_wp2_with fail
        refine (HC.out _).mono ?_; rintro e w4 ⟨rfl, hb4⟩; go_wp2_with fail
        refine (awake_any _).mono ?_; rintro e w5 ⟨rfl, hb5⟩; go_wp2_with fail
        go_ret
        exact ⟨rfl, hb.trans ((nextB2 (nextB2 (nextB2 hb2 hb3) hb4) hb5).mono hb.size)⟩

theorem own : ownKnob Try.prog.godebug = none := by kernel_rfl

set_option maxRecDepth 100000 in
theorem lifted (os : Os) (started : os.Started) (H : Type) (enc : TypeId × Value → H) :
    ReturnsInHanded {} Try.checked os 3 .any (Rows.codepointUnitsSpec.pre6 enc Try.prog Try.f3 Rows.codepointUnitsRow.domain false) (Rows.codepointUnitsSpec.post enc Try.prog Try.f3 false true false false) := by
  refine returnsInHanded_of_change (C := Try.checked) own started (by kernel_rfl) Try.func3
    (ChangeSpec.witness6 (enc := enc) (C := Try.checked) false ⟨#[], #[.string ByteArray.empty, .int .i64 0], []⟩ 8 (by kernel_rfl) (by kernel_rfl) (by kernel_rfl) (by kernel_rfl)) ?_
  intro W base args ds gs before hval0 hW hcnd _
  have hval : ∀ (j : Nat) t v, Try.f3.params[j]? = some t → args[j]? = some v → Value.okWide Try.prog W .any base t v := hval0
  have hW' := hW
  obtain ⟨p, q, hA0, hV, rfl, hfz, hnd⟩ := hW
  have hA : DataW.TrodAll enc Try.prog W 0 (fun _ => true) true Try.f3.params.toList args.toList ds p := hA0
  rw [Try.params3] at hA hval
  obtain ⟨v0, vs0, d0, ds0, p0, q0, hargs, rfl, rfl, h0, r0⟩ := trodAll_cons hA
  obtain ⟨v1, vs1, d1, ds1, p1, q1, rfl, rfl, rfl, h1, r1⟩ := trodAll_cons r0
  obtain ⟨rfl, rfl, rfl⟩ := trodAll_nil r1
  obtain rfl : args = #[v0, v1] := by cases args; simp_all
  obtain ⟨rfl, rfl⟩ := trodVars_none hV
  obtain ⟨a0, rfl, rfl, rfl, w0⟩ := open_string Try.underlying9 (hval 0 9 v0 rfl rfl) h0
  obtain ⟨a1, rfl, rfl, rfl, w1⟩ := open_int Try.underlying3 (hval 1 3 v1 rfl rfl) h1
  clear hA0 hval0
  simp only [List.append_nil] at hW'
  refine (walk a0 a1 w0 w1 W).mono fun e W' ⟨he, bel⟩ => ?_
  subst he
  exact ⟨_, rfl, _, _, _, [], _, [], hW', trodAll_mk1 (shut_bool Try.underlying4 _), (trodAll_cons_mk (shut_string Try.underlying9 w0) (trodAll_cons_mk (shut_int Try.underlying3 w1) trodAll_mk0)), rfl, bel.frame _, fun h => by cases h⟩

theorem over : Rows.codepointUnitsRow.holds Try.pinned (OpenSpec.ofChange Rows.codepointUnitsSpec) :=
  OpenClaim.holds_of_wide 3 Try.f3 rfl rfl rfl rfl rfl rfl rfl ⟨rfl, rfl, rfl, rfl, rfl⟩ rfl rfl rfl rfl rfl (by kernel_rfl) Try.func3 (by kernel_rfl)
    (of_decide_eq_true (by kernel_rfl)) (by unfold Func.isWrapper; first | (rw [if_pos (by decide +kernel)]; kernel_rfl) | (rw [if_neg (by decide +kernel)]; exact ⟨rfl, rfl⟩))
    (fun os started H enc _ => lifted os started H enc)

/-- THE STATEMENT. -/
theorem proved : Rows.CodepointUnitsSaid := over
end Go.Proofs.Ytilgbjakhpgkcaa.codepointUnits
