/-
  CodepointValid is proved: for every string and every number the call of the law returns true, and each argument reads afterwards as it read before. It has no condition.
-/
import Derived.Test.YtilgbjakhpgkcaaRows
import Derived.Test.YtilgbjakhpgkcaaRuD
import Derived.Test.YtilgbjakhpgkcaaRuD
import Derived.Test.YtilgbjakhpgkcaaVaM
import Derived.ProofKit
import Derived.OpenShut
import Derived.ShutString
namespace Go.Proofs.Ytilgbjakhpgkcaa.codepointValid
open Go.ChangeShapes Go.WideShapes Go.ChangeAt Go.RowKit Go.Shelf Go.Lib
open Go.ChangeMaps (open_string shut_string)
set_option linter.unusedVariables false

theorem walk_out (s : ByteArray) (i : Int) (hs : s.size ≤ maxLen) (w : World) (h : longB [s] = true) :
    Calls Try.prog 4 #[.string s, .int .i64 i] w fun e w' => e = .returned (.bool true) ∧ Below w.heap.size w w' := by
  have hl := long_one s hs w
  rw [h] at hl
  have HL := Lib.hid hl
  clear hl h hs
  go_enter Try.func4, Try.ntmps4
  go_wp2_with (go_at_call 13; refine HL.out.mono ?_; rintro e w1 ⟨rfl, rfl⟩)
  go_ret
  exact ⟨rfl, (Below.refl _ _).alloc (Nat.le_refl _) _⟩

set_option maxRecDepth 100000 in
set_option maxHeartbeats 1000000 in
/-- There is no such unit. -/
theorem walk_none (s : ByteArray) (i : Int) (v : Bool) (w : World)
    (hl : Calls Try.prog 13 #[.slice (some ⟨w.heap.size, 0, none⟩) 1 1] (w.alloc (.cells #[.string s] 9)) fun e w' => e = .returned (.bool false) ∧ w.alloc (.cells #[.string s] 9) = w')
    (hx : ∀ w, Calls Try.prog 19 #[.string s] w fun e w' => e = .returned (.bool v) ∧ Below w.heap.size w w')
    (hy : ∀ w, Calls Try.prog 20 #[.string s] w fun e w' => e = .returned (.bool v) ∧ Below w.heap.size w w')
    (hz : ∀ w, Calls Try.prog 16 #[.string s, .int .i64 i] w fun e w' => e = .returned (.tuple #[.int .i32 0, .int .i64 0, .int .i64 0, .bool false]) ∧ Below w.heap.size w w') :
    Calls Try.prog 4 #[.string s, .int .i64 i] w fun e w' => e = .returned (.bool true) ∧ Below w.heap.size w w' := by
  have HL := Lib.hid hl
  have HX := Lib.hid hx
  have HY := Lib.hid hy
  have HZ := Lib.hid hz
  clear hl hx hy hz
  go_enter Try.func4, Try.ntmps4
  go_wp2_with (go_at_call 13; refine HL.out.mono ?_; rintro e w1 ⟨rfl, rfl⟩)
  refine (HX.out _).mono ?_; rintro e w2 ⟨rfl, hb2⟩; go_wp2_with fail
  refine (HZ.out _).mono ?_; rintro e w3 ⟨rfl, hb3⟩; go_wp2_with fail
  refine (HY.out _).mono ?_; rintro e w4 ⟨rfl, hb4⟩; go_wp2_with fail
  refine (awake_any _).mono ?_; rintro e w5 ⟨rfl, hb5⟩; go_wp2_with fail
  go_ret
  exact ⟨rfl, nextB2 (nextB2 (nextB2 (nextB2 ((Below.refl _ w).alloc (Nat.le_refl _) _) hb2) hb3) hb4) hb5⟩

set_option maxRecDepth 100000 in
set_option maxHeartbeats 1000000 in
/-- There is one, and the string is parted in front of it. -/
theorem walk_some (s : ByteArray) (i : Int) (c p n : Nat) (v b1 b2 : Bool) (hp : p ≤ s.size) (hbb : b1 = true → b2 = v) (w : World)
    (hl : Calls Try.prog 13 #[.slice (some ⟨w.heap.size, 0, none⟩) 1 1] (w.alloc (.cells #[.string s] 9)) fun e w' => e = .returned (.bool false) ∧ w.alloc (.cells #[.string s] 9) = w')
    (hx : ∀ w, Calls Try.prog 19 #[.string s] w fun e w' => e = .returned (.bool v) ∧ Below w.heap.size w w')
    (hy : ∀ w, Calls Try.prog 20 #[.string s] w fun e w' => e = .returned (.bool v) ∧ Below w.heap.size w w')
    (hz : ∀ w, Calls Try.prog 16 #[.string s, .int .i64 i] w fun e w' => e = .returned (.tuple #[.int .i32 (c : Int), .int .i64 (p : Int), .int .i64 (n : Int), .bool true]) ∧ Below w.heap.size w w')
    (h1 : ∀ w, Calls Try.prog 19 #[.string (s.extract 0 p)] w fun e w' => e = .returned (.bool b1) ∧ Below w.heap.size w w')
    (h2 : ∀ w, Calls Try.prog 19 #[.string (s.extract p s.size)] w fun e w' => e = .returned (.bool b2) ∧ Below w.heap.size w w') :
    Calls Try.prog 4 #[.string s, .int .i64 i] w fun e w' => e = .returned (.bool true) ∧ Below w.heap.size w w' := by
  have HL := Lib.hid hl
  have HX := Lib.hid hx
  have HY := Lib.hid hy
  have HZ := Lib.hid hz
  have H1 := Lib.hid h1
  have H2 := Lib.hid h2
  clear hl hx hy hz h1 h2
  cases b1 with
  | false =>
    clear hbb
    go_enter Try.func4, Try.ntmps4
    go_wp2_with (go_at_call 13; refine HL.out.mono ?_; rintro e w1 ⟨rfl, rfl⟩)
    refine (HX.out _).mono ?_; rintro e w2 ⟨rfl, hb2⟩; go_wp2_with fail
    refine (HZ.out _).mono ?_; rintro e w3 ⟨rfl, hb3⟩; go_wp2_with fail
    refine (H1.out _).mono ?_; rintro e w4 ⟨rfl, hb4⟩; go_wp2_with fail
    refine (HY.out _).mono ?_; rintro e w5 ⟨rfl, hb5⟩; go_wp2_with fail
    refine (awake_any _).mono ?_; rintro e w6 ⟨rfl, hb6⟩; go_wp2_with fail
    go_ret
    exact ⟨rfl, nextB2 (nextB2 (nextB2 (nextB2 (nextB2 ((Below.refl _ w).alloc (Nat.le_refl _) _) hb2) hb3) hb4) hb5) hb6⟩
  | true =>
    obtain rfl := hbb rfl
    clear hbb
    go_enter Try.func4, Try.ntmps4
    go_wp2_with (go_at_call 13; refine HL.out.mono ?_; rintro e w1 ⟨rfl, rfl⟩)
    refine (HX.out _).mono ?_; rintro e w2 ⟨rfl, hb2⟩; go_wp2_with fail
    refine (HZ.out _).mono ?_; rintro e w3 ⟨rfl, hb3⟩; go_wp2_with fail
    refine (H1.out _).mono ?_; rintro e w4 ⟨rfl, hb4⟩; go_wp2_with fail
    refine (H2.out _).mono ?_; rintro e w5 ⟨rfl, hb5⟩; go_wp2_with fail
    refine (HY.out _).mono ?_; rintro e w6 ⟨rfl, hb6⟩; go_wp2_with fail
    refine (awake_any _).mono ?_; rintro e w7 ⟨rfl, hb7⟩; go_wp2_with fail
    go_ret
    exact ⟨rfl, nextB2 (nextB2 (nextB2 (nextB2 (nextB2 (nextB2 ((Below.refl _ w).alloc (Nat.le_refl _) _) hb2) hb3) hb4) hb5) hb6) hb7⟩

theorem walk (s : ByteArray) (i : Int) (hs : s.size ≤ maxLen) (hi : (Lit.int .i64 i).wf = true) (w : World) :
    Calls Try.prog 4 #[.string s, .int .i64 i] w fun e w' => e = .returned (.bool true) ∧ Below w.heap.size w w' := by
  cases hl0 : longB [s] with
  | true => exact walk_out s i hs w hl0
  | false =>
    have hl := long_one s hs w
    rw [hl0] at hl
    have hsz : s.size ≤ 400 := (longB_iff [s]).1 hl0 s (by simp)
    have hz := fun w => refAt_any s hsz i w
    cases hat : atU s i with
    | none =>
      rw [hat] at hz
      exact walk_none s i _ w hl (valid_any s hs) (refValid_any s hsz) hz
    | some u =>
      have hu : u ∈ units s := by
        unfold atU at hat
        split at hat
        · exact List.mem_of_getElem? hat
        · cases hat
      obtain ⟨_, h2, _⟩ := units_fit _ _ _ hu
      rw [← Lib.size_eq] at h2
      rw [hat] at hz
      have hp : u.p ≤ s.size := by omega
      have e1 : (s.extract 0 u.p).size ≤ s.size := by rw [Lib.size_eq, Lib.extract_data, List.length_take, List.length_drop, ← Lib.size_eq]; omega
      have e2 : (s.extract u.p s.size).size ≤ s.size := by rw [Lib.size_eq, Lib.extract_data, List.length_take, List.length_drop, ← Lib.size_eq]; omega
      exact walk_some s i u.c u.p u.w _ _ _ hp (valid_behind s u.p) w hl (valid_any s hs) (refValid_any s hsz) hz (valid_any _ (by omega)) (valid_any _ (by omega))

theorem own : ownKnob Try.prog.godebug = none := by kernel_rfl

set_option maxRecDepth 100000 in
theorem lifted (os : Os) (started : os.Started) (H : Type) (enc : TypeId × Value → H) :
    ReturnsInHanded {} Try.checked os 4 .any (Rows.codepointValidSpec.pre6 enc Try.prog Try.f4 Rows.codepointValidRow.domain false) (Rows.codepointValidSpec.post enc Try.prog Try.f4 false true false false) := by
  refine returnsInHanded_of_change (C := Try.checked) own started (by kernel_rfl) Try.func4
    (ChangeSpec.witness6 (enc := enc) (C := Try.checked) false ⟨#[], #[.string ByteArray.empty, .int .i64 0], []⟩ 8 (by kernel_rfl) (by kernel_rfl) (by kernel_rfl) (by kernel_rfl)) ?_
  intro W base args ds gs before hval0 hW hcnd _
  have hval : ∀ (j : Nat) t v, Try.f4.params[j]? = some t → args[j]? = some v → Value.okWide Try.prog W .any base t v := hval0
  have hW' := hW
  obtain ⟨p, q, hA0, hV, rfl, hfz, hnd⟩ := hW
  have hA : DataW.TrodAll enc Try.prog W 0 (fun _ => true) true Try.f4.params.toList args.toList ds p := hA0
  rw [Try.params4] at hA hval
  obtain ⟨v0, vs0, d0, ds0, p0, q0, hargs, rfl, rfl, h0, r0⟩ := trodAll_cons hA
  obtain ⟨v1, vs1, d1, ds1, p1, q1, rfl, rfl, rfl, h1, r1⟩ := trodAll_cons r0
  obtain ⟨rfl, rfl, rfl⟩ := trodAll_nil r1
  obtain rfl : args = #[v0, v1] := by cases args; simp_all
  obtain ⟨rfl, rfl⟩ := trodVars_none hV
  obtain ⟨a0, rfl, rfl, rfl, w0⟩ := open_string Try.underlying9 (hval 0 9 v0 rfl rfl) h0
  obtain ⟨a1, rfl, rfl, rfl, w1⟩ := open_int Try.underlying3 (hval 1 3 v1 rfl rfl) h1
  clear hA0 hval0
  simp only [List.append_nil] at hW'
  refine (walk a0 a1 w0 w1 W).mono fun e W' ⟨he, bel⟩ => ?_
  subst he
  exact ⟨_, rfl, _, _, _, [], _, [], hW', trodAll_mk1 (shut_bool Try.underlying4 _), (trodAll_cons_mk (shut_string Try.underlying9 w0) (trodAll_cons_mk (shut_int Try.underlying3 w1) trodAll_mk0)), rfl, bel.frame _, fun h => by cases h⟩

theorem over : Rows.codepointValidRow.holds Try.pinned (OpenSpec.ofChange Rows.codepointValidSpec) :=
  OpenClaim.holds_of_wide 4 Try.f4 rfl rfl rfl rfl rfl rfl rfl ⟨rfl, rfl, rfl, rfl, rfl⟩ rfl rfl rfl rfl rfl (by kernel_rfl) Try.func4 (by kernel_rfl)
    (of_decide_eq_true (by kernel_rfl)) (by unfold Func.isWrapper; first | (rw [if_pos (by decide +kernel)]; kernel_rfl) | (rw [if_neg (by decide +kernel)]; exact ⟨rfl, rfl⟩))
    (fun os started H enc _ => lifted os started H enc)

/-- THE STATEMENT. -/
theorem proved : Rows.CodepointValidSaid := over
end Go.Proofs.Ytilgbjakhpgkcaa.codepointValid
