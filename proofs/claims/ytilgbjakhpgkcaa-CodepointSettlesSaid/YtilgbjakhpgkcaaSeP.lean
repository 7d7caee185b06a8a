/-
  CodepointSettles is proved: for every string the call of the law returns true, and each argument reads afterwards as it read before. It has no condition.
-/
import Derived.Test.YtilgbjakhpgkcaaRows
import Derived.Test.YtilgbjakhpgkcaaFoW
import Derived.Test.YtilgbjakhpgkcaaStM
import Derived.Test.YtilgbjakhpgkcaaCpC
import Derived.Test.YtilgbjakhpgkcaaRuD
import Derived.ProofKit
import Derived.OpenShut
import Derived.ShutString
namespace Go.Proofs.Ytilgbjakhpgkcaa.codepointSettles
open Go.ChangeShapes Go.WideShapes Go.ChangeAt Go.RowKit Go.Shelf Go.Lib
open Go.ChangeMaps (open_string shut_string)
set_option linter.unusedVariables false

theorem fold_len : ∀ (l : List UInt8) (p : Nat), (foldA l p).length = l.length := by
  refine unitsA_ind ?_ ?_
  · intro p
    simp [foldA, unitsA_nil]
  · intro l p hne ih
    have h := (fold_first l p hne).1
    have hle := decodeL_le l hne
    rw [foldA_step l p hne, List.length_append, ih, h, List.length_drop]
    omega

theorem walk_out (s : ByteArray) (hs : s.size ≤ maxLen) (w : World) (h : longB [s] = true) :
    Calls Try.prog 8 #[.string s] w fun e w' => e = .returned (.bool true) ∧ Below w.heap.size w w' := by
  have hl := long_one s hs w
  rw [h] at hl
  have HL := Lib.hid hl
  clear hl h hs
  go_enter Try.func8, Try.ntmps8
  go_wp2_with (go_at_call 13; refine HL.out.mono ?_; rintro e w1 ⟨rfl, rfl⟩)
  go_ret
  exact ⟨rfl, (Below.refl _ _).alloc (Nat.le_refl _) _⟩

set_option maxRecDepth 100000 in
theorem walk_main (s F : ByteArray) (n : Nat) (v : Bool) (w : World)
    (hl : Calls Try.prog 13 #[.slice (some ⟨w.heap.size, 0, none⟩) 1 1] (w.alloc (.cells #[.string s] 9)) fun e w' => e = .returned (.bool false) ∧ w.alloc (.cells #[.string s] 9) = w')
    (h1 : ∀ w, Calls Try.prog 23 #[.string s] w fun e w' => e = .returned (.string F) ∧ Below w.heap.size w w')
    (h2 : ∀ w, Calls Try.prog 23 #[.string F] w fun e w' => e = .returned (.string F) ∧ Below w.heap.size w w')
    (h3 : ∀ w, Calls Try.prog 17 #[.string F] w fun e w' => e = .returned (.int .i64 (n : Nat)) ∧ Below w.heap.size w w')
    (h4 : ∀ w, Calls Try.prog 17 #[.string s] w fun e w' => e = .returned (.int .i64 (n : Nat)) ∧ Below w.heap.size w w')
    (h5 : ∀ w, Calls Try.prog 19 #[.string F] w fun e w' => e = .returned (.bool v) ∧ Below w.heap.size w w')
    (h6 : ∀ w, Calls Try.prog 19 #[.string s] w fun e w' => e = .returned (.bool v) ∧ Below w.heap.size w w') :
    Calls Try.prog 8 #[.string s] w fun e w' => e = .returned (.bool true) ∧ Below w.heap.size w w' := by
  have HL := Lib.hid hl
  have H1 := Lib.hid h1
  have H2 := Lib.hid h2
  have H3 := Lib.hid h3
  have H4 := Lib.hid h4
  have H5 := Lib.hid h5
  have H6 := Lib.hid h6
  have hrr : (F.toList == F.toList) = true := by simp
  clear hl h1 h2 h3 h4 h5 h6
  go_enter Try.func8, Try.ntmps8
  go_wp2_with (go_at_call 13; refine HL.out.mono ?_; rintro e w1 ⟨rfl, rfl⟩)
  refine (H1.out _).mono ?_; rintro e w2 ⟨rfl, hb2⟩; go_wp2_with fail
  refine (H2.out _).mono ?_; rintro e w3 ⟨rfl, hb3⟩; go_wp2_with fail
  refine (H3.out _).mono ?_; rintro e w4 ⟨rfl, hb4⟩; go_wp2_with fail
  refine (H4.out _).mono ?_; rintro e w5 ⟨rfl, hb5⟩; go_wp2_with fail
  refine (H5.out _).mono ?_; rintro e w6 ⟨rfl, hb6⟩; go_wp2_with fail
  refine (H6.out _).mono ?_; rintro e w7 ⟨rfl, hb7⟩; go_wp2_with fail
  refine (awake_any _).mono ?_; rintro e w8 ⟨rfl, hb8⟩; go_wp2_with fail
  go_ret
  exact ⟨rfl, nextB2 (nextB2 (nextB2 (nextB2 (nextB2 (nextB2 (nextB2 ((Below.refl _ w).alloc (Nat.le_refl _) _) hb2) hb3) hb4) hb5) hb6) hb7) hb8⟩

theorem walk (s : ByteArray) (hs : s.size ≤ maxLen) (w : World) :
    Calls Try.prog 8 #[.string s] w fun e w' => e = .returned (.bool true) ∧ Below w.heap.size w w' := by
  cases hl0 : longB [s] with
  | true => exact walk_out s hs w hl0
  | false =>
    have hl := long_one s hs w
    rw [hl0] at hl
    have hsz : s.size ≤ 400 := (longB_iff [s]).1 hl0 s (by simp)
    obtain ⟨F, hF⟩ : ∃ F : ByteArray, (⟨(foldL s).toArray⟩ : ByteArray) = F := ⟨_, rfl⟩
    have hd : F.data.toList = foldA s.data.toList 0 := by rw [← hF]; simp [foldA_foldL]
    have hfs : F.size = s.size := by rw [Lib.size_eq, hd, fold_len, ← Lib.size_eq]
    have hff : (⟨(foldL F).toArray⟩ : ByteArray) = F := by
      have e : foldL F = F.data.toList := by
        rw [← foldA_foldL, hd, fold_twice]
      rw [e]
    have hun : units F = (units s).map fu := by
      unfold units
      rw [hd]
      exact fold_units _ _
    have h1 := fun w => fold_any s (by omega) w
    have h2 := fun w => fold_any F (by omega) w
    have h3 := fun w => count_any F (by omega) w
    have h5 := fun w => valid_any F (by omega) w
    simp only [hF] at h1
    simp only [hff] at h2
    have e3 : (units F).length = (units s).length := by rw [hun, List.length_map]
    have e5 : ((units F).all fun u => !badU u) = ((units s).all fun u => !badU u) := by
      rw [hun, List.all_map]
      congr 1
      funext u
      simp [badU_fu]
    simp only [e3] at h3
    simp only [e5] at h5
    exact walk_main s F _ _ w hl h1 h2 h3 (count_any s hs) h5 (valid_any s hs)

theorem own : ownKnob Try.prog.godebug = none := by kernel_rfl

set_option maxRecDepth 100000 in
theorem lifted (os : Os) (started : os.Started) (H : Type) (enc : TypeId × Value → H) :
    ReturnsInHanded {} Try.checked os 8 .any (Rows.codepointSettlesSpec.pre6 enc Try.prog Try.f8 Rows.codepointSettlesRow.domain false) (Rows.codepointSettlesSpec.post enc Try.prog Try.f8 false true false false) := by
  refine returnsInHanded_of_change (C := Try.checked) own started (by kernel_rfl) Try.func8
    (ChangeSpec.witness6 (enc := enc) (C := Try.checked) false ⟨#[], #[.string ByteArray.empty], []⟩ 8 (by kernel_rfl) (by kernel_rfl) (by kernel_rfl) (by kernel_rfl)) ?_
  intro W base args ds gs before hval0 hW hcnd _
  have hval : ∀ (j : Nat) t v, Try.f8.params[j]? = some t → args[j]? = some v → Value.okWide Try.prog W .any base t v := hval0
  have hW' := hW
  obtain ⟨p, q, hA0, hV, rfl, hfz, hnd⟩ := hW
  have hA : DataW.TrodAll enc Try.prog W 0 (fun _ => true) true Try.f8.params.toList args.toList ds p := hA0
  rw [Try.params8] at hA hval
  obtain ⟨v0, vs0, d0, ds0, p0, q0, hargs, rfl, rfl, h0, r0⟩ := trodAll_cons hA
  obtain ⟨rfl, rfl, rfl⟩ := trodAll_nil r0
  obtain rfl : args = #[v0] := by cases args; simp_all
  obtain ⟨rfl, rfl⟩ := trodVars_none hV
  obtain ⟨a0, rfl, rfl, rfl, w0⟩ := open_string Try.underlying9 (hval 0 9 v0 rfl rfl) h0
  clear hA0 hval0
  simp only [List.append_nil] at hW'
  refine (walk a0 w0 W).mono fun e W' ⟨he, bel⟩ => ?_
  subst he
  exact ⟨_, rfl, _, _, _, [], _, [], hW', trodAll_mk1 (shut_bool Try.underlying4 _), (trodAll_cons_mk (shut_string Try.underlying9 w0) trodAll_mk0), rfl, bel.frame _, fun h => by cases h⟩

theorem over : Rows.codepointSettlesRow.holds Try.pinned (OpenSpec.ofChange Rows.codepointSettlesSpec) :=
  OpenClaim.holds_of_wide 8 Try.f8 rfl rfl rfl rfl rfl rfl rfl ⟨rfl, rfl, rfl, rfl, rfl⟩ rfl rfl rfl rfl rfl (by kernel_rfl) Try.func8 (by kernel_rfl)
    (of_decide_eq_true (by kernel_rfl)) (by unfold Func.isWrapper; first | (rw [if_pos (by decide +kernel)]; kernel_rfl) | (rw [if_neg (by decide +kernel)]; exact ⟨rfl, rfl⟩))
    (fun os started H enc _ => lifted os started H enc)

/-- THE STATEMENT. -/
theorem proved : Rows.CodepointSettlesSaid := over
end Go.Proofs.Ytilgbjakhpgkcaa.codepointSettles
