/-
  CodepointOrders is proved: for every three strings the call of the law returns true, and each argument reads afterwards as it read before. It has no condition.
-/
import Derived.Test.YtilgbjakhpgkcaaRows
import Derived.Test.YtilgbjakhpgkcaaOrW
import Derived.ProofKit
import Derived.OpenShut
import Derived.ShutString
namespace Go.Proofs.Ytilgbjakhpgkcaa.codepointOrders
open Go.ChangeShapes Go.WideShapes Go.ChangeAt Go.RowKit Go.Shelf Go.Lib
open Go.ChangeMaps (open_string shut_string)
set_option linter.unusedVariables false

theorem walk (a0 a1 a2 : ByteArray) (w0 : a0.size ≤ maxLen) (w1 : a1.size ≤ maxLen) (w2 : a2.size ≤ maxLen) (w : World) :
    Calls Try.prog 12 #[.string a0, .string a1, .string a2] w fun e w' => e = .returned (.bool true) ∧ Below w.heap.size w w' := by
  cases hl : longB [a0, a1, a2] with
  | true => exact orders_out a0 a1 a2 w0 w1 w2 w hl
  | false =>
    have hsz := (longB_iff [a0, a1, a2]).1 hl
    have h0 : a0.size ≤ 400 := hsz a0 (by simp)
    have h1 : a1.size ≤ 400 := hsz a1 (by simp)
    have h2 : a2.size ≤ 400 := hsz a2 (by simp)
    clear hsz
    have ht := cmpS_three a0 a1
    have hz := cmpS_zero a0 a1
    have hle := cmpS_le a0 a1 a2
    have hge := cmpS_ge a0 a1 a2
    have hnn := cmpS_anti a0 a1
    refine orders_main a0 a1 a2 (cmpS a0 a1) (cmpS a1 a2) (cmpS a0 a2) (a0.toList == a1.toList) _ _ (Op.bytesLess a0.toList a1.toList) rfl rfl (by omega) (by omega) ?_ ?_ hl w0 w1 w2
      (compare_any a0 a1 (by omega) (by omega)) (compare_any a1 a2 (by omega) (by omega)) (compare_any a0 a2 (by omega) (by omega)) ?_ (valid_any a0 w0) (valid_any a1 w1) w
    · by_cases hab : a0 = a1
      · have hx0 := hz.2 hab
        refine .inr (.inr ⟨hx0, ?_, ?_⟩)
        · rw [hab]; simp
        · rw [hab]
      · have hx0 : cmpS a0 a1 ≠ 0 := fun h => hab (hz.1 h)
        have hs : (a0.toList == a1.toList) = false := by
          rw [beq_eq_false_iff_ne]
          intro h
          rw [toList_d, toList_d] at h
          exact hab (ByteArray.ext (Array.ext' h))
        by_cases hx : cmpS a0 a1 < 0
        · refine .inl ⟨hx, hs, ?_⟩
          by_cases hy : 0 < cmpS a1 a2
          · exact .inl hy
          · exact .inr ⟨by omega, hle (by omega) (by omega)⟩
        · refine .inr (.inl ⟨by omega, hs, ?_⟩)
          by_cases hy : cmpS a1 a2 < 0
          · exact .inl hy
          · exact .inr ⟨by omega, hge (by omega) (by omega)⟩
    · intro va vb
      rw [cmpS_valid a0 a1 va vb, toList_d, toList_d, bytesLess_compare]
    · intro w
      rw [← hnn]
      exact compare_any a1 a0 (by omega) (by omega) w

theorem own : ownKnob Try.prog.godebug = none := by kernel_rfl

set_option maxRecDepth 100000 in
theorem lifted (os : Os) (started : os.Started) (H : Type) (enc : TypeId × Value → H) :
    ReturnsInHanded {} Try.checked os 12 .any (Rows.codepointOrdersSpec.pre6 enc Try.prog Try.f12 Rows.codepointOrdersRow.domain false) (Rows.codepointOrdersSpec.post enc Try.prog Try.f12 false true false false) := by
  refine returnsInHanded_of_change (C := Try.checked) own started (by kernel_rfl) Try.func12
    (ChangeSpec.witness6 (enc := enc) (C := Try.checked) false ⟨#[], #[.string ByteArray.empty, .string ByteArray.empty, .string ByteArray.empty], []⟩ 8 (by kernel_rfl) (by kernel_rfl) (by kernel_rfl) (by kernel_rfl)) ?_
  intro W base args ds gs before hval0 hW hcnd _
  have hval : ∀ (j : Nat) t v, Try.f12.params[j]? = some t → args[j]? = some v → Value.okWide Try.prog W .any base t v := hval0
  have hW' := hW
  obtain ⟨p, q, hA0, hV, rfl, hfz, hnd⟩ := hW
  have hA : DataW.TrodAll enc Try.prog W 0 (fun _ => true) true Try.f12.params.toList args.toList ds p := hA0
  rw [Try.params12] at hA hval
  obtain ⟨v0, vs0, d0, ds0, p0, q0, hargs, rfl, rfl, h0, r0⟩ := trodAll_cons hA
  obtain ⟨v1, vs1, d1, ds1, p1, q1, rfl, rfl, rfl, h1, r1⟩ := trodAll_cons r0
  obtain ⟨v2, vs2, d2, ds2, p2, q2, rfl, rfl, rfl, h2, r2⟩ := trodAll_cons r1
  obtain ⟨rfl, rfl, rfl⟩ := trodAll_nil r2
  obtain rfl : args = #[v0, v1, v2] := by cases args; simp_all
  obtain ⟨rfl, rfl⟩ := trodVars_none hV
  obtain ⟨a0, rfl, rfl, rfl, w0⟩ := open_string Try.underlying9 (hval 0 9 v0 rfl rfl) h0
  obtain ⟨a1, rfl, rfl, rfl, w1⟩ := open_string Try.underlying9 (hval 1 9 v1 rfl rfl) h1
  obtain ⟨a2, rfl, rfl, rfl, w2⟩ := open_string Try.underlying9 (hval 2 9 v2 rfl rfl) h2
  clear hA0 hval0
  simp only [List.append_nil] at hW'
  refine (walk a0 a1 a2 w0 w1 w2 W).mono fun e W' ⟨he, bel⟩ => ?_
  subst he
  exact ⟨_, rfl, _, _, _, [], _, [], hW', trodAll_mk1 (shut_bool Try.underlying4 _), (trodAll_cons_mk (shut_string Try.underlying9 w0) (trodAll_cons_mk (shut_string Try.underlying9 w1) (trodAll_cons_mk (shut_string Try.underlying9 w2) trodAll_mk0))), rfl, bel.frame _, fun h => by cases h⟩

theorem over : Rows.codepointOrdersRow.holds Try.pinned (OpenSpec.ofChange Rows.codepointOrdersSpec) :=
  OpenClaim.holds_of_wide 12 Try.f12 rfl rfl rfl rfl rfl rfl rfl ⟨rfl, rfl, rfl, rfl, rfl⟩ rfl rfl rfl rfl rfl (by kernel_rfl) Try.func12 (by kernel_rfl)
    (of_decide_eq_true (by kernel_rfl)) (by unfold Func.isWrapper; first | (rw [if_pos (by decide +kernel)]; kernel_rfl) | (rw [if_neg (by decide +kernel)]; exact ⟨rfl, rfl⟩))
    (fun os started H enc _ => lifted os started H enc)

/-- THE STATEMENT. -/
theorem proved : Rows.CodepointOrdersSaid := over
end Go.Proofs.Ytilgbjakhpgkcaa.codepointOrders
