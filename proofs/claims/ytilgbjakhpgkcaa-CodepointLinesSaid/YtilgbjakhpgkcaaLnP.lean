/-
  CodepointLines is proved: for every two strings and every number the call of the law returns true, and each argument reads afterwards as it read before. It has no condition.
-/
import Derived.Test.YtilgbjakhpgkcaaRows
import Derived.Test.YtilgbjakhpgkcaaLnW
import Derived.ProofKit
import Derived.OpenShut
import Derived.ShutString
namespace Go.Proofs.Ytilgbjakhpgkcaa.codepointLines
open Go.ChangeShapes Go.WideShapes Go.ChangeAt Go.RowKit Go.Shelf Go.Lib
open Go.ChangeMaps (open_string shut_string)
set_option linter.unusedVariables false

theorem pos_bounds (t : ByteArray) (ht : t.size ≤ 801) (x : Int) : (posP (before t x)).1 ≤ 1000 ∧ (posP (before t x)).2 ≤ 1000 := by
  have h1 := posP_le (before t x)
  have h2 : (before t x).length ≤ t.size := Nat.le_trans (List.takeWhile_sublist _).length_le (units_le t)
  omega

theorem walk (a0 : ByteArray) (a1 : ByteArray) (a2 : Int) (w0 : a0.size ≤ maxLen) (w1 : a1.size ≤ maxLen) (w : World) :
    Calls Try.prog 6 #[.string a0, .string a1, .int .i64 a2] w fun e w' => e = .returned (.bool true) ∧ Below w.heap.size w w' := by
  by_cases h : longB [a0, a1] = true ∨ a2 < 0 ∨ (a1.size : Int) < a2
  · exact lines_out a0 a1 a2 w0 w1 w h
  · have hl : longB [a0, a1] = false := by
      cases hb : longB [a0, a1]
      · rfl
      · exact absurd (.inl hb) h
    have hsz := (longB_iff [a0, a1]).1 hl
    have hs : a0.size ≤ 400 := hsz a0 (by simp)
    have ht : a1.size ≤ 400 := hsz a1 (by simp)
    have h0 : 0 ≤ a2 := by
      by_cases h0 : a2 < 0
      · exact absurd (.inr (.inl h0)) h
      · omega
    have h1 : a2 ≤ (a1.size : Int) := by
      by_cases h1 : (a1.size : Int) < a2
      · exact absurd (.inr (.inr h1)) h
      · omega
    obtain ⟨k, rfl⟩ := Int.eq_ofNat_of_zero_le h0
    have hk : k ≤ a1.size := by omega
    clear h h0 h1 hsz hl
    obtain ⟨pa, pb, hpp⟩ : ∃ pa pb, posP (before a1 (k : Int)) = (pa, pb) := ⟨_, _, rfl⟩
    have hbd := pos_bounds a1 (by omega) (k : Int)
    rw [hpp] at hbd
    have hp : ∀ w, Calls Try.prog 21 #[.string a1, .int .i64 (k : Int)] w fun e w' => e = .returned (.agg #[.int .i64 (pa : Int), .int .i64 (pb : Int)]) ∧ Below w.heap.size w w' := by
      intro w
      have := position_any a1 (by omega) (k : Int) w
      rw [hpp] at this
      exact this
    have hcat : (a0 ++ ⟨#[10]⟩ ++ a1).data.toList = a0.data.toList ++ 10 :: a1.data.toList := by simp [ByteArray.data_append]
    have hcs : (a0 ++ ⟨#[10]⟩ ++ a1).size ≤ 801 := by
      rw [Lib.size_eq, hcat, List.length_append, List.length_cons, ← Lib.size_eq, ← Lib.size_eq]
      omega
    have hq : ∀ w, Calls Try.prog 21 #[.string (a0 ++ ⟨#[10]⟩ ++ a1), .int .i64 ((a0.size : Int) + 1 + k)] w fun e w' => e = .returned (.agg #[.int .i64 ((pa : Int) + ((1 + lfs a0.data.toList : Nat) : Int)), .int .i64 (pb : Int)]) ∧ Below w.heap.size w w' := by
      intro w
      have h := position_any (a0 ++ ⟨#[10]⟩ ++ a1) (by omega) ((a0.size : Int) + 1 + k) w
      have e1 : ((a0.size : Int) + 1 + (k : Int)) = ((a0.data.toList.length + 1 + k : Nat) : Int) := by rw [← Lib.size_eq]; omega
      have hb := pos_behind a0.data.toList a1.data.toList k
      have e2 : before (a0 ++ ⟨#[10]⟩ ++ a1) ((a0.size : Int) + 1 + k) = ((unitsA (a0.data.toList ++ 10 :: a1.data.toList) 0).takeWhile fun u => decide (((u.p : Nat) : Int) < ((a0.data.toList.length + 1 + k : Nat) : Int))) := by
        unfold before units
        rw [hcat, e1]
      rw [e2, hb] at h
      have e3 : posP ((unitsA a1.data.toList 0).takeWhile fun u => decide (((u.p : Nat) : Int) < (k : Int))) = (pa, pb) := hpp
      rw [e3] at h
      have e4 : ((pa + (1 + lfs a0.data.toList) : Nat) : Int) = (pa : Int) + ((1 + lfs a0.data.toList : Nat) : Int) := by omega
      unfold posV at h
      rw [e4] at h
      exact h
    obtain ⟨na, nb, hnn⟩ : ∃ na nb, posP (before a1 ((k : Int) + 1)) = (na, nb) := ⟨_, _, rfl⟩
    have hr : ∀ w, Calls Try.prog 21 #[.string a1, .int .i64 ((k : Int) + 1)] w fun e w' => e = .returned (.agg #[.int .i64 (na : Int), .int .i64 (nb : Int)]) ∧ Below w.heap.size w w' := by
      intro w
      have := position_any a1 (by omega) ((k : Int) + 1) w
      rw [hnn] at this
      exact this
    by_cases hkt : k < a1.size
    · have hkt' : k < 0 + a1.data.toList.length := by rw [← Lib.size_eq]; omega
      obtain ⟨us, e, hor⟩ := pos_next a1.data.toList 0 k (Nat.zero_le _) hkt'
      have e1 : before a1 ((k : Int) + 1) = before a1 (k : Int) ++ us := e
      have hget : a1.data.toList.getD (k - 0) 0 = a1[k] := by
        rw [Nat.sub_zero]
        have hk3 : k < a1.data.size := hkt
        simp [List.getD, ByteArray.getElem_eq_getElem_data]
        rw [Array.getElem?_eq_getElem hk3]
        rfl
      rw [hget] at hor
      rw [e1] at hnn
      rcases hor with ⟨rfl, hne⟩ | ⟨u, rfl, hiff⟩
      · rw [List.append_nil, hpp] at hnn
        obtain ⟨rfl, rfl⟩ := Prod.mk.inj hnn
        refine lines_main a0 a1 k pa pb _ hs ht hk hbd.1 hbd.2 rfl hp hq (pa : Int) (pb : Int) false true (fun _ => ⟨hkt, ?_, (fun h => by cases h), fun _ => ⟨rfl, fun _ => rfl, fun h => by cases h⟩⟩) hr w
        rw [beq_eq_false_iff_ne]
        intro h
        apply hne
        exact UInt8.toNat_inj.1 (by simp only [UInt8.reduceToNat]; omega)
      · rw [posP_snoc, hpp] at hnn
        by_cases h10 : u.c = 10
        · have h11 := hiff.1 h10
          unfold stepP at hnn
          rw [if_pos h10] at hnn
          obtain ⟨rfl, rfl⟩ := Prod.mk.inj hnn
          refine lines_main a0 a1 k pa pb _ hs ht hk hbd.1 hbd.2 rfl hp hq _ _ true true (fun _ => ⟨hkt, ?_, (fun _ => ⟨by simp, by simp⟩), fun h => by cases h⟩) hr w
          rw [h11]
          rfl
        · have h11 : a1[k] ≠ 10 := fun h => h10 (hiff.2 h)
          unfold stepP at hnn
          rw [if_neg h10] at hnn
          obtain ⟨rfl, rfl⟩ := Prod.mk.inj hnn
          refine lines_main a0 a1 k pa pb _ hs ht hk hbd.1 hbd.2 rfl hp hq _ _ false false (fun _ => ⟨hkt, ?_, (fun h => by cases h), fun _ => ⟨rfl, (fun h => by cases h), fun _ => by simp⟩⟩) hr w
          rw [beq_eq_false_iff_ne]
          intro h
          apply h11
          exact UInt8.toNat_inj.1 (by simp only [UInt8.reduceToNat]; omega)
    · exact lines_main a0 a1 k pa pb _ hs ht hk hbd.1 hbd.2 rfl hp hq (na : Int) (nb : Int) false false (fun h => absurd h hkt) hr w

theorem own : ownKnob Try.prog.godebug = none := by kernel_rfl

set_option maxRecDepth 100000 in
theorem lifted (os : Os) (started : os.Started) (H : Type) (enc : TypeId × Value → H) :
    ReturnsInHanded {} Try.checked os 6 .any (Rows.codepointLinesSpec.pre6 enc Try.prog Try.f6 Rows.codepointLinesRow.domain false) (Rows.codepointLinesSpec.post enc Try.prog Try.f6 false true false false) := by
  refine returnsInHanded_of_change (C := Try.checked) own started (by kernel_rfl) Try.func6
    (ChangeSpec.witness6 (enc := enc) (C := Try.checked) false ⟨#[], #[.string ByteArray.empty, .string ByteArray.empty, .int .i64 0], []⟩ 8 (by kernel_rfl) (by kernel_rfl) (by kernel_rfl) (by kernel_rfl)) ?_
  intro W base args ds gs before hval0 hW hcnd _
  have hval : ∀ (j : Nat) t v, Try.f6.params[j]? = some t → args[j]? = some v → Value.okWide Try.prog W .any base t v := hval0
  have hW' := hW
  obtain ⟨p, q, hA0, hV, rfl, hfz, hnd⟩ := hW
  have hA : DataW.TrodAll enc Try.prog W 0 (fun _ => true) true Try.f6.params.toList args.toList ds p := hA0
  rw [Try.params6] at hA hval
  obtain ⟨v0, vs0, d0, ds0, p0, q0, hargs, rfl, rfl, h0, r0⟩ := trodAll_cons hA
  obtain ⟨v1, vs1, d1, ds1, p1, q1, rfl, rfl, rfl, h1, r1⟩ := trodAll_cons r0
  obtain ⟨v2, vs2, d2, ds2, p2, q2, rfl, rfl, rfl, h2, r2⟩ := trodAll_cons r1
  obtain ⟨rfl, rfl, rfl⟩ := trodAll_nil r2
  obtain rfl : args = #[v0, v1, v2] := by cases args; simp_all
  obtain ⟨rfl, rfl⟩ := trodVars_none hV
  obtain ⟨a0, rfl, rfl, rfl, w0⟩ := open_string Try.underlying9 (hval 0 9 v0 rfl rfl) h0
  obtain ⟨a1, rfl, rfl, rfl, w1⟩ := open_string Try.underlying9 (hval 1 9 v1 rfl rfl) h1
  obtain ⟨a2, rfl, rfl, rfl, w2⟩ := open_int Try.underlying3 (hval 2 3 v2 rfl rfl) h2
  clear hA0 hval0
  simp only [List.append_nil] at hW'
  refine (walk a0 a1 a2 w0 w1 W).mono fun e W' ⟨he, bel⟩ => ?_
  subst he
  exact ⟨_, rfl, _, _, _, [], _, [], hW', trodAll_mk1 (shut_bool Try.underlying4 _), (trodAll_cons_mk (shut_string Try.underlying9 w0) (trodAll_cons_mk (shut_string Try.underlying9 w1) (trodAll_cons_mk (shut_int Try.underlying3 w2) trodAll_mk0))), rfl, bel.frame _, fun h => by cases h⟩

theorem over : Rows.codepointLinesRow.holds Try.pinned (OpenSpec.ofChange Rows.codepointLinesSpec) :=
  OpenClaim.holds_of_wide 6 Try.f6 rfl rfl rfl rfl rfl rfl rfl ⟨rfl, rfl, rfl, rfl, rfl⟩ rfl rfl rfl rfl rfl (by kernel_rfl) Try.func6 (by kernel_rfl)
    (of_decide_eq_true (by kernel_rfl)) (by unfold Func.isWrapper; first | (rw [if_pos (by decide +kernel)]; kernel_rfl) | (rw [if_neg (by decide +kernel)]; exact ⟨rfl, rfl⟩))
    (fun os started H enc _ => lifted os started H enc)

/-- THE STATEMENT. -/
theorem proved : Rows.CodepointLinesSaid := over
end Go.Proofs.Ytilgbjakhpgkcaa.codepointLines
