/-
  CodepointJoins is proved: for every string and every string the call of the law returns true, and each argument reads afterwards as it read before. It has no condition.
-/
import Derived.Test.YtilgbjakhpgkcaaRows
import Derived.Test.YtilgbjakhpgkcaaFoW
import Derived.Test.YtilgbjakhpgkcaaJoM
import Derived.Test.YtilgbjakhpgkcaaCpC
import Derived.Test.YtilgbjakhpgkcaaRuD
import Derived.ProofKit
import Derived.OpenShut
import Derived.ShutString
namespace Go.Proofs.Ytilgbjakhpgkcaa.codepointJoins
open Go.ChangeShapes Go.WideShapes Go.ChangeAt Go.RowKit Go.Shelf Go.Lib
open Go.ChangeMaps (open_string shut_string)
set_option linter.unusedVariables false

theorem fold_len2 : ∀ (l : List UInt8) (p : Nat), (foldA l p).length = l.length := by
  refine unitsA_ind ?_ ?_
  · intro p
    simp [foldA, unitsA_nil]
  · intro l p hne ih
    have h := (fold_first l p hne).1
    have hle := decodeL_le l hne
    rw [foldA_step l p hne, List.length_append, ih, h, List.length_drop]
    omega

theorem walk_out (a b : ByteArray) (ha : a.size ≤ maxLen) (hb : b.size ≤ maxLen) (w : World) (h : longB [a, b] = true) :
    Calls Try.prog 10 #[.string a, .string b] w fun e w' => e = .returned (.bool true) ∧ Below w.heap.size w w' := by
  have hl := long_two a b ha hb w
  rw [h] at hl
  have HL := Lib.hid hl
  clear hl h ha hb
  go_enter Try.func10, Try.ntmps10
  go_wp2_with (go_at_call 13; refine HL.out.mono ?_; rintro e w1 ⟨rfl, rfl⟩)
  go_ret
  exact ⟨rfl, (Below.refl _ _).alloc (Nat.le_refl _) _⟩

set_option maxRecDepth 100000 in
theorem walk_no (a b : ByteArray) (va vb : Bool) (hno : va = false ∨ vb = false) (w : World)
    (hl : Calls Try.prog 13 #[.slice (some ⟨w.heap.size, 0, none⟩) 2 2] (w.alloc (.cells #[.string a, .string b] 9)) fun e w' => e = .returned (.bool false) ∧ w.alloc (.cells #[.string a, .string b] 9) = w')
    (h1 : ∀ w, Calls Try.prog 20 #[.string a] w fun e w' => e = .returned (.bool va) ∧ Below w.heap.size w w')
    (h2 : ∀ w, Calls Try.prog 20 #[.string b] w fun e w' => e = .returned (.bool vb) ∧ Below w.heap.size w w') :
    Calls Try.prog 10 #[.string a, .string b] w fun e w' => e = .returned (.bool true) ∧ Below w.heap.size w w' := by
  have HL := Lib.hid hl
  have H1 := Lib.hid h1
  have H2 := Lib.hid h2
  clear hl h1 h2
  cases va with
  | false =>
    clear hno
    go_enter Try.func10, Try.ntmps10
    go_wp2_with (go_at_call 13; refine HL.out.mono ?_; rintro e w1 ⟨rfl, rfl⟩)
    refine (H1.out _).mono ?_; rintro e w2 ⟨rfl, hb2⟩; go_wp2_with fail
    go_ret
    exact ⟨rfl, nextB2 ((Below.refl _ w).alloc (Nat.le_refl _) _) hb2⟩
  | true =>
    have hvb : vb = false := by rcases hno with h | h; cases h; exact h
    subst hvb
    clear hno
    go_enter Try.func10, Try.ntmps10
    go_wp2_with (go_at_call 13; refine HL.out.mono ?_; rintro e w1 ⟨rfl, rfl⟩)
    refine (H1.out _).mono ?_; rintro e w2 ⟨rfl, hb2⟩; go_wp2_with fail
    refine (H2.out _).mono ?_; rintro e w3 ⟨rfl, hb3⟩; go_wp2_with fail
    go_ret
    exact ⟨rfl, nextB2 (nextB2 ((Below.refl _ w).alloc (Nat.le_refl _) _) hb2) hb3⟩

set_option maxRecDepth 100000 in
set_option maxHeartbeats 2000000 in
theorem walk_main (a b RA RB FA FB : ByteArray) (na nb : Nat) (ha : a.size ≤ 400) (hb : b.size ≤ 400) (hra : RA.size ≤ 400) (hrb : RB.size ≤ 400) (hfa : FA.size ≤ 400) (hfb : FB.size ≤ 400) (hna : na ≤ 400) (hnb : nb ≤ 400) (w : World)
    (hl : Calls Try.prog 13 #[.slice (some ⟨w.heap.size, 0, none⟩) 2 2] (w.alloc (.cells #[.string a, .string b] 9)) fun e w' => e = .returned (.bool false) ∧ w.alloc (.cells #[.string a, .string b] 9) = w')
    (h1 : ∀ w, Calls Try.prog 20 #[.string a] w fun e w' => e = .returned (.bool true) ∧ Below w.heap.size w w')
    (h2 : ∀ w, Calls Try.prog 20 #[.string b] w fun e w' => e = .returned (.bool true) ∧ Below w.heap.size w w')
    (h3 : ∀ w, Calls Try.prog 19 #[.string (a ++ b)] w fun e w' => e = .returned (.bool true) ∧ Below w.heap.size w w')
    (h4 : ∀ w, Calls Try.prog 17 #[.string (a ++ b)] w fun e w' => e = .returned (.int .i64 ((na : Int) + (nb : Int))) ∧ Below w.heap.size w w')
    (h5 : ∀ w, Calls Try.prog 17 #[.string a] w fun e w' => e = .returned (.int .i64 (na : Int)) ∧ Below w.heap.size w w')
    (h6 : ∀ w, Calls Try.prog 17 #[.string b] w fun e w' => e = .returned (.int .i64 (nb : Int)) ∧ Below w.heap.size w w')
    (h7 : ∀ w, Calls Try.prog 25 #[.string (a ++ b)] w fun e w' => e = .returned (.string (RB ++ RA)) ∧ Below w.heap.size w w')
    (h8 : ∀ w, Calls Try.prog 25 #[.string b] w fun e w' => e = .returned (.string RB) ∧ Below w.heap.size w w')
    (h9 : ∀ w, Calls Try.prog 25 #[.string a] w fun e w' => e = .returned (.string RA) ∧ Below w.heap.size w w')
    (h10 : ∀ w, Calls Try.prog 23 #[.string (a ++ b)] w fun e w' => e = .returned (.string (FA ++ FB)) ∧ Below w.heap.size w w')
    (h11 : ∀ w, Calls Try.prog 23 #[.string a] w fun e w' => e = .returned (.string FA) ∧ Below w.heap.size w w')
    (h12 : ∀ w, Calls Try.prog 23 #[.string b] w fun e w' => e = .returned (.string FB) ∧ Below w.heap.size w w')
    (h13 : ∀ w, Calls Try.prog 25 #[.string RA] w fun e w' => e = .returned (.string a) ∧ Below w.heap.size w w') :
    Calls Try.prog 10 #[.string a, .string b] w fun e w' => e = .returned (.bool true) ∧ Below w.heap.size w w' := by
  have HL := Lib.hid hl
  have H1 := Lib.hid h1
  have H2 := Lib.hid h2
  have H3 := Lib.hid h3
  have H4 := Lib.hid h4
  have H5 := Lib.hid h5
  have H6 := Lib.hid h6
  have H7 := Lib.hid h7
  have H8 := Lib.hid h8
  have H9 := Lib.hid h9
  have H10 := Lib.hid h10
  have H11 := Lib.hid h11
  have H12 := Lib.hid h12
  have H13 := Lib.hid h13
  clear hl h1 h2 h3 h4 h5 h6 h7 h8 h9 h10 h11 h12 h13
  go_enter Try.func10, Try.ntmps10
  go_wp2_with (go_at_call 13; refine HL.out.mono ?_; rintro e w1 ⟨rfl, rfl⟩)
  refine (H1.out _).mono ?_; rintro e w2 ⟨rfl, hb2⟩; go_wp2_with fail
  refine (H2.out _).mono ?_; rintro e w3 ⟨rfl, hb3⟩; go_wp2_with fail
  refine (H3.out _).mono ?_; rintro e w4 ⟨rfl, hb4⟩; go_wp2_with fail
  refine (H4.out _).mono ?_; rintro e w5 ⟨rfl, hb5⟩; go_wp2_with fail
  refine (H5.out _).mono ?_; rintro e w6 ⟨rfl, hb6⟩; go_wp2_with fail
  refine (H6.out _).mono ?_; rintro e w7 ⟨rfl, hb7⟩; go_wp2_with fail
  refine (H7.out _).mono ?_; rintro e w8 ⟨rfl, hb8⟩; go_wp2_with fail
  refine (H8.out _).mono ?_; rintro e w9 ⟨rfl, hb9⟩; go_wp2_with fail
  refine (H9.out _).mono ?_; rintro e w10 ⟨rfl, hb10⟩; go_wp2_with fail
  refine (H10.out _).mono ?_; rintro e w11 ⟨rfl, hb11⟩; go_wp2_with fail
  refine (H11.out _).mono ?_; rintro e w12 ⟨rfl, hb12⟩; go_wp2_with fail
  refine (H12.out _).mono ?_; rintro e w13 ⟨rfl, hb13⟩; go_wp2_with fail
  refine (H9.out _).mono ?_; rintro e w14 ⟨rfl, hb14⟩; go_wp2_with fail
  refine (H13.out _).mono ?_; rintro e w15 ⟨rfl, hb15⟩; go_wp2_with fail
  refine (awake_any _).mono ?_; rintro e w16 ⟨rfl, hb16⟩; go_wp2_with fail
  go_ret
  have k1 := nextB2 (nextB2 (nextB2 (nextB2 (nextB2 (nextB2 ((Below.refl _ w).alloc (Nat.le_refl _) _) hb2) hb3) hb4) hb5) hb6) hb7
  have k2 := nextB2 (nextB2 (nextB2 (nextB2 (nextB2 (nextB2 k1 hb8) hb9) hb10) hb11) hb12) hb13
  exact ⟨rfl, nextB2 (nextB2 (nextB2 k2 hb14) hb15) hb16⟩

theorem ba_app (x y : List UInt8) : (⟨(x ++ y).toArray⟩ : ByteArray) = (⟨x.toArray⟩ : ByteArray) ++ ⟨y.toArray⟩ := by
  refine ByteArray.ext (Array.ext' ?_)
  simp [ByteArray.data_append]
theorem walk (a b : ByteArray) (ha : a.size ≤ maxLen) (hb : b.size ≤ maxLen) (w : World) :
    Calls Try.prog 10 #[.string a, .string b] w fun e w' => e = .returned (.bool true) ∧ Below w.heap.size w w' := by
  cases hl0 : longB [a, b] with
  | true => exact walk_out a b ha hb w hl0
  | false =>
    have hl := long_two a b ha hb w
    rw [hl0] at hl
    have ha4 : a.size ≤ 400 := (longB_iff [a, b]).1 hl0 a (by simp)
    have hb4 : b.size ≤ 400 := (longB_iff [a, b]).1 hl0 b (by simp)
    cases hva : ((units a).all fun u => !badU u) with
    | false => exact walk_no a b _ _ (.inl hva) w hl (refValid_any a ha4) (refValid_any b hb4)
    | true =>
      cases hvb : ((units b).all fun u => !badU u) with
      | false => exact walk_no a b _ _ (.inr hvb) w hl (refValid_any a ha4) (refValid_any b hb4)
      | true =>
        have hab : (a ++ b).size ≤ 800 := by rw [ByteArray.size_append]; omega
        obtain ⟨RA, hRA⟩ : ∃ R : ByteArray, (⟨(revL a).toArray⟩ : ByteArray) = R := ⟨_, rfl⟩
        obtain ⟨RB, hRB⟩ : ∃ R : ByteArray, (⟨(revL b).toArray⟩ : ByteArray) = R := ⟨_, rfl⟩
        obtain ⟨FA, hFA⟩ : ∃ R : ByteArray, (⟨(foldL a).toArray⟩ : ByteArray) = R := ⟨_, rfl⟩
        obtain ⟨FB, hFB⟩ : ∃ R : ByteArray, (⟨(foldL b).toArray⟩ : ByteArray) = R := ⟨_, rfl⟩
        have dRA : RA.data.toList = revL a := by rw [← hRA]
        have dRB : RB.data.toList = revL b := by rw [← hRB]
        have dFA : FA.data.toList = foldA a.data.toList 0 := by rw [← hFA]; rfl
        have dFB : FB.data.toList = foldA b.data.toList 0 := by rw [← hFB]; rfl
        have s1 : RA.size = a.size := by rw [Lib.size_eq, dRA, revL_len]
        have s2 : RB.size = b.size := by rw [Lib.size_eq, dRB, revL_len]
        have s3 : FA.size = a.size := by rw [Lib.size_eq, dFA, fold_len2, ← Lib.size_eq]
        have s4 : FB.size = b.size := by rw [Lib.size_eq, dFB, fold_len2, ← Lib.size_eq]
        have h1 := fun w => refValid_any a ha4 w
        have h2 := fun w => refValid_any b hb4 w
        have h3 := fun w => valid_any (a ++ b) (by unfold maxLen; omega) w
        have h4 := fun w => count_any (a ++ b) (by unfold maxLen; omega) w
        have h7 := fun w => reverse_any (a ++ b) (by omega) w
        have h8 := fun w => reverse_any b (by omega) w
        have h9 := fun w => reverse_any a (by omega) w
        have h10 := fun w => fold_any (a ++ b) (by omega) w
        have h11 := fun w => fold_any a (by omega) w
        have h12 := fun w => fold_any b (by omega) w
        have h13 := fun w => reverse_any RA (by omega) w
        have e13 : (⟨(revL RA).toArray⟩ : ByteArray) = a := by rw [rev_twice a RA dRA hva]
        simp only [hva] at h1
        simp only [hvb] at h2
        simp only [valid_join a b hva hvb] at h3
        simp only [count_join a b hva] at h4
        simp only [rev_join a b hva, ba_app, hRA, hRB] at h7
        simp only [hRB] at h8
        simp only [hRA] at h9
        simp only [fold_join a b hva, ba_app, hFA, hFB] at h10
        simp only [hFA] at h11
        simp only [hFB] at h12
        simp only [e13] at h13
        have u1 := units_le a
        have u2 := units_le b
        exact walk_main a b RA RB FA FB (units a).length (units b).length ha4 hb4 (by omega) (by omega) (by omega) (by omega) (by omega) (by omega) w hl h1 h2 h3
          (fun w => (h4 w).mono fun e w' h => ⟨h.1.trans (congrArg (fun z => Ending.returned (Value.int .i64 z)) (Int.natCast_add _ _)), h.2⟩)
          (fun w => count_any a ha w) (fun w => count_any b hb w) h7 h8 h9 h10 h11 h12 h13

theorem own : ownKnob Try.prog.godebug = none := by kernel_rfl

set_option maxRecDepth 100000 in
theorem lifted (os : Os) (started : os.Started) (H : Type) (enc : TypeId × Value → H) :
    ReturnsInHanded {} Try.checked os 10 .any (Rows.codepointJoinsSpec.pre6 enc Try.prog Try.f10 Rows.codepointJoinsRow.domain false) (Rows.codepointJoinsSpec.post enc Try.prog Try.f10 false true false false) := by
  refine returnsInHanded_of_change (C := Try.checked) own started (by kernel_rfl) Try.func10
    (ChangeSpec.witness6 (enc := enc) (C := Try.checked) false ⟨#[], #[.string ByteArray.empty, .string ByteArray.empty], []⟩ 8 (by kernel_rfl) (by kernel_rfl) (by kernel_rfl) (by kernel_rfl)) ?_
  intro W base args ds gs before hval0 hW hcnd _
  have hval : ∀ (j : Nat) t v, Try.f10.params[j]? = some t → args[j]? = some v → Value.okWide Try.prog W .any base t v := hval0
  have hW' := hW
  obtain ⟨p, q, hA0, hV, rfl, hfz, hnd⟩ := hW
  have hA : DataW.TrodAll enc Try.prog W 0 (fun _ => true) true Try.f10.params.toList args.toList ds p := hA0
  rw [Try.params10] at hA hval
  obtain ⟨v0, vs0, d0, ds0, p0, q0, hargs, rfl, rfl, h0, r0⟩ := trodAll_cons hA
  obtain ⟨v1, vs1, d1, ds1, p1, q1, rfl, rfl, rfl, h1, r1⟩ := trodAll_cons r0
  obtain ⟨rfl, rfl, rfl⟩ := trodAll_nil r1
  obtain rfl : args = #[v0, v1] := by cases args; simp_all
  obtain ⟨rfl, rfl⟩ := trodVars_none hV
  obtain ⟨a0, rfl, rfl, rfl, w0⟩ := open_string Try.underlying9 (hval 0 9 v0 rfl rfl) h0
  obtain ⟨a1, rfl, rfl, rfl, w1⟩ := open_string Try.underlying9 (hval 1 9 v1 rfl rfl) h1
  clear hA0 hval0
  simp only [List.append_nil] at hW'
  refine (walk a0 a1 w0 w1 W).mono fun e W' ⟨he, bel⟩ => ?_
  subst he
  exact ⟨_, rfl, _, _, _, [], _, [], hW', trodAll_mk1 (shut_bool Try.underlying4 _), (trodAll_cons_mk (shut_string Try.underlying9 w0) (trodAll_cons_mk (shut_string Try.underlying9 w1) trodAll_mk0)), rfl, bel.frame _, fun h => by cases h⟩

theorem over : Rows.codepointJoinsRow.holds Try.pinned (OpenSpec.ofChange Rows.codepointJoinsSpec) :=
  OpenClaim.holds_of_wide 10 Try.f10 rfl rfl rfl rfl rfl rfl rfl ⟨rfl, rfl, rfl, rfl, rfl⟩ rfl rfl rfl rfl rfl (by kernel_rfl) Try.func10 (by kernel_rfl)
    (of_decide_eq_true (by kernel_rfl)) (by unfold Func.isWrapper; first | (rw [if_pos (by decide +kernel)]; kernel_rfl) | (rw [if_neg (by decide +kernel)]; exact ⟨rfl, rfl⟩))
    (fun os started H enc _ => lifted os started H enc)

/-- THE STATEMENT. -/
theorem proved : Rows.CodepointJoinsSaid := over
end Go.Proofs.Ytilgbjakhpgkcaa.codepointJoins
