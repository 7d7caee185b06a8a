/-
  BitioPuts is proved: for every byte slice and every number the call of the law returns true, and each argument reads afterwards as it read before. It has no condition.
-/
import Derived.Test.YtpkikfdbndaekaaRows
import Derived.Test.YtpkikfdbndaekaaBiH
import Derived.Test.YtpkikfdbndaekaaBiE
import Derived.Test.YtpkikfdbndaekaaBiO
import Derived.ProofKit
import Derived.OpenShut
import Derived.Carry
namespace Go.Proofs.Ytpkikfdbndaekaa.bitioPuts
open Go.ChangeShapes Go.WideShapes Go.ChangeAt Go.RowKit Go.Shelf Go.Lib
set_option linter.unusedVariables false

set_option maxRecDepth 100000 in
set_option maxHeartbeats 1000000 in
theorem walk (v : Value) (L : List UInt8) {w : World} (hs : Sees w w.heap.size v L) (hm : L.length ≤ maxLen) (x : Nat) (hx : x < 18446744073709551616) :
    Calls Try.prog 3 #[v, .int .u64 x] w fun e w1 => e = .returned (.bool true) ∧ Below w.heap.size w w1 := by
  unfold maxLen at hm
  obtain ⟨sp, cap, hv, hcap, _⟩ := hs.form2
  by_cases hL : L.length ≤ 100
  · obtain ⟨i0, hi, hz0, hz1, hz2⟩ := info_parts' Try.infoByte
    have hten := enc_ten x hx
    have hcl := byteCells_length L
    obtain ⟨m, hm'⟩ : ∃ m, L.length = m := ⟨_, rfl⟩
    rw [hm'] at hv hL hcl hcap
    subst hv
    have HS := Lib.hid hs
    have HM := Lib.hid hm'
    have HON := Lib.hid (bytes_one L)
    have HCL := Lib.hid hcl
    clear hs hm hm' hcl
    go_enter Try.func3, Try.ntmps3
    go_wp2_with (at_builtin; refine wpList_append_sees rfl (.const (.slice none 0 0)) (.tmp 9) 22 rfl w.heap.size 5 i0 _ 1 Try.underlying22 hi hz0 hz1 hz2 rfl _ 0 [] rfl (World.ownsRow_nil _ _ _ _) _ _ (byteCells L) rfl HS.out.cells HON.out (by rw [HCL.out]; unfold maxLen; omega) (by rw [HCL.out]; omega) (Nat.le_refl _) ?_)
    intro vw w1 hown hgrow _
    rw [HCL.out] at hown
    have hb1 : Below w.heap.size w w1 := (Below.refl _ w).grown hgrow (Nat.le_refl _) (fun k e => by simp [Value.ownBlock] at e)
    have HO := Lib.hid hown
    have HB1 := Lib.hid hb1
    clear hown hgrow hb1
    go_wp2_with fail
    refine (put_any ((HS.out.below HB1.out).mono HB1.out.size) (by rw [HM.out]; omega) x hx).mono ?_
    rintro e w2 ⟨v2, rfl, hown2, hb2⟩
    have HO2 := Lib.hid hown2
    have HB2 := Lib.hid hb2
    clear hown2 hb2
    go_wp2_with fail
    refine (refUvarint_any x hx _).mono ?_
    rintro e w3 ⟨v3, rfl, hown3, hb3⟩
    have HO3 := Lib.hid hown3
    have HB3 := Lib.hid hb3
    clear hown3 hb3
    obtain ⟨A, capw, rfl, hcw⟩ := own_form HO.out
    have hw3 : w3.ownsRow w.heap.size 5 1 (.slice A m capw) m (byteCells L) := own_below (own_below HO.out (fun k e => HB2.out.block k (own_low HO.out k e).2)) (fun k e => HB3.out.block k (by have := HB2.out.size; have := (own_low HO.out k e).2; omega))
    have hsl := fun W => slice_to A m capw m (Nat.le_refl _) hcw W
    have hs3 := sees_own HO3.out
    have HW3 := Lib.hid hw3
    have HSL := Lib.hid hsl
    have hen : (byteCells (enc x)).length ≤ 10 := by rw [byteCells_length]; exact hten
    have HEN := Lib.hid hen
    have HSZ := Lib.hid (show w.heap.size ≤ w3.heap.size by have := HB1.out.size; have := HB2.out.size; have := HB3.out.size; omega)
    have HS3 := Lib.hid hs3
    clear hw3 hsl hs3 hen
    go_wp2_with (at_builtin; refine wpList_append_sees rfl (.tmp 14) (.tmp 16) 22 rfl w.heap.size 5 i0 _ 1 Try.underlying22 hi hz0 hz1 hz2 rfl _ m _ rfl HW3.out _ _ (byteCells (enc x)) rfl HS3.out.cells (bytes_one _) (by have := HEN.out; unfold maxLen; omega) (by have := HEN.out; omega) HSZ.out ?_)
    intro v4 w4 hown4 hgrow4 hkeep4
    have hlen4 : m + (byteCells (enc x)).length = (L ++ enc x).length := by rw [byteCells_length, List.length_append, HM.out]
    rw [hlen4, ← byteCells_app] at hown4
    have hb3 : Below w.heap.size w w3 := (HB1.out.trans (HB2.out.mono HB1.out.size)).trans (HB3.out.mono (by have := HB1.out.size; have := HB2.out.size; omega))
    have hb4 : Below w.heap.size w w4 := hb3.grown hgrow4 HSZ.out (fun k e => (own_low HW3.out k e).1)
    have s4 := sees_own hown4
    have s2 : Sees w4 w4.heap.size v2 (L ++ enc x) := by
      refine sees_own (base := w1.heap.size) (own_below (own_below HO2.out (fun k e => HB3.out.block k (own_low HO2.out k e).2)) (fun k e => hgrow4.block k ?_ ?_))
      · have := (own_low HO2.out k e).2
        have := HB3.out.size
        omega
      · intro e2
        have h1 := (own_low HO2.out k e).1
        have h2 := (own_low HO.out k e2.symm).2
        omega
    have hsw := hkeep4
    rw [← HM.out] at hsw
    have sw := sees_own hsw
    rw [HM.out] at sw
    have sb := HS.out.below hb4
    have T1 := Lib.hid (same_true s2 s4)
    have T2 := Lib.hid (same_true sb sw)
    have HB4 := Lib.hid hb4
    have HSL4 := slice_to A m capw m (Nat.le_refl _) hcw w4
    clear hown4 hgrow4 hkeep4 hb3 hb4 s4 s2 hsw sw sb hlen4
    go_wp2_with fail
    refine T1.out.mono ?_
    rintro e w5 ⟨rfl, rfl⟩
    go_wp2_with fail
    refine T2.out.mono ?_
    rintro e w5 ⟨rfl, rfl⟩
    clear T1 T2
    go_wp2_with fail
    refine (awake_any _).mono ?_
    rintro e w5 ⟨rfl, hb⟩
    have HB5 := Lib.hid hb
    clear hb
    go_wp2
    go_ret
    exact ⟨rfl, HB4.out.trans (HB5.out.mono HB4.out.size)⟩
  · obtain ⟨m, hm'⟩ : ∃ m, L.length = m := ⟨_, rfl⟩
    rw [hm'] at hv hL hm
    subst hv
    have hl2 : (100 : Int) < m := by omega
    clear hm' hs
    go_enter Try.func3, Try.ntmps3
    go_wp2
    go_ret
    exact ⟨rfl, Below.refl _ _⟩

theorem own : ownKnob Try.prog.godebug = none := by kernel_rfl

set_option maxRecDepth 100000 in
theorem lifted (os : Os) (started : os.Started) (H : Type) (enc : TypeId × Value → H) :
    ReturnsInHanded {} Try.checked os 3 .any (Rows.bitioPutsSpec.pre6 enc Try.prog Try.f3 Rows.bitioPutsRow.domain false) (Rows.bitioPutsSpec.post enc Try.prog Try.f3 false true false false) := by
  refine returnsInHanded_of_change (C := Try.checked) own started (by kernel_rfl) Try.func3
    (ChangeSpec.witness6 (enc := enc) (C := Try.checked) false ⟨#[], #[.slice none 0 0, .int .u64 0], []⟩ 8 (by kernel_rfl) (by kernel_rfl) (by kernel_rfl) (by kernel_rfl)) ?_
  intro W base args ds gs before hval0 hW hcnd _
  have hval : ∀ (j : Nat) t v, Try.f3.params[j]? = some t → args[j]? = some v → Value.okWide Try.prog W .any base t v := hval0
  have hW' := hW
  have hplt : ∀ x ∈ before, x.block < W.heap.size := fun x hx => hW.lt x hx
  obtain ⟨p, q, hA0, hV, rfl, hfz, hnd⟩ := hW
  have hA : DataW.TrodAll enc Try.prog W 0 (fun _ => true) true Try.f3.params.toList args.toList ds p := hA0
  rw [Try.params3] at hA hval
  obtain ⟨v0, vs0, d0, ds0, p0, q0, hargs, rfl, rfl, h0, r0⟩ := trodAll_cons hA
  obtain ⟨v1, vs1, d1, ds1, p1, q1, rfl, rfl, rfl, h1, r1⟩ := trodAll_cons r0
  obtain ⟨rfl, rfl, rfl⟩ := trodAll_nil r1
  obtain rfl : args = #[v0, v1] := by cases args; simp_all
  obtain ⟨rfl, rfl⟩ := trodVars_none hV
  obtain ⟨L0, s0, m0⟩ := open_bytes (hval 0 22 v0 rfl rfl) h0
  obtain ⟨x1, rfl, m1⟩ := open_u64 (hval 1 23 v1 rfl rfl) h1
  clear hA0 hval0
  refine (walk v0 L0 s0 m0 x1 m1).mono fun e W' ⟨he, bel⟩ => ?_
  subst he
  exact ⟨_, rfl, _, _, _, [], _, [], hW', trodAll_mk1 (shut_bool Try.underlying4 _), (trodAll_cons_mk (Below.trod Try.laidOut (by kernel_rfl) (of_decide_eq_true (by kernel_rfl)) h0 bel (fun x hx => hplt x (by simp [hx]))) (trodAll_cons_mk (Below.trod Try.laidOut (by kernel_rfl) (of_decide_eq_true (by kernel_rfl)) h1 bel (fun x hx => hplt x (by simp [hx]))) trodAll_mk0)), rfl, World.keptBut_mono (fun x hx => ⟨hx, Or.inr (by simpa using hx)⟩) (bel.frame (· ∈ _)), fun h => by cases h⟩

theorem over : Rows.bitioPutsRow.holds Try.pinned (OpenSpec.ofChange Rows.bitioPutsSpec) :=
  OpenClaim.holds_of_wide 3 Try.f3 rfl rfl rfl rfl rfl rfl rfl ⟨rfl, rfl, rfl, rfl, rfl⟩ rfl rfl rfl rfl rfl (by kernel_rfl) Try.func3 (by kernel_rfl)
    (of_decide_eq_true (by kernel_rfl)) (by unfold Func.isWrapper; first | (rw [if_pos (by decide +kernel)]; kernel_rfl) | (rw [if_neg (by decide +kernel)]; exact ⟨rfl, rfl⟩))
    (fun os started H enc _ => lifted os started H enc)

/-- THE STATEMENT. -/
theorem proved : Rows.BitioPutsSaid := over
end Go.Proofs.Ytpkikfdbndaekaa.bitioPuts
