/-
  TreelabelBack is proved: for every list of numbers the call of the law returns true, and each argument reads afterwards as it read before. It has no condition.
-/
import Derived.Test.YtjialelklnjcfaaRows
import Derived.Test.YtjialelklnjcfaaEoO
import Derived.Test.YtjialelklnjcfaaEbN
import Derived.ProofKit
import Derived.OpenShut
import Derived.Carry
namespace Go.Proofs.Ytjialelklnjcfaa.treelabelBack
open Go.ChangeShapes Go.WideShapes Go.ChangeAt Go.RowKit Go.Shelf Go.Lib
set_option linter.unusedVariables false

set_option maxRecDepth 100000 in
set_option maxHeartbeats 4000000 in
theorem walk {w : World} (v : Value) (h : List Int) (hv : Rows 1 EInt w v h) (hl : h.length ≤ maxLen) (_ : ∀ x ∈ h, -9223372036854775808 ≤ x ∧ x ≤ 9223372036854775807) :
    Calls Try.prog 5 #[v] w fun e w1 => e = .returned (.bool true) ∧ Below w.heap.size w w1 := by
  obtain ⟨A, cap, rfl, hc⟩ := hv.form
  have HAS := Lib.hid (assign_any hv hl)
  have HV := Lib.hid (fun (W : World) (hb : Below w.heap.size w W) => hv.below stays_int hb)
  have HA := Lib.hid (fun (W : World) => awake_any W)
  obtain ⟨n, hn⟩ : ∃ n, h.length = n := ⟨_, rfl⟩
  by_cases hn60 : 60 < n
  · rw [hn] at hl hc HAS HV ⊢
    unfold maxLen at hl
    clear hv hn
    go_enter Try.func5, Try.ntmps5
    go_wp2_with fail
    go_ret
    exact ⟨rfl, Below.refl _ _⟩
  · by_cases hok : (checkH h).2 = 0
    · have hO := okh_check.1 hok
      have hll := labH_len hO
      have hpar := parents_of hO
      unfold assignH at HAS
      rw [if_pos hok] at HAS
      have HP := Lib.hid (fun (W : World) (lv : Value) (hr : Rows 3 ELb W lv (labH h)) => parents_any hr (by rw [hll, hn]; unfold maxLen; omega))
      rw [hpar] at HP
      have HIN := Lib.hid (fun (W : World) (pv : Value) (hr : Rows 1 EInt W pv h) (hb : Below w.heap.size w W) => ints_any hr (HV.out W hb) (by rw [hn]; unfold maxLen; omega) (by rw [hn]; unfold maxLen; omega))
      rw [decide_eq_true rfl] at HIN
      rw [hn] at hl hc HAS HV HIN ⊢
      unfold maxLen at hl
      clear hv hn hok hO hll hpar
      go_enter Try.func5, Try.ntmps5
      go_wp2_with fail
      refine HAS.out.mono ?_
      rintro e w1 ⟨⟨lv, rfl, hlv⟩, hb1⟩
      have HB1 := Lib.hid hb1
      have HLV := Lib.hid hlv
      clear hb1 hlv
      go_wp2_with fail
      refine (HP.out w1 lv HLV.out).mono ?_
      rintro e w2 ⟨⟨pv, rfl, hpv⟩, hb2⟩
      have HB2 := Lib.hid (HB1.out.trans (hb2.mono HB1.out.size))
      have HPV := Lib.hid hpv
      clear hb2 hpv
      go_wp2_with fail
      refine (HIN.out w2 pv HPV.out HB2.out).mono ?_
      rintro e w3 ⟨rfl, hb3⟩
      have HB3 := Lib.hid (HB2.out.trans (hb3.mono HB2.out.size))
      clear hb3
      go_wp2_with fail
      refine (HA.out w3).mono ?_
      rintro e w4 ⟨rfl, hb4⟩
      have HB4 := Lib.hid (HB3.out.trans (hb4.mono HB3.out.size))
      clear hb4
      go_wp2_with fail
      go_ret
      exact ⟨rfl, HB4.out⟩
    · unfold assignH at HAS
      rw [if_neg hok] at HAS
      obtain ⟨⟨c1, c2⟩, hcc⟩ : ∃ r, checkH h = r := ⟨_, rfl⟩
      rw [hcc] at HAS hok
      simp only at HAS hok
      have hcb : (c2 != 0) = true := by simp [hok]
      have hcn : ¬ c2 = 0 := hok
      rw [hn] at hl hc HAS HV ⊢
      unfold maxLen at hl
      clear hv hn hcc
      go_enter Try.func5, Try.ntmps5
      go_wp2_with fail
      refine HAS.out.mono ?_
      rintro e w1 ⟨⟨lv, rfl, hlv⟩, hb1⟩
      obtain ⟨Al, cl, rfl, hcl⟩ := hlv.form
      rw [show ([] : List Lb).length = 0 from rfl]
      have HB1 := Lib.hid hb1
      clear hb1 hlv hcl
      go_wp2_with fail
      refine (HA.out w1).mono ?_
      rintro e w4 ⟨rfl, hb4⟩
      have HB4 := Lib.hid (HB1.out.trans (hb4.mono HB1.out.size))
      clear hb4
      go_wp2_with fail
      go_ret
      exact ⟨rfl, HB4.out⟩

theorem own : ownKnob Try.prog.godebug = none := by kernel_rfl

set_option maxRecDepth 100000 in
theorem lifted (os : Os) (started : os.Started) (H : Type) (enc : TypeId × Value → H) :
    ReturnsInHanded {} Try.checked os 5 .any (Rows.treelabelBackSpec.pre6 enc Try.prog Try.f5 Rows.treelabelBackRow.domain false) (Rows.treelabelBackSpec.post enc Try.prog Try.f5 false true false false) := by
  refine returnsInHanded_of_change (C := Try.checked) own started (by kernel_rfl) Try.func5
    (ChangeSpec.witness6 (enc := enc) (C := Try.checked) false ⟨#[], #[.slice none 0 0], []⟩ 8 (by kernel_rfl) (by kernel_rfl) (by kernel_rfl) (by kernel_rfl)) ?_
  intro W base args ds gs before hval0 hW hcnd _
  have hval : ∀ (j : Nat) t v, Try.f5.params[j]? = some t → args[j]? = some v → Value.okWide Try.prog W .any base t v := hval0
  have hW' := hW
  have hplt : ∀ x ∈ before, x.block < W.heap.size := fun x hx => hW.lt x hx
  obtain ⟨p, q, hA0, hV, rfl, hfz, hnd⟩ := hW
  have hA : DataW.TrodAll enc Try.prog W 0 (fun _ => true) true Try.f5.params.toList args.toList ds p := hA0
  rw [Try.params5] at hA hval
  obtain ⟨v0, vs0, d0, ds0, p0, q0, hargs, rfl, rfl, h0, r0⟩ := trodAll_cons hA
  obtain ⟨rfl, rfl, rfl⟩ := trodAll_nil r0
  obtain rfl : args = #[v0] := by cases args; simp_all
  obtain ⟨rfl, rfl⟩ := trodVars_none hV
  obtain ⟨l0, s0, m0, n0⟩ := open_rowI (hval 0 22 v0 rfl rfl) h0
  clear hA0 hval0
  refine (walk v0 l0 s0 m0 n0).mono fun e W' ⟨he, bel⟩ => ?_
  subst he
  exact ⟨_, rfl, _, _, _, [], _, [], hW', trodAll_mk1 (shut_bool Try.underlying4 _), (trodAll_cons_mk (Below.trod Try.laidOut (by kernel_rfl) (of_decide_eq_true (by kernel_rfl)) h0 bel (fun x hx => hplt x (by simp [hx]))) trodAll_mk0), rfl, World.keptBut_mono (fun x hx => ⟨hx, Or.inr (by simpa using hx)⟩) (bel.frame (· ∈ _)), fun h => by cases h⟩

theorem over : Rows.treelabelBackRow.holds Try.pinned (OpenSpec.ofChange Rows.treelabelBackSpec) :=
  OpenClaim.holds_of_wide 5 Try.f5 rfl rfl rfl rfl rfl rfl rfl ⟨rfl, rfl, rfl, rfl, rfl⟩ rfl rfl rfl rfl rfl (by kernel_rfl) Try.func5 (by kernel_rfl)
    (of_decide_eq_true (by kernel_rfl)) (by unfold Func.isWrapper; first | (rw [if_pos (by decide +kernel)]; kernel_rfl) | (rw [if_neg (by decide +kernel)]; exact ⟨rfl, rfl⟩))
    (fun os started H enc _ => lifted os started H enc)

/-- THE STATEMENT. -/
theorem proved : Rows.TreelabelBackSaid := over
end Go.Proofs.Ytjialelklnjcfaa.treelabelBack
