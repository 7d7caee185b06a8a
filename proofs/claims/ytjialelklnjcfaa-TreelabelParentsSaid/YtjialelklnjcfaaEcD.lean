/-
  TreelabelParents is proved: for every list of labels the call of the law returns true, and each argument reads afterwards as it read before. It has no condition.
-/
import Derived.Test.YtjialelklnjcfaaRows
import Derived.Test.YtjialelklnjcfaaEoO
import Derived.Test.YtjialelklnjcfaaEbN
import Derived.Test.YtjialelklnjcfaaEdD
import Derived.ProofKit
import Derived.OpenShut
import Derived.Carry
namespace Go.Proofs.Ytjialelklnjcfaa.treelabelParents
open Go.ChangeShapes Go.WideShapes Go.ChangeAt Go.RowKit Go.Shelf Go.Lib
set_option linter.unusedVariables false

theorem parL_len (L : List Lb) : (parentsL L).1.length ≤ L.length := by
  unfold parentsL upL
  split
  · simp
  · split <;> simp
set_option maxRecDepth 100000 in
set_option maxHeartbeats 4000000 in
theorem walk {w : World} (v : Value) (L : List Lb) (hv : Rows 3 ELb w v L) (hl : L.length ≤ maxLen) (_ : ∀ x ∈ L, okLb x) :
    Calls Try.prog 4 #[v] w fun e w1 => e = .returned (.bool true) ∧ Below w.heap.size w w1 := by
  obtain ⟨A, cap, rfl, hc⟩ := hv.form
  obtain ⟨n, hn⟩ : ∃ n, L.length = n := ⟨_, rfl⟩
  by_cases hn30 : 30 < n
  · rw [hn] at hl hc ⊢
    unfold maxLen at hl
    clear hv hn
    go_enter Try.func4, Try.ntmps4
    go_wp2_with fail
    go_ret
    exact ⟨rfl, Below.refl _ _⟩
  · have hpl := parL_len L
    have HP := Lib.hid (parents_any hv hl)
    have HO := Lib.hid (fun (W : World) (hb : Below w.heap.size w W) => own_any (hv.below stays_lb hb) (by rw [hn]; omega))
    have HRP := Lib.hid (fun (W : World) (u : Value) (hr : Rows 3 ELb W u L) => refParents_any hr hl)
    have HA := Lib.hid (fun (W : World) => awake_any W)
    obtain ⟨R1, R2, hR⟩ : ∃ a b, parentsL L = (a, b) := ⟨_, _, rfl⟩
    rw [hR] at HP HRP hpl
    simp only at HP HRP hpl
    have hr1 : R1.length ≤ maxLen := by omega
    have HIN := Lib.hid (fun (W : World) (a b : Value) (ha : Rows 1 EInt W a R1) (hb : Rows 1 EInt W b R1) => ints_any ha hb hr1 hr1)
    rw [decide_eq_true rfl] at HIN
    rw [hn] at hl hc HP HO ⊢
    unfold maxLen at hl
    have hee : (R2 == R2) = true := by simp
    clear hv hn hpl hr1 hR
    go_enter Try.func4, Try.ntmps4
    go_wp2_with fail
    refine HP.out.mono ?_
    rintro e w1 ⟨⟨pv, rfl, hpv⟩, hb1⟩
    have HB1 := Lib.hid hb1
    have HPV := Lib.hid (fun W (hb : Below w1.heap.size w1 W) => hpv.below stays_int hb)
    clear hb1 hpv
    go_wp2_with fail
    refine (HO.out w1 HB1.out).mono ?_
    rintro e w2 ⟨⟨ov, rfl, hov⟩, hb2⟩
    have HB2 := Lib.hid hb2
    have HOV := Lib.hid hov
    clear hb2 hov
    go_wp2_with fail
    refine (HRP.out w2 ov HOV.out).mono ?_
    rintro e w3 ⟨⟨qv, rfl, hqv⟩, hb3⟩
    have HB3 := Lib.hid (HB2.out.trans (hb3.mono HB2.out.size))
    have HB4 := Lib.hid (HB1.out.trans (HB3.out.mono HB1.out.size))
    have HQV := Lib.hid hqv
    clear hb3 hqv
    go_wp2_with fail
    refine (HIN.out w3 _ _ (HPV.out w3 HB3.out) HQV.out).mono ?_
    rintro e w4 ⟨rfl, hb5⟩
    have HB5 := Lib.hid (HB4.out.trans (hb5.mono HB4.out.size))
    clear hb5
    go_wp2_with fail
    refine (HA.out w4).mono ?_
    rintro e w5 ⟨rfl, hb6⟩
    have HB6 := Lib.hid (HB5.out.trans (hb6.mono HB5.out.size))
    clear hb6
    go_wp2_with fail
    go_ret
    exact ⟨rfl, HB6.out⟩

theorem own : ownKnob Try.prog.godebug = none := by kernel_rfl

set_option maxRecDepth 100000 in
theorem lifted (os : Os) (started : os.Started) (H : Type) (enc : TypeId × Value → H) :
    ReturnsInHanded {} Try.checked os 4 .any (Rows.treelabelParentsSpec.pre6 enc Try.prog Try.f4 Rows.treelabelParentsRow.domain false) (Rows.treelabelParentsSpec.post enc Try.prog Try.f4 false true false false) := by
  refine returnsInHanded_of_change (C := Try.checked) own started (by kernel_rfl) Try.func4
    (ChangeSpec.witness6 (enc := enc) (C := Try.checked) false ⟨#[], #[.slice none 0 0], []⟩ 8 (by kernel_rfl) (by kernel_rfl) (by kernel_rfl) (by kernel_rfl)) ?_
  intro W base args ds gs before hval0 hW hcnd _
  have hval : ∀ (j : Nat) t v, Try.f4.params[j]? = some t → args[j]? = some v → Value.okWide Try.prog W .any base t v := hval0
  have hW' := hW
  have hplt : ∀ x ∈ before, x.block < W.heap.size := fun x hx => hW.lt x hx
  obtain ⟨p, q, hA0, hV, rfl, hfz, hnd⟩ := hW
  have hA : DataW.TrodAll enc Try.prog W 0 (fun _ => true) true Try.f4.params.toList args.toList ds p := hA0
  rw [Try.params4] at hA hval
  obtain ⟨v0, vs0, d0, ds0, p0, q0, hargs, rfl, rfl, h0, r0⟩ := trodAll_cons hA
  obtain ⟨rfl, rfl, rfl⟩ := trodAll_nil r0
  obtain rfl : args = #[v0] := by cases args; simp_all
  obtain ⟨rfl, rfl⟩ := trodVars_none hV
  obtain ⟨l0, s0, m0, n0⟩ := open_labs (hval 0 23 v0 rfl rfl) h0
  clear hA0 hval0
  refine (walk v0 l0 s0 m0 n0).mono fun e W' ⟨he, bel⟩ => ?_
  subst he
  exact ⟨_, rfl, _, _, _, [], _, [], hW', trodAll_mk1 (shut_bool Try.underlying4 _), (trodAll_cons_mk (Below.trod Try.laidOut (by kernel_rfl) (of_decide_eq_true (by kernel_rfl)) h0 bel (fun x hx => hplt x (by simp [hx]))) trodAll_mk0), rfl, World.keptBut_mono (fun x hx => ⟨hx, Or.inr (by simpa using hx)⟩) (bel.frame (· ∈ _)), fun h => by cases h⟩

theorem over : Rows.treelabelParentsRow.holds Try.pinned (OpenSpec.ofChange Rows.treelabelParentsSpec) :=
  OpenClaim.holds_of_wide 4 Try.f4 rfl rfl rfl rfl rfl rfl rfl ⟨rfl, rfl, rfl, rfl, rfl⟩ rfl rfl rfl rfl rfl (by kernel_rfl) Try.func4 (by kernel_rfl)
    (of_decide_eq_true (by kernel_rfl)) (by unfold Func.isWrapper; first | (rw [if_pos (by decide +kernel)]; kernel_rfl) | (rw [if_neg (by decide +kernel)]; exact ⟨rfl, rfl⟩))
    (fun os started H enc _ => lifted os started H enc)

/-- THE STATEMENT. -/
theorem proved : Rows.TreelabelParentsSaid := over
end Go.Proofs.Ytjialelklnjcfaa.treelabelParents
