/-
  BitioTakes is proved: for every byte slice the call of the law returns true, and each argument reads afterwards as it read before. It has no condition.
-/
import Derived.Test.YtpkikfdbndaekaaRows
import Derived.Test.YtpkikfdbndaekaaBiG
import Derived.Test.YtpkikfdbndaekaaBiE
import Derived.Test.YtpkikfdbndaekaaBiO
import Derived.ProofKit
import Derived.OpenShut
import Derived.Carry
namespace Go.Proofs.Ytpkikfdbndaekaa.bitioTakes
open Go.ChangeShapes Go.WideShapes Go.ChangeAt Go.RowKit Go.Shelf Go.Lib
set_option linter.unusedVariables false

set_option maxRecDepth 100000 in
set_option maxHeartbeats 1000000 in
theorem walk (v : Value) (L : List UInt8) {w : World} (hs : Sees w w.heap.size v L) (hm : L.length ≤ maxLen) :
    Calls Try.prog 4 #[v] w fun e w1 => e = .returned (.bool true) ∧ Below w.heap.size w w1 := by
  unfold maxLen at hm
  obtain ⟨sp, cap, hv, _, _⟩ := hs.form2
  by_cases hL : L.length ≤ 100
  · have hu := uvarint_any hs (by omega)
    have ht := take_any hs (by omega)
    obtain ⟨r, hr⟩ : ∃ r, tk L 0 0 = r := ⟨_, rfl⟩
    obtain ⟨x, n, e⟩ := r
    rw [hr] at hu ht
    have HU := Lib.hid hu
    have HT := Lib.hid ht
    obtain ⟨m, hm'⟩ : ∃ m, L.length = m := ⟨_, rfl⟩
    rw [hm'] at hv hL
    subst hv
    clear hu ht hr hm' hs hm
    go_enter Try.func4, Try.ntmps4
    go_wp2_with (go_at_call 17; refine HU.out.mono ?_; rintro e' w1 ⟨rfl, rfl⟩; unfold tkV)
    refine HT.out.mono ?_
    rintro e' w1 ⟨rfl, rfl⟩
    unfold tkV
    go_wp2_with fail
    refine (awake_any _).mono ?_
    rintro e' w1 ⟨rfl, hb⟩
    have HB := Lib.hid hb
    clear hb
    go_wp2
    go_ret
    exact ⟨rfl, HB.out⟩
  · obtain ⟨m, hm'⟩ : ∃ m, L.length = m := ⟨_, rfl⟩
    rw [hm'] at hv hL hm
    subst hv
    have hl2 : (100 : Int) < m := by omega
    clear hm' hs
    go_enter Try.func4, Try.ntmps4
    go_wp2
    go_ret
    exact ⟨rfl, Below.refl _ _⟩

theorem own : ownKnob Try.prog.godebug = none := by kernel_rfl

set_option maxRecDepth 100000 in
theorem lifted (os : Os) (started : os.Started) (H : Type) (enc : TypeId × Value → H) :
    ReturnsInHanded {} Try.checked os 4 .any (Rows.bitioTakesSpec.pre6 enc Try.prog Try.f4 Rows.bitioTakesRow.domain false) (Rows.bitioTakesSpec.post enc Try.prog Try.f4 false true false false) := by
  refine returnsInHanded_of_change (C := Try.checked) own started (by kernel_rfl) Try.func4
    (ChangeSpec.witness6 (enc := enc) (C := Try.checked) false ⟨#[], #[.slice none 0 0], []⟩ 8 (by kernel_rfl) (by kernel_rfl) (by kernel_rfl) (by kernel_rfl)) ?_
  intro W base args ds gs before hval0 hW hcnd _
  have hval : ∀ (j : Nat) t v, Try.f4.params[j]? = some t → args[j]? = some v → Value.okWide Try.prog W .any base t v := hval0
  have hW' := hW
  have hplt : ∀ x ∈ before, x.block < W.heap.size := fun x hx => hW.lt x hx
  obtain ⟨p, q, hA0, hV, rfl, hfz, hnd⟩ := hW
  have hA : DataW.TrodAll enc Try.prog W 0 (fun _ => true) true Try.f4.params.toList args.toList ds p := hA0
  rw [Try.params4] at hA hval
  obtain ⟨v0, vs0, d0, ds0, p0, q0, hargs, rfl, rfl, h0, r0⟩ := trodAll_cons hA
  obtain ⟨rfl, rfl, rfl⟩ := trodAll_nil r0
  obtain rfl : args = #[v0] := by cases args; simp_all
  obtain ⟨rfl, rfl⟩ := trodVars_none hV
  obtain ⟨L0, s0, m0⟩ := open_bytes (hval 0 22 v0 rfl rfl) h0
  clear hA0 hval0
  refine (walk v0 L0 s0 m0).mono fun e W' ⟨he, bel⟩ => ?_
  subst he
  exact ⟨_, rfl, _, _, _, [], _, [], hW', trodAll_mk1 (shut_bool Try.underlying4 _), (trodAll_cons_mk (Below.trod Try.laidOut (by kernel_rfl) (of_decide_eq_true (by kernel_rfl)) h0 bel (fun x hx => hplt x (by simp [hx]))) trodAll_mk0), rfl, World.keptBut_mono (fun x hx => ⟨hx, Or.inr (by simpa using hx)⟩) (bel.frame (· ∈ _)), fun h => by cases h⟩

theorem over : Rows.bitioTakesRow.holds Try.pinned (OpenSpec.ofChange Rows.bitioTakesSpec) :=
  OpenClaim.holds_of_wide 4 Try.f4 rfl rfl rfl rfl rfl rfl rfl ⟨rfl, rfl, rfl, rfl, rfl⟩ rfl rfl rfl rfl rfl (by kernel_rfl) Try.func4 (by kernel_rfl)
    (of_decide_eq_true (by kernel_rfl)) (by unfold Func.isWrapper; first | (rw [if_pos (by decide +kernel)]; kernel_rfl) | (rw [if_neg (by decide +kernel)]; exact ⟨rfl, rfl⟩))
    (fun os started H enc _ => lifted os started H enc)

/-- THE STATEMENT. -/
theorem proved : Rows.BitioTakesSaid := over
end Go.Proofs.Ytpkikfdbndaekaa.bitioTakes
