/-
  BlockUnpacks is proved: for every byte slice the call of the law returns true, and each argument reads afterwards as it read before. It has no condition.
-/
import Derived.Test.YtbfnkmibbieijaaRows
import Derived.Test.YtbfnkmibbieijaaBiO
import Derived.Test.YtbfnkmibbieijaaBkX
import Derived.ProofKit
import Derived.OpenShut
import Derived.Carry
namespace Go.Proofs.Ytbfnkmibbieijaa.blockUnpacks
open Go.ChangeShapes Go.WideShapes Go.ChangeAt Go.RowKit Go.Shelf Go.Lib
set_option linter.unusedVariables false

set_option maxRecDepth 100000 in
set_option maxHeartbeats 8000000 in
theorem walk {w : World} (v : Value) (L : List UInt8) (hs : Sees w w.heap.size v L) (hm : L.length ≤ maxLen) :
    Calls Try.prog 7 #[v] w fun e w1 => e = .returned (.bool true) ∧ Below w.heap.size w w1 := by
  have HA := Lib.hid (fun (W : World) => awake_any W)
  obtain ⟨A, cap, rfl, -⟩ := hs.form2
  obtain ⟨n, hn⟩ : ∃ n, L.length = n := ⟨_, rfl⟩
  have HS := Lib.hid (fun W (hb : Below w.heap.size w W) => (hs.below hb).mono hb.size)
  by_cases hbig : 300 < n
  · have hI : (300 : Int) < (n : Int) := by omega
    rw [hn]
    clear hs hm hn
    go_enter Try.func7, Try.ntmps7
    go_wp2_with fail
    go_ret
    exact ⟨rfl, Below.refl _ _⟩
  · have hI : ¬ (300 : Int) < (n : Int) := by omega
    have HC := Lib.hid (unpackB_any hs (by omega))
    have HD := Lib.hid (fun W (hb : Below w.heap.size w W) => refUnpackB_any (HS.out W hb) (by omega))
    rw [unpB_same L] at HC
    obtain ⟨o, ho⟩ : ∃ o, unpB (prs2 L) L = o := ⟨_, rfl⟩
    rw [ho] at HC HD
    rw [hn] at HC HD ⊢
    clear hs hm hn ho hbig HS
    go_enter Try.func7, Try.ntmps7
    go_wp2_with fail
    refine HC.out.mono ?_
    rintro e w2 ⟨hb2, ⟨vs, rfl, hok, v2, rfl, hr2⟩ | ⟨rfl, rfl⟩⟩
    · have HR2 := Lib.hid hr2
      have HB2 := Lib.hid hb2
      have HD2 := Lib.hid (HD.out w2 hb2)
      have HN := Lib.hid (show (castB vs).length ≤ maxLen by rw [castB_len]; have := hok.1; unfold maxLen; omega)
      obtain ⟨A2, cp2, rfl, -⟩ := hr2.form
      clear hb2 hr2 hok HC HD
      go_wp2_with fail
      refine HD2.out.mono ?_
      rintro e w3 ⟨hb3, ⟨vs3, hvs, hok3, v3, rfl, hr3⟩ | ⟨habs, -⟩⟩
      · cases hvs
        have HB3 := Lib.hid (HB2.out.trans (hb3.mono HB2.out.size))
        have HSM := Lib.hid (sameIntsB_any (HR2.out.below stays_int hb3) hr3 HN.out HN.out)
        obtain ⟨A3, cp3, rfl, -⟩ := hr3.form
        clear hb3 hr3 hok3 HD2 HB2 HR2
        go_wp2_with fail
        refine HSM.out.mono ?_
        rintro e w4 ⟨rfl, hb4⟩
        have HB4 := Lib.hid (HB3.out.trans (hb4.mono HB3.out.size))
        clear hb4 HSM HB3
        go_wp2_with fail
        refine (HA.out _).mono ?_
        rintro e w5 ⟨rfl, hb5⟩
        have HB5 := Lib.hid (HB4.out.trans (hb5.mono HB4.out.size))
        clear hb5
        go_wp2_with fail
        go_ret
        exact ⟨rfl, HB5.out⟩
      · cases habs
    · have HB2 := Lib.hid hb2
      have HD2 := Lib.hid (HD.out w2 hb2)
      clear hb2 HC HD
      go_wp2_with fail
      refine HD2.out.mono ?_
      rintro e w3 ⟨hb3, ⟨vs3, habs, -⟩ | ⟨-, rfl⟩⟩
      · cases habs
      · have HB3 := Lib.hid (HB2.out.trans (hb3.mono HB2.out.size))
        clear hb3 HD2
        go_wp2_with fail
        refine (HA.out _).mono ?_
        rintro e w5 ⟨rfl, hb5⟩
        have HB5 := Lib.hid (HB3.out.trans (hb5.mono HB3.out.size))
        clear hb5
        go_wp2_with fail
        go_ret
        exact ⟨rfl, HB5.out⟩

theorem own : ownKnob Try.prog.godebug = none := by kernel_rfl

set_option maxRecDepth 100000 in
theorem lifted (os : Os) (started : os.Started) (H : Type) (enc : TypeId × Value → H) :
    ReturnsInHanded {} Try.checked os 7 .any (Rows.blockUnpacksSpec.pre6 enc Try.prog Try.f7 Rows.blockUnpacksRow.domain false) (Rows.blockUnpacksSpec.post enc Try.prog Try.f7 false true false false) := by
  refine returnsInHanded_of_change (C := Try.checked) own started (by kernel_rfl) Try.func7
    (ChangeSpec.witness6 (enc := enc) (C := Try.checked) false ⟨#[], #[.slice none 0 0], []⟩ 8 (by kernel_rfl) (by kernel_rfl) (by kernel_rfl) (by kernel_rfl)) ?_
  intro W base args ds gs before hval0 hW hcnd _
  have hval : ∀ (j : Nat) t v, Try.f7.params[j]? = some t → args[j]? = some v → Value.okWide Try.prog W .any base t v := hval0
  have hW' := hW
  have hplt : ∀ x ∈ before, x.block < W.heap.size := fun x hx => hW.lt x hx
  obtain ⟨p, q, hA0, hV, rfl, hfz, hnd⟩ := hW
  have hA : DataW.TrodAll enc Try.prog W 0 (fun _ => true) true Try.f7.params.toList args.toList ds p := hA0
  rw [Try.params7] at hA hval
  obtain ⟨v0, vs0, d0, ds0, p0, q0, hargs, rfl, rfl, h0, r0⟩ := trodAll_cons hA
  obtain ⟨rfl, rfl, rfl⟩ := trodAll_nil r0
  obtain rfl : args = #[v0] := by cases args; simp_all
  obtain ⟨rfl, rfl⟩ := trodVars_none hV
  obtain ⟨L0, s0, m0⟩ := open_bytes (hval 0 23 v0 rfl rfl) h0
  clear hA0 hval0
  refine (walk v0 L0 s0 m0).mono fun e W' ⟨he, bel⟩ => ?_
  subst he
  exact ⟨_, rfl, _, _, _, [], _, [], hW', trodAll_mk1 (shut_bool Try.underlying4 _), (trodAll_cons_mk (Below.trod Try.laidOut (by kernel_rfl) (of_decide_eq_true (by kernel_rfl)) h0 bel (fun x hx => hplt x (by simp [hx]))) trodAll_mk0), rfl, World.keptBut_mono (fun x hx => ⟨hx, Or.inr (by simpa using hx)⟩) (bel.frame (· ∈ _)), fun h => by cases h⟩

theorem over : Rows.blockUnpacksRow.holds Try.pinned (OpenSpec.ofChange Rows.blockUnpacksSpec) :=
  OpenClaim.holds_of_wide 7 Try.f7 rfl rfl rfl rfl rfl rfl rfl ⟨rfl, rfl, rfl, rfl, rfl⟩ rfl rfl rfl rfl rfl (by kernel_rfl) Try.func7 (by kernel_rfl)
    (of_decide_eq_true (by kernel_rfl)) (by unfold Func.isWrapper; first | (rw [if_pos (by decide +kernel)]; kernel_rfl) | (rw [if_neg (by decide +kernel)]; exact ⟨rfl, rfl⟩))
    (fun os started H enc _ => lifted os started H enc)

/-- THE STATEMENT. -/
theorem proved : Rows.BlockUnpacksSaid := over
end Go.Proofs.Ytbfnkmibbieijaa.blockUnpacks
