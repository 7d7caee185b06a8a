/-
  StabStabs is proved: for every list of spans and every number the call of the law returns true, and each argument reads afterwards as it read before. It has no condition.
-/
import Derived.Test.YtifdencdbpdbfaaRows
import Derived.Test.YtifdencdbpdbfaaIoO
import Derived.Test.YtifdencdbpdbfaaZaB
import Derived.ProofKit
import Derived.OpenShut
import Derived.Carry
namespace Go.Proofs.Ytifdencdbpdbfaa.stabStabs
open Go.ChangeShapes Go.WideShapes Go.ChangeAt Go.RowKit Go.Shelf Go.Lib
set_option linter.unusedVariables false

set_option maxRecDepth 100000 in
set_option maxHeartbeats 4000000 in
theorem walk {w : World} (v : Value) (l : List Sp) (hv : Rows 2 ESp w v l) (_ : l.length ≤ maxLen) (_ : ∀ x ∈ l, okSp x) (pos : Int) (_ : -9223372036854775808 ≤ pos) (_ : pos ≤ 9223372036854775807) :
    Calls Try.prog 4 #[v, .int .i64 pos] w fun e w1 => e = .returned (.bool true) ∧ Below w.heap.size w w1 := by
  have HBD := Lib.hid (built_any hv)
  have HA := Lib.hid (fun (W : World) => awake_any W)
  have HV := Lib.hid (fun W (h : Below w.heap.size w W) => hv.below stays_sp h)
  have HRS := Lib.hid (fun W (h : Below w.heap.size w W) (hl : l.length ≤ 4096) => refStab_any (hv.below stays_sp h) hl pos)
  have HXL := Lib.hid (idxs_len (stabP pos) l)
  obtain ⟨xs, hxs⟩ : ∃ xs, idxs (stabP pos) l = xs := ⟨_, rfl⟩
  have HST := Lib.hid (fun (W : World) (B : Nat) (h : IdxAt W B l) => stab_any h pos)
  rw [hxs] at HRS HXL HST
  obtain ⟨A, cap, rfl, hc⟩ := hv.form
  obtain ⟨n, hn⟩ : ∃ n, l.length = n := ⟨_, rfl⟩
  unfold BuiltV at HBD
  unfold BoolV at HA
  unfold ListV at HRS HST
  rw [hn] at HBD HRS HXL HV ⊢
  have HN := Lib.hid hn
  clear hv hc hn hxs
  by_cases hl : 100 < n
  · go_enter Try.func4, Try.ntmps4
    go_wp2_with fail
    go_ret
    exact ⟨rfl, Below.refl _ _⟩
  · have HRT := Lib.hid (fun W (h : Below w.heap.size w W) => HRS.out W h (by omega))
    have hxl : xs.length ≤ maxLen := by have := HXL.out; unfold maxLen; omega
    have HX := Lib.hid hxl
    clear HRS hxl
    go_enter Try.func4, Try.ntmps4
    go_wp2_with fail
    refine HBD.out.mono ?_
    rintro e w1 ⟨⟨p, rfl, hp⟩, hb1⟩
    have HB1 := Lib.hid hb1
    clear hb1
    rcases hp with ⟨h0, B, rfl, hI⟩ | ⟨h0, rfl⟩
    · have HS := Lib.hid (HST.out w1 B hI)
      clear hI h0
      go_wp2_with fail
      refine HS.out.mono ?_
      rintro e w2 ⟨⟨u, rfl, hr2⟩, hb2⟩
      have HB2 := Lib.hid (HB1.out.trans (hb2.mono HB1.out.size))
      have HR2 := Lib.hid hr2
      obtain ⟨A2, cap2, rfl, -⟩ := hr2.form
      clear hr2 hb2
      go_wp2_with fail
      refine (HRT.out w2 HB2.out).mono ?_
      rintro e w3 ⟨⟨u3, rfl, hr3⟩, hb3⟩
      have HSM := Lib.hid (sameInts_any (HR2.out.below stays_int hb3) hr3 HX.out HX.out)
      have HB3 := Lib.hid (HB2.out.trans (hb3.mono HB2.out.size))
      obtain ⟨A3, cap3, rfl, -⟩ := hr3.form
      rw [decide_eq_true (rfl : xs = xs)] at HSM
      clear hr3 hb3
      go_wp2_with fail
      refine HSM.out.mono ?_
      rintro e w4 ⟨rfl, hb4⟩
      have HB4 := Lib.hid (HB3.out.trans (hb4.mono HB3.out.size))
      clear hb4
      go_wp2_with fail
      refine (HA.out _).mono ?_
      rintro e w5 ⟨rfl, hb5⟩
      have HB5 := Lib.hid (HB4.out.trans (hb5.mono HB4.out.size))
      clear hb5
      go_wp2_with fail
      go_ret
      exact ⟨rfl, HB5.out⟩
    · clear h0
      go_wp2_with fail
      refine (HA.out _).mono ?_
      rintro e w3 ⟨rfl, hb3⟩
      have HB3 := Lib.hid (HB1.out.trans (hb3.mono HB1.out.size))
      clear hb3
      go_wp2_with fail
      go_ret
      exact ⟨rfl, HB3.out⟩

theorem own : ownKnob Try.prog.godebug = none := by kernel_rfl

set_option maxRecDepth 100000 in
theorem lifted (os : Os) (started : os.Started) (H : Type) (enc : TypeId × Value → H) :
    ReturnsInHanded {} Try.checked os 4 .any (Rows.stabStabsSpec.pre6 enc Try.prog Try.f4 Rows.stabStabsRow.domain false) (Rows.stabStabsSpec.post enc Try.prog Try.f4 false true false false) := by
  refine returnsInHanded_of_change (C := Try.checked) own started (by kernel_rfl) Try.func4
    (ChangeSpec.witness6 (enc := enc) (C := Try.checked) false ⟨#[], #[.slice none 0 0, .int .i64 0], []⟩ 8 (by kernel_rfl) (by kernel_rfl) (by kernel_rfl) (by kernel_rfl)) ?_
  intro W base args ds gs before hval0 hW hcnd _
  have hval : ∀ (j : Nat) t v, Try.f4.params[j]? = some t → args[j]? = some v → Value.okWide Try.prog W .any base t v := hval0
  have hW' := hW
  have hplt : ∀ x ∈ before, x.block < W.heap.size := fun x hx => hW.lt x hx
  obtain ⟨p, q, hA0, hV, rfl, hfz, hnd⟩ := hW
  have hA : DataW.TrodAll enc Try.prog W 0 (fun _ => true) true Try.f4.params.toList args.toList ds p := hA0
  rw [Try.params4] at hA hval
  obtain ⟨v0, vs0, d0, ds0, p0, q0, hargs, rfl, rfl, h0, r0⟩ := trodAll_cons hA
  obtain ⟨v1, vs1, d1, ds1, p1, q1, rfl, rfl, rfl, h1, r1⟩ := trodAll_cons r0
  obtain ⟨rfl, rfl, rfl⟩ := trodAll_nil r1
  obtain rfl : args = #[v0, v1] := by cases args; simp_all
  obtain ⟨rfl, rfl⟩ := trodVars_none hV
  obtain ⟨l0, s0, m0, n0⟩ := open_sps (hval 0 22 v0 rfl rfl) h0
  obtain ⟨x1, rfl, m1, n1⟩ := open_i64 (hval 1 3 v1 rfl rfl) h1
  clear hA0 hval0
  refine (walk v0 l0 s0 m0 n0 x1 m1 n1).mono fun e W' ⟨he, bel⟩ => ?_
  subst he
  exact ⟨_, rfl, _, _, _, [], _, [], hW', trodAll_mk1 (shut_bool Try.underlying4 _), (trodAll_cons_mk (Below.trod Try.laidOut (by kernel_rfl) (of_decide_eq_true (by kernel_rfl)) h0 bel (fun x hx => hplt x (by simp [hx]))) (trodAll_cons_mk (Below.trod Try.laidOut (by kernel_rfl) (of_decide_eq_true (by kernel_rfl)) h1 bel (fun x hx => hplt x (by simp [hx]))) trodAll_mk0)), rfl, World.keptBut_mono (fun x hx => ⟨hx, Or.inr (by simpa using hx)⟩) (bel.frame (· ∈ _)), fun h => by cases h⟩

theorem over : Rows.stabStabsRow.holds Try.pinned (OpenSpec.ofChange Rows.stabStabsSpec) :=
  OpenClaim.holds_of_wide 4 Try.f4 rfl rfl rfl rfl rfl rfl rfl ⟨rfl, rfl, rfl, rfl, rfl⟩ rfl rfl rfl rfl rfl (by kernel_rfl) Try.func4 (by kernel_rfl)
    (of_decide_eq_true (by kernel_rfl)) (by unfold Func.isWrapper; first | (rw [if_pos (by decide +kernel)]; kernel_rfl) | (rw [if_neg (by decide +kernel)]; exact ⟨rfl, rfl⟩))
    (fun os started H enc _ => lifted os started H enc)

/-- THE STATEMENT. -/
theorem proved : Rows.StabStabsSaid := over
end Go.Proofs.Ytifdencdbpdbfaa.stabStabs
