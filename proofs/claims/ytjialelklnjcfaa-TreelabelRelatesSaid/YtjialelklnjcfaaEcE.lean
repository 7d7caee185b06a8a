/-
  TreelabelRelates is proved: for every list of labels and every number and every number the call of the law returns true, and each argument reads afterwards as it read before. It has no condition.
-/
import Derived.Test.YtjialelklnjcfaaRows
import Derived.Test.YtjialelklnjcfaaEoO
import Derived.Test.YtjialelklnjcfaaEbN
import Derived.Test.YtjialelklnjcfaaEdD
import Derived.Test.YtjialelklnjcfaaEdF
import Derived.ProofKit
import Derived.OpenShut
import Derived.Carry
namespace Go.Proofs.Ytjialelklnjcfaa.treelabelRelates
open Go.ChangeShapes Go.WideShapes Go.ChangeAt Go.RowKit Go.Shelf Go.Lib
set_option linter.unusedVariables false

set_option maxRecDepth 100000 in
set_option maxHeartbeats 4000000 in
theorem walk {w : World} (v : Value) (L : List Lb) (hv : Rows 3 ELb w v L) (hl : L.length ≤ maxLen) (_ : ∀ x ∈ L, okLb x) (i : Int) (_ : -9223372036854775808 ≤ i) (_ : i ≤ 9223372036854775807) (j : Int) (_ : -9223372036854775808 ≤ j) (_ : j ≤ 9223372036854775807) :
    Calls Try.prog 8 #[v, .int .i64 i, .int .i64 j] w fun e w1 => e = .returned (.bool true) ∧ Below w.heap.size w w1 := by
  obtain ⟨A, cap, rfl, hc⟩ := hv.form
  obtain ⟨n, hn⟩ : ∃ n, L.length = n := ⟨_, rfl⟩
  by_cases hn25 : 25 < n
  · rw [hn] at hl hc ⊢
    unfold maxLen at hl
    clear hv hn
    go_enter Try.func8, Try.ntmps8
    go_wp2_with fail
    go_ret
    exact ⟨rfl, Below.refl _ _⟩
  · have HO := Lib.hid (own_any hv (by rw [hn]; omega))
    have HS := Lib.hid (fun (W : World) (hb : Below w.heap.size w W) => sisters_any (hv.below stays_lb hb) hl i j)
    have HC := Lib.hid (fun (W : World) (hb : Below w.heap.size w W) => common_any (hv.below stays_lb hb) hl i j)
    have HRS := Lib.hid (fun (W : World) (u : Value) (hr : Rows 3 ELb W u L) => refSisters_any hr hl i j)
    have HRC := Lib.hid (fun (W : World) (u : Value) (hr : Rows 3 ELb W u L) => refCommon_any hr hl i j)
    have HA := Lib.hid (fun (W : World) => awake_any W)
    obtain ⟨s, hs⟩ : ∃ s, sistersL L i j = s := ⟨_, rfl⟩
    obtain ⟨c, hcm⟩ : ∃ s, commonL L i j = s := ⟨_, rfl⟩
    rw [hs] at HS HRS
    rw [hcm] at HC HRC
    rw [hn] at hl hc HO HS HC ⊢
    unfold maxLen at hl
    have hss : (s == s) = true := by simp
    have hcc : (c == c) = true := by simp
    clear hv hn hs hcm
    go_enter Try.func8, Try.ntmps8
    go_wp2_with fail
    refine HO.out.mono ?_
    rintro e w1 ⟨⟨ov, rfl, hov⟩, hb1⟩
    have HB1 := Lib.hid hb1
    have HOV := Lib.hid (fun W (hb : Below w1.heap.size w1 W) => hov.below stays_lb hb)
    clear hb1 hov
    go_wp2_with fail
    refine (HS.out w1 HB1.out).mono ?_
    rintro e w2 ⟨rfl, hb2⟩
    have HB2 := Lib.hid hb2
    have HB2' := Lib.hid (HB1.out.trans (hb2.mono HB1.out.size))
    clear hb2
    go_wp2_with fail
    refine (HRS.out w2 ov (HOV.out w2 HB2.out)).mono ?_
    rintro e w3 ⟨rfl, hb3⟩
    have HB3 := Lib.hid (HB2.out.trans (hb3.mono HB2.out.size))
    have HB3' := Lib.hid (HB2'.out.trans (hb3.mono HB2'.out.size))
    clear hb3
    go_wp2_with fail
    refine (HC.out w3 HB3'.out).mono ?_
    rintro e w4 ⟨rfl, hb4⟩
    have HB4 := Lib.hid (HB3.out.trans (hb4.mono HB3.out.size))
    have HB4' := Lib.hid (HB3'.out.trans (hb4.mono HB3'.out.size))
    clear hb4
    go_wp2_with fail
    refine (HRC.out w4 ov (HOV.out w4 HB4.out)).mono ?_
    rintro e w5 ⟨rfl, hb5⟩
    have HB5 := Lib.hid (HB4'.out.trans (hb5.mono HB4'.out.size))
    clear hb5
    go_wp2_with fail
    refine (HA.out w5).mono ?_
    rintro e w6 ⟨rfl, hb6⟩
    have HB6 := Lib.hid (HB5.out.trans (hb6.mono HB5.out.size))
    clear hb6
    go_wp2_with fail
    go_ret
    exact ⟨rfl, HB6.out⟩

theorem own : ownKnob Try.prog.godebug = none := by kernel_rfl

set_option maxRecDepth 100000 in
theorem lifted (os : Os) (started : os.Started) (H : Type) (enc : TypeId × Value → H) :
    ReturnsInHanded {} Try.checked os 8 .any (Rows.treelabelRelatesSpec.pre6 enc Try.prog Try.f8 Rows.treelabelRelatesRow.domain false) (Rows.treelabelRelatesSpec.post enc Try.prog Try.f8 false true false false) := by
  refine returnsInHanded_of_change (C := Try.checked) own started (by kernel_rfl) Try.func8
    (ChangeSpec.witness6 (enc := enc) (C := Try.checked) false ⟨#[], #[.slice none 0 0, .int .i64 0, .int .i64 0], []⟩ 8 (by kernel_rfl) (by kernel_rfl) (by kernel_rfl) (by kernel_rfl)) ?_
  intro W base args ds gs before hval0 hW hcnd _
  have hval : ∀ (j : Nat) t v, Try.f8.params[j]? = some t → args[j]? = some v → Value.okWide Try.prog W .any base t v := hval0
  have hW' := hW
  have hplt : ∀ x ∈ before, x.block < W.heap.size := fun x hx => hW.lt x hx
  obtain ⟨p, q, hA0, hV, rfl, hfz, hnd⟩ := hW
  have hA : DataW.TrodAll enc Try.prog W 0 (fun _ => true) true Try.f8.params.toList args.toList ds p := hA0
  rw [Try.params8] at hA hval
  obtain ⟨v0, vs0, d0, ds0, p0, q0, hargs, rfl, rfl, h0, r0⟩ := trodAll_cons hA
  obtain ⟨v1, vs1, d1, ds1, p1, q1, rfl, rfl, rfl, h1, r1⟩ := trodAll_cons r0
  obtain ⟨v2, vs2, d2, ds2, p2, q2, rfl, rfl, rfl, h2, r2⟩ := trodAll_cons r1
  obtain ⟨rfl, rfl, rfl⟩ := trodAll_nil r2
  obtain rfl : args = #[v0, v1, v2] := by cases args; simp_all
  obtain ⟨rfl, rfl⟩ := trodVars_none hV
  obtain ⟨l0, s0, m0, n0⟩ := open_labs (hval 0 23 v0 rfl rfl) h0
  obtain ⟨x1, rfl, m1, n1⟩ := open_i64 (hval 1 3 v1 rfl rfl) h1
  obtain ⟨x2, rfl, m2, n2⟩ := open_i64 (hval 2 3 v2 rfl rfl) h2
  clear hA0 hval0
  refine (walk v0 l0 s0 m0 n0 x1 m1 n1 x2 m2 n2).mono fun e W' ⟨he, bel⟩ => ?_
  subst he
  exact ⟨_, rfl, _, _, _, [], _, [], hW', trodAll_mk1 (shut_bool Try.underlying4 _), (trodAll_cons_mk (Below.trod Try.laidOut (by kernel_rfl) (of_decide_eq_true (by kernel_rfl)) h0 bel (fun x hx => hplt x (by simp [hx]))) (trodAll_cons_mk (Below.trod Try.laidOut (by kernel_rfl) (of_decide_eq_true (by kernel_rfl)) h1 bel (fun x hx => hplt x (by simp [hx]))) (trodAll_cons_mk (Below.trod Try.laidOut (by kernel_rfl) (of_decide_eq_true (by kernel_rfl)) h2 bel (fun x hx => hplt x (by simp [hx]))) trodAll_mk0))), rfl, World.keptBut_mono (fun x hx => ⟨hx, Or.inr (by simpa using hx)⟩) (bel.frame (· ∈ _)), fun h => by cases h⟩

theorem over : Rows.treelabelRelatesRow.holds Try.pinned (OpenSpec.ofChange Rows.treelabelRelatesSpec) :=
  OpenClaim.holds_of_wide 8 Try.f8 rfl rfl rfl rfl rfl rfl rfl ⟨rfl, rfl, rfl, rfl, rfl⟩ rfl rfl rfl rfl rfl (by kernel_rfl) Try.func8 (by kernel_rfl)
    (of_decide_eq_true (by kernel_rfl)) (by unfold Func.isWrapper; first | (rw [if_pos (by decide +kernel)]; kernel_rfl) | (rw [if_neg (by decide +kernel)]; exact ⟨rfl, rfl⟩))
    (fun os started H enc _ => lifted os started H enc)

/-- THE STATEMENT. -/
theorem proved : Rows.TreelabelRelatesSaid := over
end Go.Proofs.Ytjialelklnjcfaa.treelabelRelates
