/-
  BlockLeast is proved: for every list of numbers the call of the law returns true, and each argument reads afterwards as it read before. It has no condition.
-/
import Derived.Test.YtbfnkmibbieijaaRows
import Derived.Test.YtbfnkmibbieijaaHoO
import Derived.Test.YtbfnkmibbieijaaBkS
import Derived.ProofKit
import Derived.OpenShut
import Derived.Carry
namespace Go.Proofs.Ytbfnkmibbieijaa.blockLeast
open Go.ChangeShapes Go.WideShapes Go.ChangeAt Go.RowKit Go.Shelf Go.Lib
set_option linter.unusedVariables false

set_option maxRecDepth 100000 in
set_option maxHeartbeats 8000000 in
theorem walk {w : World} (v : Value) (cs : List Int) (hv : Rows 1 EInt w v cs) (hm : cs.length ≤ maxLen) (_ : ∀ x ∈ cs, -9223372036854775808 ≤ x ∧ x ≤ 9223372036854775807) :
    Calls Try.prog 5 #[v] w fun e w1 => e = .returned (.bool true) ∧ Below w.heap.size w w1 := by
  have HCK := Lib.hid (refCheckB_any hv hm)
  have HA := Lib.hid (fun (W : World) => awake_any W)
  by_cases hz : chkB cs = 0
  · have HW := Lib.hid (widthB_any hv hm)
    rw [if_pos hz] at HW
    have HC := Lib.hid (fun W (hb : Below w.heap.size w W) k (hk : k ≤ 31) => cost_ok (hv.below stays_int hb) hm hz k hk)
    have HP := Lib.hid (fun W (hb : Below w.heap.size w W) => pack_ok (hv.below stays_int hb) hm hz rfl)
    have HMIN := Lib.hid (fun j (hj : j ≤ 31) => bestK_min (natB cs) 31 j hj)
    have hw31 := wid_le (natB cs)
    have hpk : (packB cs).length = cst (natB cs) (wid (natB cs)) := rfl
    have hwid : bestK (natB cs) 31 = wid (natB cs) := rfl
    rw [hwid] at HMIN
    have HCW := Lib.hid (fun W (hb : Below w.heap.size w W) => HC.out W hb _ hw31)
    obtain ⟨P, hP⟩ : ∃ P, packB cs = P := ⟨_, rfl⟩
    rw [hP] at hpk HP
    obtain ⟨d, hd⟩ : ∃ d, wid (natB cs) = d := ⟨_, rfl⟩
    rw [hd] at hw31 HW HMIN HCW hpk
    obtain ⟨c, hc⟩ : ∃ c, cst (natB cs) d = c := ⟨_, rfl⟩
    rw [hc] at hpk HMIN HCW
    rw [hz] at HCK
    clear hv hm hz hP hd hc hwid
    go_enter Try.func5, Try.ntmps5
    go_wp2_with fail
    refine HCK.out.mono ?_
    rintro e w' ⟨rfl, rfl⟩
    go_wp2_with fail
    refine HW.out.mono ?_
    rintro e w1 ⟨rfl, hb1⟩
    have HC1 := Lib.hid (HCW.out w1 hb1)
    have HP1 := Lib.hid (HP.out w1 hb1)
    have HB1 := Lib.hid hb1
    clear hb1
    go_wp2_with fail
    refine HC1.out.mono ?_
    rintro e w' ⟨rfl, rfl⟩
    go_wp2_with fail
    refine HP1.out.mono ?_
    rintro e w2 ⟨v2, rfl, hs2, -, hb2⟩
    obtain ⟨sp, cap, rfl, -⟩ := hs2.form
    have HB2 := Lib.hid (HB1.out.trans (hb2.mono HB1.out.size))
    rw [hpk]
    clear hs2 hb2 HC1 HP1 HB1
    go_wp2_with fail
    go_loopw [8] (fun kv wr => wr = w2 ∧ ∃ k : Nat, k ≤ 32 ∧ kv = .int .i64 k) (fun kv _ => 32 - (Go.RowKit.intOf kv).toNat)
    case atStart => exact ⟨rfl, 0, by omega, rfl⟩
    case round =>
      obtain ⟨rfl, k, hk, rfl⟩ := hrel
      by_cases hlt : k ≤ 31
      · have hki : (k : Int) ≤ 31 := by omega
        obtain ⟨h1, h2⟩ := HMIN.out k hlt
        have HCO := Lib.hid (HC.out wr HB2.out k hlt)
        obtain ⟨m, hm⟩ : ∃ m, cst (natB cs) k = m := ⟨_, rfl⟩
        rw [hm] at h1 h2 HCO
        have b1 : decide ((m : Int) < (c : Int)) = false := decide_eq_false (by omega)
        by_cases hmc : m = c
        · have hkd := h2 hmc
          have b2 : ((m : Int) == (c : Int)) = true := by simp; omega
          have b3 : decide ((k : Int) < (d : Int)) = false := decide_eq_false (by omega)
          clear h2 hm
          go_wp2_with fail
          refine HCO.out.mono ?_
          rintro e w' ⟨rfl, rfl⟩
          go_wp2_with fail
          exact ⟨⟨trivial, k + 1, by omega, by go_num⟩, by simp only [Go.RowKit.intOf]; omega⟩
        · have b2 : ((m : Int) == (c : Int)) = false := by simp; omega
          clear h2 hm
          go_wp2_with fail
          refine HCO.out.mono ?_
          rintro e w' ⟨rfl, rfl⟩
          go_wp2_with fail
          exact ⟨⟨trivial, k + 1, by omega, by go_num⟩, by simp only [Go.RowKit.intOf]; omega⟩
      · obtain rfl : k = 32 := by omega
        go_wp2_with fail
        refine (HA.out _).mono ?_
        rintro e w4 ⟨rfl, hb4⟩
        have HB4 := Lib.hid (HB2.out.trans (hb4.mono HB2.out.size))
        clear hb4
        go_wp2_with fail
        go_ret
        exact ⟨rfl, HB4.out⟩
  · obtain ⟨r, hr⟩ : ∃ r, chkB cs = r := ⟨_, rfl⟩
    rw [hr] at hz HCK
    have hb : (r != 0) = true := by simpa using hz
    clear hv hm hr
    go_enter Try.func5, Try.ntmps5
    go_wp2_with fail
    refine HCK.out.mono ?_
    rintro e w' ⟨rfl, rfl⟩
    go_wp2_with fail
    go_ret
    exact ⟨rfl, Below.refl _ _⟩

theorem own : ownKnob Try.prog.godebug = none := by kernel_rfl

set_option maxRecDepth 100000 in
theorem lifted (os : Os) (started : os.Started) (H : Type) (enc : TypeId × Value → H) :
    ReturnsInHanded {} Try.checked os 5 .any (Rows.blockLeastSpec.pre6 enc Try.prog Try.f5 Rows.blockLeastRow.domain false) (Rows.blockLeastSpec.post enc Try.prog Try.f5 false true false false) := by
  refine returnsInHanded_of_change (C := Try.checked) own started (by kernel_rfl) Try.func5
    (ChangeSpec.witness6 (enc := enc) (C := Try.checked) false ⟨#[], #[.slice none 0 0], []⟩ 8 (by kernel_rfl) (by kernel_rfl) (by kernel_rfl) (by kernel_rfl)) ?_
  intro W base args ds gs before hval0 hW hcnd _
  have hval : ∀ (j : Nat) t v, Try.f5.params[j]? = some t → args[j]? = some v → Value.okWide Try.prog W .any base t v := hval0
  have hW' := hW
  have hplt : ∀ x ∈ before, x.block < W.heap.size := fun x hx => hW.lt x hx
  obtain ⟨p, q, hA0, hV, rfl, hfz, hnd⟩ := hW
  have hA : DataW.TrodAll enc Try.prog W 0 (fun _ => true) true Try.f5.params.toList args.toList ds p := hA0
  rw [Try.params5] at hA hval
  obtain ⟨v0, vs0, d0, ds0, p0, q0, hargs, rfl, rfl, h0, r0⟩ := trodAll_cons hA
  obtain ⟨rfl, rfl, rfl⟩ := trodAll_nil r0
  obtain rfl : args = #[v0] := by cases args; simp_all
  obtain ⟨rfl, rfl⟩ := trodVars_none hV
  obtain ⟨l0, s0, m0, n0⟩ := open_rowI (hval 0 22 v0 rfl rfl) h0
  clear hA0 hval0
  refine (walk v0 l0 s0 m0 n0).mono fun e W' ⟨he, bel⟩ => ?_
  subst he
  exact ⟨_, rfl, _, _, _, [], _, [], hW', trodAll_mk1 (shut_bool Try.underlying4 _), (trodAll_cons_mk (Below.trod Try.laidOut (by kernel_rfl) (of_decide_eq_true (by kernel_rfl)) h0 bel (fun x hx => hplt x (by simp [hx]))) trodAll_mk0), rfl, World.keptBut_mono (fun x hx => ⟨hx, Or.inr (by simpa using hx)⟩) (bel.frame (· ∈ _)), fun h => by cases h⟩

theorem over : Rows.blockLeastRow.holds Try.pinned (OpenSpec.ofChange Rows.blockLeastSpec) :=
  OpenClaim.holds_of_wide 5 Try.f5 rfl rfl rfl rfl rfl rfl rfl ⟨rfl, rfl, rfl, rfl, rfl⟩ rfl rfl rfl rfl rfl (by kernel_rfl) Try.func5 (by kernel_rfl)
    (of_decide_eq_true (by kernel_rfl)) (by unfold Func.isWrapper; first | (rw [if_pos (by decide +kernel)]; kernel_rfl) | (rw [if_neg (by decide +kernel)]; exact ⟨rfl, rfl⟩))
    (fun os started H enc _ => lifted os started H enc)

/-- THE STATEMENT. -/
theorem proved : Rows.BlockLeastSaid := over
end Go.Proofs.Ytbfnkmibbieijaa.blockLeast
