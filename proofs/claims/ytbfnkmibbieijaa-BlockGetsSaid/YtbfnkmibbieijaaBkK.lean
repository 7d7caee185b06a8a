/-
  BlockGets is proved: for every byte slice and every number the call of the law returns true, and each argument reads afterwards as it read before. It has no condition.
-/
import Derived.Test.YtbfnkmibbieijaaRows
import Derived.Test.YtbfnkmibbieijaaBiO
import Derived.Test.YtbfnkmibbieijaaBkX
import Derived.ProofKit
import Derived.OpenShut
import Derived.Carry
namespace Go.Proofs.Ytbfnkmibbieijaa.blockGets
open Go.ChangeShapes Go.WideShapes Go.ChangeAt Go.RowKit Go.Shelf Go.Lib
set_option linter.unusedVariables false

set_option maxRecDepth 100000 in
set_option maxHeartbeats 8000000 in
theorem walk {w : World} (v : Value) (L : List UInt8) (hs : Sees w w.heap.size v L) (hm : L.length ≤ maxLen) (i : Int) (h0 : -9223372036854775808 ≤ i) (h1 : i ≤ 9223372036854775807) :
    Calls Try.prog 9 #[v, .int .i64 i] w fun e w1 => e = .returned (.bool true) ∧ Below w.heap.size w w1 := by
  have HA := Lib.hid (fun (W : World) => awake_any W)
  obtain ⟨A, cap, rfl, -⟩ := hs.form2
  obtain ⟨n, hn⟩ : ∃ n, L.length = n := ⟨_, rfl⟩
  have HS := Lib.hid (fun W (hb : Below w.heap.size w W) => (hs.below hb).mono hb.size)
  by_cases hbig : 300 < n
  · have hI : (300 : Int) < (n : Int) := by omega
    rw [hn]
    clear hs hm hn
    go_enter Try.func9, Try.ntmps9
    go_wp2_with fail
    go_ret
    exact ⟨rfl, Below.refl _ _⟩
  · have hI : ¬ (300 : Int) < (n : Int) := by omega
    have HC := Lib.hid (getB_any hs (by omega) i h0 h1)
    have HD := Lib.hid (fun W (hb : Below w.heap.size w W) => refUnpackB_any (HS.out W hb) (by omega))
    rw [unpB_same L] at HC
    obtain ⟨o, ho⟩ : ∃ o, unpB (prs2 L) L = o := ⟨_, rfl⟩
    rw [ho] at HC HD
    rw [hn] at HC HD ⊢
    obtain ⟨t, ht⟩ : ∃ t, getE o i = t := ⟨_, rfl⟩
    rw [ht] at HC
    have HT := Lib.hid ht
    clear hs hm hn ho hbig HS ht
    go_enter Try.func9, Try.ntmps9
    go_wp2_with fail
    refine HC.out.mono ?_
    rintro e w2 ⟨rfl, hb2⟩
    have HB2 := Lib.hid hb2
    have HD2 := Lib.hid (HD.out w2 hb2)
    clear hb2 HC HD
    go_wp2_with fail
    refine HD2.out.mono ?_
    rintro e w3 ⟨hb3, ⟨vs, rfl, hok3, v3, rfl, hr3⟩ | ⟨rfl, rfl⟩⟩
    · have HB3 := Lib.hid (HB2.out.trans (hb3.mono HB2.out.size))
      have HR3 := Lib.hid hr3
      obtain ⟨A3, cp3, rfl, -⟩ := hr3.form
      have hl := castB_len vs
      have hn128 := hok3.1
      obtain ⟨m, hm⟩ : ∃ m, vs.length = m := ⟨_, rfl⟩
      rw [hm] at hl hn128
      rw [hl] at HR3 ⊢
      have HM := Lib.hid hm
      have HLL := Lib.hid hl
      clear hb3 hr3 hok3 HD2 hl hm
      by_cases c1 : i < 0
      · have b1 : decide (i < 0) = true := decide_eq_true c1
        have hE : t = (0, 8) := by rw [← HT.out]; simp only [getE]; rw [if_pos (.inl c1)]
        subst hE
        go_wp2_with fail
        refine (HA.out _).mono ?_
        rintro e w5 ⟨rfl, hb5⟩
        have HB5 := Lib.hid (HB3.out.trans (hb5.mono HB3.out.size))
        clear hb5
        go_wp2_with fail
        go_ret
        exact ⟨rfl, HB5.out⟩
      · have b1 : decide (i < 0) = false := decide_eq_false c1
        by_cases c2 : (m : Int) ≤ i
        · have b2 : decide (i ≥ (m : Int)) = true := decide_eq_true c2
          have hE : t = (0, 8) := by rw [← HT.out]; simp only [getE]; rw [if_pos (.inr (by rw [HM.out]; exact c2))]
          subst hE
          go_wp2_with fail
          refine (HA.out _).mono ?_
          rintro e w5 ⟨rfl, hb5⟩
          have HB5 := Lib.hid (HB3.out.trans (hb5.mono HB3.out.size))
          clear hb5
          go_wp2_with fail
          go_ret
          exact ⟨rfl, HB5.out⟩
        · have b2 : decide (i ≥ (m : Int)) = false := decide_eq_false c2
          obtain ⟨k, rfl⟩ : ∃ k : Nat, i = k := ⟨i.toNat, by omega⟩
          have hkn : k < m := by omega
          have hknI : (k : Int) < (m : Int) := by omega
          obtain ⟨x, hx⟩ : ∃ x, vs[k]? = some x := ⟨_, List.getElem?_eq_getElem (by rw [HM.out]; exact hkn)⟩
          have hE : t = ((x : Int), 0) := by
            rw [← HT.out]
            simp only [getE]
            rw [if_neg (by rw [HM.out]; omega), Int.toNat_natCast, List.getD_eq_getElem?_getD, hx]
            rfl
          subst hE
          obtain ⟨bb, o, rfl, -, hj⟩ := at_int HR3.out (by rw [HLL.out]; omega)
          have u0 := hj k (x : Int) (castB_at hx)
          have hxx : ((x : Int) == (x : Int)) = true := beq_self_eq_true _
          clear hj hx
          go_wp2_with fail
          refine (HA.out _).mono ?_
          rintro e w5 ⟨rfl, hb5⟩
          have HB5 := Lib.hid (HB3.out.trans (hb5.mono HB3.out.size))
          clear hb5
          go_wp2_with fail
          go_ret
          exact ⟨rfl, HB5.out⟩
    · have HB3 := Lib.hid (HB2.out.trans (hb3.mono HB2.out.size))
      have hE : t = (0, 9) := by rw [← HT.out]; rfl
      subst hE
      clear hb3 HD2
      go_wp2_with fail
      refine (HA.out _).mono ?_
      rintro e w5 ⟨rfl, hb5⟩
      have HB5 := Lib.hid (HB3.out.trans (hb5.mono HB3.out.size))
      clear hb5
      go_wp2_with fail
      go_ret
      exact ⟨rfl, HB5.out⟩

theorem own : ownKnob Try.prog.godebug = none := by kernel_rfl

set_option maxRecDepth 100000 in
theorem lifted (os : Os) (started : os.Started) (H : Type) (enc : TypeId × Value → H) :
    ReturnsInHanded {} Try.checked os 9 .any (Rows.blockGetsSpec.pre6 enc Try.prog Try.f9 Rows.blockGetsRow.domain false) (Rows.blockGetsSpec.post enc Try.prog Try.f9 false true false false) := by
  refine returnsInHanded_of_change (C := Try.checked) own started (by kernel_rfl) Try.func9
    (ChangeSpec.witness6 (enc := enc) (C := Try.checked) false ⟨#[], #[.slice none 0 0, .int .i64 0], []⟩ 8 (by kernel_rfl) (by kernel_rfl) (by kernel_rfl) (by kernel_rfl)) ?_
  intro W base args ds gs before hval0 hW hcnd _
  have hval : ∀ (j : Nat) t v, Try.f9.params[j]? = some t → args[j]? = some v → Value.okWide Try.prog W .any base t v := hval0
  have hW' := hW
  have hplt : ∀ x ∈ before, x.block < W.heap.size := fun x hx => hW.lt x hx
  obtain ⟨p, q, hA0, hV, rfl, hfz, hnd⟩ := hW
  have hA : DataW.TrodAll enc Try.prog W 0 (fun _ => true) true Try.f9.params.toList args.toList ds p := hA0
  rw [Try.params9] at hA hval
  obtain ⟨v0, vs0, d0, ds0, p0, q0, hargs, rfl, rfl, h0, r0⟩ := trodAll_cons hA
  obtain ⟨v1, vs1, d1, ds1, p1, q1, rfl, rfl, rfl, h1, r1⟩ := trodAll_cons r0
  obtain ⟨rfl, rfl, rfl⟩ := trodAll_nil r1
  obtain rfl : args = #[v0, v1] := by cases args; simp_all
  obtain ⟨rfl, rfl⟩ := trodVars_none hV
  obtain ⟨L0, s0, m0⟩ := open_bytes (hval 0 23 v0 rfl rfl) h0
  obtain ⟨x1, rfl, m1, n1⟩ := open_i64 (hval 1 3 v1 rfl rfl) h1
  clear hA0 hval0
  refine (walk v0 L0 s0 m0 x1 m1 n1).mono fun e W' ⟨he, bel⟩ => ?_
  subst he
  exact ⟨_, rfl, _, _, _, [], _, [], hW', trodAll_mk1 (shut_bool Try.underlying4 _), (trodAll_cons_mk (Below.trod Try.laidOut (by kernel_rfl) (of_decide_eq_true (by kernel_rfl)) h0 bel (fun x hx => hplt x (by simp [hx]))) (trodAll_cons_mk (Below.trod Try.laidOut (by kernel_rfl) (of_decide_eq_true (by kernel_rfl)) h1 bel (fun x hx => hplt x (by simp [hx]))) trodAll_mk0)), rfl, World.keptBut_mono (fun x hx => ⟨hx, Or.inr (by simpa using hx)⟩) (bel.frame (· ∈ _)), fun h => by cases h⟩

theorem over : Rows.blockGetsRow.holds Try.pinned (OpenSpec.ofChange Rows.blockGetsSpec) :=
  OpenClaim.holds_of_wide 9 Try.f9 rfl rfl rfl rfl rfl rfl rfl ⟨rfl, rfl, rfl, rfl, rfl⟩ rfl rfl rfl rfl rfl (by kernel_rfl) Try.func9 (by kernel_rfl)
    (of_decide_eq_true (by kernel_rfl)) (by unfold Func.isWrapper; first | (rw [if_pos (by decide +kernel)]; kernel_rfl) | (rw [if_neg (by decide +kernel)]; exact ⟨rfl, rfl⟩))
    (fun os started H enc _ => lifted os started H enc)

/-- THE STATEMENT. -/
theorem proved : Rows.BlockGetsSaid := over
end Go.Proofs.Ytbfnkmibbieijaa.blockGets
