/-
  HuffmanLengths is proved: for every list of numbers and every number the call of the law returns true, and each argument reads afterwards as it read before. It has no condition.
-/
import Derived.Test.YteennnhinfnahaaRows
import Derived.Test.YteennnhinfnahaaHoOq
import Derived.Test.YteennnhinfnahaaTzJ
import Derived.Test.YteennnhinfnahaaHwDq
import Derived.ProofKit
import Derived.OpenShut
import Derived.Carry
namespace Go.Proofs.Yteennnhinfnahaa.huffmanLengths
open Go.ChangeShapes Go.WideShapes Go.ChangeAt Go.RowKit Go.Shelf Go.Lib
set_option linter.unusedVariables false

/-- What both answer. -/
def lenOf (cs : List Int) (lim : Int) : List Int × Int := if chkH cs lim = 0 then (hufLs cs lim.toNat, 0) else ([], chkH cs lim)
theorem len_of {w w' : World} {cs : List Int} {lim : Int} {e : Ending} (h : LenV w cs lim e w') : Below w.heap.size w w' ∧ ∃ v, e = .returned (.tuple #[v, .int .i64 (lenOf cs lim).2]) ∧ Rows 1 EInt w' v (lenOf cs lim).1 := by
  obtain ⟨hb, ⟨hz, rfl⟩ | ⟨hz, v, rfl, hr⟩⟩ := h
  · have e1 : lenOf cs lim = ([], chkH cs lim) := by unfold lenOf; rw [if_neg hz]
    exact ⟨hb, .slice none 0 0, by rw [e1], by rw [e1]; exact Rows.nil _⟩
  · have e1 : lenOf cs lim = (hufLs cs lim.toNat, 0) := by unfold lenOf; rw [if_pos hz]
    exact ⟨hb, v, by rw [e1], by rw [e1]; exact hr⟩
theorem len_le {cs : List Int} {lim : Int} : (lenOf cs lim).1.length ≤ cs.length := by
  unfold lenOf
  split
  · rw [hufLs_len]; exact Nat.le_refl _
  · exact Nat.zero_le _
set_option maxRecDepth 100000 in
set_option maxHeartbeats 8000000 in
theorem walk {w : World} (v : Value) (cs : List Int) (hv : Rows 1 EInt w v cs) (hm : cs.length ≤ maxLen) (_ : ∀ x ∈ cs, -9223372036854775808 ≤ x ∧ x ≤ 9223372036854775807)
    (lim : Int) (hl0 : -9223372036854775808 ≤ lim) (hl1 : lim ≤ 9223372036854775807) :
    Calls Try.prog 3 #[v, .int .i64 lim] w fun e w1 => e = .returned (.bool true) ∧ Below w.heap.size w w1 := by
  have HL1 := Lib.hid (lengths_any hv hm lim hl0 hl1)
  have HL2 := Lib.hid (fun (W : World) (hb : Below w.heap.size w W) => refLengths_any (hv.below stays_int hb) hm lim hl0 hl1)
  have HA := Lib.hid (fun (W : World) => awake_any W)
  obtain ⟨A, cap, rfl, hc⟩ := hv.form
  obtain ⟨n, hn⟩ : ∃ n, cs.length = n := ⟨_, rfl⟩
  have hle := len_le (cs := cs) (lim := lim)
  rw [hn] at HL1 HL2 hm hle ⊢
  have HM := Lib.hid (show (lenOf cs lim).1.length ≤ maxLen from Nat.le_trans hle hm)
  clear hv hc hn hle hm
  go_enter Try.func3, Try.ntmps3
  by_cases hbig : 40 < n
  · have hI : (40 : Int) < (n : Int) := by omega
    go_wp2_with fail
    go_ret
    exact ⟨rfl, Below.refl _ _⟩
  · have hI : ¬ (40 : Int) < (n : Int) := by omega
    clear hbig
    go_wp2_with fail
    refine HL1.out.mono ?_
    rintro e w2 h
    obtain ⟨hb2, v2, rfl, hr2⟩ := len_of h
    obtain ⟨LL, hLL⟩ : ∃ L, (lenOf cs lim).1 = L := ⟨_, rfl⟩
    obtain ⟨er, her⟩ : ∃ z, (lenOf cs lim).2 = z := ⟨_, rfl⟩
    rw [hLL] at hr2 HM
    rw [her]
    have HLL := Lib.hid hLL
    have HER := Lib.hid her
    have HB2 := Lib.hid hb2
    have HD := Lib.hid (HL2.out w2 hb2)
    have HR2 := Lib.hid (fun W (hb : Below w2.heap.size w2 W) => hr2.below stays_int hb)
    obtain ⟨A2, c2, rfl, -⟩ := hr2.form
    obtain ⟨q, hq⟩ : ∃ q, LL.length = q := ⟨_, rfl⟩
    rw [hq] at HR2 ⊢
    have HQ := Lib.hid hq
    clear h hb2 hr2 hLL her hq HL1 HL2
    go_wp2_with fail
    refine HD.out.mono ?_
    rintro e w3 h
    obtain ⟨hb3, v3, rfl, hr3⟩ := len_of h
    rw [HLL.out] at hr3
    rw [HER.out]
    have HR3 := Lib.hid hr3
    obtain ⟨A3, c3, rfl, -⟩ := hr3.form
    rw [HQ.out] at HR3 ⊢
    have HB3 := Lib.hid (HB2.out.trans (hb3.mono HB2.out.size))
    have HSI := Lib.hid (sameInts_any (HR2.out w3 hb3) HR3.out HM.out HM.out)
    have hdec : decide (LL = LL) = true := decide_eq_true rfl
    rw [hdec] at HSI
    have e1 : (er == er) = true := by simp
    clear h hb3 hr3 HD HR2 hdec
    go_wp2_with fail
    refine HSI.out.mono ?_
    rintro e w4 ⟨rfl, hb4⟩
    have HB4 := Lib.hid (HB3.out.trans (hb4.mono HB3.out.size))
    have HA4 := Lib.hid (HA.out w4)
    clear hb4 HSI
    go_wp2_with fail
    refine HA4.out.mono ?_
    rintro e w5 ⟨rfl, hb5⟩
    have HE := Lib.hid (HB4.out.trans (hb5.mono HB4.out.size))
    clear hb5
    go_wp2_with fail
    go_ret
    exact ⟨rfl, HE.out⟩

theorem own : ownKnob Try.prog.godebug = none := by kernel_rfl

set_option maxRecDepth 100000 in
theorem lifted (os : Os) (started : os.Started) (H : Type) (enc : TypeId × Value → H) :
    ReturnsInHanded {} Try.checked os 3 .any (Rows.huffmanLengthsSpec.pre6 enc Try.prog Try.f3 Rows.huffmanLengthsRow.domain false) (Rows.huffmanLengthsSpec.post enc Try.prog Try.f3 false true false false) := by
  refine returnsInHanded_of_change (C := Try.checked) own started (by kernel_rfl) Try.func3
    (ChangeSpec.witness6 (enc := enc) (C := Try.checked) false ⟨#[], #[.slice none 0 0, .int .i64 0], []⟩ 8 (by kernel_rfl) (by kernel_rfl) (by kernel_rfl) (by kernel_rfl)) ?_
  intro W base args ds gs before hval0 hW hcnd _
  have hval : ∀ (j : Nat) t v, Try.f3.params[j]? = some t → args[j]? = some v → Value.okWide Try.prog W .any base t v := hval0
  have hW' := hW
  have hplt : ∀ x ∈ before, x.block < W.heap.size := fun x hx => hW.lt x hx
  obtain ⟨p, q, hA0, hV, rfl, hfz, hnd⟩ := hW
  have hA : DataW.TrodAll enc Try.prog W 0 (fun _ => true) true Try.f3.params.toList args.toList ds p := hA0
  rw [Try.params3] at hA hval
  obtain ⟨v0, vs0, d0, ds0, p0, q0, hargs, rfl, rfl, h0, r0⟩ := trodAll_cons hA
  obtain ⟨v1, vs1, d1, ds1, p1, q1, rfl, rfl, rfl, h1, r1⟩ := trodAll_cons r0
  obtain ⟨rfl, rfl, rfl⟩ := trodAll_nil r1
  obtain rfl : args = #[v0, v1] := by cases args; simp_all
  obtain ⟨rfl, rfl⟩ := trodVars_none hV
  obtain ⟨l0, s0, m0, n0⟩ := open_rowI (hval 0 22 v0 rfl rfl) h0
  obtain ⟨x1, rfl, m1, n1⟩ := open_i64 (hval 1 3 v1 rfl rfl) h1
  clear hA0 hval0
  refine (walk v0 l0 s0 m0 n0 x1 m1 n1).mono fun e W' ⟨he, bel⟩ => ?_
  subst he
  exact ⟨_, rfl, _, _, _, [], _, [], hW', trodAll_mk1 (shut_bool Try.underlying4 _), (trodAll_cons_mk (Below.trod Try.laidOut (by kernel_rfl) (of_decide_eq_true (by kernel_rfl)) h0 bel (fun x hx => hplt x (by simp [hx]))) (trodAll_cons_mk (Below.trod Try.laidOut (by kernel_rfl) (of_decide_eq_true (by kernel_rfl)) h1 bel (fun x hx => hplt x (by simp [hx]))) trodAll_mk0)), rfl, World.keptBut_mono (fun x hx => ⟨hx, Or.inr (by simpa using hx)⟩) (bel.frame (· ∈ _)), fun h => by cases h⟩

theorem over : Rows.huffmanLengthsRow.holds Try.pinned (OpenSpec.ofChange Rows.huffmanLengthsSpec) :=
  OpenClaim.holds_of_wide 3 Try.f3 rfl rfl rfl rfl rfl rfl rfl ⟨rfl, rfl, rfl, rfl, rfl⟩ rfl rfl rfl rfl rfl (by kernel_rfl) Try.func3 (by kernel_rfl)
    (of_decide_eq_true (by kernel_rfl)) (by unfold Func.isWrapper; first | (rw [if_pos (by decide +kernel)]; kernel_rfl) | (rw [if_neg (by decide +kernel)]; exact ⟨rfl, rfl⟩))
    (fun os started H enc _ => lifted os started H enc)

/-- THE STATEMENT. -/
theorem proved : Rows.HuffmanLengthsSaid := over
end Go.Proofs.Yteennnhinfnahaa.huffmanLengths
