/-
  BitioBack is proved: for every number and every byte slice the call of the law returns true, and each argument reads afterwards as it read before. It has no condition.
-/
import Derived.Test.YtpkikfdbndaekaaRows
import Derived.Test.YtpkikfdbndaekaaBiF
import Derived.Test.YtpkikfdbndaekaaBiH
import Derived.Test.YtpkikfdbndaekaaBiE
import Derived.Test.YtpkikfdbndaekaaBiO
import Derived.ProofKit
import Derived.OpenShut
import Derived.Carry
namespace Go.Proofs.Ytpkikfdbndaekaa.bitioBack
open Go.ChangeShapes Go.WideShapes Go.ChangeAt Go.RowKit Go.Shelf Go.Lib
set_option linter.unusedVariables false

set_option maxRecDepth 100000 in
set_option maxHeartbeats 1000000 in
theorem walk (x : Nat) (hx : x < 18446744073709551616) (v : Value) (L : List UInt8) {w : World} (hs : Sees w w.heap.size v L) (hm : L.length ≤ maxLen) :
    Calls Try.prog 5 #[.int .u64 x, v] w fun e w1 => e = .returned (.bool true) ∧ Below w.heap.size w w1 := by
  unfold maxLen at hm
  obtain ⟨sp, cap, hv, hcap, _⟩ := hs.form2
  by_cases hL : L.length ≤ 30
  · obtain ⟨i0, hi, hz0, hz1, hz2⟩ := info_parts' Try.infoByte
    have hten := enc_ten x hx
    have hcl := byteCells_length L
    obtain ⟨m, hm'⟩ : ∃ m, L.length = m := ⟨_, rfl⟩
    rw [hm'] at hv hL hcl hcap
    subst hv
    have HS := Lib.hid hs
    have HM := Lib.hid hm'
    have HON := Lib.hid (bytes_one L)
    have HCL := Lib.hid hcl
    have hput := put_any (Sees.nil w w.heap.size) (by simp) x hx
    rw [List.nil_append] at hput
    have hback := tk_back x 0 0 L (by omega) (by simpa using hx) (by omega)
    simp only [Nat.zero_add, Nat.mul_zero, Nat.pow_zero, Nat.mul_one] at hback
    have hshort : ∀ k, k < (enc x).length → tk ((enc x).take k) 0 0 = (0, 0, 10) := fun k hk => tk_short x 0 0 k (by omega) (by simpa using hx) hk
    obtain ⟨E, hE⟩ : ∃ E, enc x = E := ⟨_, rfl⟩
    obtain ⟨n, hn⟩ : ∃ n, E.length = n := ⟨_, rfl⟩
    rw [hE] at hput hback hten hshort
    rw [hn] at hput hback hten hshort
    have hcE := byteCells_length E
    rw [hn] at hcE
    have HPUT := Lib.hid hput
    have HBK := Lib.hid hback
    have HSH := Lib.hid hshort
    have HN := Lib.hid hn
    have HCE := Lib.hid hcE
    have HOE := Lib.hid (bytes_one E)
    clear hs hm hm' hcl hput hback hshort hE hn hcE
    go_enter Try.func5, Try.ntmps5
    go_wp2_with fail
    refine HPUT.out.mono ?_
    rintro e w1 ⟨v1, rfl, hown, hb⟩
    obtain ⟨A, capw, rfl, hcw⟩ := own_form hown
    have HO := Lib.hid hown
    have HB := Lib.hid hb
    have h1s := sees_own (L := E) (by rw [HN.out]; exact hown)
    have HS1 := Lib.hid h1s
    have hsz1 := hb.size
    clear hown hb h1s
    go_wp2_with (at_builtin; refine wpList_append_sees rfl (.const (.slice none 0 0)) (.tmp 19) 22 rfl w1.heap.size 5 i0 _ 1 Try.underlying22 hi hz0 hz1 hz2 rfl _ 0 [] rfl (World.ownsRow_nil _ _ _ _) _ _ (byteCells E) rfl HS1.out.cells HOE.out (by rw [HCE.out]; unfold maxLen; omega) (by rw [HCE.out]; omega) (Nat.le_refl _) ?_)
    intro v2 w2 hown2 hgrow2 _
    rw [HCE.out] at hown2
    have hb2 : Below w1.heap.size w1 w2 := (Below.refl _ w1).grown hgrow2 (Nat.le_refl _) (fun k e => by simp [Value.ownBlock] at e)
    have hsz2 := hb2.size
    have hsb2 := ((HS.out.below HB.out).mono hsz1).below hb2
    have HSB2 := Lib.hid hsb2
    have HO2 := Lib.hid hown2
    have HB2 := Lib.hid hb2
    clear hown2 hgrow2 hb2 hsb2
    go_wp2_with (at_builtin; refine wpList_append_sees rfl (.tmp 20) (.tmp 21) 22 rfl w1.heap.size 5 i0 _ 1 Try.underlying22 hi hz0 hz1 hz2 rfl _ n _ rfl HO2.out _ _ (byteCells L) rfl HSB2.out.cells HON.out (by rw [HCL.out]; unfold maxLen; omega) (by rw [HCL.out]; omega) hsz2 ?_)
    intro v3 w3 hown3 hgrow3 _
    rw [HCL.out] at hown3
    have hb3 : Below w1.heap.size w1 w3 := HB2.out.grown hgrow3 hsz2 (fun k e => (own_low HO2.out k e).1)
    have hsz3 := hb3.size
    have h3s := sees_own (L := E ++ L) (by rw [byteCells_app, List.length_append, HN.out, HM.out]; exact hown3)
    have hu := uvarint_any h3s (by rw [List.length_append, HN.out, HM.out]; omega)
    rw [HBK.out] at hu
    have h1s := (HS1.out.below hb3)
    have HS13 := Lib.hid h1s
    have HU := Lib.hid hu
    have HB3 := Lib.hid (HB.out.trans (hb3.mono hsz1))
    have hfit := fun k (hk : k ≤ n) => uvarint_any (HS13.out.to.2.2 k hk) (by rw [List.length_take]; omega)
    have HFIT := Lib.hid hfit
    clear hown3 hgrow3 hb3 h3s hu h1s hfit
    go_wp2_with fail
    refine HU.out.mono ?_
    rintro e w4 ⟨rfl, rfl⟩
    unfold tkV
    go_wp2_with fail
    go_loop [9] (fun v9 => ∃ k : Nat, k ≤ n ∧ v9 = .int .i64 k) (fun v9 => n - (intOf v9).toNat)
    case atStart => exact ⟨0, Nat.zero_le _, rfl⟩
    case round =>
      obtain ⟨k, hk, rfl⟩ := hrel
      by_cases hlt : k < n
      · have hf := HFIT.out k hk
        rw [HSH.out k hlt] at hf
        have HF := Lib.hid hf
        have hsl := slice_to A n capw k hk hcw w3
        clear hf
        go_wp2_with fail
        refine HF.out.mono ?_
        rintro e w4 ⟨rfl, rfl⟩
        unfold tkV
        clear hsl
        go_wp2_with fail
        go_round
        case rel => exact ⟨k + 1, by omega, by go_num⟩
        case measure => simp [intOf]; omega
      · go_wp2_with fail
        refine (awake_any _).mono ?_
        rintro e w5 ⟨rfl, hb⟩
        have HB5 := Lib.hid hb
        clear hb
        go_wp2
        go_ret
        exact ⟨rfl, HB3.out.trans (HB5.out.mono HB3.out.size)⟩
  · obtain ⟨m, hm'⟩ : ∃ m, L.length = m := ⟨_, rfl⟩
    rw [hm'] at hv hL hm
    subst hv
    have hl2 : (30 : Int) < m := by omega
    clear hm' hs
    go_enter Try.func5, Try.ntmps5
    go_wp2
    go_ret
    exact ⟨rfl, Below.refl _ _⟩

theorem own : ownKnob Try.prog.godebug = none := by kernel_rfl

set_option maxRecDepth 100000 in
theorem lifted (os : Os) (started : os.Started) (H : Type) (enc : TypeId × Value → H) :
    ReturnsInHanded {} Try.checked os 5 .any (Rows.bitioBackSpec.pre6 enc Try.prog Try.f5 Rows.bitioBackRow.domain false) (Rows.bitioBackSpec.post enc Try.prog Try.f5 false true false false) := by
  refine returnsInHanded_of_change (C := Try.checked) own started (by kernel_rfl) Try.func5
    (ChangeSpec.witness6 (enc := enc) (C := Try.checked) false ⟨#[], #[.int .u64 0, .slice none 0 0], []⟩ 8 (by kernel_rfl) (by kernel_rfl) (by kernel_rfl) (by kernel_rfl)) ?_
  intro W base args ds gs before hval0 hW hcnd _
  have hval : ∀ (j : Nat) t v, Try.f5.params[j]? = some t → args[j]? = some v → Value.okWide Try.prog W .any base t v := hval0
  have hW' := hW
  have hplt : ∀ x ∈ before, x.block < W.heap.size := fun x hx => hW.lt x hx
  obtain ⟨p, q, hA0, hV, rfl, hfz, hnd⟩ := hW
  have hA : DataW.TrodAll enc Try.prog W 0 (fun _ => true) true Try.f5.params.toList args.toList ds p := hA0
  rw [Try.params5] at hA hval
  obtain ⟨v0, vs0, d0, ds0, p0, q0, hargs, rfl, rfl, h0, r0⟩ := trodAll_cons hA
  obtain ⟨v1, vs1, d1, ds1, p1, q1, rfl, rfl, rfl, h1, r1⟩ := trodAll_cons r0
  obtain ⟨rfl, rfl, rfl⟩ := trodAll_nil r1
  obtain rfl : args = #[v0, v1] := by cases args; simp_all
  obtain ⟨rfl, rfl⟩ := trodVars_none hV
  obtain ⟨x0, rfl, m0⟩ := open_u64 (hval 0 23 v0 rfl rfl) h0
  obtain ⟨L1, s1, m1⟩ := open_bytes (hval 1 22 v1 rfl rfl) h1
  clear hA0 hval0
  refine (walk x0 m0 v1 L1 s1 m1).mono fun e W' ⟨he, bel⟩ => ?_
  subst he
  exact ⟨_, rfl, _, _, _, [], _, [], hW', trodAll_mk1 (shut_bool Try.underlying4 _), (trodAll_cons_mk (Below.trod Try.laidOut (by kernel_rfl) (of_decide_eq_true (by kernel_rfl)) h0 bel (fun x hx => hplt x (by simp [hx]))) (trodAll_cons_mk (Below.trod Try.laidOut (by kernel_rfl) (of_decide_eq_true (by kernel_rfl)) h1 bel (fun x hx => hplt x (by simp [hx]))) trodAll_mk0)), rfl, World.keptBut_mono (fun x hx => ⟨hx, Or.inr (by simpa using hx)⟩) (bel.frame (· ∈ _)), fun h => by cases h⟩

theorem over : Rows.bitioBackRow.holds Try.pinned (OpenSpec.ofChange Rows.bitioBackSpec) :=
  OpenClaim.holds_of_wide 5 Try.f5 rfl rfl rfl rfl rfl rfl rfl ⟨rfl, rfl, rfl, rfl, rfl⟩ rfl rfl rfl rfl rfl (by kernel_rfl) Try.func5 (by kernel_rfl)
    (of_decide_eq_true (by kernel_rfl)) (by unfold Func.isWrapper; first | (rw [if_pos (by decide +kernel)]; kernel_rfl) | (rw [if_neg (by decide +kernel)]; exact ⟨rfl, rfl⟩))
    (fun os started H enc _ => lifted os started H enc)

/-- THE STATEMENT. -/
theorem proved : Rows.BitioBackSaid := over
end Go.Proofs.Ytpkikfdbndaekaa.bitioBack
