/-
  BitioSizes is proved: for every number the call of the law returns true, and each argument reads afterwards as it read before. It has no condition.
-/
import Derived.Test.YtpkikfdbndaekaaRows
import Derived.Test.YtpkikfdbndaekaaBiI
import Derived.Test.YtpkikfdbndaekaaBiO
import Derived.ProofKit
import Derived.OpenShut
import Derived.Carry
namespace Go.Proofs.Ytpkikfdbndaekaa.bitioSizes
open Go.ChangeShapes Go.WideShapes Go.ChangeAt Go.RowKit Go.Shelf Go.Lib
set_option linter.unusedVariables false

set_option maxRecDepth 100000 in
set_option maxHeartbeats 1000000 in
theorem walk (x : Nat) (hx : x < 18446744073709551616) {w : World} :
    Calls Try.prog 10 #[.int .u64 x] w fun e w1 => e = .returned (.bool true) ∧ Below w.heap.size w w1 := by
  by_cases h0 : x = 0
  · subst h0
    go_enter Try.func10, Try.ntmps10
    go_wp2_with fail
    refine (newWriter_any _).mono ?_
    rintro e w1 ⟨rfl, rfl⟩
    go_wp2_with fail
    refine (newWriter_any _).mono ?_
    rintro e w1 ⟨rfl, rfl⟩
    go_wp2_with fail
    go_ret
    exact ⟨rfl, ((Below.refl _ _).alloc (Nat.le_refl _) _).alloc (by simp) _⟩
  · have hx0 : ((x : Int) == 0) = false := by simp; omega
    have hn := log_lt x hx
    have hg := gam_len x
    have hd := del_len x
    have ht1 := fun w => top_any x hx w
    have ht2 := fun w => top_of (Nat.log2 x + 1) ((Nat.log2 x : Int) + 1) (by omega) (by omega) w
    have hn2 := log_lt (Nat.log2 x + 1) (by omega)
    obtain ⟨n, hn'⟩ : ∃ n, Nat.log2 x = n := ⟨_, rfl⟩
    rw [hn'] at hn hg hd ht1 ht2 hn2
    obtain ⟨m, hm'⟩ : ∃ m, Nat.log2 (n + 1) = m := ⟨_, rfl⟩
    rw [hm'] at hd ht2 hn2
    have HG := Lib.hid hg
    have HD := Lib.hid hd
    have HT1 := Lib.hid ht1
    have HT2 := Lib.hid ht2
    have HX0 := Lib.hid h0
    clear hn' hm' hg hd ht1 ht2 h0
    go_enter Try.func10, Try.ntmps10
    go_wp2_with fail
    refine (newWriter_any _).mono ?_
    rintro e w1 ⟨rfl, rfl⟩
    go_wp2_with fail
    refine (newWriter_any _).mono ?_
    rintro e w1 ⟨rfl, rfl⟩
    have hwg := (writer_new w).kept ((Below.refl _ _).alloc (Nat.le_refl _) (.cells #[.slice none 0 0, .int .i64 0] 67))
    have hwd := writer_new (w.alloc (.cells #[.slice none 0 0, .int .i64 0] 67))
    have hb2 : Below w.heap.size w ((w.alloc (.cells #[.slice none 0 0, .int .i64 0] 67)).alloc (.cells #[.slice none 0 0, .int .i64 0] 67)) := ((Below.refl _ _).alloc (Nat.le_refl _) _).alloc (by simp) _
    have hz2 : ((w.alloc (.cells #[.slice none 0 0, .int .i64 0] 67)).alloc (.cells #[.slice none 0 0, .int .i64 0] 67)).heap.size = w.heap.size + 2 := by simp
    rw [World.size_alloc] at hwd
    rw [World.size_alloc]
    obtain ⟨W, hW⟩ : ∃ W, (w.alloc (.cells #[.slice none 0 0, .int .i64 0] 67)).alloc (.cells #[.slice none 0 0, .int .i64 0] 67) = W := ⟨_, rfl⟩
    rw [hW] at hwg hwd hb2 hz2 ⊢
    have HWG := Lib.hid hwg
    have HWD := Lib.hid hwd
    have HB2 := Lib.hid hb2
    have HZ2 := Lib.hid hz2
    clear hW hwg hwd hb2 hz2
    go_wp2_with fail
    refine (gamma_any HWG.out (by have := HZ2.out; omega) x hx HX0.out (by simp)).mono ?_
    rintro e w3 ⟨v3, rfl, hw3, hs3⟩
    have hwd3 := HWD.out.aside hs3 (by omega) (by simp [Value.ownBlock]) (fun k e => by simp [Value.ownBlock] at e)
    have hz3 := hs3.size
    have hb3 := HWG.out.below hs3 (by have := HZ2.out; omega)
    rw [HZ2.out] at hz3
    have HW3 := Lib.hid hw3
    have HWD3 := Lib.hid hwd3
    have HS3 := Lib.hid hs3
    have HB3 := Lib.hid hb3
    clear hw3 hwd3 hs3 hb3
    go_wp2_with fail
    refine (delta_any HWD3.out (by omega) x hx HX0.out (by simp)).mono ?_
    rintro e w4 ⟨v4, rfl, hw4, hs4⟩
    have hwg4 := HW3.out.aside hs4 (by omega) (by simp [Value.ownBlock]) (fun k e => ⟨fun e2 => by
      subst e2
      rcases HS3.out.own _ e with h | h
      · simp [Value.ownBlock] at h
      · rw [HZ2.out] at h; omega, by simp [Value.ownBlock]⟩)
    have hz4 := hs4.size
    have hb4 := (HWD3.out.below hs4 (by omega)).mono (Nat.le_succ _)
    have HB4 := Lib.hid hb4
    have hl4 := len_any hw4
    have hlg := len_any hwg4
    rw [List.nil_append, HG.out] at hlg
    rw [List.nil_append, HD.out] at hl4
    have HL4 := Lib.hid hl4
    have HLG := Lib.hid hlg
    clear hw4 hwg4 hs4 hb4 hl4 hlg
    go_wp2_with fail
    refine (HT1.out _).mono ?_
    rintro e w5 ⟨rfl, rfl⟩
    go_wp2_with fail
    refine HLG.out.mono ?_
    rintro e w5 ⟨rfl, rfl⟩
    go_wp2_with fail
    refine HL4.out.mono ?_
    rintro e w5 ⟨rfl, rfl⟩
    go_wp2_with fail
    refine (HT2.out _).mono ?_
    rintro e w5 ⟨rfl, rfl⟩
    clear HL4 HLG HT1 HT2
    go_wp2_with fail
    refine (awake_any _).mono ?_
    rintro e w5 ⟨rfl, hb5⟩
    have HB5 := Lib.hid hb5
    clear hb5
    go_wp2
    go_ret
    exact ⟨rfl, ((HB2.out.trans HB3.out).trans HB4.out).trans (HB5.out.mono (by omega))⟩

theorem own : ownKnob Try.prog.godebug = none := by kernel_rfl

set_option maxRecDepth 100000 in
theorem lifted (os : Os) (started : os.Started) (H : Type) (enc : TypeId × Value → H) :
    ReturnsInHanded {} Try.checked os 10 .any (Rows.bitioSizesSpec.pre6 enc Try.prog Try.f10 Rows.bitioSizesRow.domain false) (Rows.bitioSizesSpec.post enc Try.prog Try.f10 false true false false) := by
  refine returnsInHanded_of_change (C := Try.checked) own started (by kernel_rfl) Try.func10
    (ChangeSpec.witness6 (enc := enc) (C := Try.checked) false ⟨#[], #[.int .u64 0], []⟩ 8 (by kernel_rfl) (by kernel_rfl) (by kernel_rfl) (by kernel_rfl)) ?_
  intro W base args ds gs before hval0 hW hcnd _
  have hval : ∀ (j : Nat) t v, Try.f10.params[j]? = some t → args[j]? = some v → Value.okWide Try.prog W .any base t v := hval0
  have hW' := hW
  have hplt : ∀ x ∈ before, x.block < W.heap.size := fun x hx => hW.lt x hx
  obtain ⟨p, q, hA0, hV, rfl, hfz, hnd⟩ := hW
  have hA : DataW.TrodAll enc Try.prog W 0 (fun _ => true) true Try.f10.params.toList args.toList ds p := hA0
  rw [Try.params10] at hA hval
  obtain ⟨v0, vs0, d0, ds0, p0, q0, hargs, rfl, rfl, h0, r0⟩ := trodAll_cons hA
  obtain ⟨rfl, rfl, rfl⟩ := trodAll_nil r0
  obtain rfl : args = #[v0] := by cases args; simp_all
  obtain ⟨rfl, rfl⟩ := trodVars_none hV
  obtain ⟨x0, rfl, m0⟩ := open_u64 (hval 0 23 v0 rfl rfl) h0
  clear hA0 hval0
  refine (walk x0 m0).mono fun e W' ⟨he, bel⟩ => ?_
  subst he
  exact ⟨_, rfl, _, _, _, [], _, [], hW', trodAll_mk1 (shut_bool Try.underlying4 _), (trodAll_cons_mk (Below.trod Try.laidOut (by kernel_rfl) (of_decide_eq_true (by kernel_rfl)) h0 bel (fun x hx => hplt x (by simp [hx]))) trodAll_mk0), rfl, World.keptBut_mono (fun x hx => ⟨hx, Or.inr (by simpa using hx)⟩) (bel.frame (· ∈ _)), fun h => by cases h⟩

theorem over : Rows.bitioSizesRow.holds Try.pinned (OpenSpec.ofChange Rows.bitioSizesSpec) :=
  OpenClaim.holds_of_wide 10 Try.f10 rfl rfl rfl rfl rfl rfl rfl ⟨rfl, rfl, rfl, rfl, rfl⟩ rfl rfl rfl rfl rfl (by kernel_rfl) Try.func10 (by kernel_rfl)
    (of_decide_eq_true (by kernel_rfl)) (by unfold Func.isWrapper; first | (rw [if_pos (by decide +kernel)]; kernel_rfl) | (rw [if_neg (by decide +kernel)]; exact ⟨rfl, rfl⟩))
    (fun os started H enc _ => lifted os started H enc)

/-- THE STATEMENT. -/
theorem proved : Rows.BitioSizesSaid := over
end Go.Proofs.Ytpkikfdbndaekaa.bitioSizes
