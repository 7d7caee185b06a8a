/-
  DependRoundTrips is proved: for every list of numbers and every list of strings the call of the law returns true, and each argument reads afterwards as it read before. The package-level variables that the row lists hold what the program's text lays in them: this is tied to the text.
-/
import Derived.Test.YtpkkebojiengpaaDoorRows
import Derived.Test.YtpkkebojiengpaaDoorCards
import Derived.Test.YtpkkebojiengpaaDoorTie
import Derived.Test.YtpkkebojiengpaaDoorDfL
import Derived.Test.YtpkkebojiengpaaDoorDpB
import Derived.ProofKit
import Derived.OpenShut
import Derived.Carry
import Derived.SevenTiedAt
import Derived.LaidMore
import Derived.Stop.Joined
namespace Go.Proofs.YtpkkebojiengpaaDoor.dependRoundTrips
open Go.ChangeShapes Go.WideShapes Go.ChangeAt Go.RowKit Go.Shelf Go.Lib
set_option linter.unusedVariables false

theorem lt_blk {W : World} {b : Nat} {o : Obj} (h : W.heap[b]? = some o) : b < W.heap.size := (Array.getElem?_eq_some_iff.1 h).1
theorem format_cases (H : List Int) (G : Fs) : ((formatH H G).2 ≠ 0 ∧ (formatH H G).1 = []) ∨ ((formatH H G).2 = 0 ∧ H = [] ∧ (formatH H G).1 = []) ∨
    ((formatH H G).2 = 0 ∧ H ≠ [] ∧ (formatH H G).1 = txtF H G ∧ H.length = G.length ∧ (∀ r ∈ G, relB r = true) ∧ (checkH H).2 = 0) := by
  unfold formatH
  by_cases h1 : (checkH H).2 ≠ 0
  · rw [if_pos h1]; exact .inl ⟨h1, rfl⟩
  · rw [if_neg h1]
    by_cases h2 : H.length ≠ G.length
    · rw [if_pos h2]; exact .inl ⟨by decide, rfl⟩
    · rw [if_neg h2]
      by_cases h3 : relsB G = false
      · rw [if_pos h3]; exact .inl ⟨by decide, rfl⟩
      · rw [if_neg h3]
        by_cases h4 : H = []
        · subst h4; exact .inr (.inl ⟨rfl, rfl, by unfold txtF; rw [lnsF]; rfl⟩)
        · exact .inr (.inr ⟨rfl, h4, rfl, by omega, List.all_eq_true.1 (show relsB G = true by simpa using h3), by omega⟩)
theorem txt_ne {H : List Int} {G : Fs} (h : H ≠ []) (hl : H.length = G.length) : 0 < (txtF H G).length := by
  cases H with
  | nil => exact absurd rfl h
  | cons a l =>
    cases G with
    | nil => simp at hl
    | cons b g =>
      unfold txtF
      rw [lnsF, List.flatten_cons, List.length_append, List.length_append, List.length_cons, List.length_nil]
      omega
set_option maxRecDepth 100000 in
set_option maxHeartbeats 8000000 in
theorem walk {w : World} (vh : Value) (H : List Int) (hv : Rows 1 EInt w vh H) (hl : H.length ≤ maxLen) (_ : ∀ x ∈ H, -9223372036854775808 ≤ x ∧ x ≤ 9223372036854775807) (vr : Value) (G : Fs) (hr : Rows 1 EStr w vr G) (hl2 : G.length ≤ maxLen) (hz : ∀ f ∈ G, f.length ≤ maxLen) (hL : LaidAt w) :
    Calls Tryd.prog 3 #[vh, vr] w fun e w1 => e = .returned (.bool true) ∧ Below w.heap.size w w1 := by
  have HF := Lib.hid (format_any hL.tab hv hr hl hl2 hz)
  have HA := Lib.hid (fun (W : World) (hb : Below w.heap.size w W) => awake_any (w := W) (hL.below hb).err)
  have HE := Lib.hid (fun (W : World) (hb : Below w.heap.size w W) => (hL.below hb).err)
  obtain ⟨A, cap, rfl, hc⟩ := hv.form
  obtain ⟨A2, cap2, rfl, hc2⟩ := hr.form
  have HV := Lib.hid (fun (W : World) (hb : Below w.heap.size w W) => hv.below stays_int hb)
  have HR := Lib.hid (fun (W : World) (hb : Below w.heap.size w W) => hr.below stays_str hb)
  have HFC := Lib.hid (format_cases H G)
  obtain ⟨n, hn⟩ : ∃ n, H.length = n := ⟨_, rfl⟩
  obtain ⟨m, hm⟩ : ∃ m, G.length = m := ⟨_, rfl⟩
  rw [hn] at hl hc HF HV
  rw [hm] at hl2 hc2 HF HR
  rw [hn, hm]
  unfold maxLen at hl hl2
  have HN := Lib.hid hn
  have HM := Lib.hid hm
  clear hv hr hL hz hn hm
  by_cases c1 : 100 < n
  · have c1' : (n : Int) > 100 := by omega
    clear HF HA HE HV HR HFC HN HM
    go_enter Tryd.func3, Tryd.ntmps3
    go_wp2_with fail
    go_ret
    exact ⟨rfl, Below.refl _ _⟩
  have c1' : ¬ (n : Int) > 100 := by omega
  by_cases c2 : 110 < m
  · have c2' : (m : Int) > 110 := by omega
    clear HF HA HE HV HR HFC HN HM
    go_enter Tryd.func3, Tryd.ntmps3
    go_wp2_with fail
    go_ret
    exact ⟨rfl, Below.refl _ _⟩
  have c2' : ¬ (m : Int) > 110 := by omega
  obtain ⟨⟨T, er⟩, hf⟩ : ∃ f, formatH H G = f := ⟨_, rfl⟩
  rw [hf] at HF HFC
  simp only at HF HFC
  rcases HFC.out with ⟨f1, f2⟩ | ⟨f1, f2, f3⟩ | ⟨f1, f2, f3, f4, f5, f6⟩
  · subst f2
    clear HE HV HR HFC HN HM hf
    go_enter Tryd.func3, Tryd.ntmps3
    go_wp2_with fail
    refine HF.out.mono ?_
    rintro e w1 ⟨rfl, hb1⟩
    have HA1 := Lib.hid (HA.out w1 hb1)
    have HB1 := Lib.hid hb1
    clear hb1 HA HF
    go_wp2_with fail
    refine HA1.out.mono ?_
    rintro e w2 ⟨rfl, hb2⟩
    have HB2 := Lib.hid (HB1.out.trans (hb2.mono HB1.out.size))
    clear hb2
    go_wp2_with fail
    go_ret
    exact ⟨rfl, HB2.out⟩
  · subst f3
    subst f1
    clear HE HV HR HFC HN HM hf
    go_enter Tryd.func3, Tryd.ntmps3
    go_wp2_with fail
    refine HF.out.mono ?_
    rintro e w1 ⟨rfl, hb1⟩
    have HA1 := Lib.hid (HA.out w1 hb1)
    have HB1 := Lib.hid hb1
    clear hb1 HA HF
    go_wp2_with fail
    refine HA1.out.mono ?_
    rintro e w2 ⟨rfl, hb2⟩
    have HB2 := Lib.hid (HB1.out.trans (hb2.mono HB1.out.size))
    clear hb2
    go_wp2_with fail
    go_ret
    exact ⟨rfl, HB2.out⟩
  · subst f1
    have hok := okh_iff.1 (show okH H = true by unfold okH; exact decide_eq_true f6)
    have hH : ∀ h ∈ H, -1 ≤ h ∧ h < (H.length : Int) := fun x hx => by rcases hok.inn x hx with e | ⟨e1, e2⟩ <;> omega
    have hn := HN.out
    obtain ⟨k1, k2, k3⟩ := text_back f4 hH f5 f6
    obtain ⟨q1, q2, q3⟩ := text_back1 f2 f4 hH f5 f6
    have htl := txtF_len H G (fun x hx => by have := (hH x hx).2; omega) f5
    have htn := txt_ne f2 f4
    rw [← f3] at k1 k2 k3 q1 q2 q3 htl htn
    rw [hn] at k1 k2 k3 q1 q2 q3 htl
    obtain ⟨S0, hS0⟩ : ∃ S0 : ByteArray, (⟨T.toArray⟩ : ByteArray) = S0 := ⟨_, rfl⟩
    have hsz : S0.size = T.length := by rw [← hS0, Lib.size_mk]
    obtain ⟨t, ht⟩ : ∃ t : Nat, S0.size = t + 1 := ⟨S0.size - 1, by omega⟩
    have hd : S0.data.toList = T := by rw [← hS0]
    have hd2 : (S0.extract 0 t).data.toList = T.take (T.length - 1) := by
      rw [Lib.extract_data, hd, List.drop_zero]
      congr 1
      omega
    have hx2 : (S0.extract 0 t).size ≤ 1048576 := by
      rw [Lib.size_eq, hd2, List.length_take]
      omega
    have hp1 : parseH S0 (n : Int) = ((0, 0), 0, H, G) := by
      unfold parseH
      rw [if_neg (by omega), if_neg (by omega), Int.toNat_natCast, hd, if_pos k1, k2, k3]
    have hp2 : parseH (S0.extract 0 t) (n : Int) = ((0, 0), 0, H, G) := by
      unfold parseH
      rw [if_neg (by omega), if_neg (by omega), Int.toNat_natCast, hd2, if_pos q1, q2, q3]
    have HP1 := Lib.hid (fun (W : World) (hb : Below w.heap.size w W) => parse_any (w := W) (HE.out W hb) S0 (n : Int))
    have HP2 := Lib.hid (fun (W : World) (hb : Below w.heap.size w W) => parse_any (w := W) (HE.out W hb) (S0.extract 0 t) (n : Int))
    rw [hp1] at HP1
    rw [hp2] at HP2
    rw [hS0] at HF
    have z1 : ¬ ((S0.size : Int) = 0) := by omega
    have hw : IntKind.i64.wrap ((S0.size : Int) - 1) = (t : Int) := by rw [IntKind.wrap_i64]; omega
    have z2 : t ≤ S0.size := by omega
    have z3 : (t : Int) ≤ (S0.size : Int) := by omega
    have HIN := Lib.hid (fun (W : World) (a b : Value) (ha : Rows 1 EInt W a H) (hb : Rows 1 EInt W b H) => sameInts_any ha hb (by rw [hn]; unfold maxLen; omega) (by rw [hn]; unfold maxLen; omega))
    have HST := Lib.hid (fun (W : World) (a b : Value) (ha : Rows 1 EStr W a G) (hb : Rows 1 EStr W b G) => sameStrs_any ha hb (by rw [HM.out]; unfold maxLen; omega) (by rw [HM.out]; unfold maxLen; omega))
    rw [decide_eq_true rfl] at HIN HST
    clear hok hH k1 k2 k3 q1 q2 q3 htl htn hS0 hsz ht hd hd2 hx2 hp1 hp2 hn f2 f3 f4 f5 f6 hf HFC HE
    go_enter Tryd.func3, Tryd.ntmps3
    go_wp2_with fail
    refine HF.out.mono ?_
    rintro e w1 ⟨rfl, hb1⟩
    have HPA := Lib.hid (HP1.out w1 hb1)
    have HB1 := Lib.hid hb1
    clear hb1 HP1 HF
    go_wp2_with fail
    refine HPA.out.mono ?_
    rintro e w2 ⟨⟨vh1, vr1, rfl, oh, orr, -⟩, hb2⟩
    simp only at oh orr
    have HH1 := Lib.hid (fun (W : World) (hb : Below w2.heap.size w2 W) => (own_rows (base := w1.heap.size) oh).below stays_int hb)
    have HG1 := Lib.hid (fun (W : World) (hb : Below w2.heap.size w2 W) => (own_rowsS (base := w1.heap.size) orr).below stays_str hb)
    have HB2 := Lib.hid (HB1.out.trans (hb2.mono HB1.out.size))
    obtain ⟨Ah, ch, rfl, -⟩ := own_form oh
    obtain ⟨Ar, cr, rfl, -⟩ := own_form orr
    clear hb2 oh orr HPA
    unfold posV
    go_wp2_with fail
    obtain ⟨w3, hw3⟩ : ∃ W, w2.alloc (.cells #[.int .i64 0, .int .i64 0] 29) = W := ⟨_, rfl⟩
    have hb3 : Below w2.heap.size w2 w3 := by rw [← hw3]; exact below_box w2 _
    rw [hw3]
    have HB3 := Lib.hid (HB2.out.trans (hb3.mono HB2.out.size))
    have HC3 := Lib.hid hb3
    have HPB := Lib.hid (HP2.out w3 (HB2.out.trans (hb3.mono HB2.out.size)))
    clear hw3 hb3 HP2
    refine HPB.out.mono ?_
    rintro e w4 ⟨⟨vh2, vr2, rfl, oh, orr, -⟩, hb4⟩
    simp only at oh orr
    have HH2 := Lib.hid (fun (W : World) (hb : Below w4.heap.size w4 W) => (own_rows (base := w3.heap.size) oh).below stays_int hb)
    have HG2 := Lib.hid (fun (W : World) (hb : Below w4.heap.size w4 W) => (own_rowsS (base := w3.heap.size) orr).below stays_str hb)
    have HB4 := Lib.hid (HB3.out.trans (hb4.mono HB3.out.size))
    have HC4 := Lib.hid (HC3.out.trans (hb4.mono HC3.out.size))
    obtain ⟨Ah2, ch2, rfl, -⟩ := own_form oh
    obtain ⟨Ar2, cr2, rfl, -⟩ := own_form orr
    clear hb4 oh orr HPB
    unfold posV
    go_wp2_with fail
    obtain ⟨w5, hw5⟩ : ∃ W, w4.alloc (.cells #[.int .i64 0, .int .i64 0] 29) = W := ⟨_, rfl⟩
    have hb5 : Below w4.heap.size w4 w5 := by rw [← hw5]; exact below_box w4 _
    rw [hw5]
    have HB5 := Lib.hid (HB4.out.trans (hb5.mono HB4.out.size))
    have HC5 := Lib.hid (HC4.out.trans (hb5.mono HC4.out.size))
    have HD5 := Lib.hid hb5
    clear hw5 hb5
    refine (HIN.out w5 _ _ (HH1.out w5 HC5.out) (HV.out w5 HB5.out)).mono ?_
    rintro e w6 ⟨rfl, hb6⟩
    have HB6 := Lib.hid (HB5.out.trans (hb6.mono HB5.out.size))
    have HC6 := Lib.hid (HC5.out.trans (hb6.mono HC5.out.size))
    have HD6 := Lib.hid (HD5.out.trans (hb6.mono HD5.out.size))
    clear hb6
    go_wp2_with fail
    refine (HIN.out w6 _ _ (HH2.out w6 HD6.out) (HV.out w6 HB6.out)).mono ?_
    rintro e w7 ⟨rfl, hb7⟩
    have HB7 := Lib.hid (HB6.out.trans (hb7.mono HB6.out.size))
    have HC7 := Lib.hid (HC6.out.trans (hb7.mono HC6.out.size))
    have HD7 := Lib.hid (HD6.out.trans (hb7.mono HD6.out.size))
    clear hb7
    go_wp2_with fail
    refine (HST.out w7 _ _ (HG1.out w7 HC7.out) (HR.out w7 HB7.out)).mono ?_
    rintro e w8 ⟨rfl, hb8⟩
    have HB8 := Lib.hid (HB7.out.trans (hb8.mono HB7.out.size))
    have HD8 := Lib.hid (HD7.out.trans (hb8.mono HD7.out.size))
    clear hb8
    go_wp2_with fail
    refine (HST.out w8 _ _ (HG2.out w8 HD8.out) (HR.out w8 HB8.out)).mono ?_
    rintro e w9 ⟨rfl, hb9⟩
    have HB9 := Lib.hid (HB8.out.trans (hb9.mono HB8.out.size))
    clear hb9
    go_wp2_with fail
    refine (HA.out w9 HB9.out).mono ?_
    rintro e w10 ⟨rfl, hb10⟩
    have HB10 := Lib.hid (HB9.out.trans (hb10.mono HB9.out.size))
    clear hb10
    go_wp2_with fail
    go_ret
    exact ⟨rfl, HB10.out⟩

theorem own : ownKnob Tryd.prog.godebug = none := by kernel_rfl

set_option maxRecDepth 100000 in
theorem lifted (os : Os) (started : os.Started) (H : Type) (enc : TypeId × Value → H) :
    ReturnsInHanded {} Tryd.checked os 3 .any (fun w args => (Rows.dependRoundTripsSpec.pre enc Tryd.prog Tryd.f3 [] false w args ∧ laidMetH Tryd.prog Rows.dependRoundTripsRow.laid w) ∧ sizedMet enc Tryd.prog Tryd.f3 (OpenSpec.ofChange Rows.dependRoundTripsSpec) false w args)
      (Rows.dependRoundTripsSpec.post enc Tryd.prog Tryd.f3 false true false false) := by
  refine returnsInHanded_of_change_and (C := Tryd.checked) (X := fun w _ => laidMetH Tryd.prog Rows.dependRoundTripsRow.laid w) (fun _ _ _ hh h => h.of_heap hh) own started (by kernel_rfl) Tryd.func3
    (ChangeSpec.witness_shaped (enc := enc) (C := Tryd.checked) (os := os) (X := fun w _ => laidMetH Tryd.prog Rows.dependRoundTripsRow.laid w) false (World.laidAll Tryd.prog os laidAll) #[.slice none 0 0, .slice none 0 0] 8 (World.laidAll_os _ _ _) (all_shaped os) (by kernel_rfl) (by kernel_rfl) (by kernel_rfl) (all_met os _)) ?_
  intro W base args ds gs before hval0 hW _ _ hL _
  have hval : ∀ (j : Nat) t v, Tryd.f3.params[j]? = some t → args[j]? = some v → Value.okWide Tryd.prog W .any base t v := hval0
  have hW' := hW
  have hplt : ∀ x ∈ before, x.block < W.heap.size := fun x hx => hW.lt x hx
  obtain ⟨p, q, hA0, hV, rfl, hfz, hnd⟩ := hW
  have hA : DataW.TrodAll enc Tryd.prog W 0 (fun _ => true) true Tryd.f3.params.toList args.toList ds p := hA0
  rw [Tryd.params3] at hA hval
  obtain ⟨v0, vs0, d0, ds0, p0, q0, hargs, rfl, rfl, h0, r0⟩ := trodAll_cons hA
  obtain ⟨v1, vs1, d1, ds1, p1, q1, rfl, rfl, rfl, h1, r1⟩ := trodAll_cons r0
  obtain ⟨rfl, rfl, rfl⟩ := trodAll_nil r1
  obtain rfl : args = #[v0, v1] := by cases args; simp_all
  obtain ⟨rfl, rfl⟩ := trodVars_none hV
  obtain ⟨l0, s0, m0, n0⟩ := open_rowI (hval 0 22 v0 rfl rfl) h0
  obtain ⟨l1, s1, m1, n1⟩ := open_rowS (hval 1 23 v1 rfl rfl) h1
  clear hA0 hval0
  refine (walk v0 l0 s0 m0 n0 v1 l1 s1 m1 n1 (laid_of_laid hL)).mono fun e W' ⟨he, bel⟩ => ?_
  subst he
  exact ⟨_, rfl, _, _, _, [], _, [], hW', trodAll_mk1 (shut_bool Tryd.underlying4 _), (trodAll_cons_mk (Below.trod Tryd.laidOut (by kernel_rfl) (of_decide_eq_true (by kernel_rfl)) h0 bel (fun x hx => hplt x (by simp [hx]))) (trodAll_cons_mk (Below.trod Tryd.laidOut (by kernel_rfl) (of_decide_eq_true (by kernel_rfl)) h1 bel (fun x hx => hplt x (by simp [hx]))) trodAll_mk0)), rfl, World.keptBut_mono (fun x hx => ⟨hx, Or.inr (by simpa using hx)⟩) (bel.frame (· ∈ _)), fun h => by cases h⟩

theorem over : Rows.dependRoundTripsRow.holds Tryd.pinned (OpenSpec.ofChange Rows.dependRoundTripsSpec) :=
  OpenClaim.holds_of_wide 3 Tryd.f3 rfl rfl rfl rfl rfl rfl rfl ⟨rfl, rfl, rfl, rfl, rfl⟩ rfl rfl rfl rfl rfl (by kernel_rfl) Tryd.func3 (by kernel_rfl)
    (of_decide_eq_true (by kernel_rfl)) (by unfold Func.isWrapper; first | (rw [if_pos (by decide +kernel)]; kernel_rfl) | (rw [if_neg (by decide +kernel)]; exact ⟨rfl, rfl⟩))
    (fun os started H enc _ => lifted os started H enc)

/-- THE STATEMENT: the tied card. -/
theorem proved : Rows.DependRoundTripsCardSaid :=
  Claim7.holds_tied_plain_at .later [] Rows.dependRoundTripsCard.laidKinds true Rows.dependRoundTripsCard.stood.harness Rows.dependRoundTripsCard.stood.looks
    over (fun _ h => by cases h) (by kernel_rfl) (fun _ h => by cases h) dependRoundTrips_row_tie rfl ⟨rfl, rfl⟩ (by kernel_rfl) rfl
    (fun f fn hf hfn => by
      obtain rfl : f = 3 := Option.some.inj ((show Tryd.prog.funcNamed "corpora/corporalaw09.DependRoundTrips" = some 3 by kernel_rfl).symm.trans hf) |>.symm
      obtain rfl : fn = Tryd.f3 := (Option.some.inj (Tryd.func3.symm.trans hfn)).symm
      exact ⟨by kernel_rfl, fun j t ht => by
        rw [Tryd.params3] at ht
        have hm : t ∈ [22, 23] := by simpa using Array.mem_of_getElem? ht
        have hall : ([22, 23].all fun u => !Tryd.prog.wantsStandIn u) = true := by kernel_rfl
        exact (show Tryd.prog.wantsStandIn t = false by simpa using List.all_eq_true.1 hall t hm)⟩)
    (by kernel_rfl)
end Go.Proofs.YtpkkebojiengpaaDoor.dependRoundTrips
