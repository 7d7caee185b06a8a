/-
  StabSequences is proved: for every list of spans and every list of spans the call of the law returns true, and each argument reads afterwards as it read before. It has no condition.
-/
import Derived.Test.YtifdencdbpdbfaaRows
import Derived.Test.YtifdencdbpdbfaaIoO
import Derived.Test.YtifdencdbpdbfaaZaB
import Derived.ProofKit
import Derived.OpenShut
import Derived.Carry
namespace Go.Proofs.Ytifdencdbpdbfaa.stabSequences
open Go.ChangeShapes Go.WideShapes Go.ChangeAt Go.RowKit Go.Shelf Go.Lib
set_option linter.unusedVariables false

theorem below_chain {N : Nat} {w X W : World} (h : Below N w X) (hN : N ≤ X.heap.size) (k : Below X.heap.size X W) : Below N w W := h.trans (k.mono hN)
set_option maxRecDepth 100000 in
set_option maxHeartbeats 8000000 in
theorem walk {w : World} (v : Value) (l : List Sp) (hv : Rows 2 ESp w v l) (_ : l.length ≤ maxLen) (_ : ∀ x ∈ l, okSp x) (u : Value) (asks : List Sp) (hu : Rows 2 ESp w u asks) (_ : asks.length ≤ maxLen) (hok : ∀ x ∈ asks, okSp x) :
    Calls Try.prog 6 #[v, u] w fun e w1 => e = .returned (.bool true) ∧ Below w.heap.size w w1 := by
  have HBD := Lib.hid (fun W (h : Below w.heap.size w W) => built_any (hv.below stays_sp h))
  have HA := Lib.hid (fun (W : World) => awake_any W)
  have HU := Lib.hid (fun W (h : Below w.heap.size w W) => hu.below stays_sp h)
  obtain ⟨A, cap, rfl, hc⟩ := hv.form
  obtain ⟨A', cap', rfl, hc'⟩ := hu.form
  obtain ⟨n, hn⟩ : ∃ n, l.length = n := ⟨_, rfl⟩
  obtain ⟨m, hm⟩ : ∃ n, asks.length = n := ⟨_, rfl⟩
  obtain ⟨N, hN⟩ : ∃ N, w.heap.size = N := ⟨_, rfl⟩
  unfold BuiltV at HBD
  unfold BoolV at HA
  rw [hN] at HBD HU ⊢
  rw [hn] at HBD ⊢
  rw [hm] at HU ⊢
  have HLQ := Lib.hid (fun (P : Sp → Bool) (s : Sp) => show (askL P s l).length ≤ n ∧ (idxs P l).length ≤ n from ⟨by
    unfold askL
    split
    · rw [← hn]; exact idxs_len P l
    · simp, by rw [← hn]; exact idxs_len P l⟩)
  have HOK := Lib.hid (fun (x : Sp) (h : x ∈ asks) => (hok x h).2.2)
  have HN := Lib.hid hN
  have HM := Lib.hid hm
  clear hv hu hc hc' hn hm hN hok
  by_cases hl : 40 < n
  · go_enter Try.func6, Try.ntmps6
    go_wp2_with fail
    go_ret
    exact ⟨rfl, Below.refl _ _⟩
  · by_cases hl2 : 20 < m
    · go_enter Try.func6, Try.ntmps6
      go_wp2_with fail
      go_ret
      exact ⟨rfl, Below.refl _ _⟩
    · have HL4 := Lib.hid (show n ≤ 4096 by omega)
      go_enter Try.func6, Try.ntmps6
      go_wp2_with fail
      refine (HBD.out w (Below.refl _ _)).mono ?_
      rintro e w1 ⟨⟨p, rfl, hp⟩, hb1⟩
      have hb1' : Below N w w1 := by rw [← HN.out]; exact hb1
      have HB1 := Lib.hid hb1'
      clear hb1 hb1'
      rcases hp with ⟨h0, B, rfl, hI⟩ | ⟨h0, rfl⟩
      · have HI := Lib.hid hI
        have HC := Lib.hid h0
        have HSZ1 : Hid (N ≤ w1.heap.size) := Lib.hid (by rw [← HN.out]; exact HB1.out.size)
        clear hI h0
        go_wp2_with fail
        go_loopw [36] (fun kv wr => ∃ k : Nat, k ≤ m ∧ kv = .int .i64 k ∧ Hid (Below w1.heap.size w1 wr)) (fun kv _ => m - (Go.RowKit.intOf kv).toNat)
        case atStart => exact ⟨0, Nat.zero_le _, rfl, Lib.hid (Below.refl _ _)⟩
        case round =>
          obtain ⟨k, hk, rfl, HB⟩ := hrel
          have hbw : Below N w wr := HB1.out.trans (HB.out.mono HSZ1.out)
          by_cases hlt : k < m
          · obtain ⟨x, hx⟩ : ∃ x, asks[k]? = some x := ⟨_, List.getElem?_eq_getElem (by rw [HM.out]; omega)⟩
            obtain ⟨bk, off, rfl, hbl, hj⟩ := at_sp (HU.out wr hbw) (by rw [HM.out]; omega)
            obtain ⟨c0, c1⟩ := hj k x hx
            have hx2 := HOK.out x (List.mem_of_getElem? hx)
            obtain ⟨WB, hWB⟩ : ∃ X, wr.alloc (.cells #[.int .i64 x.1, .int .i64 x.2] 35) = X := ⟨_, rfl⟩
            obtain ⟨Nx, hNx⟩ : ∃ N, wr.heap.size = N := ⟨_, rfl⟩
            have hbx : WB.heap[Nx]? = some (.cells #[.int .i64 x.1, .int .i64 x.2] 35 (0, 0)) := by rw [← hWB, ← hNx]; exact block_new _ _
            have hbW : Below wr.heap.size wr WB := by rw [← hWB]; exact below_box _ _
            have hN1 : N ≤ wr.heap.size := Nat.le_trans HSZ1.out HB.out.size
            have hBWB : Below N w WB := hbw.trans (hbW.mono hN1)
            have hIW : IdxAt WB B l := (HI.out.below HB.out).below hbW
            have hNW : Nx < WB.heap.size := (Array.getElem?_eq_some_iff.1 hbx).1
            have HBI := Lib.hid (HBD.out WB hBWB)
            have hlx := HLQ.out (fun t => ovB t x) x
            have hly := HLQ.out (stabP x.1) x
            have hlz := HLQ.out (fun t => inB t x) x
            obtain ⟨xs, hxs⟩ : ∃ xs, askL (fun t => ovB t x) x l = xs := ⟨_, rfl⟩
            obtain ⟨ys, hys⟩ : ∃ xs, idxs (stabP x.1) l = xs := ⟨_, rfl⟩
            obtain ⟨zs, hzs⟩ : ∃ xs, askL (fun t => inB t x) x l = xs := ⟨_, rfl⟩
            have HC1 := Lib.hid (fun (W : World) (B : Nat) (h : IdxAt W B l) => overlap_any h x hx2)
            have HC2 := Lib.hid (fun (W : World) (B : Nat) (h : IdxAt W B l) => stab_any h x.1)
            have HC3 := Lib.hid (fun (W : World) (B : Nat) (h : IdxAt W B l) => around_any h x hx2)
            rw [hxs] at HC1 hlx
            rw [hys] at HC2 hly
            rw [hzs] at HC3 hlz
            have hlm : xs.length ≤ maxLen ∧ ys.length ≤ maxLen ∧ zs.length ≤ maxLen := by unfold maxLen; omega
            have HLM := Lib.hid hlm
            obtain ⟨x1, x2⟩ := x
            unfold spA ListV at HC1 HC3
            unfold ListV at HC2
            simp only at c0 c1 HC1 HC2 HC3 hWB hbx
            have HD := Lib.hid (fun W (h : Below WB.heap.size WB W) => show W.cell? ⟨Nx, 0, none⟩ = some (.int .i64 x1) ∧ W.cell? ⟨Nx, 1, none⟩ = some (.int .i64 x2) from And.intro ((h.cell (p := ⟨Nx, 0, none⟩) hNW).trans (cell_of (i := 0) hbx rfl)) ((h.cell (p := ⟨Nx, 1, none⟩) hNW).trans (cell_of (i := 1) hbx rfl)))
            have HIW := Lib.hid hIW
            have HWB := Lib.hid hWB
            have HNx := Lib.hid hNx
            have HBWB := Lib.hid (show Below w1.heap.size w1 WB from HB.out.trans (hbW.mono HB.out.size))
            have HSW := Lib.hid (show w1.heap.size ≤ WB.heap.size from Nat.le_trans HB.out.size hbW.size)
            have hki : (k : Int) < (m : Int) := by omega
            clear hx hj hbl hWB hNx hbx hbW hN1 hBWB hIW hNW hxs hys hzs hlx hly hlz hlm hx2 HB
            go_upto_region 9 with fail
            rw [HWB.out, HNx.out]
            clear c0 c1
            go_wp2_with fail
            refine HBI.out.mono ?_
            rintro e w2 ⟨⟨p2, rfl, hp2⟩, hb2⟩
            have HB2 := Lib.hid hb2
            rcases hp2 with ⟨h0, B2, rfl, hI2⟩ | ⟨h0, rfl⟩
            · have hbd : Below WB.heap.size WB w2.drew := hb2.drew
              have hIa : IdxAt w2.drew B l := HIW.out.below hbd
              have hIb : IdxAt w2.drew B2 l := hI2.below (Below.refl _ _).drew
              have HP1 := Lib.hid (fun W (h : Below w2.drew.heap.size w2.drew W) => HC1.out W B (hIa.below h))
              have HP2 := Lib.hid (fun W (h : Below w2.drew.heap.size w2.drew W) => HC2.out W B (hIa.below h))
              have HP3 := Lib.hid (fun W (h : Below w2.drew.heap.size w2.drew W) => HC3.out W B (hIa.below h))
              have HQ1 := Lib.hid (fun W (h : Below w2.drew.heap.size w2.drew W) => HC1.out W B2 (hIb.below h))
              have HQ2 := Lib.hid (fun W (h : Below w2.drew.heap.size w2.drew W) => HC2.out W B2 (hIb.below h))
              have HQ3 := Lib.hid (fun W (h : Below w2.drew.heap.size w2.drew W) => HC3.out W B2 (hIb.below h))
              have HS := Lib.hid (fun W (h : Below w2.drew.heap.size w2.drew W) => HD.out W (hbd.trans (h.mono hbd.size)))
              have HX0 := Lib.hid (Below.refl w2.drew.heap.size w2.drew)
              have HBD2 := Lib.hid hbd
              clear hI2 hIa hIb h0 HC1 HC2 HC3 hbd HD hb2
              go_wp2_with fail
              go_region_held3 (fun W' => W'.cell? ⟨Nx, 0, none⟩ = some (.int .i64 x1) ∧ W'.cell? ⟨Nx, 1, none⟩ = some (.int .i64 x2))
                (first
                  | (with_reducible exact HS.out _ HX9.out)
                  | (with_reducible exact HS.out _ HX8.out)
                  | (with_reducible exact HS.out _ HX7.out)
                  | (with_reducible exact HS.out _ HX6.out)
                  | (with_reducible exact HS.out _ HX5.out)
                  | (with_reducible exact HS.out _ HX4.out)
                  | (with_reducible exact HS.out _ HX3.out)
                  | (with_reducible exact HS.out _ HX2.out)
                  | (with_reducible exact HS.out _ HX1.out)
                  | (with_reducible exact HS.out _ HX0.out)
                  | fail)
                ((first
                  | (go_at_call 11; (with_reducible refine (HS3.out).mono ?_); rintro e x9 ⟨rfl, hb9⟩; have HX9 := Lib.hid (below_chain HX8.out HX8.out.size hb9); clear hb9)
                  | (go_at_call 11; (with_reducible refine (HS2.out).mono ?_); rintro e x6 ⟨rfl, hb6⟩; have HX6 := Lib.hid (below_chain HX5.out HX5.out.size hb6); clear hb6)
                  | (go_at_call 11; (with_reducible refine (HS1.out).mono ?_); rintro e x3 ⟨rfl, hb3⟩; have HX3 := Lib.hid (below_chain HX2.out HX2.out.size hb3); clear hb3)
                  | (go_at_call 17; (with_reducible refine (HQ3.out _ HX7.out).mono ?_); rintro e x8 ⟨⟨v8, rfl, hr8⟩, hb8⟩; have HS3 := Lib.hid (sameInts_any (HR7.out.below stays_int hb8) hr8 HLM.out.2.2 HLM.out.2.2); rw [decide_eq_true (rfl : zs = zs)] at HS3; obtain ⟨A8, c8, rfl, -⟩ := hr8.form; have HX8 := Lib.hid (below_chain HX7.out HX7.out.size hb8); clear hb8 hr8)
                  | (go_at_call 17; (with_reducible refine (HP3.out _ HX6.out).mono ?_); rintro e x7 ⟨⟨v7, rfl, hr7⟩, hb7⟩; have HR7 := Lib.hid hr7; obtain ⟨A7, c7, rfl, -⟩ := hr7.form; have HX7 := Lib.hid (below_chain HX6.out HX6.out.size hb7); clear hb7 hr7)
                  | (go_at_call 12; (with_reducible refine (HQ2.out _ HX4.out).mono ?_); rintro e x5 ⟨⟨v5, rfl, hr5⟩, hb5⟩; have HS2 := Lib.hid (sameInts_any (HR4.out.below stays_int hb5) hr5 HLM.out.2.1 HLM.out.2.1); rw [decide_eq_true (rfl : ys = ys)] at HS2; obtain ⟨A5, c5, rfl, -⟩ := hr5.form; have HX5 := Lib.hid (below_chain HX4.out HX4.out.size hb5); clear hb5 hr5)
                  | (go_at_call 12; (with_reducible refine (HP2.out _ HX3.out).mono ?_); rintro e x4 ⟨⟨v4, rfl, hr4⟩, hb4⟩; have HR4 := Lib.hid hr4; obtain ⟨A4, c4, rfl, -⟩ := hr4.form; have HX4 := Lib.hid (below_chain HX3.out HX3.out.size hb4); clear hb4 hr4)
                  | (go_at_call 14; (with_reducible refine (HQ1.out _ HX1.out).mono ?_); rintro e x2 ⟨⟨v2, rfl, hr2⟩, hb2⟩; have HS1 := Lib.hid (sameInts_any (HR1.out.below stays_int hb2) hr2 HLM.out.1 HLM.out.1); rw [decide_eq_true (rfl : xs = xs)] at HS1; obtain ⟨A2, c2, rfl, -⟩ := hr2.form; have HX2 := Lib.hid (below_chain HX1.out HX1.out.size hb2); clear hb2 hr2)
                  | (go_at_call 14; (with_reducible refine (HP1.out _ HX0.out).mono ?_); rintro e x1' ⟨⟨v1, rfl, hr1⟩, hb1⟩; have HR1 := Lib.hid hr1; obtain ⟨A1, c1, rfl, -⟩ := hr1.form; have HX1 := Lib.hid (below_chain HX0.out HX0.out.size hb1); clear hb1 hr1)
                  | fail))
              have HFIN := Lib.hid (HBWB.out.trans ((HBD2.out.trans (HX9.out.mono HBD2.out.size)).mono HSW.out))
              go_wp2_with fail
              exact ⟨⟨k + 1, by omega, by go_num, HFIN⟩, by simp only [Go.RowKit.intOf]; omega⟩
            · exact absurd HC.out h0
          · obtain rfl : k = m := by omega
            go_wp2_with fail
            refine (HA.out _).mono ?_
            rintro e w3 ⟨rfl, hb3⟩
            have HB3 := Lib.hid (hbw.trans (hb3.mono (Nat.le_trans HSZ1.out HB.out.size)))
            clear hb3
            go_wp2_with fail
            go_ret
            exact ⟨rfl, HB3.out⟩
      · clear h0
        go_wp2_with fail
        refine (HA.out _).mono ?_
        rintro e w3 ⟨rfl, hb3⟩
        have HB3 := Lib.hid (HB1.out.trans (hb3.mono (by have := HB1.out.size; rw [HN.out] at this; exact this)))
        clear hb3
        go_wp2_with fail
        go_ret
        exact ⟨rfl, HB3.out⟩

theorem own : ownKnob Try.prog.godebug = none := by kernel_rfl

set_option maxRecDepth 100000 in
theorem lifted (os : Os) (started : os.Started) (H : Type) (enc : TypeId × Value → H) :
    ReturnsInHanded {} Try.checked os 6 .any (Rows.stabSequencesSpec.pre6 enc Try.prog Try.f6 Rows.stabSequencesRow.domain false) (Rows.stabSequencesSpec.post enc Try.prog Try.f6 false true false false) := by
  refine returnsInHanded_of_change (C := Try.checked) own started (by kernel_rfl) Try.func6
    (ChangeSpec.witness6 (enc := enc) (C := Try.checked) false ⟨#[], #[.slice none 0 0, .slice none 0 0], []⟩ 8 (by kernel_rfl) (by kernel_rfl) (by kernel_rfl) (by kernel_rfl)) ?_
  intro W base args ds gs before hval0 hW hcnd _
  have hval : ∀ (j : Nat) t v, Try.f6.params[j]? = some t → args[j]? = some v → Value.okWide Try.prog W .any base t v := hval0
  have hW' := hW
  have hplt : ∀ x ∈ before, x.block < W.heap.size := fun x hx => hW.lt x hx
  obtain ⟨p, q, hA0, hV, rfl, hfz, hnd⟩ := hW
  have hA : DataW.TrodAll enc Try.prog W 0 (fun _ => true) true Try.f6.params.toList args.toList ds p := hA0
  rw [Try.params6] at hA hval
  obtain ⟨v0, vs0, d0, ds0, p0, q0, hargs, rfl, rfl, h0, r0⟩ := trodAll_cons hA
  obtain ⟨v1, vs1, d1, ds1, p1, q1, rfl, rfl, rfl, h1, r1⟩ := trodAll_cons r0
  obtain ⟨rfl, rfl, rfl⟩ := trodAll_nil r1
  obtain rfl : args = #[v0, v1] := by cases args; simp_all
  obtain ⟨rfl, rfl⟩ := trodVars_none hV
  obtain ⟨l0, s0, m0, n0⟩ := open_sps (hval 0 22 v0 rfl rfl) h0
  obtain ⟨l1, s1, m1, n1⟩ := open_sps (hval 1 22 v1 rfl rfl) h1
  clear hA0 hval0
  refine (walk v0 l0 s0 m0 n0 v1 l1 s1 m1 n1).mono fun e W' ⟨he, bel⟩ => ?_
  subst he
  exact ⟨_, rfl, _, _, _, [], _, [], hW', trodAll_mk1 (shut_bool Try.underlying4 _), (trodAll_cons_mk (Below.trod Try.laidOut (by kernel_rfl) (of_decide_eq_true (by kernel_rfl)) h0 bel (fun x hx => hplt x (by simp [hx]))) (trodAll_cons_mk (Below.trod Try.laidOut (by kernel_rfl) (of_decide_eq_true (by kernel_rfl)) h1 bel (fun x hx => hplt x (by simp [hx]))) trodAll_mk0)), rfl, World.keptBut_mono (fun x hx => ⟨hx, Or.inr (by simpa using hx)⟩) (bel.frame (· ∈ _)), fun h => by cases h⟩

theorem over : Rows.stabSequencesRow.holds Try.pinned (OpenSpec.ofChange Rows.stabSequencesSpec) :=
  OpenClaim.holds_of_wide 6 Try.f6 rfl rfl rfl rfl rfl rfl rfl ⟨rfl, rfl, rfl, rfl, rfl⟩ rfl rfl rfl rfl rfl (by kernel_rfl) Try.func6 (by kernel_rfl)
    (of_decide_eq_true (by kernel_rfl)) (by unfold Func.isWrapper; first | (rw [if_pos (by decide +kernel)]; kernel_rfl) | (rw [if_neg (by decide +kernel)]; exact ⟨rfl, rfl⟩))
    (fun os started H enc _ => lifted os started H enc)

/-- THE STATEMENT. -/
theorem proved : Rows.StabSequencesSaid := over
end Go.Proofs.Ytifdencdbpdbfaa.stabSequences
