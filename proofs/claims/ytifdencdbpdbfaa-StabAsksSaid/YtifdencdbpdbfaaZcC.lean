/-
  StabAsks is proved: for every list of spans and every span the call of the law returns true, and each argument reads afterwards as it read before. It has no condition.
-/
import Derived.Test.YtifdencdbpdbfaaRows
import Derived.Test.YtifdencdbpdbfaaIoO
import Derived.Test.YtifdencdbpdbfaaZaB
import Derived.ProofKit
import Derived.OpenShut
import Derived.Carry
namespace Go.Proofs.Ytifdencdbpdbfaa.stabAsks
open Go.ChangeShapes Go.WideShapes Go.ChangeAt Go.RowKit Go.Shelf Go.Lib
set_option linter.unusedVariables false

theorem below_chain {N : Nat} {w X W : World} (h : Below N w X) (hN : N ≤ X.heap.size) (k : Below X.heap.size X W) : Below N w W := h.trans (k.mono hN)
set_option maxRecDepth 100000 in
set_option maxHeartbeats 8000000 in
theorem walk {w : World} (v : Value) (l : List Sp) (hv : Rows 2 ESp w v l) (_ : l.length ≤ maxLen) (_ : ∀ x ∈ l, okSp x) (s : Sp) (hs : okSp s) :
    Calls Try.prog 5 #[v, .agg #[.int .i64 s.1, .int .i64 s.2]] w fun e w1 => e = .returned (.bool true) ∧ Below w.heap.size w w1 := by
  have hs2 : s.2 ≤ 9223372036854775807 := hs.2.2
  have hb0 := below_box w (.cells #[.int .i64 s.1, .int .i64 s.2] 35)
  obtain ⟨X, hX⟩ : ∃ X, w.alloc (.cells #[.int .i64 s.1, .int .i64 s.2] 35) = X := ⟨_, rfl⟩
  obtain ⟨N, hN⟩ : ∃ N, w.heap.size = N := ⟨_, rfl⟩
  have hbx : X.heap[N]? = some (.cells #[.int .i64 s.1, .int .i64 s.2] 35 (0, 0)) := by rw [← hX, ← hN]; exact block_new _ _
  rw [hX] at hb0
  have hvX := hv.below stays_sp hb0
  have HBD := Lib.hid (built_any hvX)
  have HA := Lib.hid (fun (W : World) => awake_any W)
  obtain ⟨A, cap, rfl, hc⟩ := hv.form
  obtain ⟨n, hn⟩ : ∃ n, l.length = n := ⟨_, rfl⟩
  unfold BuiltV at HBD
  unfold BoolV at HA
  have hq : ∀ P : Sp → Bool, (askL P s l).length ≤ n := fun P => by
    unfold askL
    split
    · rw [← hn]; exact idxs_len P l
    · simp
  obtain ⟨xs, hxs⟩ : ∃ xs, askL (fun t => ovB t s) s l = xs := ⟨_, rfl⟩
  obtain ⟨ys, hys⟩ : ∃ xs, askL (fun t => inB s t) s l = xs := ⟨_, rfl⟩
  obtain ⟨zs, hzs⟩ : ∃ xs, askL (fun t => inB t s) s l = xs := ⟨_, rfl⟩
  have hlx := hq (fun t => ovB t s)
  have hly := hq (fun t => inB s t)
  have hlz := hq (fun t => inB t s)
  have HR1 := Lib.hid (fun W (h : Below X.heap.size X W) (hl : l.length ≤ 4096) => refAskO_any (hvX.below stays_sp h) hl s)
  have HR2 := Lib.hid (fun W (h : Below X.heap.size X W) (hl : l.length ≤ 4096) => refAskI_any (hvX.below stays_sp h) hl s)
  have HR3 := Lib.hid (fun W (h : Below X.heap.size X W) (hl : l.length ≤ 4096) => refAskA_any (hvX.below stays_sp h) hl s)
  have HC1 := Lib.hid (fun (W : World) (B : Nat) (h : IdxAt W B l) => overlap_any h s hs2)
  have HC2 := Lib.hid (fun (W : World) (B : Nat) (h : IdxAt W B l) (ha : ∀ x ∈ l, okS x = true) => inside_any h s hs2 ha)
  have HC3 := Lib.hid (fun (W : World) (B : Nat) (h : IdxAt W B l) => around_any h s hs2)
  rw [hxs] at HR1 HC1 hlx
  rw [hys] at HR2 HC2 hly
  rw [hzs] at HR3 HC3 hlz
  obtain ⟨b, e⟩ := s
  unfold spA ListV at HR1 HR2 HR3 HC1 HC2 HC3
  simp only at HR1 HR2 HR3 HC1 HC2 HC3 hX hbx ⊢
  rw [hn] at HBD HR1 HR2 HR3 ⊢
  have hNX : N < X.heap.size := (Array.getElem?_eq_some_iff.1 hbx).1
  have HD := Lib.hid (fun W (h : Below X.heap.size X W) => show W.cell? ⟨N, 0, none⟩ = some (.int .i64 b) ∧ W.cell? ⟨N, 1, none⟩ = some (.int .i64 e) from And.intro ((h.cell (p := ⟨N, 0, none⟩) hNX).trans (cell_of (i := 0) hbx rfl)) ((h.cell (p := ⟨N, 1, none⟩) hNX).trans (cell_of (i := 1) hbx rfl)))
  have HN := Lib.hid hN
  have HX := Lib.hid hX
  have HB0 := Lib.hid hb0
  have HLN := Lib.hid hn
  have HALL := Lib.hid (fun (h : chkT l = 0) => show ∀ x ∈ l, okS x = true from fun x hx => by
    unfold chkT at h
    split at h
    · cases h
    · split at h
      · have := List.all_eq_true.1 (by assumption) x hx
        unfold okT at this
        simp at this
        exact this.1
      · cases h)
  rw [hN] at HB0
  rw [hN]
  clear hv hvX hc hn hb0 hX hN hbx hq hxs hys hzs hs hs2 hNX
  by_cases hl : 100 < n
  · go_enter Try.func5, Try.ntmps5
    go_upto_region 1 with fail
    rw [HX.out, HN.out]
    go_wp2_with fail
    go_ret
    exact ⟨rfl, HB0.out⟩
  · have hlm : xs.length ≤ maxLen ∧ ys.length ≤ maxLen ∧ zs.length ≤ maxLen := by unfold maxLen; omega
    have HLM := Lib.hid hlm
    have HL4 := Lib.hid (show n ≤ 4096 by omega)
    clear hlx hly hlz hlm
    go_enter Try.func5, Try.ntmps5
    go_upto_region 1 with fail
    rw [HX.out, HN.out]
    go_wp2_with fail
    refine HBD.out.mono ?_
    rintro e w1 ⟨⟨p, rfl, hp⟩, hb1⟩
    have HB1 := Lib.hid hb1
    have HNX := Lib.hid (show N ≤ X.heap.size by rw [← HX.out, alloc_sz, HN.out]; omega)
    clear hb1
    rcases hp with ⟨h0, B, rfl, hI⟩ | ⟨h0, rfl⟩
    · have hI0 : IdxAt w1.drew B l := hI.below (Below.refl _ _).drew
      have HP1 := Lib.hid (fun W (h : Below w1.drew.heap.size w1.drew W) => HC1.out W B (hI0.below h))
      have HP2 := Lib.hid (fun W (h : Below w1.drew.heap.size w1.drew W) => HC2.out W B (hI0.below h) (HALL.out h0))
      have HP3 := Lib.hid (fun W (h : Below w1.drew.heap.size w1.drew W) => HC3.out W B (hI0.below h))
      have hbd : Below X.heap.size X w1.drew := HB1.out.drew
      have HQ1 := Lib.hid (fun W (h : Below w1.drew.heap.size w1.drew W) => HR1.out W (hbd.trans (h.mono hbd.size)) HL4.out)
      have HQ2 := Lib.hid (fun W (h : Below w1.drew.heap.size w1.drew W) => HR2.out W (hbd.trans (h.mono hbd.size)) HL4.out)
      have HQ3 := Lib.hid (fun W (h : Below w1.drew.heap.size w1.drew W) => HR3.out W (hbd.trans (h.mono hbd.size)) HL4.out)
      have HS := Lib.hid (fun W (h : Below w1.drew.heap.size w1.drew W) => HD.out W (hbd.trans (h.mono hbd.size)))
      have HX0 := Lib.hid (Below.refl w1.drew.heap.size w1.drew)
      have HBD2 := Lib.hid hbd
      clear hI hI0 h0 HC1 HC2 HC3 HR1 HR2 HR3 HALL HBD hbd HD
      go_wp2_with fail
      go_region_held3 (fun W' => W'.cell? ⟨N, 0, none⟩ = some (.int .i64 b) ∧ W'.cell? ⟨N, 1, none⟩ = some (.int .i64 e))
        (first
          | (with_reducible exact HS.out _ HX10.out)
          | (with_reducible exact HS.out _ HX9.out)
          | (with_reducible exact HS.out _ HX8.out)
          | (with_reducible exact HS.out _ HX7.out)
          | (with_reducible exact HS.out _ HX6.out)
          | (with_reducible exact HS.out _ HX5.out)
          | (with_reducible exact HS.out _ HX4.out)
          | (with_reducible exact HS.out _ HX3.out)
          | (with_reducible exact HS.out _ HX2.out)
          | (with_reducible exact HS.out _ HX1.out)
          | (with_reducible exact HS.out _ HX0.out)
          | fail)
        ((first
          | (go_at_call 10; (with_reducible refine (HA.out _).mono ?_); rintro e x10 ⟨rfl, hb10⟩; have HX10 := Lib.hid (below_chain HX9.out HX9.out.size hb10); clear hb10)
          | (go_at_call 11; (with_reducible refine (HS3.out).mono ?_); rintro e x9 ⟨rfl, hb9⟩; have HX9 := Lib.hid (below_chain HX8.out HX8.out.size hb9); clear hb9)
          | (go_at_call 11; (with_reducible refine (HS2.out).mono ?_); rintro e x6 ⟨rfl, hb6⟩; have HX6 := Lib.hid (below_chain HX5.out HX5.out.size hb6); clear hb6)
          | (go_at_call 11; (with_reducible refine (HS1.out).mono ?_); rintro e x3 ⟨rfl, hb3⟩; have HX3 := Lib.hid (below_chain HX2.out HX2.out.size hb3); clear hb3)
          | (go_at_call 15; (with_reducible refine (HQ3.out _ HX7.out).mono ?_); rintro e x8 ⟨⟨v8, rfl, hr8⟩, hb8⟩; have HS3 := Lib.hid (sameInts_any (HR7.out.below stays_int hb8) hr8 HLM.out.2.2 HLM.out.2.2); rw [decide_eq_true (rfl : zs = zs)] at HS3; obtain ⟨A8, c8, rfl, -⟩ := hr8.form; have HX8 := Lib.hid (below_chain HX7.out HX7.out.size hb8); clear hb8 hr8)
          | (go_at_call 17; (with_reducible refine (HP3.out _ HX6.out).mono ?_); rintro e x7 ⟨⟨v7, rfl, hr7⟩, hb7⟩; have HR7 := Lib.hid hr7; obtain ⟨A7, c7, rfl, -⟩ := hr7.form; have HX7 := Lib.hid (below_chain HX6.out HX6.out.size hb7); clear hb7 hr7)
          | (go_at_call 15; (with_reducible refine (HQ2.out _ HX4.out).mono ?_); rintro e x5 ⟨⟨v5, rfl, hr5⟩, hb5⟩; have HS2 := Lib.hid (sameInts_any (HR4.out.below stays_int hb5) hr5 HLM.out.2.1 HLM.out.2.1); rw [decide_eq_true (rfl : ys = ys)] at HS2; obtain ⟨A5, c5, rfl, -⟩ := hr5.form; have HX5 := Lib.hid (below_chain HX4.out HX4.out.size hb5); clear hb5 hr5)
          | (go_at_call 16; (with_reducible refine (HP2.out _ HX3.out).mono ?_); rintro e x4 ⟨⟨v4, rfl, hr4⟩, hb4⟩; have HR4 := Lib.hid hr4; obtain ⟨A4, c4, rfl, -⟩ := hr4.form; have HX4 := Lib.hid (below_chain HX3.out HX3.out.size hb4); clear hb4 hr4)
          | (go_at_call 15; (with_reducible refine (HQ1.out _ HX1.out).mono ?_); rintro e x2 ⟨⟨v2, rfl, hr2⟩, hb2⟩; have HS1 := Lib.hid (sameInts_any (HR1.out.below stays_int hb2) hr2 HLM.out.1 HLM.out.1); rw [decide_eq_true (rfl : xs = xs)] at HS1; obtain ⟨A2, c2, rfl, -⟩ := hr2.form; have HX2 := Lib.hid (below_chain HX1.out HX1.out.size hb2); clear hb2 hr2)
          | (go_at_call 14; (with_reducible refine (HP1.out _ HX0.out).mono ?_); rintro e x1 ⟨⟨v1, rfl, hr1⟩, hb1⟩; have HR1 := Lib.hid hr1; obtain ⟨A1, c1, rfl, -⟩ := hr1.form; have HX1 := Lib.hid (below_chain HX0.out HX0.out.size hb1); clear hb1 hr1)
          | fail))
      have HFIN := Lib.hid (HB0.out.trans ((HBD2.out.trans (HX10.out.mono HBD2.out.size)).mono HNX.out))
      go_wp2_with fail
      go_ret
      exact ⟨rfl, HFIN.out⟩
    · clear h0
      go_wp2_with fail
      refine (HA.out _).mono ?_
      rintro e w3 ⟨rfl, hb3⟩
      have HB3 := Lib.hid (HB0.out.trans ((HB1.out.trans (hb3.mono HB1.out.size)).mono HNX.out))
      clear hb3
      go_wp2_with fail
      go_ret
      exact ⟨rfl, HB3.out⟩

theorem own : ownKnob Try.prog.godebug = none := by kernel_rfl

set_option maxRecDepth 100000 in
theorem lifted (os : Os) (started : os.Started) (H : Type) (enc : TypeId × Value → H) :
    ReturnsInHanded {} Try.checked os 5 .any (Rows.stabAsksSpec.pre6 enc Try.prog Try.f5 Rows.stabAsksRow.domain false) (Rows.stabAsksSpec.post enc Try.prog Try.f5 false true false false) := by
  refine returnsInHanded_of_change (C := Try.checked) own started (by kernel_rfl) Try.func5
    (ChangeSpec.witness6 (enc := enc) (C := Try.checked) false ⟨#[], #[.slice none 0 0, .agg #[.int .i64 0, .int .i64 0]], []⟩ 8 (by kernel_rfl) (by kernel_rfl) (by kernel_rfl) (by kernel_rfl)) ?_
  intro W base args ds gs before hval0 hW hcnd _
  have hval : ∀ (j : Nat) t v, Try.f5.params[j]? = some t → args[j]? = some v → Value.okWide Try.prog W .any base t v := hval0
  have hW' := hW
  have hplt : ∀ x ∈ before, x.block < W.heap.size := fun x hx => hW.lt x hx
  obtain ⟨p, q, hA0, hV, rfl, hfz, hnd⟩ := hW
  have hA : DataW.TrodAll enc Try.prog W 0 (fun _ => true) true Try.f5.params.toList args.toList ds p := hA0
  rw [Try.params5] at hA hval
  obtain ⟨v0, vs0, d0, ds0, p0, q0, hargs, rfl, rfl, h0, r0⟩ := trodAll_cons hA
  obtain ⟨v1, vs1, d1, ds1, p1, q1, rfl, rfl, rfl, h1, r1⟩ := trodAll_cons r0
  obtain ⟨rfl, rfl, rfl⟩ := trodAll_nil r1
  obtain rfl : args = #[v0, v1] := by cases args; simp_all
  obtain ⟨rfl, rfl⟩ := trodVars_none hV
  obtain ⟨l0, s0, m0, n0⟩ := open_sps (hval 0 22 v0 rfl rfl) h0
  obtain ⟨x1, rfl, m1⟩ := open_sp (hval 1 35 v1 rfl rfl) h1
  clear hA0 hval0
  refine (walk v0 l0 s0 m0 n0 x1 m1).mono fun e W' ⟨he, bel⟩ => ?_
  subst he
  exact ⟨_, rfl, _, _, _, [], _, [], hW', trodAll_mk1 (shut_bool Try.underlying4 _), (trodAll_cons_mk (Below.trod Try.laidOut (by kernel_rfl) (of_decide_eq_true (by kernel_rfl)) h0 bel (fun x hx => hplt x (by simp [hx]))) (trodAll_cons_mk (Below.trod Try.laidOut (by kernel_rfl) (of_decide_eq_true (by kernel_rfl)) h1 bel (fun x hx => hplt x (by simp [hx]))) trodAll_mk0)), rfl, World.keptBut_mono (fun x hx => ⟨hx, Or.inr (by simpa using hx)⟩) (bel.frame (· ∈ _)), fun h => by cases h⟩

theorem over : Rows.stabAsksRow.holds Try.pinned (OpenSpec.ofChange Rows.stabAsksSpec) :=
  OpenClaim.holds_of_wide 5 Try.f5 rfl rfl rfl rfl rfl rfl rfl ⟨rfl, rfl, rfl, rfl, rfl⟩ rfl rfl rfl rfl rfl (by kernel_rfl) Try.func5 (by kernel_rfl)
    (of_decide_eq_true (by kernel_rfl)) (by unfold Func.isWrapper; first | (rw [if_pos (by decide +kernel)]; kernel_rfl) | (rw [if_neg (by decide +kernel)]; exact ⟨rfl, rfl⟩))
    (fun os started H enc _ => lifted os started H enc)

/-- THE STATEMENT. -/
theorem proved : Rows.StabAsksSaid := over
end Go.Proofs.Ytifdencdbpdbfaa.stabAsks
