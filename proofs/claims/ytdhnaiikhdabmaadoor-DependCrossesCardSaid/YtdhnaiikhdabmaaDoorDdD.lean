/-
  DependCrosses is proved: for every list of numbers the call of the law returns true, and each argument reads afterwards as it read before. The package-level variables that the row lists hold what the program's text lays in them: this is tied to the text.
-/
import Derived.Test.YtdhnaiikhdabmaaDoorRows
import Derived.Test.YtdhnaiikhdabmaaDoorCards
import Derived.Test.YtdhnaiikhdabmaaDoorTie
import Derived.Test.YtdhnaiikhdabmaaDoorDcL
import Derived.Test.YtdhnaiikhdabmaaDoorDcE
import Derived.ProofKit
import Derived.OpenShut
import Derived.Carry
import Derived.SevenTiedAt
import Derived.LaidMore
import Derived.Stop.Joined
namespace Go.Proofs.YtdhnaiikhdabmaaDoor.dependCrosses
open Go.ChangeShapes Go.WideShapes Go.ChangeAt Go.RowKit Go.Shelf Go.Lib
set_option linter.unusedVariables false

/-- The heads turned around, as far as k of them have been. -/
def trS (h : List Int) (k : Nat) : List Int := List.replicate (h.length - k) 0 ++ ((h.take k).map (turnX h.length)).reverse
theorem trS_zero (h : List Int) : trS h 0 = List.replicate h.length 0 := by simp [trS]
theorem trS_all (h : List Int) : trS h h.length = turnH h := by simp [trS, turnH]
theorem trS_step {h : List Int} {k r : Nat} {x : Int} (hx : h[k]? = some x) (hr : r + 1 + k = h.length) : (trS h k).set r (turnX h.length x) = trS h (k + 1) := by
  unfold trS
  have h1 : h.take (k + 1) = h.take k ++ [x] := by
    rw [List.take_add_one, hx]; rfl
  have h2 : h.length - k = r + 1 := by omega
  have h3 : h.length - (k + 1) = r := by omega
  rw [h1, h2, h3, List.map_append, List.reverse_append, List.replicate_succ', List.append_assoc, List.set_append_right _ _ (by simp)]
  simp
theorem trS_len {h : List Int} {k : Nat} (hk : k ≤ h.length) : (trS h k).length = h.length := by
  simp [trS]; omega
theorem dst_set {w W : World} {N : Nat} {ds : List Int} (h : DSt w W N ds) (hN : w.heap.size ≤ N) (i : Nat) (x : Int) : DSt w (W.setCell ⟨N, i, none⟩ (.int .i64 x)) N (ds.set i x) :=
  ⟨h.below.setCell (p := ⟨N, i, none⟩) hN _, by rw [← intRow_set]; exact set_of h.d _⟩
theorem turnX_root (n : Nat) : turnX n (-1) = -1 := rfl
theorem turnX_nat (n j : Nat) : turnX n (j : Int) = (n : Int) - 1 - j := by unfold turnX; rw [if_pos (by omega)]
theorem row_cell {W : World} {M n r : Nat} {ds : List Int} (h : W.heap[M]? = some (.cells (intRow ds) 3 (0, 0))) (hr : r < ds.length) : W.cell? ⟨M, r, none⟩ = some (.int .i64 (ds.getD r 0)) := cell_of h (intRow_get hr)
set_option maxRecDepth 100000 in
set_option maxHeartbeats 8000000 in
theorem walk {w : World} (v : Value) (h : List Int) (hv : Rows 1 EInt w v h) (hl : h.length ≤ maxLen) (_ : ∀ x ∈ h, -9223372036854775808 ≤ x ∧ x ≤ 9223372036854775807) (hE : ErrAt w) :
    Calls Tryd.prog 8 #[v] w fun e w1 => e = .returned (.bool true) ∧ Below w.heap.size w w1 := by
  have HC := Lib.hid (check_any hv hl)
  have HP := Lib.hid (fun (W : World) (hb : Below w.heap.size w W) => projective_any (hv.below stays_int hb) hl)
  have HA := Lib.hid (fun (W : World) (hb : Below w.heap.size w W) => awake_any (w := W) (ErrAt.same hE (hb.block _ hE.lt)))
  have HV := Lib.hid (fun W (hb : Below w.heap.size w W) => hv.below stays_int hb)
  have hok := okh_iff (h := h)
  have hokd : okH h = true ↔ (checkH h).2 = 0 := by unfold okH; exact decide_eq_true_iff
  obtain ⟨⟨r1, r2⟩, hr⟩ : ∃ r, checkH h = r := ⟨_, rfl⟩
  rw [hr] at HC hokd
  simp only at hokd
  obtain ⟨A, cap, rfl, hc⟩ := hv.form
  obtain ⟨n, hn⟩ : ∃ n, h.length = n := ⟨_, rfl⟩
  rw [hn] at HC HP HV hl hc ⊢
  unfold maxLen at hl
  have HN := Lib.hid hn
  clear hr hv hc hn hE
  by_cases hn : 30 < n
  · clear hok hokd HV HP
    go_enter Tryd.func8, Tryd.ntmps8
    go_wp2_with fail
    refine HC.out.mono ?_
    rintro e w1 ⟨rfl, hb1⟩
    have HB1 := Lib.hid hb1
    clear hb1
    go_wp2_with fail
    go_ret
    exact ⟨rfl, HB1.out⟩
  by_cases hz : r2 = 0
  · have hO : Okh h := hok.1 (hokd.2 hz)
    subst hz
    have HO := Lib.hid hO
    have HTU := Lib.hid (turn_proj hO)
    obtain ⟨i1, hi1, hy0, hy1, hy2⟩ := info_parts' Tryd.infoInt2
    have hmk : ∀ W : World, (Instr.makeSlice 22 (.int .i64 n) (.int .i64 n)).run Tryd.prog W = .ok (.slice (some ⟨W.heap.size, 0, none⟩) n n) (W.alloc (.cells (intRow (List.replicate n 0)) 3)) := fun W => by
      have := run_make (P := Tryd.prog) W 22 3 i1 _ Tryd.underlying22 hi1 hy0 .i64 .i64 n n (by omega) (by omega) (by rw [hy2]; omega) (by omega)
      rw [Int.toNat_natCast, hy1, Nat.mul_one] at this
      rw [← made_int]
      exact this
    clear hok hokd hO
    go_enter Tryd.func8, Tryd.ntmps8
    go_wp2_with fail
    refine HC.out.mono ?_
    rintro e w1 ⟨rfl, hb1⟩
    have HB1 := Lib.hid hb1
    clear hb1
    go_wp2_with fail
    obtain ⟨M, hM⟩ : ∃ M, w1.heap.size = M := ⟨_, rfl⟩
    have HM := Lib.hid hM
    have hst0 : DSt w (w1.alloc (.cells (intRow (List.replicate n 0)) 3)) M (trS h 0) := by
      have b1 := block_new w1 (.cells (intRow (List.replicate n 0)) 3)
      rw [hM] at b1
      rw [trS_zero, HN.out]
      exact ⟨HB1.out.trans ((below_box w1 _).mono HB1.out.size), b1⟩
    have HST0 := Lib.hid hst0
    have HSZ := Lib.hid (show w.heap.size ≤ M by rw [← hM]; exact HB1.out.size)
    rw [hM]
    clear hst0 hmk hM
    go_loopw [31] (fun sv wr => ∃ k : Nat, k ≤ n ∧ sv = .int .i64 k ∧ Hid (DSt w wr M (trS h k))) (fun sv _ => n - (Go.RowKit.intOf sv).toNat)
    case atStart => exact ⟨0, Nat.zero_le _, rfl, HST0⟩
    case round =>
      clear HST0
      obtain ⟨k, hk, rfl, HS⟩ := hrel
      by_cases hlt : k < n
      · obtain ⟨x, hx⟩ : ∃ x, h[k]? = some x := ⟨_, List.getElem?_eq_getElem (by rw [HN.out]; exact hlt)⟩
        obtain ⟨b1, o1, rfl, hbl, hj1⟩ := at_int (HV.out _ HS.out.1) (by rw [HN.out]; omega)
        have u0 := hj1 k x hx
        have k0 : (0 : Int) ≤ (k : Int) := by omega
        have kn : (k : Int) < (n : Int) := by omega
        obtain ⟨r, hr⟩ : ∃ r, r + 1 + k = n := ⟨n - 1 - k, by omega⟩
        have hw1 : IntKind.i64.wrap ((n : Int) - 1) = (n : Int) - 1 := by rw [IntKind.wrap_i64]; omega
        have hw2 : IntKind.i64.wrap ((n : Int) - 1 - (k : Int)) = (r : Int) := by rw [IntKind.wrap_i64]; omega
        have hw3 : (n : Int) - 1 - (k : Int) = (r : Int) := by omega
        have rn : (r : Int) < (n : Int) := by omega
        have HST := Lib.hid (trS_step hx (by rw [HN.out]; exact hr))
        have HRK := Lib.hid hr
        have hrl : r < (trS h k).length := by rw [trS_len (by rw [HN.out]; omega), HN.out]; omega
        have c0 := row_cell (n := n) HS.out.d hrl
        have f0 : wr.frozen? ⟨M, r, none⟩ = false := frozen_of HS.out.d
        obtain ⟨y0, hy0⟩ : ∃ y, (trS h k).getD r 0 = y := ⟨_, rfl⟩
        rw [hy0] at c0
        rw [HN.out] at HST
        have HR := Lib.hid (And.intro hrl hr)
        rcases HO.out.at (i := k) (by rw [HN.out]; exact hlt) with ⟨h3, _⟩ | ⟨j, h3, h4, _⟩
        · obtain rfl : x = -1 := by rw [h3] at hx; exact (Option.some.inj hx).symm
          rw [turnX_root] at HST
          clear hj1 hx hr hlt h3 hrl hy0
          go_wp2_with fail
          exact ⟨⟨k + 1, by have := HR.out; omega, by go_num, Lib.hid (HST.out ▸ dst_set HS.out HSZ.out r (-1))⟩, by simp only [Go.RowKit.intOf]; have := HR.out; omega⟩
        · obtain rfl : x = (j : Int) := by rw [h3] at hx; exact (Option.some.inj hx).symm
          rw [turnX_nat] at HST
          have hjn : j < n := by rw [← HN.out]; exact h4
          have hj0 : ¬ (j : Int) < 0 := by omega
          have hj2 : (j : Int) ≥ 0 := by omega
          have hw4 : IntKind.i64.wrap ((n : Int) - 1 - (j : Int)) = (n : Int) - 1 - (j : Int) := by rw [IntKind.wrap_i64]; omega
          clear hj1 hx hr hlt h3 h4 hrl hy0
          go_wp2_with fail
          refine ⟨⟨k + 1, by have := HR.out; omega, by go_num, Lib.hid ?_⟩, by simp only [Go.RowKit.intOf]; have := HR.out; omega⟩
          have h5 := dst_set (dst_set HS.out HSZ.out r (-1)) HSZ.out r ((n : Int) - 1 - (j : Int))
          rw [List.set_set, HST.out] at h5
          exact h5
      · obtain rfl : k = n := by omega
        have hst := HS.out
        rw [show trS h k = turnH h by rw [← HN.out]; exact trS_all h] at hst
        have hrw : Rows 1 EInt wr (.slice (some ⟨M, 0, none⟩) k k) (turnH h) := block_rows (turnH h) hst.d (by simp [intRow]) (by rw [turn_len, HN.out]) (by unfold maxLen; omega)
        have hbT : Below w.heap.size w wr := hst.below
        obtain ⟨q, hq⟩ : ∃ q, projH h = q := ⟨_, rfl⟩
        rw [hq] at HP HTU
        have HPT := Lib.hid (fun (W : World) (hb : Below wr.heap.size wr W) => projective_any (hrw.below stays_int hb) (by rw [turn_len, HN.out]; exact hl))
        rw [HTU.out] at HPT
        have HB2 := Lib.hid hbT
        have HQ := Lib.hid hq
        clear hst hrw hbT hq HS
        go_wp2_with fail
        refine (HP.out wr HB2.out).mono ?_
        rintro e w3 ⟨rfl, hb3⟩
        have HB3 := Lib.hid (HB2.out.trans (hb3.mono HB2.out.size))
        have HPT3 := Lib.hid (HPT.out w3 hb3)
        clear hb3 HPT HP
        go_wp2_with fail
        refine HPT3.out.mono ?_
        rintro e w4 ⟨rfl, hb4⟩
        have HB4 := Lib.hid (HB3.out.trans (hb4.mono HB3.out.size))
        clear hb4 HPT3
        have hqq : (q != q) = false := by simp
        go_wp2_with fail
        go_loopw [63] (fun sv wr => ∃ i : Nat, i ≤ k ∧ sv = .int .i64 i ∧ Hid (Below w.heap.size w wr)) (fun sv _ => k - (Go.RowKit.intOf sv).toNat)
        case atStart => exact ⟨0, Nat.zero_le _, rfl, HB4⟩
        case round =>
          clear HB4
          obtain ⟨i, hi, rfl, HB⟩ := hrel
          by_cases hlt : i < k
          · obtain ⟨x, hx⟩ : ∃ x, h[i]? = some x := ⟨_, List.getElem?_eq_getElem (by rw [HN.out]; exact hlt)⟩
            obtain ⟨b1, o1, rfl, hbl, hj1⟩ := at_int (HV.out _ HB.out) (by rw [HN.out]; omega)
            have u0 := hj1 i x hx
            have i0 : (0 : Int) ≤ (i : Int) := by omega
            have ik : (i : Int) < (k : Int) := by omega
            have HX := Lib.hid hx
            clear hj1 hx
            go_wp2_with fail
            go_loopw [70] (fun sv wr => ∃ j : Nat, j ≤ k ∧ sv = .int .i64 j ∧ Hid (Below w.heap.size w wr)) (fun sv _ => k - (Go.RowKit.intOf sv).toNat)
            case atStart => exact ⟨0, Nat.zero_le _, rfl, HB⟩
            case round =>
              clear HB u0
              obtain ⟨j, hj, rfl, HB⟩ := hrel
              by_cases hlt2 : j < k
              · obtain ⟨y, hy⟩ : ∃ x, h[j]? = some x := ⟨_, List.getElem?_eq_getElem (by rw [HN.out]; exact hlt2)⟩
                obtain ⟨_, _, he1, hbl1, hj1⟩ := at_int (HV.out _ HB.out) (by rw [HN.out]; omega)
                cases he1
                have v0 := hj1 j y hy
                have j0 : (0 : Int) ≤ (j : Int) := by omega
                have jk : (j : Int) < (k : Int) := by omega
                have HY := Lib.hid hy
                clear hj1 hy
                cases q with
                | false =>
                  go_wp2_with fail
                  exact ⟨⟨j + 1, by omega, by go_num, HB⟩, by simp only [Go.RowKit.intOf]; omega⟩
                | true =>
                  by_cases hx0 : x < 0
                  · have hx1 : ¬ x ≥ 0 := by omega
                    go_wp2_with fail
                    exact ⟨⟨j + 1, by omega, by go_num, HB⟩, by simp only [Go.RowKit.intOf]; omega⟩
                  · have hx1 : x ≥ 0 := by omega
                    by_cases hyy : y < 0
                    · have hy1 : ¬ y ≥ 0 := by omega
                      go_wp2_with fail
                      exact ⟨⟨j + 1, by omega, by go_num, HB⟩, by simp only [Go.RowKit.intOf]; omega⟩
                    · have hy1 : y ≥ 0 := by omega
                      obtain ⟨m1, hm1⟩ : ∃ m, min (i : Int) x = m := ⟨_, rfl⟩
                      obtain ⟨m2, hm2⟩ : ∃ m, min (j : Int) y = m := ⟨_, rfl⟩
                      obtain ⟨m3, hm3⟩ : ∃ m, max (i : Int) x = m := ⟨_, rfl⟩
                      obtain ⟨m4, hm4⟩ : ∃ m, max (j : Int) y = m := ⟨_, rfl⟩
                      have hnc : ¬ (m1 < m2 ∧ m2 < m3 ∧ m3 < m4) := by
                        intro hc
                        obtain ⟨a, rfl⟩ : ∃ a : Nat, x = (a : Int) := ⟨x.toNat, by omega⟩
                        obtain ⟨b, rfl⟩ : ∃ b : Nat, y = (b : Int) := ⟨y.toNat, by omega⟩
                        have hP := (projH_iff.1 HQ.out).2
                        have s1 : stN h i = some a := by
                          rcases HO.out.at (i := i) (by rw [HN.out]; omega) with ⟨h3, _⟩ | ⟨c, h3, h4, h5⟩
                          · rw [h3] at HX; have := Option.some.inj HX.out; omega
                          · rw [h3] at HX; have := Option.some.inj HX.out; rw [h5]; congr 1; omega
                        have s2 : stN h j = some b := by
                          rcases HO.out.at (i := j) (by rw [HN.out]; omega) with ⟨h3, _⟩ | ⟨c, h3, h4, h5⟩
                          · rw [h3] at HY; have := Option.some.inj HY.out; omega
                          · rw [h3] at HY; have := Option.some.inj HY.out; rw [h5]; congr 1; omega
                        exact no_cross HO.out hP s1 s2 (by omega)
                      by_cases c1 : m1 < m2
                      · by_cases c2 : m2 < m3
                        · have c3 : ¬ m3 < m4 := fun h => hnc ⟨c1, c2, h⟩
                          clear hnc
                          go_wp2_with fail
                          exact ⟨⟨j + 1, by omega, by go_num, HB⟩, by simp only [Go.RowKit.intOf]; omega⟩
                        · clear hnc
                          go_wp2_with fail
                          exact ⟨⟨j + 1, by omega, by go_num, HB⟩, by simp only [Go.RowKit.intOf]; omega⟩
                      · clear hnc
                        go_wp2_with fail
                        exact ⟨⟨j + 1, by omega, by go_num, HB⟩, by simp only [Go.RowKit.intOf]; omega⟩
              · obtain rfl : j = k := by omega
                go_wp2_with fail
                exact ⟨⟨i + 1, by omega, by go_num, HB⟩, by simp only [Go.RowKit.intOf]; omega⟩
          · obtain rfl : i = k := by omega
            go_wp2_with fail
            refine (HA.out _ HB.out).mono ?_
            rintro e w5 ⟨rfl, hb5⟩
            have HB5 := Lib.hid (HB.out.trans (hb5.mono HB.out.size))
            clear hb5
            go_wp2_with fail
            go_ret
            exact ⟨rfl, HB5.out⟩
  · have hz2 : (r2 != 0) = true := by simp [hz]
    have hn30 : ¬ ((n : Int) > 30) := by omega
    clear hok hokd HV HP
    go_enter Tryd.func8, Tryd.ntmps8
    go_wp2_with fail
    refine HC.out.mono ?_
    rintro e w1 ⟨rfl, hb1⟩
    have HB1 := Lib.hid hb1
    clear hb1
    go_wp2_with fail
    go_ret
    exact ⟨rfl, HB1.out⟩

theorem own : ownKnob Tryd.prog.godebug = none := by kernel_rfl

set_option maxRecDepth 100000 in
theorem lifted (os : Os) (started : os.Started) (H : Type) (enc : TypeId × Value → H) :
    ReturnsInHanded {} Tryd.checked os 8 .any (fun w args => (Rows.dependCrossesSpec.pre enc Tryd.prog Tryd.f8 [] false w args ∧ laidMetH Tryd.prog Rows.dependCrossesRow.laid w) ∧ sizedMet enc Tryd.prog Tryd.f8 (OpenSpec.ofChange Rows.dependCrossesSpec) false w args)
      (Rows.dependCrossesSpec.post enc Tryd.prog Tryd.f8 false true false false) := by
  refine returnsInHanded_of_change_and (C := Tryd.checked) (X := fun w _ => laidMetH Tryd.prog Rows.dependCrossesRow.laid w) (fun _ _ _ hh h => h.of_heap hh) own started (by kernel_rfl) Tryd.func8
    (ChangeSpec.witness_shaped (enc := enc) (C := Tryd.checked) (os := os) (X := fun w _ => laidMetH Tryd.prog Rows.dependCrossesRow.laid w) false (World.laidAll Tryd.prog os laidAll) #[.slice none 0 0] 8 (World.laidAll_os _ _ _) (all_shaped os) (by kernel_rfl) (by kernel_rfl) (by kernel_rfl) (all_met os _)) ?_
  intro W base args ds gs before hval0 hW _ _ hL _
  have hval : ∀ (j : Nat) t v, Tryd.f8.params[j]? = some t → args[j]? = some v → Value.okWide Tryd.prog W .any base t v := hval0
  have hW' := hW
  have hplt : ∀ x ∈ before, x.block < W.heap.size := fun x hx => hW.lt x hx
  obtain ⟨p, q, hA0, hV, rfl, hfz, hnd⟩ := hW
  have hA : DataW.TrodAll enc Tryd.prog W 0 (fun _ => true) true Tryd.f8.params.toList args.toList ds p := hA0
  rw [Tryd.params8] at hA hval
  obtain ⟨v0, vs0, d0, ds0, p0, q0, hargs, rfl, rfl, h0, r0⟩ := trodAll_cons hA
  obtain ⟨rfl, rfl, rfl⟩ := trodAll_nil r0
  obtain rfl : args = #[v0] := by cases args; simp_all
  obtain ⟨rfl, rfl⟩ := trodVars_none hV
  obtain ⟨l0, s0, m0, n0⟩ := open_rowI (hval 0 22 v0 rfl rfl) h0
  clear hA0 hval0
  refine (walk v0 l0 s0 m0 n0 (err_of_laid hL)).mono fun e W' ⟨he, bel⟩ => ?_
  subst he
  exact ⟨_, rfl, _, _, _, [], _, [], hW', trodAll_mk1 (shut_bool Tryd.underlying4 _), (trodAll_cons_mk (Below.trod Tryd.laidOut (by kernel_rfl) (of_decide_eq_true (by kernel_rfl)) h0 bel (fun x hx => hplt x (by simp [hx]))) trodAll_mk0), rfl, World.keptBut_mono (fun x hx => ⟨hx, Or.inr (by simpa using hx)⟩) (bel.frame (· ∈ _)), fun h => by cases h⟩

theorem over : Rows.dependCrossesRow.holds Tryd.pinned (OpenSpec.ofChange Rows.dependCrossesSpec) :=
  OpenClaim.holds_of_wide 8 Tryd.f8 rfl rfl rfl rfl rfl rfl rfl ⟨rfl, rfl, rfl, rfl, rfl⟩ rfl rfl rfl rfl rfl (by kernel_rfl) Tryd.func8 (by kernel_rfl)
    (of_decide_eq_true (by kernel_rfl)) (by unfold Func.isWrapper; first | (rw [if_pos (by decide +kernel)]; kernel_rfl) | (rw [if_neg (by decide +kernel)]; exact ⟨rfl, rfl⟩))
    (fun os started H enc _ => lifted os started H enc)

/-- THE STATEMENT: the tied card. -/
theorem proved : Rows.DependCrossesCardSaid :=
  Claim7.holds_tied_plain_at .later [] Rows.dependCrossesCard.laidKinds true Rows.dependCrossesCard.stood.harness Rows.dependCrossesCard.stood.looks
    over (fun _ h => by cases h) (by kernel_rfl) (fun _ h => by cases h) dependCrosses_row_tie rfl ⟨rfl, rfl⟩ (by kernel_rfl) rfl
    (fun f fn hf hfn => by
      obtain rfl : f = 8 := Option.some.inj ((show Tryd.prog.funcNamed "corpora/corporalaw09.DependCrosses" = some 8 by kernel_rfl).symm.trans hf) |>.symm
      obtain rfl : fn = Tryd.f8 := (Option.some.inj (Tryd.func8.symm.trans hfn)).symm
      exact ⟨by kernel_rfl, fun j t ht => by
        rw [Tryd.params8] at ht
        have hm : t ∈ [22] := by simpa using Array.mem_of_getElem? ht
        have hall : ([22].all fun u => !Tryd.prog.wantsStandIn u) = true := by kernel_rfl
        exact (show Tryd.prog.wantsStandIn t = false by simpa using List.all_eq_true.1 hall t hm)⟩)
    (by kernel_rfl)
end Go.Proofs.YtdhnaiikhdabmaaDoor.dependCrosses
