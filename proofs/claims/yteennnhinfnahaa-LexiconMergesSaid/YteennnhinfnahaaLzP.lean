/-
  WALKS over the statements of package lexicon: SameInts, awake.
-/
import Derived.Test.YteennnhinfnahaaLzN
namespace Go.Proofs.Yteennnhinfnahaa
open Go.RowKit Go.Shelf Go.Lib Go.Sort
set_option linter.unusedVariables false
set_option linter.unusedSimpArgs false

theorem block_rows {W : World} {B n : Nat} {cs : Array Value} (xs : List Int) (h : W.heap[B]? = some (.cells cs 3 (0, 0))) (hc : cs.toList = xs.map fun x => Value.int .i64 x) (hn : xs.length = n) (hm : n ≤ maxLen) : Rows 1 EInt W (.slice (some ⟨B, 0, none⟩) n n) xs := by
  subst hn
  refine own_rows (base := 0) ⟨by simp, .inr ⟨B, xs.length, cs, rfl, Nat.zero_le _, h, Nat.le_refl _, hm, ?_, ?_⟩⟩
  · rw [← Array.length_toList, hc]; simp
  · rw [hc, List.take_of_length_le (by simp)]

set_option maxRecDepth 100000 in
set_option maxHeartbeats 4000000 in
theorem sameInts_any {w : World} {v u : Value} {h g : List Int} (hv : Rows 1 EInt w v h) (hu : Rows 1 EInt w u g) (hl : h.length ≤ maxLen) (hl2 : g.length ≤ maxLen) :
    Calls Try.prog 7 #[v, u] w fun e w' => e = .returned (.bool (decide (h = g))) ∧ Below w.heap.size w w' := by
  obtain ⟨A, cap, rfl, hc⟩ := hv.form
  obtain ⟨A2, cap2, rfl, hc2⟩ := hu.form
  obtain ⟨n, hn⟩ : ∃ n, h.length = n := ⟨_, rfl⟩
  obtain ⟨n2, hn2⟩ : ∃ n, g.length = n := ⟨_, rfl⟩
  obtain ⟨q, hq⟩ : ∃ q, decide (h = g) = q := ⟨_, rfl⟩
  have hqq : q = true ↔ h = g := by rw [← hq, decide_eq_true_iff]
  rw [hq]
  have HV := Lib.hid (fun W (hb : Below w.heap.size w W) => hv.below stays_int hb)
  have HU := Lib.hid (fun W (hb : Below w.heap.size w W) => hu.below stays_int hb)
  have HQ := Lib.hid hqq
  rw [hn] at hc hl HV ⊢
  rw [hn2] at hc2 hl2 HU ⊢
  unfold maxLen at hl hl2
  have HN := Lib.hid hn
  have HN2 := Lib.hid hn2
  clear hv hu hn hn2 hq hqq
  by_cases hnn : n = n2
  · subst hnn
    go_enter Try.func7, Try.ntmps7
    go_wp2_with fail
    go_loopw [13] (fun m wr => ∃ k : Nat, k ≤ n ∧ m = .int .i64 k ∧ Hid (∀ (j : Nat), j < k → h[j]? = g[j]?) ∧ Below w.heap.size w wr) (fun m _ => n - (Go.RowKit.intOf m).toNat)
    case atStart => exact ⟨0, Nat.zero_le _, rfl, Lib.hid (fun j h => absurd h (by omega)), Below.refl _ _⟩
    case round =>
      obtain ⟨k, hk, rfl, hno, hb⟩ := hrel
      by_cases hlt : k < n
      · obtain ⟨x, hx⟩ : ∃ x, h[k]? = some x := ⟨_, List.getElem?_eq_getElem (by rw [HN.out]; exact hlt)⟩
        obtain ⟨y, hy⟩ : ∃ x, g[k]? = some x := ⟨_, List.getElem?_eq_getElem (by rw [HN2.out]; exact hlt)⟩
        obtain ⟨b1, o1, rfl, -, hj1⟩ := at_int (HV.out wr hb) (by rw [HN.out]; omega)
        obtain ⟨b2, o2, rfl, -, hj2⟩ := at_int (HU.out wr hb) (by rw [HN2.out]; omega)
        have u0 := hj1 k x hx
        have u1 := hj2 k y hy
        have HB := Lib.hid hb
        have HX := Lib.hid hx
        have HY := Lib.hid hy
        have k0 : (0 : Int) ≤ (k : Int) := by omega
        have kn : (k : Int) < (n : Int) := by omega
        clear hj1 hj2 hx hy hb
        go_wp2_with fail
        go_quiet (fail)
        obtain ⟨w3, hw3⟩ : ∃ X, wr.drewN nq = X := ⟨_, rfl⟩
        rw [hw3]
        have HB3 := Lib.hid (show Below w.heap.size w w3 by rw [← hw3]; exact below_drewN HB.out nq)
        clear hw3
        by_cases hxy : x = y
        · subst hxy
          have hno' : Hid (∀ (j : Nat), j < k + 1 → h[j]? = g[j]?) := Lib.hid fun j hj => by
            by_cases e : j = k
            · subst e; rw [HX.out, HY.out]
            · exact hno.out j (by omega)
          have hxb : (x != x) = false := by simp
          go_wp2_with fail
          exact ⟨⟨k + 1, by omega, by go_num, hno', HB3.out⟩, by simp only [Go.RowKit.intOf]; omega⟩
        · have hqf : q = false := by
            rw [← Bool.not_eq_true]
            intro hq
            have := HQ.out.1 hq
            subst this
            rw [HX.out] at HY
            exact hxy (Option.some.inj HY.out)
          subst hqf
          have hxb : (x != y) = true := by simp [hxy]
          go_wp2_with fail
          go_ret
          exact ⟨rfl, HB3.out⟩
      · obtain rfl : k = n := by omega
        have hqt : q = true := HQ.out.2 (List.ext_getElem? fun j => by
          by_cases hj : j < k
          · exact hno.out j hj
          · rw [List.getElem?_eq_none (by rw [HN.out]; omega), List.getElem?_eq_none (by rw [HN2.out]; omega)])
        subst hqt
        have HB := Lib.hid hb
        clear hb
        go_wp2_with fail
        go_ret
        exact ⟨rfl, HB.out⟩
  · have hqf : q = false := by
      rw [← Bool.not_eq_true]
      intro hq
      have := HQ.out.1 hq
      exact hnn (by rw [← HN.out, ← HN2.out, this])
    subst hqf
    have hb : ((n : Int) != (n2 : Int)) = true := by simp; omega
    go_enter Try.func7, Try.ntmps7
    go_wp2_with fail
    go_ret
    exact ⟨rfl, Below.refl _ _⟩

/-! ### the example -/
def exW : List Wd := [[98], [97], [97, 98], [97]]
theorem ex_e : buildE exW = 0 := by decide +kernel
theorem ex_ws : lexW exW = [[97], [97, 98], [98]] := by decide +kernel
theorem ex_cs : cntW exW (lexW exW) = [2, 1, 1] := by decide +kernel
theorem ex_num : numW exW = [2, 0, 1, 0] := by decide +kernel
theorem ex_pre : preP (lexW exW) [97] = (0, 2) := by decide +kernel
theorem ex_rev : ordK (kyL (lexW exW)) (lexW exW).length = [0, 2, 1] := by decide +kernel
theorem ex_suf : sufL (lexW exW) [98] [0, 2, 1] = [2, 1] := by decide +kernel
theorem ex_cnt : countP [2, 1, 1] 0 = 2 := by decide +kernel

def AwakeV (w : World) (e : Ending) (w' : World) : Prop := e = .returned (.bool true) ∧ Below w.heap.size w w'
set_option maxRecDepth 100000 in
set_option maxHeartbeats 4000000 in
theorem awake_any (w : World) : Calls Try.prog 11 #[] w (AwakeV w) := by
  have hb0 := block_new w (.cells #[.string ⟨#[98]⟩, .string ⟨#[97]⟩, .string ⟨#[97, 98]⟩, .string ⟨#[97]⟩] 9)
  have hr0 := rows_str (W := w.alloc (.cells #[.string ⟨#[98]⟩, .string ⟨#[97]⟩, .string ⟨#[97, 98]⟩, .string ⟨#[97]⟩] 9)) (b := w.heap.size) (n := 4) (cap := 4) (l := exW) (t := 9) (f := (0, 0)) rfl (Nat.le_refl _) hb0
  have HBU := Lib.hid (build_any hr0 (by unfold maxLen; decide) (by unfold maxLen; decide))
  have HB0 := Lib.hid (below_box w (.cells #[.string ⟨#[98]⟩, .string ⟨#[97]⟩, .string ⟨#[97, 98]⟩, .string ⟨#[97]⟩] 9))
  have HSAME := Lib.hid (fun (W : World) (v : Value) (l : List Int) (cs : Array Value) (m : Nat) (hv : Rows 1 EInt W v l) (hl : l.length = m) (hm : m ≤ 100) (hc : cs.toList = l.map fun x => Value.int .i64 x) => (show Calls Try.prog 7 #[v, .slice (some ⟨W.heap.size, 0, none⟩) m m] (W.alloc (.cells cs 3)) (fun e w' => e = .returned (.bool true) ∧ Below W.heap.size W w') by
    have h1 := hv.below stays_int (below_box W (.cells cs 3))
    have h2 := block_rows l (block_new W (.cells cs 3)) hc hl (by unfold maxLen; omega)
    refine (sameInts_any h1 h2 (by unfold maxLen; omega) (by unfold maxLen; omega)).mono ?_
    rintro e w' ⟨rfl, hb⟩
    exact ⟨by rw [decide_eq_true rfl], (below_box W _).trans (hb.mono (by simp))⟩))
  clear hb0 hr0
  go_enter Try.func11, Try.ntmps11
  go_wp2_with fail
  refine HBU.out.mono ?_
  rintro e w1 ⟨hb1, (⟨hne, _⟩ | ⟨_, p, v, rfl, hL, hr⟩)⟩
  · exact absurd ex_e hne
  rw [ex_num] at hr
  rw [ex_cs, ex_ws] at hL
  have HL := Lib.hid hL
  have HB1 := Lib.hid (show Below w.heap.size w w1 from HB0.out.trans (hb1.mono (by simp)))
  have HS1 := Lib.hid (HSAME.out w1 v [2, 0, 1, 0] #[.int .i64 2, .int .i64 0, .int .i64 1, .int .i64 0] 4 hr rfl (by omega) rfl)
  obtain ⟨A, cap, rfl, -⟩ := hr.form
  clear hb1 hr hL HBU
  go_wp2_with fail
  refine HS1.out.mono ?_
  rintro e w2 ⟨rfl, hb2⟩
  have HL2 := Lib.hid (HL.out.below hb2)
  have HB2 := Lib.hid (show Below w.heap.size w w2 from HB1.out.trans (hb2.mono HB1.out.size))
  have HP := Lib.hid (prefix_any HL2.out [97])
  rw [show PreV w2 [[97], [97, 98], [98]] [97] = fun e w' => e = .returned (.tuple #[.int .i64 0, .int .i64 2]) ∧ Below w2.heap.size w2 w' from by
    have := ex_pre
    rw [ex_ws] at this
    funext e w'
    unfold PreV
    rw [this]
    rfl] at HP
  clear hb2 HS1 HL
  go_wp2_with fail
  refine HP.out.mono ?_
  rintro e w3 ⟨rfl, hb3⟩
  have HL3 := Lib.hid (HL2.out.below hb3)
  have HB3 := Lib.hid (show Below w.heap.size w w3 from HB2.out.trans (hb3.mono HB2.out.size))
  have HBR := Lib.hid (byReverse_any HL3.out)
  have HORD : Hid (ordK (kyL [[97], [97, 98], [98]]) ([[97], [97, 98], [98]] : List Wd).length = [0, 2, 1]) := Lib.hid (by have := ex_rev; rw [ex_ws] at this; exact this)
  rw [HORD.out] at HBR
  clear hb3 HP HL2
  go_wp2_with fail
  refine HBR.out.mono ?_
  rintro e w4 ⟨v4, rfl, hr4, hb4⟩
  have HL4 := Lib.hid (HL3.out.below hb4)
  have HB4 := Lib.hid (show Below w.heap.size w w4 from HB3.out.trans (hb4.mono HB3.out.size))
  have HS4 := Lib.hid (HSAME.out w4 v4 [0, 2, 1] #[.int .i64 0, .int .i64 2, .int .i64 1] 3 hr4 rfl (by omega) rfl)
  obtain ⟨A4, cap4, rfl, -⟩ := hr4.form
  clear hb4 hr4 HBR HL3
  go_wp2_with fail
  refine HS4.out.mono ?_
  rintro e w5 ⟨rfl, hb5⟩
  have HL5 := Lib.hid (HL4.out.below hb5)
  have HB5 := Lib.hid (show Below w.heap.size w w5 from HB4.out.trans (hb5.mono HB4.out.size))
  have HSU := Lib.hid (suffix_any HL5.out [98])
  rw [HORD.out, show sufL [[97], [97, 98], [98]] [98] [0, 2, 1] = [2, 1] from by have := ex_suf; rw [ex_ws] at this; exact this] at HSU
  clear hb5 HS4 HL4
  go_wp2_with fail
  refine HSU.out.mono ?_
  rintro e w6 ⟨v6, rfl, hr6, hb6⟩
  have HL6 := Lib.hid (HL5.out.below hb6)
  have HB6 := Lib.hid (show Below w.heap.size w w6 from HB5.out.trans (hb6.mono HB5.out.size))
  have HS6 := Lib.hid (HSAME.out w6 v6 [2, 1] #[.int .i64 2, .int .i64 1] 2 hr6 rfl (by omega) rfl)
  obtain ⟨A6, cap6, rfl, -⟩ := hr6.form
  clear hb6 hr6 HSU HL5 HORD
  go_wp2_with fail
  refine HS6.out.mono ?_
  rintro e w7 ⟨rfl, hb7⟩
  have HCN := Lib.hid (count_any' (HL6.out.below hb7) 0)
  rw [ex_cnt] at HCN
  have HB7 := Lib.hid (show Below w.heap.size w w7 from HB6.out.trans (hb7.mono HB6.out.size))
  clear hb7 HS6 HL6
  go_wp2_with fail
  refine HCN.out.mono ?_
  rintro e w8 ⟨rfl, rfl⟩
  go_wp2_with fail
  go_ret
  exact ⟨rfl, HB7.out⟩
end Go.Proofs.Yteennnhinfnahaa
