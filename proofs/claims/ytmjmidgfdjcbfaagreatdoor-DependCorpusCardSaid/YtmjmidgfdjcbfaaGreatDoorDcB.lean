/-
  WALKS over the laws' sanity check: SameInts of the reference, awake.
-/
import Derived.Test.YtmjmidgfdjcbfaaGreatDoorDbH
import Derived.Test.YtmjmidgfdjcbfaaGreatDoorDzE
namespace Go.Proofs.YtmjmidgfdjcbfaaGreatDoor.Dep
open Go Go.RowKit Go.Shelf Go.Lib
set_option linter.unusedVariables false
attribute [local go_sem] Oper.semAt_some

theorem block_rows {W : World} {B n : Nat} {cs : Array Value} (xs : List Int) (h : W.heap[B]? = some (.cells cs 3 (0, 0))) (hc : cs.toList = xs.map fun x => Value.int .i64 x) (hn : xs.length = n) (hm : n ≤ maxLen) : Rows 1 EInt W (.slice (some ⟨B, 0, none⟩) n n) xs := by
  subst hn
  refine own_rows (base := 0) ⟨by simp, .inr ⟨B, xs.length, cs, rfl, Nat.zero_le _, h, Nat.le_refl _, hm, ?_, ?_⟩⟩
  · rw [← Array.length_toList, hc]; simp
  · rw [hc, List.take_of_length_le (by simp)]

set_option maxRecDepth 100000 in
set_option maxHeartbeats 4000000 in
theorem sameInts_any {w : World} {v u : Value} {h g : List Int} (hv : Rows 1 EInt w v h) (hu : Rows 1 EInt w u g) (hl : h.length ≤ maxLen) (hl2 : g.length ≤ maxLen) :
    Calls Tryz.prog 17 #[v, u] w fun e w' => e = .returned (.bool (decide (h = g))) ∧ Below w.heap.size w w' := by
  obtain ⟨A, cap, rfl, hc⟩ := hv.form
  obtain ⟨A2, cap2, rfl, hc2⟩ := hu.form
  obtain ⟨n, hn⟩ : ∃ n, h.length = n := ⟨_, rfl⟩
  obtain ⟨n2, hn2⟩ : ∃ n, g.length = n := ⟨_, rfl⟩
  obtain ⟨q, hq⟩ : ∃ q, decide (h = g) = q := ⟨_, rfl⟩
  have hqq : q = true ↔ h = g := by rw [← hq, decide_eq_true_iff]
  rw [hq]
  have HV := Lib.hid (fun W (hb : Below w.heap.size w W) => hv.below stays_int hb)
  have HU := Lib.hid (fun W (hb : Below w.heap.size w W) => hu.below stays_int hb)
  have HQ := Lib.hid hqq
  rw [hn] at hc hl HV ⊢
  rw [hn2] at hc2 hl2 HU ⊢
  unfold maxLen at hl hl2
  have HN := Lib.hid hn
  have HN2 := Lib.hid hn2
  clear hv hu hn hn2 hq hqq
  by_cases hnn : n = n2
  · subst hnn
    go_enter Tryz.func17, Tryz.ntmps17
    go_wp2_with fail
    go_loopw [13] (fun m wr => ∃ k : Nat, k ≤ n ∧ m = .int .i64 k ∧ Hid (∀ (j : Nat), j < k → h[j]? = g[j]?) ∧ Below w.heap.size w wr) (fun m _ => n - (Go.RowKit.intOf m).toNat)
    case atStart => exact ⟨0, Nat.zero_le _, rfl, Lib.hid (fun j h => absurd h (by omega)), Below.refl _ _⟩
    case round =>
      obtain ⟨k, hk, rfl, hno, hb⟩ := hrel
      by_cases hlt : k < n
      · obtain ⟨x, hx⟩ : ∃ x, h[k]? = some x := ⟨_, List.getElem?_eq_getElem (by rw [HN.out]; exact hlt)⟩
        obtain ⟨y, hy⟩ : ∃ x, g[k]? = some x := ⟨_, List.getElem?_eq_getElem (by rw [HN2.out]; exact hlt)⟩
        obtain ⟨b1, o1, rfl, -, hj1⟩ := at_int (HV.out wr hb) (by rw [HN.out]; omega)
        obtain ⟨b2, o2, rfl, -, hj2⟩ := at_int (HU.out wr hb) (by rw [HN2.out]; omega)
        have u0 := hj1 k x hx
        have u1 := hj2 k y hy
        have HB := Lib.hid hb
        have HX := Lib.hid hx
        have HY := Lib.hid hy
        have k0 : (0 : Int) ≤ (k : Int) := by omega
        have kn : (k : Int) < (n : Int) := by omega
        clear hj1 hj2 hx hy hb
        go_wp2_with fail
        go_quiet (fail)
        obtain ⟨w3, hw3⟩ : ∃ X, wr.drewN nq = X := ⟨_, rfl⟩
        rw [hw3]
        have HB3 := Lib.hid (show Below w.heap.size w w3 by rw [← hw3]; exact below_drewN HB.out nq)
        clear hw3
        by_cases hxy : x = y
        · subst hxy
          have hno' : Hid (∀ (j : Nat), j < k + 1 → h[j]? = g[j]?) := Lib.hid fun j hj => by
            by_cases e : j = k
            · subst e; rw [HX.out, HY.out]
            · exact hno.out j (by omega)
          have hxb : (x != x) = false := by simp
          go_wp2_with fail
          exact ⟨⟨k + 1, by omega, by go_num, hno', HB3.out⟩, by simp only [Go.RowKit.intOf]; omega⟩
        · have hqf : q = false := by
            rw [← Bool.not_eq_true]
            intro hq
            have := HQ.out.1 hq
            subst this
            rw [HX.out] at HY
            exact hxy (Option.some.inj HY.out)
          subst hqf
          have hxb : (x != y) = true := by simp [hxy]
          go_wp2_with fail
          go_ret
          exact ⟨rfl, HB3.out⟩
      · obtain rfl : k = n := by omega
        have hqt : q = true := HQ.out.2 (List.ext_getElem? fun j => by
          by_cases hj : j < k
          · exact hno.out j hj
          · rw [List.getElem?_eq_none (by rw [HN.out]; omega), List.getElem?_eq_none (by rw [HN2.out]; omega)])
        subst hqt
        have HB := Lib.hid hb
        clear hb
        go_wp2_with fail
        go_ret
        exact ⟨rfl, HB.out⟩
  · have hqf : q = false := by
      rw [← Bool.not_eq_true]
      intro hq
      have := HQ.out.1 hq
      exact hnn (by rw [← HN.out, ← HN2.out, this])
    subst hqf
    have hb : ((n : Int) != (n2 : Int)) = true := by simp; omega
    go_enter Tryz.func17, Tryz.ntmps17
    go_wp2_with fail
    go_ret
    exact ⟨rfl, Below.refl _ _⟩

theorem awakeParse : parseH ⟨#[49, 9, 120]⟩ 1 = ((1, 1), 12, [], []) := by decide +kernel
theorem awakePath : pathH [1, -1, 1, 2] 0 3 = ([0, 1, 2, 3], 0) := by decide +kernel
theorem awakeDepth : depthH [1, -1, 1, 2] 3 = 2 := by decide +kernel
theorem awakeProj : projH [1, -1, 1, 2] = true := by decide +kernel
theorem awakeProj2 : projH [2, 3, -1, 2] = false := by decide +kernel
set_option maxRecDepth 100000 in
set_option maxHeartbeats 4000000 in
theorem awake_any {w : World} (hE : ErrAt w) :
    Calls Tryz.prog 6 #[] w fun e w' => e = .returned (.bool true) ∧ Below w.heap.size w w' := by
  obtain ⟨W1, hW1⟩ : ∃ W1, w.alloc (.cells #[.int .i64 1, .int .i64 (-1), .int .i64 1, .int .i64 2] 3) = W1 := ⟨_, rfl⟩
  have hb1 : Below w.heap.size w W1 := by rw [← hW1]; exact below_box w _
  have hblk : W1.heap[w.heap.size]? = some (.cells #[.int .i64 1, .int .i64 (-1), .int .i64 1, .int .i64 2] 3 (0, 0)) := by rw [← hW1]; exact block_new w _
  have hlt : w.heap.size < W1.heap.size := by rw [← hW1]; simp
  have HB1 := Lib.hid hb1
  have HR := Lib.hid (fun (W : World) (hb : Below W1.heap.size W1 W) => block_rows (W := W) [1, -1, 1, 2] (block_below hblk hb hlt) rfl rfl (by decide))
  have HE := Lib.hid (fun (W : World) (hb : Below W1.heap.size W1 W) => ErrAt.same hE (((hb.mono (Nat.le_of_lt hlt)).block _ hE.lt).trans (hb1.block _ hE.lt)))
  have HW1 := Lib.hid hW1
  have HLT := Lib.hid hlt
  clear hb1 hblk hlt hW1 hE
  go_enter Tryz.func6, Tryz.ntmps6
  go_wp2_with fail
  rw [HW1.out]
  refine (path_any (HR.out W1 (Below.refl _ _)) (by decide) 0 3).mono ?_
  rw [awakePath]
  rintro e w2 ⟨⟨vr, rfl, hrn⟩, hb2⟩
  have HB2 := Lib.hid hb2
  have HRN := Lib.hid hrn
  clear hb2 hrn
  go_wp2_with fail
  refine (parse_any (HE.out w2 HB2.out) ⟨#[49, 9, 120]⟩ 1).mono ?_
  rw [awakeParse]
  rintro e w3 ⟨⟨vh, vr2, rfl, -, -, -⟩, hb3⟩
  have HB3 := Lib.hid (HB2.out.trans (hb3.mono HB2.out.size))
  have HRN3 := Lib.hid (HRN.out.below hb3)
  clear hb3
  unfold posV
  go_wp2_with fail
  obtain ⟨w4, hw4⟩ : ∃ W, w3.alloc (.cells #[.int .i64 1, .int .i64 1] 69) = W := ⟨_, rfl⟩
  have hp4 : w4.heap[w3.heap.size]? = some (.cells #[.int .i64 1, .int .i64 1] 69 (0, 0)) := by rw [← hw4]; exact block_new w3 _
  have hb4 : Below w3.heap.size w3 w4 := by rw [← hw4]; exact below_box w3 _
  rw [hw4]
  have HB4 := Lib.hid (HB3.out.trans (hb4.mono HB3.out.size))
  have HRN4 := Lib.hid (HRN3.out.below hb4)
  obtain ⟨P, hP⟩ : ∃ P, w3.heap.size = P := ⟨_, rfl⟩
  rw [hP] at hp4 ⊢
  have HP4 := Lib.hid hp4
  clear hw4 hp4 hb4 hP
  refine (depth_any (HR.out w4 HB4.out) (by decide) 3).mono ?_
  rw [awakeDepth]
  rintro e w5 ⟨rfl, hb5⟩
  have HB5 := Lib.hid (HB4.out.trans (hb5.mono HB4.out.size))
  have HRN5 := Lib.hid (HRN4.out.below hb5)
  have HP5 := Lib.hid (block_below HP4.out hb5 (Array.getElem?_eq_some_iff.1 HP4.out).1)
  clear hb5
  go_wp2_with fail
  obtain ⟨w6, hw6⟩ : ∃ W, w5.alloc (.cells #[.int .i64 0, .int .i64 1, .int .i64 2, .int .i64 3] 3) = W := ⟨_, rfl⟩
  rw [hw6]
  have hq6 : w6.heap[w5.heap.size]? = some (.cells #[.int .i64 0, .int .i64 1, .int .i64 2, .int .i64 3] 3 (0, 0)) := by rw [← hw6]; exact block_new w5 _
  have hb6 : Below w5.heap.size w5 w6 := by rw [← hw6]; exact below_box w5 _
  have HB6 := Lib.hid (HB5.out.trans (hb6.mono HB5.out.size))
  have HP6 := Lib.hid (block_below HP5.out hb6 (Array.getElem?_eq_some_iff.1 HP5.out).1)
  have hr6 := (HRN5.out.below hb6).rows
  clear hw6 hb6
  refine (sameInts_any hr6 (block_rows [0, 1, 2, 3] hq6 rfl rfl (by decide)) (by decide) (by decide)).mono ?_
  rw [show decide (intsN [0, 1, 2, 3] = [0, 1, 2, 3]) = true from by decide]
  rintro e w7 ⟨rfl, hb7⟩
  have HB7 := Lib.hid (HB6.out.trans (hb7.mono HB6.out.size))
  have HP7 := Lib.hid (block_below HP6.out hb7 (Array.getElem?_eq_some_iff.1 HP6.out).1)
  clear hb7 hr6 hq6
  go_wp2_with fail
  refine (projective_any (HR.out w7 HB7.out) (by decide)).mono ?_
  rw [awakeProj]
  rintro e w8 ⟨rfl, hb8⟩
  have HB8 := Lib.hid (HB7.out.trans (hb8.mono HB7.out.size))
  have HP8 := Lib.hid (block_below HP7.out hb8 (Array.getElem?_eq_some_iff.1 HP7.out).1)
  clear hb8
  go_wp2_with fail
  obtain ⟨w9, hw9⟩ : ∃ W, w8.alloc (.cells #[.int .i64 2, .int .i64 3, .int .i64 (-1), .int .i64 2] 3) = W := ⟨_, rfl⟩
  rw [hw9]
  have hq9 : w9.heap[w8.heap.size]? = some (.cells #[.int .i64 2, .int .i64 3, .int .i64 (-1), .int .i64 2] 3 (0, 0)) := by rw [← hw9]; exact block_new w8 _
  have hb9 : Below w8.heap.size w8 w9 := by rw [← hw9]; exact below_box w8 _
  have HB9 := Lib.hid (HB8.out.trans (hb9.mono HB8.out.size))
  have HP9 := Lib.hid (block_below HP8.out hb9 (Array.getElem?_eq_some_iff.1 HP8.out).1)
  clear hw9 hb9
  refine (projective_any (block_rows [2, 3, -1, 2] hq9 rfl rfl (by decide)) (by decide)).mono ?_
  rw [awakeProj2]
  rintro e wa ⟨rfl, hba⟩
  have HBa := Lib.hid (HB9.out.trans (hba.mono HB9.out.size))
  have hPa := block_below HP9.out hba (Array.getElem?_eq_some_iff.1 HP9.out).1
  have p0 := cell_of (i := 0) hPa rfl
  have p1 := cell_of (i := 1) hPa rfl
  clear hba hPa hq9
  go_wp2_with fail
  go_ret
  exact ⟨rfl, HB1.out.trans (HBa.out.mono HB1.out.size)⟩
end Go.Proofs.YtmjmidgfdjcbfaaGreatDoor.Dep
