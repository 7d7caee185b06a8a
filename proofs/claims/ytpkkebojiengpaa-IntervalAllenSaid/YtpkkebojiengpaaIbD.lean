/-
  WALKS over package interval: cmp.Or, the order of spans, slices.Clone and slices.SortFunc at spans.
-/
import Derived.Test.YtpkkebojiengpaaIbC
import Derived.Test.YtpkkebojiengpaaShf
import Derived.StillTailTactics
import Derived.Shelf.SlSortCmp.NoneTotal
namespace Go.Proofs.Ytpkkebojiengpaa
open Go.RowKit Go.Shelf Go.Lib Go.Sort
set_option linter.unusedVariables false
set_option linter.unusedSimpArgs false

def orL : List Int → Int
  | [] => 0
  | x :: l => if x = 0 then orL l else x
theorem orL_step {xs : List Int} {k : Nat} {x : Int} (h : xs[k]? = some x) : orL (xs.drop k) = if x = 0 then orL (xs.drop (k + 1)) else x := by
  obtain ⟨hk, rfl⟩ := List.getElem?_eq_some_iff.1 h
  rw [List.drop_eq_getElem_cons hk, orL]

set_option maxRecDepth 100000 in
set_option maxHeartbeats 1000000 in
theorem or_any {w : World} {v : Value} {xs : List Int} (hv : Rows 1 EInt w v xs) (hl : xs.length ≤ maxLen) :
    Calls Try.prog 46 #[v] w fun e w' => e = .returned (.int .i64 (orL xs)) ∧ w' = w := by
  obtain ⟨A, cap, rfl, hc⟩ := hv.form
  obtain ⟨n, hn⟩ : ∃ n, xs.length = n := ⟨_, rfl⟩
  have HV := Lib.hid hv
  rw [hn] at hc hl HV ⊢
  have HN := Lib.hid hn
  unfold maxLen at hl
  obtain ⟨r, hr⟩ : ∃ r, orL xs = r := ⟨_, rfl⟩
  rw [hr]
  have HR : Hid (r = orL (xs.drop 0)) := Lib.hid hr.symm
  clear hn hv hr
  go_enter Try.func46, Try.ntmps46
  go_wp2_with fail
  go_loopw [8] (fun i wr => ∃ k : Nat, k ≤ n ∧ i = .int .i64 k ∧ Hid (r = orL (xs.drop k)) ∧ wr = w) (fun i _ => n - (Go.RowKit.intOf i).toNat)
  case atStart => exact ⟨0, Nat.zero_le _, rfl, HR, rfl⟩
  case round =>
    clear HR
    obtain ⟨k, hk, rfl, hp, hw⟩ := hrel
    subst hw
    by_cases hlt : k < n
    · obtain ⟨x, hx⟩ : ∃ x, xs[k]? = some x := ⟨_, List.getElem?_eq_getElem (by rw [HN.out]; omega)⟩
      obtain ⟨bk, off, rfl, hbl, hj⟩ := at_int HV.out (by rw [HN.out]; omega)
      have c0 := hj k x hx
      have hst := hp.out
      rw [orL_step hx] at hst
      by_cases h0 : x = 0
      · subst h0
        rw [if_pos rfl] at hst
        have HST := Lib.hid hst
        clear hst hp hj hx hbl
        go_wp2_with fail
        exact ⟨⟨k + 1, by omega, by go_num, HST, trivial⟩, by simp only [Go.RowKit.intOf]; omega⟩
      · rw [if_neg h0] at hst
        have h0i : (x != 0) = true := by simp [h0]
        have HST := Lib.hid hst
        clear hst hp hj hx hbl
        go_wp2_with fail
        go_ret
        exact ⟨by rw [HST.out]; rfl, rfl⟩
    · obtain rfl : k = n := by omega
      have hr0 : r = 0 := by
        rw [hp.out, List.drop_eq_nil_of_le (by rw [HN.out]; exact Nat.le_refl _)]
        rfl
      subst hr0
      clear hp
      go_wp2_with fail
      go_ret
      exact ⟨rfl, rfl⟩
theorem rows_ints (w : World) (xs : List Int) (hl : 0 < xs.length) : Rows 1 EInt (w.alloc (.cells (xs.map (Value.int .i64)).toArray 3)) (.slice (some ⟨w.heap.size, 0, none⟩) xs.length xs.length) xs := by
  refine ⟨_, _, rfl, Nat.le_refl _, fun _ => ⟨_, _, rfl, by simp, fun j x hx => ⟨[.int .i64 x], rfl, rfl, fun i u hu => ?_⟩⟩⟩
  cases i with
  | zero =>
    simp at hu
    subst hu
    refine cell_of (block_new w _) ?_
    simp [hx]
  | succ i => simp at hu

/-- What the closure of normal says. -/
def cfS (a b : Sp) : Int := orL [Lib.compareInt a.1 b.1, Lib.compareInt b.2 a.2]
theorem ltS (x y : Sp) : ltOf cfS x y = ltb x y := by
  unfold ltOf cfS ltb Lib.compareInt orL orL orL
  by_cases h1 : x.1 < y.1
  · simp [h1]
  · by_cases h2 : y.1 < x.1
    · have : ¬ x.1 = y.1 := by omega
      simp [h1, h2, this]
    · have : x.1 = y.1 := by omega
      by_cases h3 : y.2 < x.2
      · simp [this, h3]
      · by_cases h4 : x.2 < y.2 <;> simp [this, h3, h4]
theorem swoS : SWO (ltOf cfS) where
  irrefl x := by rw [ltS]; exact ltb_irr x
  trans x y z h1 h2 := by rw [ltS] at *; exact ltb_tr h1 h2
  ntrans x y z h1 h2 := by rw [ltS] at *; exact ltb_ntr h1 h2

set_option maxHeartbeats 1000000 in
theorem normal1_any (x y : Sp) (w : World) : Calls Try.prog 45 #[.agg #[.int .i64 x.1, .int .i64 x.2], .agg #[.int .i64 y.1, .int .i64 y.2]] w fun e w' => e = .returned (.int .i64 (cfS x y)) ∧ ∃ q os, w' = grow (w.drewN q) os := by
  obtain ⟨b, e⟩ := x
  obtain ⟨c, d⟩ := y
  unfold cfS
  simp only
  have h1 := fun W => Try.cmp_Compare_int b c W
  have h2 := fun W => Try.cmp_Compare_int d e W
  obtain ⟨z1, hz1⟩ : ∃ z, Lib.compareInt b c = z := ⟨_, rfl⟩
  obtain ⟨z2, hz2⟩ : ∃ z, Lib.compareInt d e = z := ⟨_, rfl⟩
  rw [hz1] at h1 ⊢
  rw [hz2] at h2 ⊢
  have H1 := Lib.hid h1
  have H2 := Lib.hid h2
  have HO := Lib.hid (fun W => or_any (rows_ints W [z1, z2] (by simp)) (by unfold maxLen; simp))
  obtain ⟨X, N, hX, hN, hbX, hNX, hcell⟩ := boxes2 w b e c d
  have HX := Lib.hid hX
  have HN := Lib.hid hN
  obtain ⟨c0, c1, d0, d1⟩ := hcell X (Below.refl _ _)
  clear h1 h2 hz1 hz2 hX hN hbX hNX hcell
  go_enter Try.func45, Try.ntmps45
  go_wp2_with fail
  rw [HX.out, HN.out]
  go_wp2_with fail
  go_still_tail 10, (by kernel_rfl)
  still_call (H1.out _)
  repeat still_step
  still_call (H2.out _)
  repeat still_step
  refine wpStill_nil ?_
  change wpList _ _ _ _ _ X.drew
  clear c0 c1 d0 d1
  go_wp2_with fail
  refine (HO.out X.drew).mono ?_
  rintro e1 w3 ⟨rfl, rfl⟩
  go_wp2_with fail
  go_ret
  refine ⟨rfl, 1, #[.cells #[.int .i64 b, .int .i64 e] 31, .cells #[.int .i64 c, .int .i64 d] 31, .cells #[.int .i64 z1, .int .i64 z2] 3], ?_⟩
  rw [← HX.out, alloc_eq_grow, alloc_eq_grow, alloc_eq_grow]
  rfl
theorem cmpLaysS (blk off size : Nat) (w : World) : CmpLays Try.prog 45 #[] spV 2 cfS blk off size w :=
  fun _ _ _ _ x y => normal1_any x y _
end Go.Proofs.Ytpkkebojiengpaa
