/-
  ChecksumLinear is proved: for every byte slice and every byte slice and every byte slice the call of the law returns true, and each argument reads afterwards as it read before. The package-level variables that the row lists hold what the program's text lays in them: this is tied to the text.
-/
import Derived.Test.YtgclmiheahfakaaDoorRows
import Derived.Test.YtgclmiheahfakaaDoorCards
import Derived.Test.YtgclmiheahfakaaDoorTie
import Derived.Test.YtgclmiheahfakaaDoorCkO
import Derived.ProofKit
import Derived.StillTailTactics
import Derived.OpenShut
import Derived.Carry
import Derived.SevenTiedAt
import Derived.LaidMore
import Derived.Stop.Joined
namespace Go.Proofs.YtgclmiheahfakaaDoor.checksumLinear
open Go.ChangeShapes Go.WideShapes Go.ChangeAt Go.RowKit Go.Shelf Go.Lib
set_option linter.unusedVariables false

/-- Bytes half filled: the first j of them. -/
def partB (X : List UInt8) (j : Nat) : List Value := (List.range X.length).map fun i => Value.int .u8 (((if i < j then (X.getD i 0).toNat else 0) : Nat) : Int)
theorem partB_full (X : List UInt8) : partB X X.length = byteCells X := by
  apply List.ext_getElem
  · simp [partB, byteCells]
  · intro i h1 h2
    have hi : i < X.length := by simpa [partB] using h1
    simp [partB, byteCells, hi, List.getD]
theorem partB_zero (X : List UInt8) : partB X 0 = byteCells (List.replicate X.length 0) := by
  apply List.ext_getElem
  · simp [partB, byteCells]
  · intro i h1 h2
    simp [partB, byteCells]
theorem partB_cell (X : List UInt8) (j i : Nat) (hi : i < X.length) : (partB X j).toArray[i]? = some (.int .u8 (((if i < j then (X.getD i 0).toNat else 0) : Nat) : Int)) := by simp [partB, hi]
theorem partB_set (X : List UInt8) (j : Nat) (hj : j < X.length) : (partB X j).toArray.setIfInBounds j (.int .u8 ((X[j].toNat : Nat) : Int)) = (partB X (j + 1)).toArray := by
  apply Array.ext
  · simp [partB]
  · intro i h1 h2
    have hi : i < X.length := by simpa [partB] using h2
    rw [Array.getElem_setIfInBounds (by simpa [partB] using h2)]
    by_cases h : j = i
    · subst h
      simp [partB, hj, List.getD]
    · rw [if_neg h]
      simp only [partB, List.getElem_toArray, List.getElem_map, List.getElem_range]
      by_cases h3 : i < j
      · rw [if_pos h3, if_pos (by omega)]
      · rw [if_neg h3, if_neg (by omega)]
/-- What the law's loop has made. -/
def XRel (X : List UInt8) (w : World) (j : Nat) (w' : World) : Prop := Below w.heap.size w w' ∧ w'.heap[w.heap.size]? = some (.cells (partB X j).toArray 5 (0, 0))
theorem XRel.step {X : List UInt8} {w w' : World} {j : Nat} (h : XRel X w j w') (hj : j < X.length) (n : Nat) : XRel X w (j + 1) ((w'.drewN n).setCell ⟨w.heap.size, j, none⟩ (.int .u8 ((X[j].toNat : Nat) : Int))) := by
  refine ⟨(below_drewN h.1 n).setCell (p := ⟨w.heap.size, j, none⟩) (Nat.le_refl _) _, ?_⟩
  have := set_of (W := w'.drewN n) (i := j) h.2 (.int .u8 ((X[j].toNat : Nat) : Int))
  rw [partB_set X j hj] at this
  exact this
theorem XRel.sees {X : List UInt8} {w w' : World} (h : XRel X w X.length w') : Sees w' w'.heap.size (.slice (some ⟨w.heap.size, 0, none⟩) X.length X.length) X := by
  have hx := h.2
  rw [partB_full] at hx
  refine .inr ⟨_, _, rfl, Nat.le_refl _, fun _ => (Array.getElem?_eq_some_iff.1 hx).1, fun j hj => ?_⟩
  rw [add_plain, Nat.zero_add]
  exact cell_of hx (by simp [byteCells, hj])
theorem xor8 (a b : UInt8) : bits .xor .u8 ((a.toNat : Nat) : Int) ((b.toNat : Nat) : Int) = (((a ^^^ b).toNat : Nat) : Int) := by
  rw [u8_xor_nat _ _ (byte_lt a) (byte_lt b), UInt8.toNat_xor]
theorem xorL_at : ∀ (x y : List UInt8) (i : Nat) (h : i < (xorL x y).length) (hx : i < x.length) (hy : i < y.length), (xorL x y)[i] = x[i] ^^^ y[i]
  | a :: x, b :: y, 0, _, _, _ => rfl
  | a :: x, b :: y, i + 1, h, hx, hy => xorL_at x y i (by simpa [xorL] using h) (by simpa using hx) (by simpa using hy)

set_option maxRecDepth 100000 in
set_option maxHeartbeats 2000000 in
theorem walk (v : Value) (L : List UInt8) {w : World} (hs : Sees w w.heap.size v L) (hm : L.length ≤ maxLen) (v1 : Value) (L1 : List UInt8) (hs1 : Sees w w.heap.size v1 L1) (hm1 : L1.length ≤ maxLen) (v2 : Value) (L2 : List UInt8) (hs2 : Sees w w.heap.size v2 L2) (hm2 : L2.length ≤ maxLen) (ht : Tab w) :
    Calls Tryd.prog 9 #[v, v1, v2] w fun e w1 => e = .returned (.bool true) ∧ Below w.heap.size w w1 := by
  unfold maxLen at hm hm1 hm2
  obtain ⟨A, cap, hv, hcap, hcell⟩ := hs.form2
  obtain ⟨A1, cap1, hv1, hcap1, hcell1⟩ := hs1.form2
  obtain ⟨A2, cap2, hv2, hcap2, hcell2⟩ := hs2.form2
  obtain ⟨n, hn⟩ : ∃ n, L.length = n := ⟨_, rfl⟩
  obtain ⟨n1, hn1⟩ : ∃ n, L1.length = n := ⟨_, rfl⟩
  obtain ⟨n2, hn2⟩ : ∃ n, L2.length = n := ⟨_, rfl⟩
  rw [hn] at hv hm hcap
  rw [hn1] at hv1 hm1 hcap1
  rw [hn2] at hv2 hm2 hcap2
  by_cases hL : n ≤ 1000
  · have hl0 : (n : Int) ≤ 1000 := by omega
    by_cases h1 : n = n1
    · by_cases h2 : n1 = n2
      · obtain rfl := h1
        obtain rfl := h2
        obtain ⟨i0, hi, hz0, hz1, hz2⟩ := info_parts' Tryd.infoByte
        have hmk := run_make (P := Tryd.prog) w 22 5 i0 _ Tryd.underlying22 hi hz0 .i64 .i64 n n (by omega) (by omega) (by rw [hz2]; omega) (by omega)
        have hz3 : (Value.int IntKind.u8 0).cells = #[Value.int IntKind.u8 0] := rfl
        rw [hz1, hz3, Int.toNat_natCast, Nat.mul_one, madeCells_bytes] at hmk
        obtain ⟨X, hX⟩ : ∃ X, xorL (xorL L L1) L2 = X := ⟨_, rfl⟩
        have hl01 : (xorL L L1).length = n := by rw [xorL_len _ _ (by omega)]; exact hn
        have hXl : X.length = n := by rw [← hX, xorL_len _ _ (by omega)]; exact hl01
        have hsum := sum_xor L L1 L2 (by omega) (by omega)
        rw [hX] at hsum
        have hat : ∀ (j : Nat) (hj : j < X.length) (h0 : j < L.length) (h1 : j < L1.length) (h2 : j < L2.length), ((X[j].toNat : Nat) : Int) = bits .xor .u8 (bits .xor .u8 ((L[j].toNat : Nat) : Int) ((L1[j].toNat : Nat) : Int)) ((L2[j].toNat : Nat) : Int) := by
          intro j hj h0 h1 h2
          subst hX
          rw [xor8, xor8, xorL_at _ _ _ hj (by omega) h2, xorL_at _ _ _ (by omega) h0 h1]
        have hnew : XRel X w 0 (w.alloc (.cells (byteCells (List.replicate n 0)).toArray 5)) := ⟨(Below.refl _ w).alloc (Nat.le_refl _) _, by rw [partB_zero, hXl]; exact block_new w _⟩
        have HNEW := Lib.hid hnew
        have HAT := Lib.hid hat
        have HSUM := Lib.hid hsum
        have HXL := Lib.hid hXl
        have HN := Lib.hid hn
        have HN1 := Lib.hid hn1
        have HN2 := Lib.hid hn2
        have HS := Lib.hid hs
        have HS1 := Lib.hid hs1
        have HS2 := Lib.hid hs2
        have HC := Lib.hid hcell
        have HC1 := Lib.hid hcell1
        have HC2 := Lib.hid hcell2
        have HT := Lib.hid ht
        subst hv
        subst hv1
        subst hv2
        clear hs hs1 hs2 hcell hcell1 hcell2 hn hn1 hn2 hX hl01 hXl hsum hat hnew ht hz3
        go_enter Tryd.func9, Tryd.ntmps9
        go_wp2_with fail
        go_loopw [8, 31] (fun v8 v31 wr => ∃ j : Nat, j ≤ n ∧ v31 = .int .i64 j ∧ XRel X w j wr) (fun _ v31 _ => n - (intOf v31).toNat)
        case atStart => exact ⟨0, Nat.zero_le _, rfl, HNEW.out⟩
        case round =>
          obtain ⟨j, hj, rfl, hrel⟩ := hrel
          by_cases hlt : j < n
          · obtain ⟨b, off, rfl, hb, hc⟩ := HC.out (by rw [HN.out]; omega)
            obtain ⟨b1, off1, rfl, hb1, hc1⟩ := HC1.out (by rw [HN1.out]; omega)
            obtain ⟨b2, off2, rfl, hb2, hc2⟩ := HC2.out (by rw [HN2.out]; omega)
            have hjX : j < X.length := by rw [HXL.out]; exact hlt
            have c0 := (hrel.1.cell (p := ⟨b, off + j, none⟩) hb).trans (hc j (by rw [HN.out]; exact hlt))
            have c1 := (hrel.1.cell (p := ⟨b1, off1 + j, none⟩) hb1).trans (hc1 j (by rw [HN1.out]; exact hlt))
            have c2 := (hrel.1.cell (p := ⟨b2, off2 + j, none⟩) hb2).trans (hc2 j (by rw [HN2.out]; exact hlt))
            have hstep := hrel.step hjX
            rw [HAT.out j hjX (by rw [HN.out]; exact hlt) (by rw [HN1.out]; exact hlt) (by rw [HN2.out]; exact hlt)] at hstep
            have cx := cell_of (i := j) hrel.2 (partB_cell X j j hjX)
            rw [if_neg (Nat.lt_irrefl j)] at cx
            have fx := frozen_of (i := j) hrel.2
            obtain ⟨a0, ha0⟩ : ∃ a, (L[j]'(by rw [HN.out]; exact hlt)).toNat = a := ⟨_, rfl⟩
            obtain ⟨a1, ha1⟩ : ∃ a, (L1[j]'(by rw [HN1.out]; exact hlt)).toNat = a := ⟨_, rfl⟩
            obtain ⟨a2, ha2⟩ : ∃ a, (L2[j]'(by rw [HN2.out]; exact hlt)).toNat = a := ⟨_, rfl⟩
            rw [ha0] at c0 hstep
            rw [ha1] at c1 hstep
            rw [ha2] at c2 hstep
            have HST := Lib.hid hstep
            have hj0 : (0 : Int) ≤ (j : Int) := Int.natCast_nonneg _
            have hj1 : (j : Int) < (n : Int) := by omega
            clear hrel hc hc1 hc2 hstep ha0 ha1 ha2 hjX
            go_wp2_with fail
            go_still_tail 17, (by kernel_rfl)
            change wpList _ _ _ _ _ wr.drew
            go_wp2_with fail
            exact ⟨⟨j + 1, by omega, by go_num, HST.out 1⟩, by simp only [intOf]; omega⟩
          · have hjn : j = n := by omega
            subst hjn
            have hXn : X.length = j := HXL.out
            have hb := hrel.1
            rw [← hXn] at hrel
            have hsx := hrel.sees
            rw [hXn] at hsx
            have hq := sum_any hsx (by rw [hXn]; omega) (HT.out.below hb HT.out.pos)
            have hq0 := sum_any (HS.out.below hb) (by rw [HN.out]; omega) (HT.out.below hb HT.out.pos)
            have hq1 := sum_any (HS1.out.below hb) (by rw [HN1.out]; omega) (HT.out.below hb HT.out.pos)
            have hq2 := sum_any (HS2.out.below hb) (by rw [HN2.out]; omega) (HT.out.below hb HT.out.pos)
            have l0 := sumL_lt L
            have l1 := sumL_lt L1
            have l2 := sumL_lt L2
            have hsum := HSUM.out
            obtain ⟨s, hse⟩ : ∃ s, sumL X = s := ⟨_, rfl⟩
            obtain ⟨s0, hse0⟩ : ∃ s, sumL L = s := ⟨_, rfl⟩
            obtain ⟨s1, hse1⟩ : ∃ s, sumL L1 = s := ⟨_, rfl⟩
            obtain ⟨s2, hse2⟩ : ∃ s, sumL L2 = s := ⟨_, rfl⟩
            rw [hse] at hq hsum
            rw [hse0] at hq0 l0 hsum
            rw [hse1] at hq1 l1 hsum
            rw [hse2] at hq2 l2 hsum
            have x01 := xor32 (a := s0) (b := s1) rfl rfl l0 l1
            have l01 : s0 ^^^ s1 < 4294967296 := Nat.xor_lt_two_pow (n := 32) l0 l1
            obtain ⟨t, ht⟩ : ∃ t, s0 ^^^ s1 = t := ⟨_, rfl⟩
            rw [ht] at x01 l01 hsum
            have x2 := xor32 (a := t) (b := s2) rfl rfl l01 l2
            rw [← hsum] at x2
            have HQ := Lib.hid hq
            have HQ0 := Lib.hid hq0
            have HQ1 := Lib.hid hq1
            have HQ2 := Lib.hid hq2
            have HB := Lib.hid hb
            have HTB := Lib.hid (HT.out.below hb HT.out.pos)
            clear hrel hsx hq hq0 hq1 hq2 hse hse0 hse1 hse2 hsum ht hXn hb
            go_wp2_with fail
            refine HQ.out.mono ?_
            rintro e w3 ⟨rfl, rfl⟩
            go_wp2_with fail
            refine HQ0.out.mono ?_
            rintro e w3 ⟨rfl, rfl⟩
            go_wp2_with fail
            refine HQ1.out.mono ?_
            rintro e w3 ⟨rfl, rfl⟩
            go_wp2_with fail
            refine HQ2.out.mono ?_
            rintro e w3 ⟨rfl, rfl⟩
            go_wp2_with fail
            refine (awake_any HTB.out HTB.out.pos).mono ?_
            rintro e w4 ⟨rfl, hb4⟩
            have HB4 := Lib.hid (HB.out.trans (hb4.mono HB.out.size))
            clear hb4
            go_wp2
            go_ret
            exact ⟨rfl, HB4.out⟩
      · have hne : ((n1 : Int) != n2) = true := by simp; omega
        obtain rfl := h1
        subst hv
        subst hv1
        subst hv2
        clear hs hs1 hs2 hcell hcell1 hcell2 hn hn1 hn2 ht h2
        go_enter Tryd.func9, Tryd.ntmps9
        go_wp2
        go_ret
        exact ⟨rfl, Below.refl _ _⟩
    · have hne : ((n : Int) != n1) = true := by simp; omega
      subst hv
      subst hv1
      subst hv2
      clear hs hs1 hs2 hcell hcell1 hcell2 hn hn1 hn2 ht h1
      go_enter Tryd.func9, Tryd.ntmps9
      go_wp2
      go_ret
      exact ⟨rfl, Below.refl _ _⟩
  · have hl0 : (1000 : Int) < n := by omega
    subst hv
    subst hv1
    subst hv2
    clear hs hs1 hs2 hcell hcell1 hcell2 hn hn1 hn2 ht
    go_enter Tryd.func9, Tryd.ntmps9
    go_wp2
    go_ret
    exact ⟨rfl, Below.refl _ _⟩

theorem own : ownKnob Tryd.prog.godebug = none := by kernel_rfl

set_option maxRecDepth 100000 in
theorem lifted (os : Os) (started : os.Started) (H : Type) (enc : TypeId × Value → H) :
    ReturnsInHanded {} Tryd.checked os 9 .any (fun w args => (Rows.checksumLinearSpec.pre enc Tryd.prog Tryd.f9 [] false w args ∧ laidMetH Tryd.prog Rows.checksumLinearRow.laid w) ∧ sizedMet enc Tryd.prog Tryd.f9 (OpenSpec.ofChange Rows.checksumLinearSpec) false w args)
      (Rows.checksumLinearSpec.post enc Tryd.prog Tryd.f9 false true false false) := by
  refine returnsInHanded_of_change_and (C := Tryd.checked) (X := fun w _ => laidMetH Tryd.prog Rows.checksumLinearRow.laid w) (fun _ _ _ hh h => h.of_heap hh) own started (by kernel_rfl) Tryd.func9
    (ChangeSpec.witness_shaped (enc := enc) (C := Tryd.checked) (os := os) (X := fun w _ => laidMetH Tryd.prog Rows.checksumLinearRow.laid w) false (World.doorLaid Tryd.prog 400 os) #[.slice none 0 0, .slice none 0 0, .slice none 0 0] 8 rfl (World.shaped_of_RefB (by kernel_rfl) (by kernel_rfl)) (by kernel_rfl) (by kernel_rfl) (by kernel_rfl) (door_met os _)) ?_
  intro W base args ds gs before hval0 hW _ _ hL _
  have hval : ∀ (j : Nat) t v, Tryd.f9.params[j]? = some t → args[j]? = some v → Value.okWide Tryd.prog W .any base t v := hval0
  have hW' := hW
  have hplt : ∀ x ∈ before, x.block < W.heap.size := fun x hx => hW.lt x hx
  obtain ⟨p, q, hA0, hV, rfl, hfz, hnd⟩ := hW
  have hA : DataW.TrodAll enc Tryd.prog W 0 (fun _ => true) true Tryd.f9.params.toList args.toList ds p := hA0
  rw [Tryd.params9] at hA hval
  obtain ⟨v0, vs0, d0, ds0, p0, q0, hargs, rfl, rfl, h0, r0⟩ := trodAll_cons hA
  obtain ⟨v1, vs1, d1, ds1, p1, q1, rfl, rfl, rfl, h1, r1⟩ := trodAll_cons r0
  obtain ⟨v2, vs2, d2, ds2, p2, q2, rfl, rfl, rfl, h2, r2⟩ := trodAll_cons r1
  obtain ⟨rfl, rfl, rfl⟩ := trodAll_nil r2
  obtain rfl : args = #[v0, v1, v2] := by cases args; simp_all
  obtain ⟨rfl, rfl⟩ := trodVars_none hV
  obtain ⟨L0, s0, m0⟩ := open_bytes (hval 0 22 v0 rfl rfl) h0
  obtain ⟨L1, s1, m1⟩ := open_bytes (hval 1 22 v1 rfl rfl) h1
  obtain ⟨L2, s2, m2⟩ := open_bytes (hval 2 22 v2 rfl rfl) h2
  clear hA0 hval0
  refine (walk v0 L0 s0 m0 v1 L1 s1 m1 v2 L2 s2 m2 (tab_of_laid hL)).mono fun e W' ⟨he, bel⟩ => ?_
  subst he
  exact ⟨_, rfl, _, _, _, [], _, [], hW', trodAll_mk1 (shut_bool Tryd.underlying4 _), (trodAll_cons_mk (Below.trod Tryd.laidOut (by kernel_rfl) (of_decide_eq_true (by kernel_rfl)) h0 bel (fun x hx => hplt x (by simp [hx]))) (trodAll_cons_mk (Below.trod Tryd.laidOut (by kernel_rfl) (of_decide_eq_true (by kernel_rfl)) h1 bel (fun x hx => hplt x (by simp [hx]))) (trodAll_cons_mk (Below.trod Tryd.laidOut (by kernel_rfl) (of_decide_eq_true (by kernel_rfl)) h2 bel (fun x hx => hplt x (by simp [hx]))) trodAll_mk0))), rfl, World.keptBut_mono (fun x hx => ⟨hx, Or.inr (by simpa using hx)⟩) (bel.frame (· ∈ _)), fun h => by cases h⟩

theorem over : Rows.checksumLinearRow.holds Tryd.pinned (OpenSpec.ofChange Rows.checksumLinearSpec) :=
  OpenClaim.holds_of_wide 9 Tryd.f9 rfl rfl rfl rfl rfl rfl rfl ⟨rfl, rfl, rfl, rfl, rfl⟩ rfl rfl rfl rfl rfl (by kernel_rfl) Tryd.func9 (by kernel_rfl)
    (of_decide_eq_true (by kernel_rfl)) (by unfold Func.isWrapper; first | (rw [if_pos (by decide +kernel)]; kernel_rfl) | (rw [if_neg (by decide +kernel)]; exact ⟨rfl, rfl⟩))
    (fun os started H enc _ => lifted os started H enc)

/-- THE STATEMENT: the tied card. -/
theorem proved : Rows.ChecksumLinearCardSaid :=
  Claim7.holds_tied_plain_at .later [] Rows.checksumLinearCard.laidKinds true Rows.checksumLinearCard.stood.harness Rows.checksumLinearCard.stood.looks
    over (fun _ h => by cases h) (by kernel_rfl) (fun _ h => by cases h) checksumLinear_row_tie rfl ⟨rfl, rfl⟩ (by kernel_rfl) rfl
    (fun f fn hf hfn => by
      obtain rfl : f = 9 := Option.some.inj ((show Tryd.prog.funcNamed "corpora/corporalaw03.ChecksumLinear" = some 9 by kernel_rfl).symm.trans hf) |>.symm
      obtain rfl : fn = Tryd.f9 := (Option.some.inj (Tryd.func9.symm.trans hfn)).symm
      exact ⟨by kernel_rfl, fun j t ht => by
        rw [Tryd.params9] at ht
        have hm : t ∈ [22, 22, 22] := by simpa using Array.mem_of_getElem? ht
        have hall : ([22, 22, 22].all fun u => !Tryd.prog.wantsStandIn u) = true := by kernel_rfl
        exact (show Tryd.prog.wantsStandIn t = false by simpa using List.all_eq_true.1 hall t hm)⟩)
    (by kernel_rfl)
end Go.Proofs.YtgclmiheahfakaaDoor.checksumLinear
