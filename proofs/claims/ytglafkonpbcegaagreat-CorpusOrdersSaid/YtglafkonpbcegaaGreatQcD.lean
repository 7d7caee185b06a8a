/-
  WALKS over package corpus: checkPairs, checkValue.
-/
import Derived.Test.YtglafkonpbcegaaGreatQcC
namespace Go.Proofs.YtglafkonpbcegaaGreat
open Go.RowKit Go.Shelf Go.Lib

/-- The name in front of pair k. -/
def prevN (ps : List (Bs × Bs)) (k : Nat) : Option Bs := if k = 0 then none else (ps[k - 1]?).map (·.1)
theorem pairsGo_step {ps : List (Bs × Bs)} {k : Nat} {p : Bs × Bs} (h : ps[k]? = some p) : pairsGo (prevN ps k) (ps.drop k) = if nameB p.1 = false then 4 else if (prevN ps k).any (fun q => !decide (q < p.1)) then 6 else if valE p.2 = 0 then pairsGo (prevN ps (k + 1)) (ps.drop (k + 1)) else valE p.2 := by
  obtain ⟨hk, rfl⟩ := List.getElem?_eq_some_iff.1 h
  rw [List.drop_eq_getElem_cons hk, pairsGo]
  have : prevN ps (k + 1) = some ps[k].1 := by unfold prevN; rw [if_neg (by omega), Nat.add_sub_cancel, h]; rfl
  rw [this]

set_option maxRecDepth 100000 in
set_option maxHeartbeats 4000000 in
theorem checkPairs_any {w : World} {v : Value} {ps : List (Bs × Bs)} (hv : Rows 2 EPair w v ps) (hl : ps.length ≤ maxLen) (hs : ∀ p ∈ ps, p.1.length ≤ maxLen ∧ p.2.length ≤ maxLen) :
    Calls Tryz.prog 126 #[v] w fun e w' => e = .returned (.int .i64 (pairsE ps : Nat)) ∧ Below w.heap.size w w' := by
  obtain ⟨A, cap, rfl, hc⟩ := hv.form
  obtain ⟨n, hn⟩ : ∃ n, ps.length = n := ⟨_, rfl⟩
  have hpe : pairsE ps = if 8 < n then 2 else pairsGo none ps := by unfold pairsE; rw [hn]
  have HV := Lib.hid (fun W (h : Below w.heap.size w W) => hv.below stays_pair h)
  rw [hn] at hc hl HV ⊢
  have HN := Lib.hid hn
  have HSZ := Lib.hid hs
  obtain ⟨r, hr⟩ : ∃ r, pairsE ps = r := ⟨_, rfl⟩
  rw [hr] at hpe ⊢
  unfold maxLen at hl
  clear hn hv hs hr
  by_cases h8 : 8 < n
  · rw [if_pos h8] at hpe
    subst hpe
    go_enter Tryz.func126, Tryz.ntmps126
    go_wp2_with fail
    go_ret
    exact ⟨rfl, Below.refl _ _⟩
  · rw [if_neg h8] at hpe
    have HPE : Hid (r = pairsGo (prevN ps 0) (ps.drop 0)) := Lib.hid hpe
    clear hpe
    go_enter Tryz.func126, Tryz.ntmps126
    go_wp2_with fail
    go_loopw [11] (fun i wr => ∃ k : Nat, k ≤ n ∧ i = .int .i64 k ∧ Hid (r = pairsGo (prevN ps k) (ps.drop k)) ∧ Below w.heap.size w wr) (fun i _ => n - (Go.RowKit.intOf i).toNat)
    case atStart => exact ⟨0, Nat.zero_le _, rfl, HPE, Below.refl _ _⟩
    case round =>
      clear HPE
      obtain ⟨k, hk, rfl, hp, hb⟩ := hrel
      by_cases hlt : k < n
      · obtain ⟨x, hx⟩ : ∃ x, ps[k]? = some x := ⟨_, List.getElem?_eq_getElem (by rw [HN.out]; omega)⟩
        obtain ⟨bk, off, rfl, hbl, hj⟩ := at_pair (HV.out wr hb) (by rw [HN.out]; omega)
        obtain ⟨c0, c1⟩ := hj k x hx
        have hstep := hp.out
        rw [pairsGo_step hx] at hstep
        obtain ⟨hz1, hz2⟩ := HSZ.out x (List.mem_of_getElem? hx)
        obtain ⟨P, hP⟩ : ∃ s : ByteArray, (⟨x.1.toArray⟩ : ByteArray) = s := ⟨_, rfl⟩
        obtain ⟨Q, hQ⟩ : ∃ s : ByteArray, (⟨x.2.toArray⟩ : ByteArray) = s := ⟨_, rfl⟩
        have hPl : P.data.toList = x.1 := by rw [← hP]
        have hQl : Q.data.toList = x.2 := by rw [← hQ]
        rw [hP] at c0
        rw [hQ] at c1
        have hvn := fun W => validName_any P (by rw [Lib.size_eq, hPl]; exact hz1) W
        have hvv := fun W => validValue_any Q (by rw [Lib.size_eq, hQl]; exact hz2) W
        rw [hPl] at hvn
        rw [hQl] at hvv
        obtain ⟨a, ha⟩ : ∃ a, nameB x.1 = a := ⟨_, rfl⟩
        obtain ⟨z, hz⟩ : ∃ z, valE x.2 = z := ⟨_, rfl⟩
        rw [ha] at hvn hstep
        rw [hz] at hvv hstep
        have HVN := Lib.hid hvn
        have HVV := Lib.hid hvv
        have HB := Lib.hid hb
        have hsz := hb.size
        have hbA := below_box wr (.cells #[.string P, .string Q] 79)
        have HBA := Lib.hid (hb.trans (hbA.mono hsz))
        have hgt : (k : Int) < (n : Int) := by omega
        obtain ⟨X, hX⟩ : ∃ X, wr.alloc (.cells #[.string P, .string Q] 79) = X := ⟨_, rfl⟩
        have e0 : X.cell? ⟨wr.heap.size, 0, none⟩ = some (.string P) := by rw [← hX]; exact cell_of (block_new wr _) rfl
        have e1 : X.cell? ⟨wr.heap.size, 1, none⟩ = some (.string Q) := by rw [← hX]; exact cell_of (block_new wr _) rfl
        have hf0 : X.frozen? ⟨wr.heap.size, 0, none⟩ = false := by rw [← hX]; exact frozen_of (block_new wr _)
        rw [hX] at HBA
        have HXX := Lib.hid hX
        have HE1 := Lib.hid e1
        have HSX := Lib.hid (show wr.heap.size < X.heap.size by rw [← hX, alloc_sz]; omega)
        obtain ⟨N0, hN0⟩ : ∃ N0, wr.heap.size = N0 := ⟨_, rfl⟩
        rw [hN0] at e0 HE1 HSX hf0
        have HN0 := Lib.hid hN0
        cases a with
        | false =>
          rw [if_pos rfl] at hstep
          subst hstep
          clear hvn hvv hb hbA hj hx hP hQ ha hz hX e1 hPl hQl hN0 hsz hz1 hz2
          go_wp2_with fail
          rw [HXX.out, HN0.out]
          clear c0 c1
          go_wp2_with fail
          refine (HVN.out _).mono ?_
          rintro e w1 ⟨rfl, rfl⟩
          go_wp2_with fail
          go_ret
          exact ⟨rfl, HBA.out⟩
        | true =>
          rw [if_neg (by decide)] at hstep
          have hany : (prevN ps k).any (fun q => !decide (q < x.1)) = (decide (k ≠ 0) && !decide (((ps[k - 1]?).map (·.1)).getD [] < x.1)) := by
            unfold prevN
            by_cases h0 : k = 0
            · rw [if_pos h0]; simp [h0]
            · rw [if_neg h0]
              have : ps[k - 1]? = some (ps[k - 1]'(by rw [HN.out]; omega)) := List.getElem?_eq_getElem _
              rw [this]
              simp [h0]
          rw [hany] at hstep
          have hgo : ∀ m : Nat, k = m + 1 → ∃ R : ByteArray, X.cell? ⟨bk, off + m * 2, none⟩ = some (.string R) ∧ Op.bytesLess R.toList P.toList = decide (((ps[k - 1]?).map (·.1)).getD [] < x.1) := by
            intro m hm
            obtain ⟨y, hy⟩ : ∃ y, ps[m]? = some y := ⟨_, List.getElem?_eq_getElem (by rw [HN.out]; omega)⟩
            refine ⟨⟨y.1.toArray⟩, ?_, ?_⟩
            · rw [← hX]
              exact Lib.cell?_alloc_some _ (hj m y hy).1
            · rw [Lib.toList_data, Lib.toList_data, hPl, less_lt, hm, Nat.add_sub_cancel, hy]
              rfl
          obtain ⟨t, ht⟩ : ∃ t, decide (((ps[k - 1]?).map (·.1)).getD [] < x.1) = t := ⟨_, rfl⟩
          rw [ht] at hgo hstep
          have HST := Lib.hid hstep
          have HGO := Lib.hid hgo
          clear hvn hvv hb hbA hj hx hP hQ ha hz hX hPl hQl hN0 hsz hz1 hz2 hany hgo ht hp hstep
          have hHX : ∀ n, Hid (Below w.heap.size w (X.drewN n)) := fun n => Lib.hid (below_drewN HBA.out n)
          have HHX := Lib.hid hHX
          clear hHX
          have hze : ∀ n : Nat, ((z : Int) == 0) = decide (z = 0) := fun _ => by
            by_cases h : z = 0
            · simp [h]
            · have : ¬ ((z : Int) = 0) := by omega
              simp [h]
          have HZE := Lib.hid (hze 0)
          clear hze
          cases k with
          | zero =>
            have hst := HST.out
            simp only [ne_eq, not_true_eq_false, decide_false, Bool.false_and, Bool.false_eq_true, if_false] at hst
            have HST2 := Lib.hid hst
            clear hst HST HGO
            simp only [Nat.zero_mul, Nat.add_zero] at c0 c1
            go_wp2_with fail
            rw [HXX.out, HN0.out]
            clear c0 c1
            go_wp2_with fail
            refine (HVN.out _).mono ?_
            rintro e w1 ⟨rfl, rfl⟩
            go_wp2_with fail
            go_quiet (fail)
            clear e0 e1 hf0
            have e1 : (w1.drewN nq).cell? ⟨N0, 1, none⟩ = some (.string Q) := HE1.out
            by_cases h0 : z = 0
            · subst h0
              have hst := HST2.out
              rw [if_pos rfl] at hst
              have HST3 := Lib.hid hst
              clear hst HST2
              go_wp2_with fail
              refine (HVV.out _).mono ?_
              rintro e w1 ⟨rfl, hb1⟩
              have HB1 := Lib.hid ((HHX.out _).out.trans (hb1.mono (HHX.out _).out.size))
              clear hb1
              go_wp2_with fail
              exact ⟨⟨0 + 1, by omega, by go_num, HST3, HB1.out⟩, by simp only [Go.RowKit.intOf]; omega⟩
            · have hst := HST2.out
              rw [if_neg h0] at hst
              have h0i : ¬ ((z : Int) = 0) := by omega
              have HST3 := Lib.hid hst
              clear hst HST2 h0
              go_wp2_with fail
              refine (HVV.out _).mono ?_
              rintro e w1 ⟨rfl, hb1⟩
              have HB1 := Lib.hid ((HHX.out _).out.trans (hb1.mono (HHX.out _).out.size))
              clear hb1
              go_wp2_with fail
              go_ret
              exact ⟨by rw [HST3.out]; rfl, HB1.out⟩
          | succ m =>
            obtain ⟨R, d0, hless⟩ := HGO.out m rfl
            have hst := HST.out
            have hne : decide (m + 1 ≠ 0) = true := by simp
            rw [hne, Bool.true_and] at hst
            have HST2 := Lib.hid hst
            clear hst HST HGO hne
            rw [show ((m + 1 : Nat) : Int) = (m : Int) + 1 by omega] at hgt ⊢
            have hpos : (0 : Int) < (m : Int) + 1 := by omega
            go_wp2_with fail
            rw [HXX.out, HN0.out]
            clear c0 c1
            go_wp2_with fail
            refine (HVN.out _).mono ?_
            rintro e w1 ⟨rfl, rfl⟩
            go_wp2_with fail
            go_quiet (fail)
            clear e0 e1 hf0 d0
            have e1 : (w1.drewN nq).cell? ⟨N0, 1, none⟩ = some (.string Q) := HE1.out
            cases t with
            | false =>
              have hst := HST2.out
              rw [if_pos (by decide)] at hst
              have HST3 := Lib.hid hst
              clear hst HST2 e1 hless
              go_wp2_with fail
              go_ret
              exact ⟨by rw [HST3.out]; rfl, (HHX.out _).out⟩
            | true =>
              have hst := HST2.out
              rw [if_neg (by decide)] at hst
              replace HST2 := Lib.hid hst
              clear hst hless
              by_cases h0 : z = 0
              · subst h0
                have hst := HST2.out
                rw [if_pos rfl] at hst
                have HST3 := Lib.hid hst
                clear hst HST2
                go_wp2_with fail
                refine (HVV.out _).mono ?_
                rintro e w1 ⟨rfl, hb1⟩
                have HB1 := Lib.hid ((HHX.out _).out.trans (hb1.mono (HHX.out _).out.size))
                clear hb1
                go_wp2_with fail
                exact ⟨⟨m + 1 + 1, by omega, by go_num, HST3, HB1.out⟩, by simp only [Go.RowKit.intOf]; omega⟩
              · have hst := HST2.out
                rw [if_neg h0] at hst
                have h0i : ¬ ((z : Int) = 0) := by omega
                have HST3 := Lib.hid hst
                clear hst HST2 h0
                go_wp2_with fail
                refine (HVV.out _).mono ?_
                rintro e w1 ⟨rfl, hb1⟩
                have HB1 := Lib.hid ((HHX.out _).out.trans (hb1.mono (HHX.out _).out.size))
                clear hb1
                go_wp2_with fail
                go_ret
                exact ⟨by rw [HST3.out]; rfl, HB1.out⟩
      · obtain rfl : k = n := by omega
        have hr0 : r = 0 := by
          rw [hp.out, List.drop_eq_nil_of_le (by rw [HN.out]; exact Nat.le_refl _)]
          rfl
        have HB := Lib.hid hb
        subst hr0
        clear hb hp
        go_wp2_with fail
        go_ret
        exact ⟨rfl, HB.out⟩
end Go.Proofs.YtglafkonpbcegaaGreat
