/-
  BlockBounds is proved: for every list of numbers and every number and every index with a number the call of the law returns true, and each argument reads afterwards as it read before. It has no condition.
-/
import Derived.Test.YtbfnkmibbieijaaRows
import Derived.Test.YtbfnkmibbieijaaBoO
import Derived.ProofKit
import Derived.OpenShut
import Derived.Carry
namespace Go.Proofs.Ytbfnkmibbieijaa.blockBounds
open Go.ChangeShapes Go.WideShapes Go.ChangeAt Go.RowKit Go.Shelf Go.Lib
set_option linter.unusedVariables false

theorem low_step {ns : List Nat} {k x W : Nat} (h : ns[k]? = some x) (h0 : ∀ y ∈ ns.take k, y / 2 ^ W = 0) (hx : x / 2 ^ W = 0) : ∀ y ∈ ns.take (k + 1), y / 2 ^ W = 0 := fun y hy => by
  rw [List.take_add_one, h] at hy
  rcases List.mem_append.1 hy with hy | hy
  · exact h0 y hy
  · have : y = x := by simpa using hy
    rw [this]; exact hx
set_option maxRecDepth 100000 in
set_option maxHeartbeats 8000000 in
theorem walk {w : World} (v : Value) (cs : List Int) (hv : Rows 1 EInt w v cs) (hm : cs.length ≤ maxLen) (_ : ∀ x ∈ cs, -9223372036854775808 ≤ x ∧ x ≤ 9223372036854775807) (W : Int) (hW0 : -9223372036854775808 ≤ W) (hW1 : W ≤ 9223372036854775807) (x : Int × Int) (hx : okGr x) :
    Calls Try.prog 6 #[v, .int .i64 W, .agg #[.int .i64 x.1, .int .i64 x.2]] w fun e w1 => e = .returned (.bool true) ∧ Below w.heap.size w w1 := by
  obtain ⟨p, G⟩ := x
  have hx1 := hx.1
  have hx2 := hx.2
  simp only at hx1 hx2 ⊢
  have HA := Lib.hid (fun (W : World) => awake_any W)
  have HCK := Lib.hid (fun W (hb : Below w.heap.size w W) => refCheckB_any (hv.below stays_int hb) hm)
  have HV := Lib.hid (fun W (hb : Below w.heap.size w W) => hv.below stays_int hb)
  have HM := Lib.hid hm
  clear hv hx
  go_enter Try.func6, Try.ntmps6
  go_wp2_with fail
  go_quiet (fail)
  obtain ⟨w1, hw1⟩ : ∃ X, (w.alloc (.cells #[.int .i64 p, .int .i64 G] 37)).drewN nq = X := ⟨_, rfl⟩
  rw [hw1]
  have HB1 := Lib.hid (show Below w.heap.size w w1 by rw [← hw1]; exact below_drewN (below_box w _) nq)
  have HCK1 := Lib.hid (HCK.out w1 HB1.out)
  clear hw1 HCK
  by_cases hz : chkB cs = 0
  · obtain ⟨hcs, hok⟩ := chk_ok hz
    rw [hz] at HCK1
    by_cases c1 : W < 0
    · have b1 : decide (W < 0) = true := decide_eq_true c1
      go_wp2_with fail
      refine HCK1.out.mono ?_
      rintro e w' ⟨rfl, rfl⟩
      go_wp2_with fail
      go_ret
      exact ⟨rfl, HB1.out⟩
    · have b1 : decide (W < 0) = false := decide_eq_false c1
      by_cases c2 : 31 < W
      · have b2 : decide (W > 31) = true := decide_eq_true c2
        go_wp2_with fail
        refine HCK1.out.mono ?_
        rintro e w' ⟨rfl, rfl⟩
        go_wp2_with fail
        go_ret
        exact ⟨rfl, HB1.out⟩
      · have b2 : decide (W > 31) = false := decide_eq_false c2
        by_cases c3 : G < 0
        · have b3 : decide (G < 0) = true := decide_eq_true c3
          go_wp2_with fail
          refine HCK1.out.mono ?_
          rintro e w' ⟨rfl, rfl⟩
          go_wp2_with fail
          go_ret
          exact ⟨rfl, HB1.out⟩
        · have b3 : decide (G < 0) = false := decide_eq_false c3
          by_cases c4 : 2147483647 < G
          · have b4 : decide (G > 2147483647) = true := decide_eq_true c4
            go_wp2_with fail
            refine HCK1.out.mono ?_
            rintro e w' ⟨rfl, rfl⟩
            go_wp2_with fail
            go_ret
            exact ⟨rfl, HB1.out⟩
          · have b4 : decide (G > 2147483647) = false := decide_eq_false c4
            obtain ⟨K, rfl⟩ : ∃ K : Nat, W = K := ⟨W.toNat, by omega⟩
            obtain ⟨g, rfl⟩ : ∃ g : Nat, G = g := ⟨G.toNat, by omega⟩
            have hK : K ≤ 31 := by omega
            have hg : g < 2147483648 := by omega
            obtain ⟨ns, hns⟩ : ∃ ns, natB cs = ns := ⟨_, rfl⟩
            rw [hns] at hcs hok
            have hcl : cs.length = ns.length := by rw [← hcs, castB_len]
            obtain ⟨n, hn⟩ : ∃ n, ns.length = n := ⟨_, rfl⟩
            have hn1 : n ≤ 128 := by rw [← hn]; exact hok.1
            obtain ⟨A, cap, hvf, hcap⟩ := (HV.out w1 HB1.out).form
            rw [hcl, hn] at hvf
            subst hvf
            have HN := Lib.hid hn
            have HOK := Lib.hid hok
            have HCS := Lib.hid hcs
            have HCL := Lib.hid hcl
            have HPK := Lib.hid (fun W (hb : Below w.heap.size w W) => pack_ok (HV.out W hb) HM.out hz rfl)
            have hpk : (packB cs).length = cst ns (wid ns) := by rw [← hns]; rfl
            have HPE := Lib.hid hpk
            clear hz hcs hok hns hcl hn hcap hpk b1 b2 b3 b4 c1 c2 c3 c4
            go_wp2_with fail
            refine HCK1.out.mono ?_
            rintro e w' ⟨rfl, rfl⟩
            go_wp2_with fail
            go_loopw [43] (fun iv wr => wr = w' ∧ ∃ k : Nat, k ≤ n ∧ iv = .int .i64 k ∧ Hid (∀ y ∈ ns.take k, y / 2 ^ K = 0)) (fun iv _ => n - (Go.RowKit.intOf iv).toNat)
            case atStart => exact ⟨rfl, 0, Nat.zero_le _, rfl, Lib.hid (fun y hy => by simp at hy)⟩
            case round =>
              obtain ⟨rfl, k, hk, rfl, HLO⟩ := hrel
              by_cases hlt : k < n
              · have hlti : (k : Int) < (n : Int) := by omega
                obtain ⟨y, hy⟩ : ∃ y, ns[k]? = some y := ⟨_, List.getElem?_eq_getElem (by rw [HN.out]; exact hlt)⟩
                obtain ⟨bb, o, rfl, -, hj⟩ := at_int (HV.out _ HB1.out) (by rw [HCL.out, HN.out]; omega)
                have u0 := hj k (y : Int) (by rw [← HCS.out]; unfold castB; rw [List.getElem?_map, hy]; rfl)
                have hsh := shr_nat y K
                have hy31 := HOK.out.2 y (List.mem_of_getElem? hy)
                obtain ⟨q, hq⟩ : ∃ q, y / 2 ^ K = q := ⟨_, rfl⟩
                rw [hq] at hsh
                by_cases hq0 : q = 0
                · subst hq0
                  have HNX := Lib.hid (low_step hy HLO.out hq)
                  clear hj hy HLO hq
                  go_wp2_with fail
                  exact ⟨⟨trivial, k + 1, by omega, by go_num, HNX⟩, by simp only [Go.RowKit.intOf]; omega⟩
                · have b1 : ((q : Int) != 0) = true := by simp; omega
                  have b2 : ((q : Int) == 0) = false := by simp; omega
                  clear hj hy HLO hq
                  go_wp2_with fail
                  go_ret
                  exact ⟨rfl, HB1.out⟩
              · obtain rfl : k = n := by omega
                have hlti : ¬ (k : Int) < (k : Int) := by omega
                have hall : ∀ y ∈ ns, y / 2 ^ K = 0 := by
                  have := HLO.out
                  rw [List.take_of_length_le (by rw [HN.out]; exact Nat.le_refl _)] at this
                  exact this
                have HALL := Lib.hid hall
                have hbd := bound_low HOK.out hK hall
                have hmul := Nat.mul_le_mul hn1 hK
                have e1 : (k : Int) * (K : Int) = ((k * K : Nat) : Int) := (Int.natCast_mul k K).symm
                unfold bndN at hbd
                rw [HN.out] at hbd
                obtain ⟨t, ht⟩ : ∃ t, k * K = t := ⟨_, rfl⟩
                rw [ht] at e1 hbd hmul
                obtain ⟨c, hc⟩ : ∃ c, cst ns (wid ns) = c := ⟨_, rfl⟩
                rw [hc] at hbd
                have hpl := HPE.out
                rw [hc] at hpl
                have HTT := Lib.hid ht
                have HP1 := Lib.hid (HPK.out _ HB1.out)
                clear hall ht hc HLO
                obtain ⟨z, hz⟩ : ∃ z, (t + 7) / 8 = z := ⟨_, rfl⟩
                have hzi : ((t : Int) + 7) / 8 = (z : Int) := by omega
                have hzb : z ≤ 1000 := by omega
                rw [hz] at hbd
                have HZ := Lib.hid hz
                clear hz
                obtain ⟨B, hB⟩ : ∃ B, 3 + z + (if k = 128 then 1 else 0) = B := ⟨_, rfl⟩
                rw [hB] at hbd
                have HBD := Lib.hid hbd
                have HBE := Lib.hid hB
                have hB1000 : B ≤ 1004 := by
                  rw [← hB]
                  split <;> omega
                have hBk : (k = 128 → 3 + z + 1 = B) ∧ (k ≠ 128 → 3 + z = B) := by
                  rw [← hB]
                  exact ⟨fun h => by rw [if_pos h], fun h => by rw [if_neg h]; omega⟩
                clear hB
                obtain ⟨P, hP⟩ : ∃ P, packB cs = P := ⟨_, rfl⟩
                rw [hP] at HP1 hpl
                clear hP
                have hlen : P.length ≤ B := by omega
                have HGOAL : Hid (∀ w2, Hid (Below w.heap.size w w2) → (p < 0 ∨ (k : Int) ≤ p) ∨ (∃ q : Nat, p = q ∧ q < k ∧ Hid (cst (ns.set q g) (wid (ns.set q g)) ≤ B + 7))) := Lib.hid (fun w2 _ => by
                  rcases Int.lt_or_le p 0 with h | h
                  · exact .inl (.inl h)
                  · rcases Int.lt_or_le p k with h' | h'
                    · refine .inr ⟨p.toNat, by omega, by omega, Lib.hid ?_⟩
                      have hone := bound_one HOK.out hK HALL.out (p := p.toNat) (g := g) (by rw [HN.out]; omega) hg
                      unfold bndN at hone
                      rw [HN.out, HTT.out, HZ.out, HBE.out] at hone
                      exact hone
                    · exact .inl (.inr h'))
                -- REST
                obtain ⟨l, hl⟩ : ∃ l, P.length = l := ⟨_, rfl⟩
                rw [hl] at hlen hpl
                have HPL := Lib.hid hl
                clear hl HPE HPK HBD HBE hbd hpl hmul
                by_cases h128 : k = 128
                · have hbk := hBk.1 h128
                  have hBi : (3 : Int) + (z : Int) + 1 = (B : Int) := by omega
                  have hki : ((k : Int) == 128) = true := by simp; omega
                  clear hBk hbk h128
                  have n1 : ¬ (B : Int) < (l : Int) := by omega
                  go_wp2_with fail
                  refine HP1.out.mono ?_
                  rintro e w2 ⟨v2, rfl, hs2, -, hb2⟩
                  obtain ⟨sp, cp, rfl, -⟩ := hs2.form
                  have HB2 := Lib.hid (HB1.out.trans (hb2.mono HB1.out.size))
                  rw [HPL.out]
                  clear hs2 hb2 HP1
                  rcases HGOAL.out w2 HB2 with (h | h) | ⟨q, rfl, hq, HONE⟩
                  · have b1 : decide (p < 0) = true := decide_eq_true h
                    go_wp2_with fail
                    refine (HA.out _).mono ?_
                    rintro e w4 ⟨rfl, hb4⟩
                    have HB4 := Lib.hid (HB2.out.trans (hb4.mono HB2.out.size))
                    clear hb4
                    go_wp2_with fail
                    go_ret
                    exact ⟨rfl, HB4.out⟩
                  · have b1 : decide (p < 0) = false := decide_eq_false (by omega)
                    have b2 : decide (p ≥ (k : Int)) = true := decide_eq_true h
                    go_wp2_with fail
                    refine (HA.out _).mono ?_
                    rintro e w4 ⟨rfl, hb4⟩
                    have HB4 := Lib.hid (HB2.out.trans (hb4.mono HB2.out.size))
                    clear hb4
                    go_wp2_with fail
                    go_ret
                    exact ⟨rfl, HB4.out⟩
                  · have b1 : decide ((q : Int) < 0) = false := decide_eq_false (by omega)
                    have b2 : decide ((q : Int) ≥ (k : Int)) = false := decide_eq_false (by omega)
                    have hck : cs.length = k := by rw [HCL.out, HN.out]
                    go_wp2_with (at_builtin; refine wpList_copyI rfl (.tmp 86) rfl _ cs rfl (HV.out _ HB2.out) (by omega) (by omega) ?_)
                    intro v3 w3 HO3 HB3
                    obtain ⟨gb, cp3, cur, rfl, hgb, hhb, hcz⟩ := own_formB HO3.out (by omega)
                    have hsz2 := HB2.out.size
                    obtain ⟨u, hu⟩ : ∃ u, cur[q]? = some u := ⟨_, Array.getElem?_eq_getElem (by omega)⟩
                    have hcell : w3.cell? ⟨gb, q, none⟩ = some u := cell_of hhb hu
                    have hfz : w3.frozen? ⟨gb, q, none⟩ = false := frozen_of hhb
                    have hown := own_setB HO3.out (i := q) (by omega) (.int .i64 (g : Int))
                    rw [show iV cs = iV (castB ns) by rw [HCS.out], iV_set] at hown
                    have hnl : cs.length = (castB (ns.set q g)).length := by rw [castB_len, List.length_set, HN.out, hck]
                    have hrows : Rows 1 EInt (w3.setCell ⟨gb, q, none⟩ (.int .i64 (g : Int))) (.slice (some ⟨gb, 0, none⟩) k cp3) (castB (ns.set q g)) := own_rows (base := w2.heap.size) (by rw [← hnl, hck]; exact hown)
                    have HP4 := Lib.hid (pack_ok hrows (by rw [← hnl]; exact HM.out) (chk_nat (HOK.out.set hg)) rfl)
                    have hl4 : (packB (castB (ns.set q g))).length ≤ B + 7 := by
                      unfold packB
                      rw [natB_cast]
                      exact HONE.out
                    obtain ⟨P4, hP4⟩ : ∃ P, packB (castB (ns.set q g)) = P := ⟨_, rfl⟩
                    rw [hP4] at HP4 hl4
                    obtain ⟨l4, hll4⟩ : ∃ l, P4.length = l := ⟨_, rfl⟩
                    rw [hll4] at hl4
                    have HL4 := Lib.hid hll4
                    have HB4 := Lib.hid (show Below w.heap.size w (w3.setCell ⟨gb, q, none⟩ (.int .i64 (g : Int))) from (HB2.out.trans (HB3.out.mono hsz2)).setCell (p := ⟨gb, q, none⟩) (Nat.le_trans hsz2 hgb) _)
                    have n4 : (l4 : Int) ≤ (B : Int) + 7 := by omega
                    clear hown hnl hrows hP4 hll4 hhb hcz hu HO3 HB3 hgb hsz2 HONE HGOAL
                    go_wp2_with fail
                    refine HP4.out.mono ?_
                    rintro e w5 ⟨v5, rfl, hs5, -, hb5⟩
                    obtain ⟨sp5, cp5, rfl, -⟩ := hs5.form
                    have HB5 := Lib.hid (HB4.out.trans (hb5.mono HB4.out.size))
                    rw [HL4.out]
                    clear hs5 hb5 HP4 HB4
                    go_wp2_with fail
                    refine (HA.out _).mono ?_
                    rintro e w6 ⟨rfl, hb6⟩
                    have HB6 := Lib.hid (HB5.out.trans (hb6.mono HB5.out.size))
                    clear hb6
                    go_wp2_with fail
                    go_ret
                    exact ⟨rfl, HB6.out⟩
                · have hbk := hBk.2 h128
                  have hBi : (3 : Int) + (z : Int) = (B : Int) := by omega
                  have hki : ((k : Int) == 128) = false := by simp; omega
                  clear hBk hbk h128
                  have n1 : ¬ (B : Int) < (l : Int) := by omega
                  go_wp2_with fail
                  refine HP1.out.mono ?_
                  rintro e w2 ⟨v2, rfl, hs2, -, hb2⟩
                  obtain ⟨sp, cp, rfl, -⟩ := hs2.form
                  have HB2 := Lib.hid (HB1.out.trans (hb2.mono HB1.out.size))
                  rw [HPL.out]
                  clear hs2 hb2 HP1
                  rcases HGOAL.out w2 HB2 with (h | h) | ⟨q, rfl, hq, HONE⟩
                  · have b1 : decide (p < 0) = true := decide_eq_true h
                    go_wp2_with fail
                    refine (HA.out _).mono ?_
                    rintro e w4 ⟨rfl, hb4⟩
                    have HB4 := Lib.hid (HB2.out.trans (hb4.mono HB2.out.size))
                    clear hb4
                    go_wp2_with fail
                    go_ret
                    exact ⟨rfl, HB4.out⟩
                  · have b1 : decide (p < 0) = false := decide_eq_false (by omega)
                    have b2 : decide (p ≥ (k : Int)) = true := decide_eq_true h
                    go_wp2_with fail
                    refine (HA.out _).mono ?_
                    rintro e w4 ⟨rfl, hb4⟩
                    have HB4 := Lib.hid (HB2.out.trans (hb4.mono HB2.out.size))
                    clear hb4
                    go_wp2_with fail
                    go_ret
                    exact ⟨rfl, HB4.out⟩
                  · have b1 : decide ((q : Int) < 0) = false := decide_eq_false (by omega)
                    have b2 : decide ((q : Int) ≥ (k : Int)) = false := decide_eq_false (by omega)
                    have hck : cs.length = k := by rw [HCL.out, HN.out]
                    go_wp2_with (at_builtin; refine wpList_copyI rfl (.tmp 86) rfl _ cs rfl (HV.out _ HB2.out) (by omega) (by omega) ?_)
                    intro v3 w3 HO3 HB3
                    obtain ⟨gb, cp3, cur, rfl, hgb, hhb, hcz⟩ := own_formB HO3.out (by omega)
                    have hsz2 := HB2.out.size
                    obtain ⟨u, hu⟩ : ∃ u, cur[q]? = some u := ⟨_, Array.getElem?_eq_getElem (by omega)⟩
                    have hcell : w3.cell? ⟨gb, q, none⟩ = some u := cell_of hhb hu
                    have hfz : w3.frozen? ⟨gb, q, none⟩ = false := frozen_of hhb
                    have hown := own_setB HO3.out (i := q) (by omega) (.int .i64 (g : Int))
                    rw [show iV cs = iV (castB ns) by rw [HCS.out], iV_set] at hown
                    have hnl : cs.length = (castB (ns.set q g)).length := by rw [castB_len, List.length_set, HN.out, hck]
                    have hrows : Rows 1 EInt (w3.setCell ⟨gb, q, none⟩ (.int .i64 (g : Int))) (.slice (some ⟨gb, 0, none⟩) k cp3) (castB (ns.set q g)) := own_rows (base := w2.heap.size) (by rw [← hnl, hck]; exact hown)
                    have HP4 := Lib.hid (pack_ok hrows (by rw [← hnl]; exact HM.out) (chk_nat (HOK.out.set hg)) rfl)
                    have hl4 : (packB (castB (ns.set q g))).length ≤ B + 7 := by
                      unfold packB
                      rw [natB_cast]
                      exact HONE.out
                    obtain ⟨P4, hP4⟩ : ∃ P, packB (castB (ns.set q g)) = P := ⟨_, rfl⟩
                    rw [hP4] at HP4 hl4
                    obtain ⟨l4, hll4⟩ : ∃ l, P4.length = l := ⟨_, rfl⟩
                    rw [hll4] at hl4
                    have HL4 := Lib.hid hll4
                    have HB4 := Lib.hid (show Below w.heap.size w (w3.setCell ⟨gb, q, none⟩ (.int .i64 (g : Int))) from (HB2.out.trans (HB3.out.mono hsz2)).setCell (p := ⟨gb, q, none⟩) (Nat.le_trans hsz2 hgb) _)
                    have n4 : (l4 : Int) ≤ (B : Int) + 7 := by omega
                    clear hown hnl hrows hP4 hll4 hhb hcz hu HO3 HB3 hgb hsz2 HONE HGOAL
                    go_wp2_with fail
                    refine HP4.out.mono ?_
                    rintro e w5 ⟨v5, rfl, hs5, -, hb5⟩
                    obtain ⟨sp5, cp5, rfl, -⟩ := hs5.form
                    have HB5 := Lib.hid (HB4.out.trans (hb5.mono HB4.out.size))
                    rw [HL4.out]
                    clear hs5 hb5 HP4 HB4
                    go_wp2_with fail
                    refine (HA.out _).mono ?_
                    rintro e w6 ⟨rfl, hb6⟩
                    have HB6 := Lib.hid (HB5.out.trans (hb6.mono HB5.out.size))
                    clear hb6
                    go_wp2_with fail
                    go_ret
                    exact ⟨rfl, HB6.out⟩
  · obtain ⟨r, hr⟩ : ∃ r, chkB cs = r := ⟨_, rfl⟩
    rw [hr] at hz HCK1
    have hb : (r != 0) = true := by simpa using hz
    clear hr
    go_wp2_with fail
    refine HCK1.out.mono ?_
    rintro e w' ⟨rfl, rfl⟩
    go_wp2_with fail
    go_ret
    exact ⟨rfl, HB1.out⟩

theorem own : ownKnob Try.prog.godebug = none := by kernel_rfl

set_option maxRecDepth 100000 in
theorem lifted (os : Os) (started : os.Started) (H : Type) (enc : TypeId × Value → H) :
    ReturnsInHanded {} Try.checked os 6 .any (Rows.blockBoundsSpec.pre6 enc Try.prog Try.f6 Rows.blockBoundsRow.domain false) (Rows.blockBoundsSpec.post enc Try.prog Try.f6 false true false false) := by
  refine returnsInHanded_of_change (C := Try.checked) own started (by kernel_rfl) Try.func6
    (ChangeSpec.witness6 (enc := enc) (C := Try.checked) false ⟨#[], #[.slice none 0 0, .int .i64 0, .agg #[.int .i64 0, .int .i64 0]], []⟩ 8 (by kernel_rfl) (by kernel_rfl) (by kernel_rfl) (by kernel_rfl)) ?_
  intro W base args ds gs before hval0 hW hcnd _
  have hval : ∀ (j : Nat) t v, Try.f6.params[j]? = some t → args[j]? = some v → Value.okWide Try.prog W .any base t v := hval0
  have hW' := hW
  have hplt : ∀ x ∈ before, x.block < W.heap.size := fun x hx => hW.lt x hx
  obtain ⟨p, q, hA0, hV, rfl, hfz, hnd⟩ := hW
  have hA : DataW.TrodAll enc Try.prog W 0 (fun _ => true) true Try.f6.params.toList args.toList ds p := hA0
  rw [Try.params6] at hA hval
  obtain ⟨v0, vs0, d0, ds0, p0, q0, hargs, rfl, rfl, h0, r0⟩ := trodAll_cons hA
  obtain ⟨v1, vs1, d1, ds1, p1, q1, rfl, rfl, rfl, h1, r1⟩ := trodAll_cons r0
  obtain ⟨v2, vs2, d2, ds2, p2, q2, rfl, rfl, rfl, h2, r2⟩ := trodAll_cons r1
  obtain ⟨rfl, rfl, rfl⟩ := trodAll_nil r2
  obtain rfl : args = #[v0, v1, v2] := by cases args; simp_all
  obtain ⟨rfl, rfl⟩ := trodVars_none hV
  obtain ⟨l0, s0, m0, n0⟩ := open_rowI (hval 0 22 v0 rfl rfl) h0
  obtain ⟨x1, rfl, m1, n1⟩ := open_i64 (hval 1 3 v1 rfl rfl) h1
  obtain ⟨x2, rfl, m2⟩ := open_gr (hval 2 37 v2 rfl rfl) h2
  clear hA0 hval0
  refine (walk v0 l0 s0 m0 n0 x1 m1 n1 x2 m2).mono fun e W' ⟨he, bel⟩ => ?_
  subst he
  exact ⟨_, rfl, _, _, _, [], _, [], hW', trodAll_mk1 (shut_bool Try.underlying4 _), (trodAll_cons_mk (Below.trod Try.laidOut (by kernel_rfl) (of_decide_eq_true (by kernel_rfl)) h0 bel (fun x hx => hplt x (by simp [hx]))) (trodAll_cons_mk (Below.trod Try.laidOut (by kernel_rfl) (of_decide_eq_true (by kernel_rfl)) h1 bel (fun x hx => hplt x (by simp [hx]))) (trodAll_cons_mk (Below.trod Try.laidOut (by kernel_rfl) (of_decide_eq_true (by kernel_rfl)) h2 bel (fun x hx => hplt x (by simp [hx]))) trodAll_mk0))), rfl, World.keptBut_mono (fun x hx => ⟨hx, Or.inr (by simpa using hx)⟩) (bel.frame (· ∈ _)), fun h => by cases h⟩

theorem over : Rows.blockBoundsRow.holds Try.pinned (OpenSpec.ofChange Rows.blockBoundsSpec) :=
  OpenClaim.holds_of_wide 6 Try.f6 rfl rfl rfl rfl rfl rfl rfl ⟨rfl, rfl, rfl, rfl, rfl⟩ rfl rfl rfl rfl rfl (by kernel_rfl) Try.func6 (by kernel_rfl)
    (of_decide_eq_true (by kernel_rfl)) (by unfold Func.isWrapper; first | (rw [if_pos (by decide +kernel)]; kernel_rfl) | (rw [if_neg (by decide +kernel)]; exact ⟨rfl, rfl⟩))
    (fun os started H enc _ => lifted os started H enc)

/-- THE STATEMENT. -/
theorem proved : Rows.BlockBoundsSaid := over
end Go.Proofs.Ytbfnkmibbieijaa.blockBounds
