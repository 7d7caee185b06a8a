/-
  HuffmanOptimal is proved: for every list of numbers and every list of numbers and every number the call of the law returns true, and each argument reads afterwards as it read before. It has no condition.
-/
import Derived.Test.YtghfehjkhkjgfaaRows
import Derived.Test.YtghfehjkhkjgfaaHoO
import Derived.Test.YtghfehjkhkjgfaaHuT
import Derived.ProofKit
import Derived.OpenShut
import Derived.Carry
namespace Go.Proofs.Ytghfehjkhkjgfaa.huffmanOptimal
open Go.ChangeShapes Go.WideShapes Go.ChangeAt Go.RowKit Go.Shelf Go.Lib
set_option linter.unusedVariables false

/-- Between two rounds of the first loop. -/
structure OptAt (w : World) (N : Nat) (cs ot : List Int) (l i : Nat) (mv : Value) (wr : World) : Prop where
  b : Below N w wr
  o : wr.ownsRow N 3 1 mv (preS (cs.take i) 0).length (idxV ((preS (cs.take i) 0).map fun s => (ot.getD s 0).toNat))
  r : ∀ s, s < i → 1 ≤ (ot.getD s 0).toNat ∧ (ot.getD s 0).toNat ≤ l
set_option maxRecDepth 100000 in
set_option maxHeartbeats 8000000 in
theorem walk {w : World} (v : Value) (cs : List Int) (hv : Rows 1 EInt w v cs) (hm : cs.length ≤ maxLen) (_ : ∀ x ∈ cs, -9223372036854775808 ≤ x ∧ x ≤ 9223372036854775807)
    (v2 : Value) (ot : List Int) (hv2 : Rows 1 EInt w v2 ot) (hm2 : ot.length ≤ maxLen) (_ : ∀ x ∈ ot, -9223372036854775808 ≤ x ∧ x ≤ 9223372036854775807) (lim : Int) (hl0 : -9223372036854775808 ≤ lim) (hl1 : lim ≤ 9223372036854775807) :
    Calls Try.prog 4 #[v, v2, .int .i64 lim] w fun e w1 => e = .returned (.bool true) ∧ Below w.heap.size w w1 := by
  have HLE := Lib.hid (lengths_any hv hm lim hl0 hl1)
  have HCK := Lib.hid (refCheck_any hv hm lim hl0 hl1)
  have HV := Lib.hid (fun W (hb : Below w.heap.size w W) => And.intro (hv.below stays_int hb) (hv2.below stays_int hb))
  have HA := Lib.hid (fun (W : World) => awake_any W)
  obtain ⟨A, cap, rfl, hc⟩ := hv.form
  obtain ⟨A2, cap2, rfl, hc2⟩ := hv2.form
  obtain ⟨n, hn⟩ : ∃ n, cs.length = n := ⟨_, rfl⟩
  obtain ⟨n2, hn2⟩ : ∃ n, ot.length = n := ⟨_, rfl⟩
  rw [hn] at HLE HCK HV hm ⊢
  rw [hn2] at HV hm2 ⊢
  unfold maxLen at hm hm2
  have HN := Lib.hid hn
  have HN2 := Lib.hid hn2
  clear hv hv2 hc hc2 hn hn2
  go_enter Try.func4, Try.ntmps4
  by_cases hbig : 30 < n
  · have hI : (30 : Int) < (n : Int) := by omega
    have b1 : decide ((n : Int) > 30) = true := decide_eq_true hI
    have b2 : decide (30 < n) = true := decide_eq_true hbig
    go_wp2_with fail
    go_ret
    exact ⟨rfl, Below.refl _ _⟩
  · have hI : ¬ (30 : Int) < (n : Int) := by omega
    have b1 : decide ((30 : Int) < (n : Int)) = false := decide_eq_false hI
    have b2 : decide (30 < n) = false := decide_eq_false hbig
    by_cases hs : n2 < n
    · have hI2 : (n2 : Int) < (n : Int) := by omega
      have b3 : decide ((n2 : Int) < (n : Int)) = true := decide_eq_true hI2
      have b4 : decide (n2 < n) = true := decide_eq_true hs
      go_wp2_with fail
      go_ret
      exact ⟨rfl, Below.refl _ _⟩
    · have hI2 : ¬ (n2 : Int) < (n : Int) := by omega
      have b3 : decide ((n2 : Int) < (n : Int)) = false := decide_eq_false hI2
      have b4 : decide (n2 < n) = false := decide_eq_false hs
      by_cases hz : chkH cs lim = 0
      · obtain ⟨l, rfl, h1, h2, h3, h4, h5⟩ := chk_zero hz
        rw [hz] at HCK
        have HZ := Lib.hid hz
        have HLL := Lib.hid (And.intro h1 (And.intro h2 h5))
        have H4 := Lib.hid h4
        clear hz h1 h2 h3 h4 h5 hl0 hl1
        go_wp2_with fail
        refine HCK.out.mono ?_
        rintro e w1 ⟨rfl, rfl⟩
        go_wp2_with fail
        refine HLE.out.mono ?_
        rintro e w2 ⟨hb, h⟩
        have hlv : ∃ v3, e = .returned (.tuple #[v3, .int .i64 0]) ∧ Rows 1 EInt w2 v3 (hufLs cs l) := by
          rcases h with ⟨h, _⟩ | ⟨_, v3, h, hr⟩
          · exact absurd HZ.out h
          · exact ⟨v3, h, hr⟩
        obtain ⟨v3, rfl, hr3⟩ := hlv
        obtain ⟨A3, c3, rfl, -⟩ := hr3.form
        rw [hufLs_len, HN.out] at hr3 ⊢
        obtain ⟨N, hN⟩ : ∃ N, w2.heap.size = N := ⟨_, rfl⟩
        have HB := Lib.hid hb
        have HR3 := Lib.hid (fun W (hb : Below N w2 W) => hr3.below stays_int (hN ▸ hb))
        have HV2 := Lib.hid (fun W (hb2 : Below N w2 W) => HV.out W (hb.trans ((show Below w2.heap.size w2 W from hN ▸ hb2).mono hb.size)))
        obtain ⟨f, hf⟩ : ∃ f : Nat → Nat, ∀ s, f s = cN cs s * min (ot.getD s 0).toNat 15 := ⟨_, fun _ => rfl⟩
        obtain ⟨g, hg⟩ : ∃ g : Nat → Nat, ∀ s, g s = cN cs s * hufL (cN cs) (preS cs 0) l s := ⟨_, fun _ => rfl⟩
        obtain ⟨C, hC⟩ : ∃ C : Nat → Nat, ∀ i, sumP cs f i = C i := ⟨_, fun _ => rfl⟩
        obtain ⟨D, hD⟩ : ∃ D : Nat → Nat, ∀ i, sumP cs g i = D i := ⟨_, fun _ => rfl⟩
        have HF := Lib.hid hf
        have HG := Lib.hid hg
        have HC := Lib.hid hC
        have HD := Lib.hid hD
        have hC0 : C 0 = 0 := by rw [← hC, sumP_zero]
        have hD0 : D 0 = 0 := by rw [← hD, sumP_zero]
        have hcN : ∀ s, cN cs s ≤ 4096 := fun s => by
          unfold cN
          rw [List.getD_eq_getElem?_getD]
          cases e : cs[s]? with
          | none => simp
          | some c => have := H4.out c (List.mem_of_getElem? e); rw [Option.getD_some]; omega
        have HCN := Lib.hid hcN
        have hfB : ∀ i, i ≤ 30 → C i ≤ 1843200 := fun i hi => by
          rw [← hC]
          refine Nat.le_trans (sumP_bound (M := 61440) (fun s hs => ?_) i) (Nat.le_trans (Nat.mul_le_mul_right _ hi) (by decide))
          rw [hf]
          exact Nat.le_trans (Nat.mul_le_mul (hcN s) (Nat.min_le_right _ 15)) (by decide)
        have HFB := Lib.hid hfB
        have hgB : ∀ i, i ≤ 30 → D i ≤ 1843200 := fun i hi => by
          rw [← hD]
          refine Nat.le_trans (sumP_bound (M := 61440) (fun s hs => ?_) i) (Nat.le_trans (Nat.mul_le_mul_right _ hi) (by decide))
          rw [hg]
          have q1 := huf_le (c := cN cs) (preS_nodup cs 0) HLL.out.1 (by rw [preS_len]; exact HLL.out.2.2) hs
          have q2 := HLL.out.2.1
          exact Nat.le_trans (Nat.mul_le_mul (hcN s) (show hufL (cN cs) (preS cs 0) l s ≤ 15 by omega)) (by decide)
        have HGB := Lib.hid hgB
        have HST0 : Hid (OptAt w2 N cs ot l 0 (.slice none 0 0) w2) := Lib.hid ⟨Below.refl _ _, by simp only [List.take_zero, preS]; exact World.ownsRow_nil _ _ _ 1, fun s hs => absurd hs (by omega)⟩
        have HNN := Lib.hid hN
        have hnn : ((n : Int) != (n : Int)) = false := by simp
        clear hb h hr3 hf hg hC hD hcN hgB hfB hN hbig hs HLE HCK
        go_wp2_with fail
        go_loopw [10, 12, 13, 51] (fun mv cv dv sv wr => ∃ i : Nat, i ≤ n ∧ sv = .int .i64 i ∧ cv = .int .i64 (C i : Nat) ∧ dv = .int .i64 (D i : Nat) ∧ Hid (OptAt w2 N cs ot l i mv wr)) (fun _ _ _ sv _ => n - (Go.RowKit.intOf sv).toNat)
        case atStart => exact ⟨0, Nat.zero_le _, rfl, by rw [hC0]; rfl, by rw [hD0]; rfl, HST0⟩
        case round =>
          clear HST0
          obtain ⟨i, hi, rfl, rfl, rfl, HS⟩ := hrel
          by_cases hlt : i < n
          · have hlti : (i : Int) < (n : Int) := by omega
            have hlti2 : (i : Int) < (n2 : Int) := by omega
            obtain ⟨r1, r2⟩ := HV2.out wr HS.out.b
            obtain ⟨c, hcx⟩ : ∃ c, cs[i]? = some c := ⟨_, List.getElem?_eq_getElem (by rw [HN.out]; exact hlt)⟩
            obtain ⟨k, hkx⟩ : ∃ k, ot[i]? = some k := ⟨_, List.getElem?_eq_getElem (by rw [HN2.out]; omega)⟩
            obtain ⟨b, o, rfl, -, hj⟩ := at_int r1 (by rw [HN.out]; omega)
            obtain ⟨b2, o2, rfl, -, hj2⟩ := at_int r2 (by rw [HN2.out]; omega)
            have u0 := hj i c hcx
            have u1 := hj2 i k hkx
            have hc4 := H4.out c (List.mem_of_getElem? hcx)
            have hE : Hid (Below w1.heap.size w1 wr) := Lib.hid (HB.out.trans ((show Below w2.heap.size w2 wr from by rw [HNN.out]; exact HS.out.b).mono HB.out.size))
            by_cases d1 : k < 1
            · have e1 : decide (k < 1) = true := decide_eq_true d1
              clear hj hj2 hcx hkx r1 r2 HS
              go_wp2_with fail
              go_ret
              exact ⟨rfl, hE.out⟩
            · have e1 : decide (k < 1) = false := decide_eq_false d1
              by_cases d2 : (l : Int) < k
              · have e2 : decide (k > (l : Int)) = true := decide_eq_true d2
                clear hj hj2 hcx hkx r1 r2 HS
                go_wp2_with fail
                go_ret
                exact ⟨rfl, hE.out⟩
              · have e2 : decide (k > (l : Int)) = false := decide_eq_false d2
                obtain ⟨q, rfl⟩ : ∃ q : Nat, k = q := ⟨k.toNat, by omega⟩
                have e2' : decide (l < q) = false := decide_eq_false (by omega)
                obtain ⟨x, rfl⟩ : ∃ x : Nat, c = x := ⟨c.toNat, by omega⟩
                have hgd : (ot.getD i 0).toNat = q := by rw [List.getD_eq_getElem?_getD, hkx]; simp
                have hcn : cN cs i = x := by unfold cN; rw [List.getD_eq_getElem?_getD, hcx]; simp
                have hl15 := HLL.out.2.1
                have hq15 : q ≤ 15 := by omega
                have hx4 : x ≤ 4096 := by omega
                have hr2' : ∀ s, s < i + 1 → 1 ≤ (ot.getD s 0).toNat ∧ (ot.getD s 0).toNat ≤ l := fun s hs => by
                  rcases Nat.lt_or_ge s i with h | h
                  · exact HS.out.r s h
                  · rw [show s = i by omega, hgd]; omega
                have hstC := sumP_step (f := f) hcx
                have hstD := sumP_step (f := g) hcx
                rw [HC.out, HC.out] at hstC
                rw [HD.out, HD.out] at hstD
                have hstS := preS_step hcx
                have hDb := HGB.out i (by omega)
                have hCb := HFB.out i (by omega)
                by_cases d3 : x = 0
                · subst d3
                  have e3 : decide (((0 : Nat) : Int) > 0) = false := by simp
                  rw [if_neg (by omega)] at hstS
                  rw [if_neg (by omega), Nat.add_zero] at hstC
                  rw [if_neg (by omega), Nat.add_zero] at hstD
                  have HNX : Hid (OptAt w2 N cs ot l (i + 1) u10 wr) := Lib.hid ⟨HS.out.b, by rw [hstS]; exact HS.out.o, hr2'⟩
                  have HSC := Lib.hid hstC
                  have HSD := Lib.hid hstD
                  clear hj hj2 hcx hkx r1 r2 HS hstC hstD hstS hgd hcn hr2' hE hl15 hc4
                  go_wp2_with fail
                  exact ⟨⟨i + 1, by omega, by go_num, congrArg (fun z : Nat => Value.int .i64 (z : Int)) HSC.out.symm, congrArg (fun z : Nat => Value.int .i64 (z : Int)) HSD.out.symm, HNX⟩, by simp only [Go.RowKit.intOf]; omega⟩
                · have e3 : decide ((x : Int) > 0) = true := decide_eq_true (by omega)
                  have e3' : decide (0 < x) = true := decide_eq_true (by omega)
                  rw [if_pos (by omega)] at hstC hstD hstS
                  have hmem := pre_at hcx (by omega)
                  have hhl := huf_le (c := cN cs) (preS_nodup cs 0) HLL.out.1 (by rw [preS_len]; exact HLL.out.2.2) hmem
                  rw [HF.out, hcn, hgd, show min q 15 = q by omega] at hstC
                  rw [HG.out, hcn] at hstD
                  obtain ⟨z, hzz⟩ : ∃ z, hufL (cN cs) (preS cs 0) l i = z := ⟨_, rfl⟩
                  rw [hzz] at hstD hhl
                  obtain ⟨b3, o3, rfl, -, hj3⟩ := at_int (HR3.out wr HS.out.b) (by rw [hufLs_len, HN.out]; omega)
                  have u2 := hj3 i (z : Int) (by rw [hufLs_at (by rw [HN.out]; exact hlt), hzz])
                  obtain ⟨Pn, hPn⟩ : ∃ P, (preS (cs.take i) 0).length = P := ⟨_, rfl⟩
                  have hPn1 : Pn ≤ 1000000 := by rw [← hPn]; have := preS_take_le cs i; omega
                  have hown := HS.out.o
                  rw [hPn] at hown
                  obtain ⟨xq, hxq⟩ : ∃ y, x * q = y := ⟨_, rfl⟩
                  obtain ⟨xz, hxz⟩ : ∃ y, x * z = y := ⟨_, rfl⟩
                  have hxq1 : xq ≤ 61440 := by rw [← hxq]; exact Nat.le_trans (Nat.mul_le_mul hx4 hq15) (by decide)
                  have hxz1 : xz ≤ 61440 := by rw [← hxz]; exact Nat.le_trans (Nat.mul_le_mul hx4 (show z ≤ 15 by omega)) (by decide)
                  rw [hxq] at hstC
                  rw [hxz] at hstD
                  have m1 := wrap_mulN hxq (Nat.le_trans hxq1 (by decide))
                  have m2 := wrap_mulN hxz (Nat.le_trans hxz1 (by decide))
                  have m3 := wrap_addN hstC (Nat.le_trans (Nat.le_of_eq hstC) (Nat.le_trans (Nat.add_le_add hCb hxq1) (by decide)))
                  have m4 := wrap_addN hstD (Nat.le_trans (Nat.le_of_eq hstD) (Nat.le_trans (Nat.add_le_add hDb hxz1) (by decide)))
                  have hN1 : N ≤ wr.heap.size := by have := HS.out.b.size; rw [HNN.out] at this; exact this
                  obtain ⟨X, hX⟩ : ∃ X, wr.alloc (.cells #[.int .i64 (q : Int)] 3) = X := ⟨_, rfl⟩
                  have HPUSH : Hid (∀ v' w', w'.ownsRow N 3 1 v' (Pn + 1) (idxV ((preS (cs.take i) 0).map fun s => (ot.getD s 0).toNat) ++ [.int .i64 (q : Int)]) → (wr.alloc (.cells #[.int .i64 (q : Int)] 3)).grownBy w' u10.ownBlock → OptAt w2 N cs ot l (i + 1) v' w') := Lib.hid (fun v' w' h1 h2 => by
                    refine ⟨(HS.out.b.alloc hN1 _).grown h2 (by simp; omega) (fun k e => (own_low hown k e).1), ?_, hr2'⟩
                    rw [hstS, List.length_append, hPn, List.map_append, List.length_singleton]
                    have e : idxV ((preS (cs.take i) 0).map (fun s => (ot.getD s 0).toNat) ++ [i].map (fun s => (ot.getD s 0).toNat)) = idxV ((preS (cs.take i) 0).map fun s => (ot.getD s 0).toNat) ++ [.int .i64 (q : Int)] := by simp only [List.map_singleton, hgd]; simp [idxV]
                    rw [e]
                    exact h1)
                  have HOWN := Lib.hid hown
                  have HRK := Lib.hid (show ∀ W, Below N w2 W → W.cell? ⟨b3, o3 + i, none⟩ = some (.int .i64 (z : Int)) from fun W hW => by
                    obtain ⟨b3', o3', e, -, hj3'⟩ := at_int (HR3.out W hW) (by rw [hufLs_len, HN.out]; omega)
                    cases e
                    exact hj3' i (z : Int) (by rw [hufLs_at (by rw [HN.out]; exact hlt), hzz]))
                  clear hj hj2 hj3 hcx hkx r1 r2 HS hstC hstD hstS hgd hcn hr2' hE hl15 hc4 hmem hhl hzz hPn hown hxq hxz hX u2 hDb
                  go_wp2_with (at_builtin; refine wpList_pushZ rfl (.tmp 69) (.tmp 71) rfl N u10 Pn _ (q : Int) rfl rfl HOWN.out hPn1 hN1 ?_; intro v' w4 ho hg; have HNX := Lib.hid (HPUSH.out v' w4 ho.out hg.out); have u2 := HRK.out w4 HNX.out.b; clear ho hg HPUSH HRK HOWN)
                  exact ⟨⟨i + 1, by omega, by go_num, (by first | rfl | rw [m3]), (by first | rfl | rw [m4]), HNX⟩, by simp only [Go.RowKit.intOf]; omega⟩
          · obtain rfl : i = n := by omega
            have hlti : ¬ (i : Int) < (i : Int) := by omega
            have hown := HS.out.o
            have hr := HS.out.r
            have htk : cs.take i = cs := List.take_of_length_le (by rw [HN.out]; exact Nat.le_refl _)
            rw [htk] at hown
            obtain ⟨S, hS⟩ : ∃ S, preS cs 0 = S := ⟨_, rfl⟩
            rw [hS] at hown
            obtain ⟨P, hP⟩ : ∃ P, S.length = P := ⟨_, rfl⟩
            rw [hP] at hown
            obtain ⟨Am, cm, rfl, -⟩ := own_formI hown
            have hSm : ∀ s ∈ S, 1 ≤ (ot.getD s 0).toNat ∧ (ot.getD s 0).toNat ≤ l := fun s hs => by
              rw [← hS] at hs
              refine hr s ?_
              obtain ⟨_, c, h1, _⟩ := preS_ge cs 0 s hs
              rw [Nat.sub_zero] at h1
              have := (List.getElem?_eq_some_iff.1 h1).1
              rw [HN.out] at this
              exact this
            have hP30 : P ≤ 30 := by rw [← hP, ← hS, preS_len]; have := presN_le cs; rw [HN.out] at this; omega
            obtain ⟨K, hK⟩ : ∃ K : Nat → Nat, ∀ j, sumS (S.take j) (fun s => 2 ^ (l - (ot.getD s 0).toNat)) = K j := ⟨_, fun _ => rfl⟩
            have hK0 : K 0 = 0 := by rw [← hK]; simp [sumS]
            have hKb : ∀ j, j ≤ 30 → K j ≤ 983040 := fun j hj => by
              rw [← hK]
              refine Nat.le_trans (sumS_bound (M := 32768) fun s _ => ?_) ?_
              · have h15 := HLL.out.2.1
                exact (pow_shift (l := l - (ot.getD s 0).toNat) (by omega)).2
              · exact Nat.le_trans (Nat.mul_le_mul_right _ (show (S.take j).length ≤ 30 by rw [List.length_take]; omega)) (by decide)
            have HEND : Hid (K P ≤ 2 ^ l → D i ≤ C i) := Lib.hid (fun hle => by
              rw [← hK, ← hP, List.take_length] at hle
              have h1 := huf_least (c := cN cs) (S := S) (by rw [← hS]; exact preS_nodup cs 0) HLL.out.1 (by rw [← hS, preS_len]; exact HLL.out.2.2) (fun s => (ot.getD s 0).toNat) hSm hle
              rw [← HD.out, ← HC.out, ← HN.out, sumP_all, sumP_all, hS]
              refine Nat.le_trans (Nat.le_of_eq (sumS_congr fun s _ => by rw [HG.out, hS])) (Nat.le_trans h1 (Nat.le_of_eq (sumS_congr fun s hs => ?_)))
              rw [HF.out]
              have := hSm s hs
              have h15 := HLL.out.2.1
              rw [Nat.min_eq_left (by omega)])
            have HRM := Lib.hid (fun W (hb : Below w2.heap.size w2 W) => hb)
            have HOWN := Lib.hid (own_int (ns := S.map fun s => (ot.getD s 0).toNat) (by rw [List.length_map, hP]; exact hown))
            have HSM := Lib.hid hSm
            have HP := Lib.hid hP
            have HK := Lib.hid hK
            have HKB := Lib.hid hKb
            have HBW : Hid (Below w1.heap.size w1 wr) := Lib.hid (HB.out.trans ((show Below w2.heap.size w2 wr from by rw [HNN.out]; exact HS.out.b).mono HB.out.size))
            have hCn := HFB.out i (by omega)
            obtain ⟨wo, rfl⟩ : ∃ wo, wo = wr := ⟨_, rfl⟩
            clear hown hr htk hS hP hSm hK hKb HS
            go_wp2_with fail
            go_loopw [11, 89] (fun kv sv wr => wr = wo ∧ ∃ j : Nat, j ≤ P ∧ sv = .int .i64 j ∧ kv = .int .i64 (K j : Nat)) (fun _ sv _ => P - (Go.RowKit.intOf sv).toNat)
            case atStart => exact ⟨rfl, 0, Nat.zero_le _, rfl, by rw [hK0]; rfl⟩
            case round =>
              obtain ⟨rfl, j, hj, rfl, rfl⟩ := hrel
              by_cases hlj : j < P
              · have hljI : (j : Int) < (P : Int) := by omega
                obtain ⟨s, hs⟩ : ∃ s, S[j]? = some s := ⟨_, List.getElem?_eq_getElem (by rw [HP.out]; exact hlj)⟩
                have hsm := HSM.out s (List.mem_of_getElem? hs)
                obtain ⟨q, hq⟩ : ∃ q, (ot.getD s 0).toNat = q := ⟨_, rfl⟩
                rw [hq] at hsm
                obtain ⟨b, o, rfl, -, hjj⟩ := at_int HOWN.out (by rw [List.length_map, List.length_map, HP.out]; omega)
                have u0 := hjj j (q : Int) (by rw [List.getElem?_map, List.getElem?_map, hs, Option.map_some, Option.map_some, hq])
                obtain ⟨d, hd⟩ : ∃ d, l - q = d := ⟨_, rfl⟩
                have h15 := HLL.out.2.1
                have hd15 : d ≤ 15 := by omega
                have hstep : K (j + 1) = K j + 2 ^ d := by
                  rw [← HK.out, ← HK.out, List.take_add_one, hs, Option.toList_some, sumS_snoc, hq, hd]
                obtain ⟨pw1, pw2⟩ := pow_shift hd15
                obtain ⟨Q, hQ⟩ : ∃ Q : Nat, 2 ^ d = Q := ⟨_, rfl⟩
                rw [hQ] at pw1 pw2 hstep
                have n1 : wrap64 ((l : Int) - (q : Int)) = (d : Int) := by unfold wrap64; omega
                have n2 : IntKind.u64.wrap (d : Int) = (d : Int) := by rw [show IntKind.u64.wrap (d : Int) = (d : Int) % 18446744073709551616 from rfl]; omega
                have n3 : (d : Int) ≤ 64 := by omega
                have hKj := HKB.out j (by omega)
                have n4 := wrap_addN hstep (Nat.le_trans (Nat.le_of_eq hstep) (Nat.le_trans (Nat.add_le_add hKj pw2) (by decide)))
                clear hs hsm hq hjj hd hstep hQ pw2 h15
                go_wp2_with fail
                exact ⟨⟨trivial, j + 1, by omega, by go_num, (by first | rfl | rw [n4])⟩, by simp only [Go.RowKit.intOf]; omega⟩
              · obtain rfl : j = P := by omega
                have hljI : ¬ (j : Int) < (j : Int) := by omega
                obtain ⟨pw1, pw2⟩ := pow_shift HLL.out.2.1
                obtain ⟨Q, hQ⟩ : ∃ Q : Nat, 2 ^ l = Q := ⟨_, rfl⟩
                rw [hQ] at pw1 pw2 HEND
                have h15 := HLL.out.2.1
                have n2 : IntKind.u64.wrap (l : Int) = (l : Int) := by rw [show IntKind.u64.wrap (l : Int) = (l : Int) % 18446744073709551616 from rfl]; omega
                have n3 : (l : Int) ≤ 64 := by omega
                have HAW := Lib.hid (HA.out wr)
                by_cases hgt : Q < K j
                · have g1 : decide ((K j : Int) > (Q : Int)) = true := decide_eq_true (by omega)
                  have g2 : decide (Q < K j) = true := decide_eq_true hgt
                  clear hQ HEND pw2 h15 hgt
                  go_wp2_with fail
                  refine HAW.out.mono ?_
                  rintro e w3 ⟨rfl, hb3⟩
                  have HE2 := Lib.hid (HBW.out.trans (hb3.mono HBW.out.size))
                  clear hb3
                  go_wp2_with fail
                  go_ret
                  exact ⟨rfl, HE2.out⟩
                · have hle := HEND.out (by omega)
                  have g1 : decide ((K j : Int) > (Q : Int)) = false := decide_eq_false (by omega)
                  have g2 : decide (Q < K j) = false := decide_eq_false hgt
                  have g3 : decide ((D i : Int) ≤ (C i : Int)) = true := decide_eq_true (by omega)
                  have g4 : decide (D i ≤ C i) = true := decide_eq_true hle
                  clear hQ HEND pw2 h15 hgt hle
                  go_wp2_with fail
                  refine HAW.out.mono ?_
                  rintro e w3 ⟨rfl, hb3⟩
                  have HE2 := Lib.hid (HBW.out.trans (hb3.mono HBW.out.size))
                  clear hb3
                  go_wp2_with fail
                  go_ret
                  exact ⟨rfl, HE2.out⟩
      · have hne : (chkH cs lim != 0) = true := by simpa using hz
        obtain ⟨r, hr⟩ : ∃ r, chkH cs lim = r := ⟨_, rfl⟩
        rw [hr] at HCK hne
        clear hr hz
        go_wp2_with fail
        refine HCK.out.mono ?_
        rintro e w1 ⟨rfl, rfl⟩
        go_wp2_with fail
        go_ret
        exact ⟨rfl, Below.refl _ _⟩

theorem own : ownKnob Try.prog.godebug = none := by kernel_rfl

set_option maxRecDepth 100000 in
theorem lifted (os : Os) (started : os.Started) (H : Type) (enc : TypeId × Value → H) :
    ReturnsInHanded {} Try.checked os 4 .any (Rows.huffmanOptimalSpec.pre6 enc Try.prog Try.f4 Rows.huffmanOptimalRow.domain false) (Rows.huffmanOptimalSpec.post enc Try.prog Try.f4 false true false false) := by
  refine returnsInHanded_of_change (C := Try.checked) own started (by kernel_rfl) Try.func4
    (ChangeSpec.witness6 (enc := enc) (C := Try.checked) false ⟨#[], #[.slice none 0 0, .slice none 0 0, .int .i64 0], []⟩ 8 (by kernel_rfl) (by kernel_rfl) (by kernel_rfl) (by kernel_rfl)) ?_
  intro W base args ds gs before hval0 hW hcnd _
  have hval : ∀ (j : Nat) t v, Try.f4.params[j]? = some t → args[j]? = some v → Value.okWide Try.prog W .any base t v := hval0
  have hW' := hW
  have hplt : ∀ x ∈ before, x.block < W.heap.size := fun x hx => hW.lt x hx
  obtain ⟨p, q, hA0, hV, rfl, hfz, hnd⟩ := hW
  have hA : DataW.TrodAll enc Try.prog W 0 (fun _ => true) true Try.f4.params.toList args.toList ds p := hA0
  rw [Try.params4] at hA hval
  obtain ⟨v0, vs0, d0, ds0, p0, q0, hargs, rfl, rfl, h0, r0⟩ := trodAll_cons hA
  obtain ⟨v1, vs1, d1, ds1, p1, q1, rfl, rfl, rfl, h1, r1⟩ := trodAll_cons r0
  obtain ⟨v2, vs2, d2, ds2, p2, q2, rfl, rfl, rfl, h2, r2⟩ := trodAll_cons r1
  obtain ⟨rfl, rfl, rfl⟩ := trodAll_nil r2
  obtain rfl : args = #[v0, v1, v2] := by cases args; simp_all
  obtain ⟨rfl, rfl⟩ := trodVars_none hV
  obtain ⟨l0, s0, m0, n0⟩ := open_rowI (hval 0 22 v0 rfl rfl) h0
  obtain ⟨l1, s1, m1, n1⟩ := open_rowI (hval 1 22 v1 rfl rfl) h1
  obtain ⟨x2, rfl, m2, n2⟩ := open_i64 (hval 2 3 v2 rfl rfl) h2
  clear hA0 hval0
  refine (walk v0 l0 s0 m0 n0 v1 l1 s1 m1 n1 x2 m2 n2).mono fun e W' ⟨he, bel⟩ => ?_
  subst he
  exact ⟨_, rfl, _, _, _, [], _, [], hW', trodAll_mk1 (shut_bool Try.underlying4 _), (trodAll_cons_mk (Below.trod Try.laidOut (by kernel_rfl) (of_decide_eq_true (by kernel_rfl)) h0 bel (fun x hx => hplt x (by simp [hx]))) (trodAll_cons_mk (Below.trod Try.laidOut (by kernel_rfl) (of_decide_eq_true (by kernel_rfl)) h1 bel (fun x hx => hplt x (by simp [hx]))) (trodAll_cons_mk (Below.trod Try.laidOut (by kernel_rfl) (of_decide_eq_true (by kernel_rfl)) h2 bel (fun x hx => hplt x (by simp [hx]))) trodAll_mk0))), rfl, World.keptBut_mono (fun x hx => ⟨hx, Or.inr (by simpa using hx)⟩) (bel.frame (· ∈ _)), fun h => by cases h⟩

theorem over : Rows.huffmanOptimalRow.holds Try.pinned (OpenSpec.ofChange Rows.huffmanOptimalSpec) :=
  OpenClaim.holds_of_wide 4 Try.f4 rfl rfl rfl rfl rfl rfl rfl ⟨rfl, rfl, rfl, rfl, rfl⟩ rfl rfl rfl rfl rfl (by kernel_rfl) Try.func4 (by kernel_rfl)
    (of_decide_eq_true (by kernel_rfl)) (by unfold Func.isWrapper; first | (rw [if_pos (by decide +kernel)]; kernel_rfl) | (rw [if_neg (by decide +kernel)]; exact ⟨rfl, rfl⟩))
    (fun os started H enc _ => lifted os started H enc)

/-- THE STATEMENT. -/
theorem proved : Rows.HuffmanOptimalSaid := over
end Go.Proofs.Ytghfehjkhkjgfaa.huffmanOptimal
