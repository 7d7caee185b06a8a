/-
  WALKS over the reference of markup: FormatTag.
-/
import Derived.Test.YtjablaidbccnbaaGreatDoorMkZ
import Derived.Test.YtjablaidbccnbaaGreatDoorMrA
import Derived.Test.YtjablaidbccnbaaGreatDoorMrC
import Derived.Test.YtjablaidbccnbaaGreatDoorRvM
import Derived.Test.YtjablaidbccnbaaGreatDoorRsM
namespace Go.Proofs.YtjablaidbccnbaaGreatDoor
open Go.RowKit Go.Shelf Go.Lib

/-- Between two rounds of the check. -/
def ChkI (V : World) (ks : List Pr) (E l : Nat) (i : Value) (wr : World) : Prop :=
  ∃ k : Nat, k ≤ l ∧ i = .int .i64 k ∧ keysE (ks.take k) (ks.drop k) = E ∧ Below V.heap.size V wr
/-- Between two rounds of the search for a name. -/
def DupI (w0 : World) (ks : List Pr) (n : Bs) (k : Nat) (i : Value) (wr : World) : Prop :=
  ∃ j : Nat, j ≤ k ∧ i = .int .i64 j ∧ hasN (ks.take j) n = false ∧ Below w0.heap.size w0 wr
/-- Between two rounds of the writing. -/
def TxtI (w0 : World) (H : Bs) (sk : List Pr) (m : Nat) (s i : Value) (wr : World) : Prop :=
  ∃ k : Nat, k ≤ m ∧ i = .int .i64 k ∧ s = .string ⟨(H ++ (sk.take k).flatMap keyT).toArray⟩ ∧ Below w0.heap.size w0 wr
theorem hasN_hit {ks : List Pr} {j k : Nat} {q : Pr} {n : Bs} (hq : ks[j]? = some q) (hjk : j < k) (h : q.1 = n) : hasN (ks.take k) n = true := by
  unfold hasN
  rw [List.any_eq_true]
  refine ⟨q, ?_, by simpa using h⟩
  refine List.mem_of_getElem? (i := j) ?_
  rw [List.getElem?_take, if_pos hjk]
  exact hq
theorem keyE_name {p : Pr} {b : List Pr} (h : nameB p.1 = false) : keyE p b = 4 := by unfold keyE; rw [if_pos h]
theorem keyE_dup {p : Pr} {b : List Pr} (h : nameB p.1 = true) (h2 : hasN b p.1 = true) : keyE p b = 5 := by unfold keyE; rw [if_neg (by rw [h]; decide), if_pos h2]
theorem keyE_val {p : Pr} {b : List Pr} (h : nameB p.1 = true) (h2 : hasN b p.1 = false) : keyE p b = valE p.2 := by unfold keyE; rw [if_neg (by rw [h]; decide), if_neg (by rw [h2]; decide)]

set_option maxRecDepth 100000 in
set_option maxHeartbeats 4000000 in
theorem refFormat_any {w : World} {kv : Value} (t : TagL) (hk : Keys w kv t.keys) (hl : t.keys.length ≤ 100) (hn : t.name.length ≤ 1000000) (hs : ∀ p ∈ t.keys, p.1.length ≤ 1000000 ∧ p.2.length ≤ 1000000) :
    Calls Tryz.prog 12 #[.agg #[.bool t.close, .string ⟨t.name.toArray⟩, kv]] w fun e w' => e = .returned (.tuple #[.string ⟨(formatS t).toArray⟩, .int .i64 (checkT t : Nat)]) ∧ Below w.heap.size w w' := by
  obtain ⟨A, cap, hv, hc, _⟩ := id hk
  obtain ⟨ks, hks⟩ : ∃ ks, t.keys = ks := ⟨_, rfl⟩
  obtain ⟨c, hcl⟩ : ∃ c, t.close = c := ⟨_, rfl⟩
  obtain ⟨l, hll⟩ : ∃ l, ks.length = l := ⟨_, rfl⟩
  obtain ⟨SN, hSN⟩ : ∃ S : ByteArray, (⟨t.name.toArray⟩ : ByteArray) = S := ⟨_, rfl⟩
  have hSd : SN.data.toList = t.name := by rw [← hSN]
  have hSz : SN.size ≤ 1000000 := by rw [← hSN]; exact hn
  obtain ⟨FS, hFS⟩ : ∃ S : ByteArray, (⟨(formatS t).toArray⟩ : ByteArray) = S := ⟨_, rfl⟩
  obtain ⟨E, hE⟩ : ∃ E, checkT t = E := ⟨_, rfl⟩
  rw [hks, hll] at hv hc
  rw [hks] at hk hl hs
  rw [hll] at hl
  rw [hcl, hSN, hFS, hE]
  subst hv
  have hnm := fun W => refName_any SN (by unfold maxLen; omega) W
  rw [hSd] at hnm
  obtain ⟨b, hb⟩ : ∃ b, nameB t.name = b := ⟨_, rfl⟩
  rw [hb] at hnm
  have HCK : Hid (E = if b = false then 4 else if (c = true ∧ 0 < l) ∨ 8 < l then 15 else keysE [] ks) := Lib.hid (by
    rw [← hE]
    unfold checkT
    rw [hb, hcl, hks, hll])
  have HFS : Hid (FS = if E = 0 then ⟨(textT t).toArray⟩ else ⟨#[]⟩) := Lib.hid (by
    rw [← hFS, ← hE]
    unfold formatS
    split <;> rfl)
  have HTX : Hid (textT t = [60] ++ (if c then [47] else []) ++ t.name ++ (sortP ks).flatMap keyT ++ [62]) := Lib.hid (by
    unfold textT headT
    rw [hcl, hks])
  have h1 := block_new w (.cells #[.bool c, .string SN, .slice A l cap] 28)
  obtain ⟨V, hV⟩ : ∃ V, w.alloc (.cells #[.bool c, .string SN, .slice A l cap] 28) = V := ⟨_, rfl⟩
  have hbV : Below w.heap.size w V := by rw [← hV]; exact (Below.refl _ w).alloc (Nat.le_refl _) _
  rw [hV] at h1
  have a0 := cell_of (i := 0) h1 rfl
  have a1 := cell_of (i := 1) h1 rfl
  have a2 := cell_of (i := 2) h1 rfl
  have HNM := Lib.hid hnm
  have HSN := Lib.hid hSN
  have HL := Lib.hid hll
  have HKV := Lib.hid (hk.below hbV)
  have HS := Lib.hid hs
  have HV := Lib.hid hV
  have HBV := Lib.hid hbV
  have H1 := Lib.hid h1
  have HTN := Lib.hid hn
  clear hk hs hll hV hbV h1 hnm hSN hSd hFS hE hb hks hcl hn
  cases b with
  | false =>
    have HA : Hid (E = 4) := Lib.hid (by rw [HCK.out, if_pos rfl])
    go_enter Tryz.func12, Tryz.ntmps12
    go_wp2_with fail
    rw [HV.out]
    go_wp2_with fail
    refine (HNM.out _).mono ?_
    rintro e w1 ⟨rfl, rfl⟩
    go_wp2_with fail
    go_ret2
    exact ⟨by rw [HFS.out, HA.out]; rfl, HBV.out⟩
  | true =>
    by_cases h15 : (c = true ∧ 0 < l) ∨ 8 < l
    · have HA : Hid (E = 15) := Lib.hid (by rw [HCK.out, if_neg (by decide), if_pos h15])
      have hdec : (c && decide (0 < l) || decide (8 < l)) = true := by
        rcases h15 with ⟨h, h'⟩ | h
        · rw [h, decide_eq_true h']; rfl
        · rw [decide_eq_true h, Bool.or_true]
      clear h15
      cases c with
      | true =>
        by_cases h0 : 0 < l
        · have h0i : (0 : Int) < (l : Int) := by omega
          clear hdec
          go_enter Tryz.func12, Tryz.ntmps12
          go_wp2_with fail
          rw [HV.out]
          go_wp2_with fail
          refine (HNM.out _).mono ?_
          rintro e w1 ⟨rfl, rfl⟩
          go_wp2_with fail
          go_ret2
          exact ⟨by rw [HFS.out, HA.out]; rfl, HBV.out⟩
        · have h8 : 8 < l := by simpa [h0] using hdec
          omega
      | false =>
        have h8 : 8 < l := by simpa using hdec
        have h8i : (8 : Int) < (l : Int) := by omega
        clear hdec
        go_enter Tryz.func12, Tryz.ntmps12
        go_wp2_with fail
        rw [HV.out]
        go_wp2_with fail
        refine (HNM.out _).mono ?_
        rintro e w1 ⟨rfl, rfl⟩
        go_wp2_with fail
        go_ret2
        exact ⟨by rw [HFS.out, HA.out]; rfl, HBV.out⟩
    · have hl8 : l ≤ 8 := by omega
      have hcl0 : c = true → l = 0 := fun h => by
        by_cases h0 : 0 < l
        · exact absurd (.inl ⟨h, h0⟩) h15
        · omega
      have HA : Hid (keysE [] ks = E) := Lib.hid (by rw [HCK.out, if_neg (by decide), if_neg h15])
      have HST : Hid (ChkI V ks E l (.int .i64 0) V) := Lib.hid ⟨0, Nat.zero_le _, rfl, by rw [List.take_zero, List.drop_zero]; exact HA.out, Below.refl _ _⟩
      have h8i : ¬ (8 : Int) < (l : Int) := by omega
      clear h15
      cases c with
      | true =>
        have hl0 := hcl0 rfl
        have h0i : ¬ (0 : Int) < (l : Int) := by omega
        have HC0 := Lib.hid hl0
        have hkl0 : ks = [] := List.length_eq_zero_iff.1 (by rw [HL.out]; exact hl0)
        have HE : Hid (E = 0) := Lib.hid (by rw [← HA.out, hkl0]; rfl)
        have HT : Hid ((⟨#[60, 47]⟩ : ByteArray) ++ SN ++ ⟨#[62]⟩ = FS) := Lib.hid (by
          rw [HFS.out, HE.out, if_pos rfl, HTX.out, hkl0, ← HSN.out]
          apply ByteArray.ext
          simp [sortP])
        clear hkl0
        clear hcl0 hl0
        go_enter Tryz.func12, Tryz.ntmps12
        go_wp2_with fail
        rw [HV.out]
        go_wp2_with fail
        refine (HNM.out _).mono ?_
        rintro e w1 ⟨rfl, rfl⟩
        go_wp2_with fail
        clear h0i h8i a0 a1 a2
        go_loopw [33] (fun i wr => ChkI w1 ks E l i wr) (fun i _ => l - (Go.RowKit.intOf i).toNat)
        case atStart => exact HST.out
        case round =>
          obtain ⟨k, hkl, rfl, hke, hb⟩ := hrel
          have hk0 : k = 0 := by have := HC0.out; omega
          have hlt : ¬ (k : Int) < (l : Int) := by have := HC0.out; omega
          have hB := block_below H1.out hb (Array.getElem?_eq_some_iff.1 H1.out).1
          have a0 := cell_of (i := 0) hB rfl
          have a1 := cell_of (i := 1) hB rfl
          have z1 : ¬ (9223372036854775807 < 2 + SN.size) := by omega
          have z2 : ¬ (9223372036854775807 < 2 + SN.size + 1) := by omega
          have HB := Lib.hid hb
          clear hke hk0 hB hb
          go_wp2_with fail
          go_ret2
          exact ⟨by rw [HE.out, ← HT.out]; rfl, HBV.out.trans (HB.out.mono HBV.out.size)⟩
      | false =>
        clear hcl0
        go_enter Tryz.func12, Tryz.ntmps12
        go_wp2_with fail
        rw [HV.out]
        go_wp2_with fail
        refine (HNM.out _).mono ?_
        rintro e w1 ⟨rfl, rfl⟩
        go_wp2_with fail
        clear h8i a0 a1 a2
        go_loopw [33] (fun i wr => ChkI w1 ks E l i wr) (fun i _ => l - (Go.RowKit.intOf i).toNat)
        case atStart => exact HST.out
        case round =>
          obtain ⟨wo, rfl⟩ : ∃ wo, wo = wr := ⟨_, rfl⟩
          obtain ⟨k, hkl, rfl, hke, hb⟩ := hrel
          have hbw : Below w.heap.size w wo := HBV.out.trans (hb.mono HBV.out.size)
          have hB := block_below H1.out hb (Array.getElem?_eq_some_iff.1 H1.out).1
          by_cases hlk : k < l
          · obtain ⟨p, hp⟩ : ∃ p, ks[k]? = some p := ⟨_, List.getElem?_eq_getElem (by rw [HL.out]; exact hlk)⟩
            obtain ⟨A', cap', hv, _, hr⟩ := HKV.out.below hb
            obtain ⟨ba, oa, hA, _, hja⟩ := hr (by rw [HL.out]; omega)
            simp only [Value.slice.injEq] at hv
            obtain ⟨hv, -, -⟩ := hv
            subst hv hA
            obtain ⟨c0, c1⟩ := hja k p hp
            have hps := HS.out p (List.mem_of_getElem? hp)
            have hstep := keysE_step ks k p hp
            rw [hke] at hstep
            obtain ⟨P1, hP1⟩ : ∃ s : ByteArray, (⟨p.1.toArray⟩ : ByteArray) = s := ⟨_, rfl⟩
            obtain ⟨P2, hP2⟩ : ∃ s : ByteArray, (⟨p.2.toArray⟩ : ByteArray) = s := ⟨_, rfl⟩
            have hPd1 : P1.data.toList = p.1 := by rw [← hP1]
            have hPd2 : P2.data.toList = p.2 := by rw [← hP2]
            have hz1 : P1.size ≤ 1000000 := by rw [← hP1]; exact hps.1
            have hz2 : P2.size ≤ 1000000 := by rw [← hP2]; exact hps.2
            have hpn := fun W => refName_any P1 (by unfold maxLen; omega) W
            have hpv := fun W => refValue_all P2 hz2 W
            rw [hPd1] at hpn
            rw [hPd2] at hpv
            rw [hP1] at c0
            rw [hP2] at c1
            obtain ⟨W2, hW2⟩ : ∃ W2, wo.alloc (.cells #[.string P1, .string P2] 54) = W2 := ⟨_, rfl⟩
            have hb2 : Below wo.heap.size wo W2 := by rw [← hW2]; exact (Below.refl _ wo).alloc (Nat.le_refl _) _
            have hn2 : W2.heap[wo.heap.size]? = some (.cells #[.string P1, .string P2] 54 (0, 0)) := by rw [← hW2]; exact block_new _ _
            have hB2 := block_below hB hb2 (Array.getElem?_eq_some_iff.1 hB).1
            have a2 := cell_of (i := 2) hB rfl
            have g2 := cell_of (i := 2) hB2 rfl
            have d0 := cell_of (i := 0) hn2 rfl
            have d1 := cell_of (i := 1) hn2 rfl
            have HKO := Lib.hid (fun W (h : Below wo.heap.size wo W) => (HKV.out.below hb).below h)
            have HW2 := Lib.hid hW2
            have HB2 := Lib.hid hb2
            have HN2 := Lib.hid hn2
            have HBB2 := Lib.hid hB2
            have HB := Lib.hid hb
            have HBW := Lib.hid hbw
            have HP := Lib.hid hp
            have HPD := Lib.hid hPd1
            have HSTEP := Lib.hid hstep
            obtain ⟨b1, hb1⟩ : ∃ b, nameB p.1 = b := ⟨_, rfl⟩
            obtain ⟨E2, hE2⟩ : ∃ E, valE p.2 = E := ⟨_, rfl⟩
            rw [hb1] at hpn
            rw [hE2] at hpv
            have HPN := Lib.hid hpn
            have HPV := Lib.hid hpv
            have HE2 := Lib.hid hE2
            have HNB := Lib.hid hb1
            clear hr hja hp hP1 hP2 hps hstep hPd1 hPd2 hpn hpv hW2 hb2 hn2 hB2 hb hbw hB hb1 hE2 hke
            have hkb : Below w.heap.size w W2 := HBW.out.trans (HB2.out.mono HBW.out.size)
            have HKB := Lib.hid hkb
            clear hkb
            cases b1 with
            | false =>
              have HA4 : Hid (E = 4) := Lib.hid (by
                have := HSTEP.out
                rw [keyE_name HNB.out] at this
                rw [this]
                rfl)
              go_wp2_with fail
              rw [HW2.out]
              go_wp2_with fail
              refine (HPN.out _).mono ?_
              rintro e w3 ⟨rfl, rfl⟩
              go_wp2_with fail
              go_ret2
              exact ⟨by rw [HFS.out, HA4.out]; rfl, HKB.out⟩
            | true =>
              go_wp2_with fail
              rw [HW2.out]
              go_wp2_with fail
              refine (HPN.out _).mono ?_
              rintro e w3 ⟨rfl, rfl⟩
              have hkc : k ≤ cap := by omega
              go_wp2_with fail
              clear c0 c1 a2 g2 d0 d1
              go_loopw [47] (fun i wr => DupI w3 ks p.1 k i wr) (fun i _ => k - (Go.RowKit.intOf i).toNat)
              case atStart => exact ⟨0, Nat.zero_le _, rfl, by rw [List.take_zero]; rfl, Below.refl _ _⟩
              case round =>
                obtain ⟨j, hjk, rfl, hno, hbr⟩ := hrel
                have hn3 := block_below HN2.out hbr (Array.getElem?_eq_some_iff.1 HN2.out).1
                have d0 := cell_of (i := 0) hn3 rfl
                have d1 := cell_of (i := 1) hn3 rfl
                have hbo : Below wo.heap.size wo wr := HB2.out.trans (hbr.mono HB2.out.size)
                by_cases hlj : j < k
                · obtain ⟨q, hq⟩ : ∃ q, ks[j]? = some q := ⟨_, List.getElem?_eq_getElem (by rw [HL.out]; omega)⟩
                  obtain ⟨A', cap', hv, _, hr⟩ := HKO.out _ hbo
                  obtain ⟨bq, oq, hA, _, hja⟩ := hr (by rw [HL.out]; omega)
                  simp only [Value.slice.injEq] at hv
                  obtain ⟨hv, -, -⟩ := hv
                  rw [← hv] at hA
                  simp only [Option.some.injEq, Addr.mk.injEq, and_true] at hA
                  obtain ⟨hA1, hA2⟩ := hA
                  subst hA1 hA2
                  obtain ⟨e0, e1⟩ := hja j q hq
                  obtain ⟨Q1, hQ1⟩ : ∃ s : ByteArray, (⟨q.1.toArray⟩ : ByteArray) = s := ⟨_, rfl⟩
                  obtain ⟨Q2, hQ2⟩ : ∃ s : ByteArray, (⟨q.2.toArray⟩ : ByteArray) = s := ⟨_, rfl⟩
                  have htest : (Q1.toList == P1.toList) = decide (q.1 = p.1) := by
                    rw [← hQ1, Lib.toList_data, Lib.toList_data, HPD.out, Bool.eq_iff_iff]
                    simp
                  rw [hQ1] at e0
                  rw [hQ2] at e1
                  have hn4 := block_below hn3 ((Below.refl wr.heap.size wr).alloc (Nat.le_refl _) (.cells #[.string Q1, .string Q2] 54)) (Array.getElem?_eq_some_iff.1 hn3).1
                  have f0 := cell_of (i := 0) hn4 rfl
                  have HBR := Lib.hid (hbr.alloc hbr.size (.cells #[.string Q1, .string Q2] 54))
                  have HQ := Lib.hid hq
                  have HNO := Lib.hid hno
                  clear hr hja hq hQ1 hQ2 hv hn3 hbo hn4 hbr hno
                  by_cases hqp : q.1 = p.1
                  · have hT : (Q1.toList == P1.toList) = true := by rw [htest]; exact decide_eq_true hqp
                    have HA5 : Hid (E = 5) := Lib.hid (by
                      have := HSTEP.out
                      rw [keyE_dup HNB.out (hasN_hit HQ.out hlj hqp)] at this
                      rw [this]
                      rfl)
                    clear htest hqp
                    go_wp2_with fail
                    go_ret2
                    exact ⟨by rw [HFS.out, HA5.out]; rfl, HKB.out.trans (HBR.out.mono HKB.out.size)⟩
                  · have hT : (Q1.toList == P1.toList) = false := by rw [htest]; exact decide_eq_false hqp
                    have HX : Hid (hasN (ks.take (j + 1)) p.1 = false) := Lib.hid (by rw [hasN_snoc _ HQ.out, HNO.out, decide_eq_false hqp]; rfl)
                    clear htest hqp
                    go_wp2_with fail
                    exact ⟨⟨j + 1, by omega, by go_num, HX.out, HBR.out⟩, by simp only [Go.RowKit.intOf]; omega⟩
                · have hjk' : j = k := by omega
                  subst hjk'
                  have HV2 : Hid (keyE p (ks.take j) = E2) := Lib.hid (by rw [keyE_val HNB.out hno, HE2.out])
                  have HBR := Lib.hid hbr
                  clear hn3 hbo hbr hno
                  by_cases h0 : E2 = 0
                  · subst h0
                    have HX : Hid (keysE (ks.take (j + 1)) (ks.drop (j + 1)) = E) := Lib.hid (by
                      have := HSTEP.out
                      rw [HV2.out] at this
                      exact this.symm)
                    go_wp2_with fail
                    refine (HPV.out _).mono ?_
                    rintro e w4 ⟨rfl, hb4⟩
                    have HB4 := Lib.hid (HBR.out.trans (hb4.mono HBR.out.size))
                    clear hb4 d0 d1
                    go_wp2_with fail
                    exact ⟨⟨j + 1, by omega, by go_num, HX.out, (HB.out.trans (HB2.out.mono HB.out.size)).trans (HB4.out.mono (Nat.le_trans HB.out.size HB2.out.size))⟩, by simp only [Go.RowKit.intOf]; omega⟩
                  · have HX : Hid (E = E2) := Lib.hid (by
                      have := HSTEP.out
                      rw [HV2.out, if_pos h0] at this
                      exact this)
                    have e1 : ((E2 : Int) != 0) = true := by simp; omega
                    have e2 : ((E2 : Int) == 0) = false := by simp; omega
                    go_wp2_with fail
                    refine (HPV.out _).mono ?_
                    rintro e w4 ⟨rfl, hb4⟩
                    have HB4 := Lib.hid (HBR.out.trans (hb4.mono HBR.out.size))
                    clear hb4 d0 d1
                    go_wp2_with fail
                    go_ret2
                    exact ⟨by rw [HFS.out, HX.out, if_neg h0]; rfl, HKB.out.trans (HB4.out.mono HKB.out.size)⟩
          · have hkl' : k = l := by omega
            subst hkl'
            have hE0 : E = 0 := by
              rw [← hke, List.drop_eq_nil_of_le (by rw [HL.out]; exact Nat.le_refl _)]
              rfl
            have HE : Hid (E = 0) := Lib.hid hE0
            have a0 := cell_of (i := 0) hB rfl
            have a1 := cell_of (i := 1) hB rfl
            have a2 := cell_of (i := 2) hB rfl
            have HSO := Lib.hid (refSort_any (HKV.out.below hb) (by rw [HL.out]; omega))
            have HBW := Lib.hid hbw
            have z1 : ¬ (9223372036854775807 < 1 + SN.size) := by omega
            clear hE0 hke hB hb hbw hlk
            go_wp2_with fail
            refine HSO.out.mono ?_
            rintro e w2 ⟨⟨v2, rfl, hown⟩, hb2⟩
            have hkS := keys_own hown
            obtain ⟨sk, hsk⟩ : ∃ sk, sortP ks = sk := ⟨_, rfl⟩
            have hsl : sk.length = k := by rw [← hsk, sortP_len]; exact HL.out
            have hss : ∀ p ∈ sk, p.1.length ≤ 1000000 ∧ p.2.length ≤ 1000000 := fun p hp => HS.out p ((sortP_perm ks).mem_iff.1 (by rw [hsk]; exact hp))
            rw [hsk] at hkS hown
            obtain ⟨A2, cap2, hv2, _⟩ := own_form hown
            rw [hsl] at hv2
            subst hv2
            obtain ⟨H, hH⟩ : ∃ H : Bs, [60] ++ t.name = H := ⟨_, rfl⟩
            have hHl : H.length ≤ 1000001 := by rw [← hH]; have := HTN.out; simp; omega
            have hH0 : ((⟨#[60]⟩ : ByteArray) ++ SN) = ⟨(H ++ (sk.take 0).flatMap keyT).toArray⟩ := by
              rw [← HSN.out, ← hH]
              apply ByteArray.ext
              simp
            have HTX2 : Hid (textT t = H ++ sk.flatMap keyT ++ [62]) := Lib.hid (by rw [HTX.out, hsk, ← hH]; simp)
            have HKS := Lib.hid hkS
            have HSL := Lib.hid hsl
            have HSS := Lib.hid hss
            have HH0 := Lib.hid hH0
            have HHL := Lib.hid hHl
            have HB2 := Lib.hid (HBW.out.trans (hb2.mono HBW.out.size))
            clear a0 a1 a2 z1 hown hkS hsk hsl hss hH hHl hH0 hb2
            go_wp2_with fail
            rw [HH0.out]
            go_loopw [9, 77] (fun s i wr => TxtI w2 H sk k s i wr) (fun _ i _ => k - (Go.RowKit.intOf i).toNat)
            case atStart => exact ⟨0, Nat.zero_le _, rfl, rfl, Below.refl _ _⟩
            case round =>
              obtain ⟨j, hjk, rfl, rfl, hbr⟩ := hrel
              have hlen := keysT_len (sk.take j) (fun p hp => HSS.out p (List.mem_of_mem_take hp))
              rw [List.length_take, HSL.out] at hlen
              have hmin : min j k ≤ 8 := by omega
              have hlen2 : ((sk.take j).flatMap keyT).length ≤ 56000032 := Nat.le_trans hlen (by
                have := Nat.mul_le_mul_right 7000004 hmin
                omega)
              obtain ⟨L, hL⟩ : ∃ L, H ++ (sk.take j).flatMap keyT = L := ⟨_, rfl⟩
              have hLl : L.length ≤ 60000000 := by
                rw [← hL, List.length_append]
                have := HHL.out
                omega
              have HLL := Lib.hid hL
              rw [hL]
              obtain ⟨SL, hSL⟩ : ∃ S : ByteArray, (⟨L.toArray⟩ : ByteArray) = S := ⟨_, rfl⟩
              have hSz2 : SL.size ≤ 60000000 := by rw [← hSL]; exact hLl
              have HSLL := Lib.hid hSL
              rw [hSL]
              clear hlen hmin hlen2 hL hLl hSL
              by_cases hlj : j < k
              · obtain ⟨p, hp⟩ : ∃ p, sk[j]? = some p := ⟨_, List.getElem?_eq_getElem (by rw [HSL.out]; exact hlj)⟩
                obtain ⟨A', cap', hv, _, hr⟩ := HKS.out.below hbr
                obtain ⟨ba, oa, hA, _, hja⟩ := hr (by rw [HSL.out]; omega)
                simp only [Value.slice.injEq] at hv
                obtain ⟨hv, -, -⟩ := hv
                subst hv hA
                obtain ⟨c0, c1⟩ := hja j p hp
                obtain ⟨n0, x0⟩ := p
                have hsz := HSS.out _ (List.mem_of_getElem? hp)
                have hnx : H ++ (sk.take (j + 1)).flatMap keyT = L ++ keyT (n0, x0) := by
                  rw [List.take_add_one, hp, ← HLL.out]
                  simp
                have hes := fun (W : World) => refEscape_any ⟨x0.toArray⟩ hsz.2 W
                have htb := text_bytes n0 x0
                have hel := esc_len x0
                obtain ⟨P1, hP1⟩ : ∃ s : ByteArray, (⟨n0.toArray⟩ : ByteArray) = s := ⟨_, rfl⟩
                obtain ⟨P2, hP2⟩ : ∃ s : ByteArray, (⟨x0.toArray⟩ : ByteArray) = s := ⟨_, rfl⟩
                obtain ⟨SE, hSE⟩ : ∃ s : ByteArray, (⟨(esc x0).toArray⟩ : ByteArray) = s := ⟨_, rfl⟩
                have he2 : (⟨(esc (⟨x0.toArray⟩ : ByteArray).data.toList).toArray⟩ : ByteArray) = SE := hSE
                simp only [he2] at hes
                have hz1 : P1.size ≤ 1000000 := by rw [← hP1]; exact hsz.1
                have hz2 : SE.size ≤ 6000000 := by
                  rw [← hSE]
                  have h2 : x0.length ≤ 1000000 := hsz.2
                  show (esc x0).length ≤ _
                  omega
                rw [hP1] at c0 htb
                rw [hP2] at c1 hes
                rw [hSE] at htb
                have HNX : Hid (SL ++ (⟨#[32]⟩ ++ P1 ++ ⟨#[61, 34]⟩ ++ SE ++ ⟨#[34]⟩) = ⟨(H ++ (sk.take (j + 1)).flatMap keyT).toArray⟩) := Lib.hid (by
                  rw [htb, hnx, ← HSLL.out, ByteArray.mk_append_mk])
                have y1 : ¬ (9223372036854775807 < 1 + P1.size) := by omega
                have y2 : ¬ (9223372036854775807 < 1 + P1.size + 2) := by omega
                have y3 : ¬ (9223372036854775807 < 1 + P1.size + 2 + SE.size) := by omega
                have y4 : ¬ (9223372036854775807 < 1 + P1.size + 2 + SE.size + 1) := by omega
                have y5 : ¬ (9223372036854775807 < SL.size + (1 + P1.size + 2 + SE.size + 1)) := by omega
                obtain ⟨W2, hW2⟩ : ∃ W2, wr.alloc (.cells #[.string P1, .string P2] 54) = W2 := ⟨_, rfl⟩
                have hbr2 : Below w2.heap.size w2 W2 := by rw [← hW2]; exact hbr.alloc hbr.size _
                have hn2 : W2.heap[wr.heap.size]? = some (.cells #[.string P1, .string P2] 54 (0, 0)) := by rw [← hW2]; exact block_new _ _
                have d0 := cell_of (i := 0) hn2 rfl
                have d1 := cell_of (i := 1) hn2 rfl
                have HW2 := Lib.hid hW2
                have HBR := Lib.hid hbr2
                have HES := Lib.hid hes
                clear hr hja hp hsz hnx hes htb hel hP1 hP2 hSE he2 hW2 hbr2 hn2 hbr
                go_wp2_with fail
                rw [HW2.out]
                go_quiet ((go_at_call 29; exact Calls.quiet_of_same (HES.out _)))
                clear d0 d1 y1 y2 y3 y4 y5 c0 c1
                go_wp2_with fail
                exact ⟨⟨j + 1, by omega, by go_num, by rw [← HNX.out], below_drewN HBR.out _⟩, by simp only [Go.RowKit.intOf]; omega⟩
              · have hjk' : j = k := by omega
                subst hjk'
                have hfin : sk.take j = sk := List.take_of_length_le (by rw [HSL.out]; exact Nat.le_refl _)
                have HT : Hid (SL ++ ⟨#[62]⟩ = ⟨(textT t).toArray⟩) := Lib.hid (by
                  rw [HTX2.out, ← HSLL.out, ← HLL.out, hfin]
                  show _ ++ (⟨([62] : Bs).toArray⟩ : ByteArray) = _
                  rw [ByteArray.mk_append_mk])
                have z2 : ¬ (9223372036854775807 < SL.size + 1) := by omega
                have HBR := Lib.hid hbr
                clear hfin hbr
                go_wp2_with fail
                go_ret2
                refine ⟨?_, HB2.out.trans (HBR.out.mono HB2.out.size)⟩
                rw [HFS.out, HE.out, if_pos rfl, ← HT.out]
                rfl
end Go.Proofs.YtjablaidbccnbaaGreatDoor
