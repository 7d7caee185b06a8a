/-
  MarkupRoundTrips is proved: for every tag and every number the call of the law returns true, and each argument reads afterwards as it read before. The package-level variables that the row lists hold what the program's text lays in them: this is tied to the text.
-/
import Derived.Test.YtjablaidbccnbaaGreatDoorRows
import Derived.Test.YtjablaidbccnbaaGreatDoorCards
import Derived.Test.YtjablaidbccnbaaGreatDoorTie
import Derived.Test.YtjablaidbccnbaaGreatDoorMkL
import Derived.Test.YtjablaidbccnbaaGreatDoorOsM
import Derived.Test.YtjablaidbccnbaaGreatDoorLgM
import Derived.Test.YtjablaidbccnbaaGreatDoorFrM
import Derived.Test.YtjablaidbccnbaaGreatDoorOwM
import Derived.Test.YtjablaidbccnbaaGreatDoorRkM
import Derived.Test.YtjablaidbccnbaaGreatDoorEqM
import Derived.Test.YtjablaidbccnbaaGreatDoorMnM
import Derived.ProofKit
import Derived.RegionTactic
import Derived.OpenShut
import Derived.Carry
import Derived.SevenTiedAt
import Derived.LaidMore
import Derived.Stop.Joined
namespace Go.Proofs.YtjablaidbccnbaaGreatDoor.markupRoundTrips
open Go.ChangeShapes Go.WideShapes Go.ChangeAt Go.RowKit Go.Shelf Go.Lib
set_option linter.unusedVariables false

theorem walk {w : World} (t : TagL) (kv : Value) (hk : Keys w kv t.keys) (hl : t.keys.length ≤ maxLen) (hn : t.name.length ≤ reachBytes) (hs : ∀ q ∈ t.keys, q.1.length ≤ reachBytes ∧ q.2.length ≤ reachBytes) (x : Int) (hx0 : -9223372036854775808 ≤ x) (hx1 : x ≤ 9223372036854775807) (m : Mem w) :
    Calls Tryz.prog 5 #[.agg #[.bool t.close, .string ⟨t.name.toArray⟩, kv], .int .i64 x] w fun e w1 => e = .returned (.bool true) ∧ Below w.heap.size w w1 := by
  unfold reachBytes at hn hs
  obtain ⟨A, cap, hv, hc, _⟩ := id hk
  obtain ⟨l, hll⟩ : ∃ l, t.keys.length = l := ⟨_, rfl⟩
  obtain ⟨c, hcl⟩ : ∃ c, t.close = c := ⟨_, rfl⟩
  obtain ⟨SN, hSN⟩ : ∃ S : ByteArray, (⟨t.name.toArray⟩ : ByteArray) = S := ⟨_, rfl⟩
  have hSz : SN.size = t.name.length := by rw [← hSN]; rfl
  rw [hll] at hv hc
  subst hv
  have hbV : Below w.heap.size w (w.alloc (.cells #[.bool c, .string SN, .slice A l cap] 24)) := (Below.refl _ w).alloc (Nat.le_refl _) _
  have hlg := large_any (w := w.alloc (.cells #[.bool c, .string SN, .slice A l cap] 24)) c SN (hk.below hbV) hl (by rw [hSz]; exact hn) hs
  obtain ⟨R, hR⟩ : ∃ R, largeB SN.size t.keys = R := ⟨_, rfl⟩
  rw [hR] at hlg
  have h3 := fun (W : World) (h : Mem W) => awake_any h
  have hB := block_new w (.cells #[.bool c, .string SN, .slice A l cap] 24)
  have a0 := cell_of (i := 0) hB rfl
  have a1 := cell_of (i := 1) hB rfl
  have a2 := cell_of (i := 2) hB rfl
  rw [hcl, hSN]
  have HLG := Lib.hid hlg
  have HLF : Hid (R = false → t.name.length + totP t.keys ≤ 2000 ∧ t.keys.length ≤ 12) := Lib.hid (fun h => by have := largeB_false (hR.trans h); rw [hSz] at this; exact this)
  have H3 := Lib.hid h3
  have HM := Lib.hid m
  have HK := Lib.hid hk
  have HB := Lib.hid hB
  have HBV := Lib.hid hbV
  have HCL := Lib.hid hcl
  have HSN := Lib.hid hSN
  have HLL := Lib.hid hll
  have HSZ := Lib.hid hSz
  clear hk hl hn hs m hll hcl hSN hSz hbV hlg hR h3 hB
  cases R with
  | true =>
    go_enter Tryz.func5, Tryz.ntmps5
    go_wp2_with fail
    refine HLG.out.mono ?_
    rintro e w1 ⟨rfl, hb1⟩
    have HB1 := Lib.hid (HBV.out.trans (hb1.mono HBV.out.size))
    clear hb1
    go_wp2_with fail
    go_ret
    exact ⟨rfl, HB1.out⟩
  | false =>
    have hbd := HLF.out rfl
    have HBD := Lib.hid hbd
    have hl12 : l ≤ 12 := by rw [← HLL.out]; exact hbd.2
    have hSN2 : SN.size ≤ 2000 := by have := HSZ.out; have := hbd.1; omega
    clear hbd
    by_cases hneg : x < 0
    · go_enter Tryz.func5, Tryz.ntmps5
      go_wp2_with fail
      refine HLG.out.mono ?_
      rintro e w1 ⟨rfl, hb1⟩
      have HB1 := Lib.hid (HBV.out.trans (hb1.mono HBV.out.size))
      clear hb1
      go_wp2_with fail
      go_ret
      exact ⟨rfl, HB1.out⟩
    · by_cases hbig : 20 < x
      · go_enter Tryz.func5, Tryz.ntmps5
        go_wp2_with fail
        refine HLG.out.mono ?_
        rintro e w1 ⟨rfl, hb1⟩
        have HB1 := Lib.hid (HBV.out.trans (hb1.mono HBV.out.size))
        clear hb1
        go_wp2_with fail
        go_ret
        exact ⟨rfl, HB1.out⟩
      · obtain ⟨g, rfl⟩ : ∃ g : Nat, x = (g : Int) := ⟨x.toNat, by omega⟩
        have hg20 : g ≤ 20 := by omega
        have hng : decide ((g : Int) < 0) = false := decide_eq_false (by omega)
        have hbg : ¬ (20 : Int) < (g : Int) := by omega
        clear hneg hbig hx0 hx1
        have h1 := fun (W : World) (h : Mem W) (hK : Keys W (.slice A l cap) t.keys) => formatTag_any t h.named hK (by have := HBD.out; omega) (by have := HBD.out; omega) (fun p hp => by have := totP_le hp; have := HBD.out; omega)
        simp only [HCL.out, HSN.out] at h1
        by_cases hE : checkT t = 0
        · have hfs : formatS t = textT t := by unfold formatS; rw [if_pos hE]
          obtain ⟨FS, hFS⟩ : ∃ S : ByteArray, (⟨(formatS t).toArray⟩ : ByteArray) = S := ⟨_, rfl⟩
          have hFG : FS = ⟨(textG t 0).toArray⟩ := by rw [← hFS, hfs, textG_zero]
          have hFZ : FS.size ≤ 100000 := by
            rw [hFG]
            exact textG_len HBD.out (Nat.zero_le _)
          simp only [hFS, hE] at h1
          have HF := Lib.hid h1
          have hp1 := fun (W : World) (h : Mem W) => parse_back hE 0 (fun _ => rfl) FS hFG (by omega) h
          simp only [HCL.out, HSN.out, HLL.out] at hp1
          have HP1 := Lib.hid hp1
          have HCE := Lib.hid hE
          have HFG := Lib.hid hFG
          clear h1 hE hfs hFS hFG hp1
          go_enter Tryz.func5, Tryz.ntmps5
          go_wp2_with fail
          refine HLG.out.mono ?_
          rintro e w1 ⟨rfl, hb1⟩
          have hB1 := block_below HB.out hb1 (Array.getElem?_eq_some_iff.1 HB.out).1
          have b0 := cell_of (i := 0) hB1 rfl
          have b1 := cell_of (i := 1) hB1 rfl
          have b2 := cell_of (i := 2) hB1 rfl
          have HB1 := Lib.hid hB1
          have HBW1 := Lib.hid (HBV.out.trans (hb1.mono HBV.out.size))
          clear hb1 hB1 a0 a1 a2
          go_wp2_with fail
          refine (HF.out _ (HM.out.below HBW1.out (Nat.le_refl _)) (HK.out.below HBW1.out)).mono ?_
          rintro e w2 ⟨rfl, hb2⟩
          have hB2 := block_below HB1.out hb2 (Array.getElem?_eq_some_iff.1 HB1.out).1
          have d0 := cell_of (i := 0) hB2 rfl
          have d1 := cell_of (i := 1) hB2 rfl
          have d2 := cell_of (i := 2) hB2 rfl
          have HB2 := Lib.hid hB2
          have HBW2 := Lib.hid (HBW1.out.trans (hb2.mono HBW1.out.size))
          clear hb2 hB2 b0 b1 b2
          go_wp2_with fail
          refine (own_any _ _ _ _ _ _).mono ?_
          rintro e w3 ⟨rfl, hb3⟩
          have hB3 := block_below HB2.out hb3 (Array.getElem?_eq_some_iff.1 HB2.out).1
          have HB3 := Lib.hid hB3
          have HBW3 := Lib.hid (HBW2.out.trans (hb3.mono HBW2.out.size))
          clear hb3 hB3 d0 d1 d2
          have hU := block_new w3 (.cells #[.bool c, .string SN, .slice A l cap] 28)
          have u2 := cell_of (i := 2) hU rfl
          have hb3a : Below w3.heap.size w3 (w3.alloc (.cells #[.bool c, .string SN, .slice A l cap] 28)) := (Below.refl _ w3).alloc (Nat.le_refl _) _
          have HSO := Lib.hid (refSort_any ((HK.out.below HBW3.out).below hb3a) (by rw [HLL.out]; omega))
          have HU := Lib.hid (And.intro hU hb3a)
          clear hU hb3a
          go_wp2_with fail
          refine HSO.out.mono ?_
          rintro e w4 ⟨⟨v2, rfl, hown⟩, hb4⟩
          obtain ⟨sk, hsk⟩ : ∃ sk, sortP t.keys = sk := ⟨_, rfl⟩
          have hsl : sk.length = l := by rw [← hsk, sortP_len]; exact HLL.out
          rw [hsk] at hown
          obtain ⟨A2, cap2, hv2, _⟩ := own_form hown
          rw [hsl] at hv2
          subst hv2
          have hU4 := block_below HU.out.1 hb4 (Array.getElem?_eq_some_iff.1 HU.out.1).1
          have hB4 := block_below (block_below HB3.out HU.out.2 (Array.getElem?_eq_some_iff.1 HB3.out).1) hb4 (Nat.lt_of_lt_of_le (Array.getElem?_eq_some_iff.1 HB3.out).1 HU.out.2.size)
          have hne : w.heap.size ≠ w3.heap.size := by
            have h1 := (Array.getElem?_eq_some_iff.1 HB3.out).1
            omega
          have hU5 := set_of (i := 2) hU4 (.slice A2 l cap2)
          have hB5 := block_other (i := 2) (.slice A2 l cap2) hB4 hne
          have hlow : w3.heap.size < (w3.alloc (.cells #[.bool c, .string SN, .slice A l cap] 28)).heap.size := by simp
          have hown5 := own_but hown hlow (but_set w3.heap.size 2 w4 (.slice A2 l cap2))
          have hK5 := keys_own hown5
          have hBW5 : Below w.heap.size w (w4.setCell ⟨w3.heap.size, 2, none⟩ (.slice A2 l cap2)) := by
            have h1 := HBW3.out.trans (HU.out.2.mono HBW3.out.size)
            have h2 := h1.trans (hb4.mono h1.size)
            exact h2.setCell HBW3.out.size _
          have g2 := cell_of (i := 2) hU4 rfl
          have f2 := frozen_of (i := 2) hU4
          obtain ⟨w5, hw5⟩ : ∃ w5, w4.setCell ⟨w3.heap.size, 2, none⟩ (.slice A2 l cap2) = w5 := ⟨_, rfl⟩
          rw [hw5] at hU5 hB5 hK5 hBW5
          have hU5' : w5.heap[w3.heap.size]? = some (.cells #[.bool c, .string SN, .slice A2 l cap2] 28 (0, 0)) := hU5
          have HW5 := Lib.hid hw5
          have HU5 := Lib.hid hU5'
          have HB5 := Lib.hid hB5
          have HK5 := Lib.hid hK5
          have HBW5 := Lib.hid hBW5
          have HSK := Lib.hid hsk
          have HSL := Lib.hid hsl
          clear u2 hown hb4 hsk hsl hU4 hB4 hne hU5 hB5 hlow hown5 hK5 hBW5 hw5 hU5'
          go_wp2_with fail
          rw [HW5.out]
          clear g2 f2
          refine (HP1.out _ (HM.out.below HBW5.out (Nat.le_refl _))).mono ?_
          rintro e w6 ⟨hb6, A6, cap6, rfl, hk6⟩
          rw [HSK.out] at hk6
          have hU6 := block_below HU5.out hb6 (Array.getElem?_eq_some_iff.1 HU5.out).1
          have hB6 := block_below HB5.out hb6 (Array.getElem?_eq_some_iff.1 HB5.out).1
          have hb7 : Below w6.heap.size w6 (w6.alloc (.cells #[.bool c, .string SN, .slice A6 l cap6] 24)) := (Below.refl _ w6).alloc (Nat.le_refl _) _
          have hn7 := block_new w6 (.cells #[.bool c, .string SN, .slice A6 l cap6] 24)
          have hU7 := block_below hU6 hb7 (Array.getElem?_eq_some_iff.1 hU6).1
          have hB7 := block_below hB6 hb7 (Array.getElem?_eq_some_iff.1 hB6).1
          have hKU7 := (HK5.out.below hb6).below hb7
          have hKA7 := hk6.below hb7
          have HEQ := Lib.hid (equal_any c SN A6 A2 l cap6 cap2 sk (by omega) hKA7 hKU7)
          have p0 := cell_of (i := 0) hn7 rfl
          have p1 := cell_of (i := 1) hn7 rfl
          have p2 := cell_of (i := 2) hn7 rfl
          have q0 := cell_of (i := 0) hU7 rfl
          have q1 := cell_of (i := 1) hU7 rfl
          have q2 := cell_of (i := 2) hU7 rfl
          have HBW7 := Lib.hid ((HBW5.out.trans (hb6.mono HBW5.out.size)).trans (hb7.mono (Nat.le_trans HBW5.out.size hb6.size)))
          have HU7 := Lib.hid hU7
          have HB7 := Lib.hid hB7
          have HK7 := Lib.hid hKU7
          clear hb6 hk6 hU6 hB6 hb7 hn7 hU7 hB7 hKU7 hKA7
          go_wp2_with fail
          refine HEQ.out.mono ?_
          rintro e w8 ⟨rfl, hb8⟩
          have hU8 := block_below HU7.out hb8 (Array.getElem?_eq_some_iff.1 HU7.out).1
          have hB8 := block_below HB7.out hb8 (Array.getElem?_eq_some_iff.1 HB7.out).1
          have r2 := cell_of (i := 2) hU8 rfl
          have s1 := cell_of (i := 1) hB8 rfl
          have HU8 := Lib.hid hU8
          have HK8 := Lib.hid (HK7.out.below hb8)
          have HBW8 := Lib.hid (HBW7.out.trans (hb8.mono HBW7.out.size))
          clear hb8 hU8 hB8 p0 p1 p2 q0 q1 q2
          by_cases hl0 : 0 < l
          · have hl0i : (0 : Int) < (l : Int) := by omega
            have hkne : t.keys ≠ [] := fun e => by have := HLL.out; rw [e] at this; simp at this; omega
            have hcf : c = false := by
              obtain ⟨_, h2, _⟩ := checkT_zero HCE.out
              rw [HCL.out, HLL.out] at h2
              cases c with
              | true => exact absurd ⟨rfl, hl0⟩ h2
              | false => rfl
            have hhead : headT t = [60] ++ t.name := by
              unfold headT
              rw [HCL.out, hcf]
              rfl
            obtain ⟨TLb, hTLb⟩ : ∃ b : Bs, (sortP t.keys).flatMap keyT ++ [62] = b := ⟨_, rfl⟩
            have hG : ∀ k, textG t k = ([60] ++ t.name) ++ List.replicate k 32 ++ TLb := fun k => by unfold textG; rw [hhead, hTLb]
            obtain ⟨HD, hHD⟩ : ∃ S : ByteArray, (⟨([60] ++ t.name : Bs).toArray⟩ : ByteArray) = S := ⟨_, rfl⟩
            obtain ⟨TL, hTL⟩ : ∃ S : ByteArray, (⟨TLb.toArray⟩ : ByteArray) = S := ⟨_, rfl⟩
            obtain ⟨n1, hn1⟩ : ∃ n, 1 + t.name.length = n := ⟨_, rfl⟩
            have hHDl : ([60] ++ t.name : Bs).length = n1 := by rw [← hn1]; simp; omega
            have hFd : FS.data.toList = ([60] ++ t.name) ++ TLb := by
              rw [HFG.out]
              show textG t 0 = _
              rw [hG]
              simp
            have hex1 : FS.extract 0 n1 = HD := by
              rw [Lib.extract_eq, hFd, List.drop_zero, Nat.sub_zero, List.take_append_of_le_length (Nat.le_of_eq hHDl.symm), List.take_of_length_le (Nat.le_of_eq hHDl), hHD]
            have hex2 : FS.extract n1 FS.size = TL := by
              have hz : FS.size = (([60] ++ t.name) ++ TLb).length := by rw [Lib.size_eq, hFd]
              rw [Lib.extract_eq, hFd, ← hHDl, List.drop_left, List.take_of_length_le (by rw [hz, List.length_append]; omega), hTL]
            have hHDz : HD.size = n1 := by rw [← hHD]; exact hHDl
            have hTLz : n1 + TL.size = FS.size := by
              rw [← hTL, Lib.size_eq FS, hFd, List.length_append, hHDl]
              rfl
            have hn1z : n1 ≤ FS.size := by omega
            have hsum : (1 : Int) + (SN.size : Int) = (n1 : Int) := by have := HSZ.out; omega
            have hp2 := fun (W : World) (h : Mem W) => parse_back HCE.out g (fun e => absurd e hkne) (HD ++ ⟨(List.replicate g 32 : Bs).toArray⟩ ++ TL) (by
              rw [← hHD, ← hTL, hG, ByteArray.mk_append_mk, ByteArray.mk_append_mk]) (by
              have h1 := textG_len (t := t) HBD.out hg20
              rw [hG] at h1
              simp only [List.length_append, List.length_replicate, List.length_cons, List.length_nil] at h1
              have e1 : (HD ++ ⟨(List.replicate g 32 : Bs).toArray⟩ ++ TL).size = HD.size + g + TL.size := by
                rw [ByteArray.size_append, ByteArray.size_append]
                congr 2
                show (List.replicate g (32 : UInt8)).length = g
                simp
              have e2 : TL.size = TLb.length := by rw [← hTL]; rfl
              rw [e1, e2, hHDz]
              omega) h
            simp only [HCL.out, HSN.out, HLL.out, HSK.out] at hp2
            obtain ⟨GP, hGP⟩ : ∃ S : ByteArray, (⟨(List.replicate g 32 : Bs).toArray⟩ : ByteArray) = S := ⟨_, rfl⟩
            have hGPz : GP.size = g := by rw [← hGP]; show (List.replicate g (32 : UInt8)).length = g; simp
            rw [hGP] at hp2
            have HP2 := Lib.hid hp2
            have HGP := Lib.hid hGP
            have HX := Lib.hid (And.intro hex1 (And.intro hex2 (And.intro hHDz (And.intro hTLz hGPz))))
            have hM9 := HM.out.below HBW8.out (Nat.le_refl _)
            have HM9 := Lib.hid hM9
            have HSUM := Lib.hid hsum
            clear hkne hcf hhead hTLb hG hHD hTL hn1 hHDl hFd hex1 hex2 hHDz hTLz hp2 hGP hGPz hM9 hsum
            go_wp2_with fail
            clear r2
            go_loop [11, 12] (fun a i => ∃ k : Nat, k ≤ g ∧ i = .int .i64 k ∧ a = .string ⟨(List.replicate k 32 : Bs).toArray⟩) (fun _ i => g - (Go.RowKit.intOf i).toNat)
            case atStart => exact ⟨0, Nat.zero_le _, rfl, rfl⟩
            case round =>
              obtain ⟨k, hkg, rfl, rfl⟩ := hrel
              by_cases hlk : k < g
              · have hnext : (⟨(List.replicate k 32 : Bs).toArray⟩ : ByteArray) ++ ⟨#[32]⟩ = ⟨(List.replicate (k + 1) 32 : Bs).toArray⟩ := by
                  show _ ++ (⟨([32] : Bs).toArray⟩ : ByteArray) = _
                  rw [ByteArray.mk_append_mk, List.replicate_succ']
                obtain ⟨G1, hG1⟩ : ∃ S : ByteArray, (⟨(List.replicate k 32 : Bs).toArray⟩ : ByteArray) = S := ⟨_, rfl⟩
                have hG1z : G1.size = k := by rw [← hG1]; show (List.replicate k (32 : UInt8)).length = k; simp
                have z1 : ¬ (9223372036854775807 < G1.size + 1) := by omega
                rw [hG1] at hnext ⊢
                have HNX := Lib.hid hnext
                clear hnext hG1 hG1z
                go_wp2_with fail
                go_round
                case rel => exact ⟨k + 1, by omega, by go_num, by rw [← HNX.out]⟩
                case measure => simp only [Go.RowKit.intOf]; omega
              · have hkg' : k = g := by omega
                subst hkg'
                rw [HGP.out]
                have hsum := HSUM.out
                obtain ⟨hex1, hex2, hHDz, hTLz, hGPz⟩ := HX.out
                have z1 : ¬ (9223372036854775807 < HD.size + GP.size) := by omega
                have z2 : ¬ (9223372036854775807 < HD.size + GP.size + TL.size) := by omega
                clear hHDz hTLz hGPz
                have HMD1 : Hid (Mem w8.drew) := Lib.hid (HM.out.below HBW8.out.drew (Nat.le_refl _))
                have HMD2 : Hid (Mem (w8.alloc (.cells #[.bool false, .string ⟨#[]⟩, .slice none 0 0] 24)).drew) := Lib.hid (HM.out.below (HBW8.out.alloc HBW8.out.size _).drew (Nat.le_refl _))
                have HZ8 : Hid ((w8.alloc (.cells #[.bool false, .string ⟨#[]⟩, .slice none 0 0] 24)).drew.heap[w8.heap.size]? = some (.cells #[.bool false, .string ⟨#[]⟩, .slice none 0 0] 24 (0, 0))) := Lib.hid (block_new w8 _)
                go_wp2_with fail
                clear s1
                refine wp_region_any (by kernel_rfl) ?_
                change wpAny _ _ _ _ _ _ _ (World.drew _)
                refine wpAny_take (i := 0) (oi := ?oi1) (v := ?v1) ?hi1 (by kernel_rfl) (by kernel_rfl) (by kernel_rfl) ?hq1 ?hy1 ?hr1
                case hi1 => (simp only [List.getElem?_toArray, List.getElem?_cons_zero]; rfl)
                case hq1 => exact fun _ _ _ h => h
                case hy1 => exact Or.inl ⟨by rfl, by intro w; (first | (go_simp; done) | (go_simp; with_reducible rfl))⟩
                try simp only [Act.put, List.setIfInBounds_toArray, List.set_cons_zero, List.set_cons_succ]
                refine wpAny_take (i := 1) (oi := ?oi2) (v := ?v2) ?hi2 (by kernel_rfl) (by kernel_rfl) (by kernel_rfl) ?hq2 ?hy2 ?hr2
                case hi2 => (simp only [List.getElem?_toArray, List.getElem?_cons_succ, List.getElem?_cons_zero]; rfl)
                case hq2 => exact fun _ _ _ h => h
                case hy2 => exact Or.inl ⟨by rfl, by intro w; (first | (go_simp; done) | (go_simp; with_reducible rfl))⟩
                try simp only [Act.put, List.setIfInBounds_toArray, List.set_cons_zero, List.set_cons_succ]
                refine wpAny_take (i := 2) (oi := ?oi3) (v := ?v3) ?hi3 (by kernel_rfl) (by kernel_rfl) (by kernel_rfl) ?hq3 ?hy3 ?hr3
                case hi3 => (simp only [List.getElem?_toArray, List.getElem?_cons_succ, List.getElem?_cons_zero]; rfl)
                case hq3 => exact fun _ _ _ h => h
                case hy3 => exact Or.inl ⟨by rfl, by intro w; (first | (go_simp; done) | (go_simp; with_reducible rfl))⟩
                try simp only [Act.put, List.setIfInBounds_toArray, List.set_cons_zero, List.set_cons_succ]
                refine wpAny_take (i := 3) (oi := ?oi4) (v := ?v4) ?hi4 (by kernel_rfl) (by kernel_rfl) (by kernel_rfl) ?hq4 ?hy4 ?hr4
                case hi4 => (simp only [List.getElem?_toArray, List.getElem?_cons_succ, List.getElem?_cons_zero]; rfl)
                case hq4 => exact fun _ _ _ h => h
                case hy4 => exact Or.inl ⟨by rfl, by intro w; (first | (go_simp; done) | (go_simp; with_reducible rfl))⟩
                try simp only [Act.put, List.setIfInBounds_toArray, List.set_cons_zero, List.set_cons_succ]
                refine wpAny_take (i := 4) (oi := ?oi5) (v := ?v5) ?hi5 (by kernel_rfl) (by kernel_rfl) (by kernel_rfl) ?hq5 ?hy5 ?hr5
                case hi5 => (simp only [List.getElem?_toArray, List.getElem?_cons_succ, List.getElem?_cons_zero]; rfl)
                case hq5 => exact fun _ _ _ h => h
                case hy5 => exact Or.inl ⟨by rfl, by intro w; (first | (go_simp; done) | (go_simp; with_reducible rfl))⟩
                try simp only [Act.put, List.setIfInBounds_toArray, List.set_cons_zero, List.set_cons_succ]
                refine wpAny_take (i := 5) (oi := ?oi6) (v := ?v6) ?hi6 (by kernel_rfl) (by kernel_rfl) (by kernel_rfl) ?hq6 ?hy6 ?hr6
                case hi6 => (simp only [List.getElem?_toArray, List.getElem?_cons_succ, List.getElem?_cons_zero]; rfl)
                case hq6 => exact fun _ _ _ h => h
                case hy6 => exact Or.inl ⟨by rfl, by intro w; (first | (go_simp; done) | (go_simp; with_reducible rfl))⟩
                try simp only [Act.put, List.setIfInBounds_toArray, List.set_cons_zero, List.set_cons_succ]
                refine wpAny_take (i := 6) (oi := ?oi7) (v := ?v7) ?hi7 (by kernel_rfl) (by kernel_rfl) (by kernel_rfl) ?hq7 ?hy7 ?hr7
                case hi7 => (simp only [List.getElem?_toArray, List.getElem?_cons_succ, List.getElem?_cons_zero]; rfl)
                case hq7 => exact fun _ _ _ h => h
                case hy7 => exact Or.inl ⟨by rfl, by intro w; (first | (go_simp; done) | (go_simp; with_reducible rfl))⟩
                try simp only [Act.put, List.setIfInBounds_toArray, List.set_cons_zero, List.set_cons_succ]
                refine wpAny_take (i := 7) (oi := ?oi8) (v := ?v8) ?hi8 (by kernel_rfl) (by kernel_rfl) (by kernel_rfl) ?hq8 ?hy8 ?hr8
                case hi8 => (simp only [List.getElem?_toArray, List.getElem?_cons_succ, List.getElem?_cons_zero]; rfl)
                case hq8 => exact fun _ _ _ h => h
                case hy8 => exact Or.inl ⟨by rfl, by intro w; (first | (go_simp; done) | (go_simp; with_reducible rfl))⟩
                try simp only [Act.put, List.setIfInBounds_toArray, List.set_cons_zero, List.set_cons_succ]
                refine wpAny_take (i := 8) (oi := ?oi9) (v := ?v9) ?hi9 (by kernel_rfl) (by kernel_rfl) (by kernel_rfl) ?hq9 ?hy9 ?hr9
                case hi9 => (simp only [List.getElem?_toArray, List.getElem?_cons_succ, List.getElem?_cons_zero]; rfl)
                case hq9 => exact fun _ _ _ h => h
                case hy9 => exact Or.inl ⟨by rfl, by intro w; (first | (go_simp; done) | (go_simp; with_reducible rfl))⟩
                try simp only [Act.put, List.setIfInBounds_toArray, List.set_cons_zero, List.set_cons_succ]
                refine wpAny_ready (rs := [9, 14]) (by kernel_rfl) (by simp) ?_
                refine AllReady.cons (o := ?oo10) ?hi10 (fun K hK => ?hs10) ?hm10
                case hi10 => (simp only [List.getElem?_toArray, List.getElem?_cons_succ, List.getElem?_cons_zero]; rfl)
                · go_simp
                  refine (HP2.out _ (by first | exact HMD1.out | exact HMD2.out)).mono ?_
                  rintro e w9 ⟨hb9, A9, cap9, rfl, hk9⟩
                  have HB9 := Lib.hid hb9
                  have HK9 := Lib.hid hk9
                  (try (have hz9 := block_below HZ8.out hb9 (Array.getElem?_eq_some_iff.1 HZ8.out).1; have HZ9 := Lib.hid hz9; have y0 := cell_of (i := 0) hz9 rfl; have y1 := cell_of (i := 1) hz9 rfl; have y2 := cell_of (i := 2) hz9 rfl; have y3 := fun j => frozen_of (i := j) hz9; clear hz9))
                  clear hb9 hk9
                  go_wp2_with fail
                  try simp only [Act.put, List.setIfInBounds_toArray, List.set_cons_zero, List.set_cons_succ]
                  refine wpAny_take (i := 10) (oi := ?oi11) (v := ?v11) ?hi11 (by kernel_rfl) (by kernel_rfl) (by kernel_rfl) ?hq11 ?hy11 ?hr11
                  case hi11 => (simp only [List.getElem?_toArray, List.getElem?_cons_succ, List.getElem?_cons_zero]; rfl)
                  case hq11 => exact fun _ _ _ h => h
                  case hy11 => exact Or.inl ⟨by rfl, by intro w; (first | (go_simp; done) | (go_simp; with_reducible rfl))⟩
                  try simp only [Act.put, List.setIfInBounds_toArray, List.set_cons_zero, List.set_cons_succ]
                  refine wpAny_take (i := 11) (oi := ?oi12) (v := ?v12) ?hi12 (by kernel_rfl) (by kernel_rfl) (by kernel_rfl) ?hq12 ?hy12 ?hr12
                  case hi12 => (simp only [List.getElem?_toArray, List.getElem?_cons_succ, List.getElem?_cons_zero]; rfl)
                  case hq12 => exact fun _ _ _ h => h
                  case hy12 => exact Or.inl ⟨by rfl, by intro w; (first | (go_simp; done) | (go_simp; with_reducible rfl))⟩
                  try simp only [Act.put, List.setIfInBounds_toArray, List.set_cons_zero, List.set_cons_succ]
                  refine wpAny_take (i := 12) (oi := ?oi13) (v := ?v13) ?hi13 (by kernel_rfl) (by kernel_rfl) (by kernel_rfl) ?hq13 ?hy13 ?hr13
                  case hi13 => (simp only [List.getElem?_toArray, List.getElem?_cons_succ, List.getElem?_cons_zero]; rfl)
                  case hq13 => exact fun _ _ _ h => h
                  case hy13 => exact Or.inl ⟨by rfl, by intro w; (first | (go_simp; done) | (go_simp; with_reducible rfl))⟩
                  try simp only [Act.put, List.setIfInBounds_toArray, List.set_cons_zero, List.set_cons_succ]
                  refine wpAny_take (i := 13) (oi := ?oi14) (v := ?v14) ?hi14 (by kernel_rfl) (by kernel_rfl) (by kernel_rfl) ?hq14 ?hy14 ?hr14
                  case hi14 => (simp only [List.getElem?_toArray, List.getElem?_cons_succ, List.getElem?_cons_zero]; rfl)
                  case hq14 => exact fun _ _ _ h => h
                  case hy14 => exact Or.inl ⟨by rfl, by intro w; (first | (go_simp; done) | (go_simp; with_reducible rfl))⟩
                  try simp only [Act.put, List.setIfInBounds_toArray, List.set_cons_zero, List.set_cons_succ]
                  refine wpAny_ready (rs := [14]) (by kernel_rfl) (by simp) ?_
                  refine AllReady.cons (o := ?oo15) ?hi15 (fun K hK => ?hs15) ?hm15
                  case hi15 => (simp only [List.getElem?_toArray, List.getElem?_cons_succ, List.getElem?_cons_zero]; rfl)
                  · go_simp
                    refine hK _ _ ?_; clear hK K
                    try simp only [Act.put, List.setIfInBounds_toArray, List.set_cons_zero, List.set_cons_succ]
                    refine wpAny_ready (rs := [15]) (by kernel_rfl) (by simp) ?_
                    refine AllReady.cons (o := ?oo16) ?hi16 (fun K hK => ?hs16) ?hm16
                    case hi16 => (simp only [List.getElem?_toArray, List.getElem?_cons_succ, List.getElem?_cons_zero]; rfl)
                    · go_simp
                      refine hK _ _ ?_; clear hK K
                      try simp only [Act.put, List.setIfInBounds_toArray, List.set_cons_zero, List.set_cons_succ]
                      refine wpAny_take (i := 16) (oi := ?oi17) (v := ?v17) ?hi17 (by kernel_rfl) (by kernel_rfl) (by kernel_rfl) ?hq17 ?hy17 ?hr17
                      case hi17 => (simp only [List.getElem?_toArray, List.getElem?_cons_succ, List.getElem?_cons_zero]; rfl)
                      case hq17 => exact fun _ _ _ h => h
                      case hy17 => exact Or.inl ⟨by rfl, by intro w; (first | (go_simp; done) | (go_simp; with_reducible rfl))⟩
                      try simp only [Act.put, List.setIfInBounds_toArray, List.set_cons_zero, List.set_cons_succ]
                      refine wpAny_take (i := 17) (oi := ?oi18) (v := ?v18) ?hi18 (by kernel_rfl) (by kernel_rfl) (by kernel_rfl) ?hq18 ?hy18 ?hr18
                      case hi18 => (simp only [List.getElem?_toArray, List.getElem?_cons_succ, List.getElem?_cons_zero]; rfl)
                      case hq18 => exact fun _ _ _ h => h
                      case hy18 => exact Or.inl ⟨by rfl, by intro w; (first | (go_simp; done) | (go_simp; with_reducible rfl))⟩
                      try simp only [Act.put, List.setIfInBounds_toArray, List.set_cons_zero, List.set_cons_succ]
                      refine wpAny_done (by kernel_rfl) ?_ _
                      have hb8d : Below w8.heap.size w8 w9 := (Below.refl _ w8).drew.trans HB9.out
                      have hb10 : Below w9.heap.size w9 (w9.alloc (.cells #[.bool c, .string SN, .slice A9 l cap9] 24)) := (Below.refl _ w9).alloc (Nat.le_refl _) _
                      have hn10 := block_new w9 (.cells #[.bool c, .string SN, .slice A9 l cap9] 24)
                      have hU9 := block_below HU8.out hb8d (Array.getElem?_eq_some_iff.1 HU8.out).1
                      have hU10 := block_below hU9 hb10 (Array.getElem?_eq_some_iff.1 hU9).1
                      have hKU := (HK8.out.below hb8d).below hb10
                      have hKA := HK9.out.below hb10
                      have hb8w := hb8d.trans (hb10.mono hb8d.size)
                      clear hb8d hb10 hU9
                      have HEQ2 := Lib.hid (equal_any c SN A9 A2 l cap9 cap2 sk (by omega) hKA hKU)
                      have p0 := cell_of (i := 0) hn10 rfl
                      have p1 := cell_of (i := 1) hn10 rfl
                      have p2 := cell_of (i := 2) hn10 rfl
                      have q0 := cell_of (i := 0) hU10 rfl
                      have q1 := cell_of (i := 1) hU10 rfl
                      have q2 := cell_of (i := 2) hU10 rfl
                      have HBW10 := Lib.hid (HBW8.out.trans (hb8w.mono HBW8.out.size))
                      clear hb8w hn10 hU10 hKU hKA
                      go_wp2_with fail
                      refine HEQ2.out.mono ?_
                      rintro e w11 ⟨rfl, hb11⟩
                      have HBW11 := Lib.hid (HBW10.out.trans (hb11.mono HBW10.out.size))
                      clear hb11 p0 p1 p2 q0 q1 q2
                      go_wp2_with fail
                      refine (H3.out _ (HM.out.below HBW11.out (Nat.le_refl _))).mono ?_
                      rintro e w12 ⟨rfl, hb12⟩
                      have HBW12 := Lib.hid (HBW11.out.trans (hb12.mono HBW11.out.size))
                      clear hb12
                      go_wp2
                      go_ret
                      exact ⟨rfl, HBW12.out⟩
                    exact AllReady.nil
                  exact AllReady.nil
                refine AllReady.cons (o := ?oo19) ?hi19 (fun K hK => ?hs19) ?hm19
                case hi19 => (simp only [List.getElem?_toArray, List.getElem?_cons_succ, List.getElem?_cons_zero]; rfl)
                · go_simp
                  refine hK _ _ ?_; clear hK K
                  try simp only [Act.put, List.setIfInBounds_toArray, List.set_cons_zero, List.set_cons_succ]
                  refine wpAny_ready (rs := [9]) (by kernel_rfl) (by simp) ?_
                  refine AllReady.cons (o := ?oo20) ?hi20 (fun K hK => ?hs20) ?hm20
                  case hi20 => (simp only [List.getElem?_toArray, List.getElem?_cons_succ, List.getElem?_cons_zero]; rfl)
                  · go_simp
                    refine (HP2.out _ (by first | exact HMD1.out | exact HMD2.out)).mono ?_
                    rintro e w9 ⟨hb9, A9, cap9, rfl, hk9⟩
                    have HB9 := Lib.hid hb9
                    have HK9 := Lib.hid hk9
                    (try (have hz9 := block_below HZ8.out hb9 (Array.getElem?_eq_some_iff.1 HZ8.out).1; have HZ9 := Lib.hid hz9; have y0 := cell_of (i := 0) hz9 rfl; have y1 := cell_of (i := 1) hz9 rfl; have y2 := cell_of (i := 2) hz9 rfl; have y3 := fun j => frozen_of (i := j) hz9; clear hz9))
                    clear hb9 hk9
                    go_wp2_with fail
                    try simp only [Act.put, List.setIfInBounds_toArray, List.set_cons_zero, List.set_cons_succ]
                    refine wpAny_take (i := 10) (oi := ?oi21) (v := ?v21) ?hi21 (by kernel_rfl) (by kernel_rfl) (by kernel_rfl) ?hq21 ?hy21 ?hr21
                    case hi21 => (simp only [List.getElem?_toArray, List.getElem?_cons_succ, List.getElem?_cons_zero]; rfl)
                    case hq21 => exact fun _ _ _ h => h
                    case hy21 => exact Or.inl ⟨by rfl, by intro w; (first | (go_simp; done) | (go_simp; with_reducible rfl))⟩
                    try simp only [Act.put, List.setIfInBounds_toArray, List.set_cons_zero, List.set_cons_succ]
                    refine wpAny_take (i := 11) (oi := ?oi22) (v := ?v22) ?hi22 (by kernel_rfl) (by kernel_rfl) (by kernel_rfl) ?hq22 ?hy22 ?hr22
                    case hi22 => (simp only [List.getElem?_toArray, List.getElem?_cons_succ, List.getElem?_cons_zero]; rfl)
                    case hq22 => exact fun _ _ _ h => h
                    case hy22 => exact Or.inl ⟨by rfl, by intro w; (first | (go_simp; done) | (go_simp; with_reducible rfl))⟩
                    try simp only [Act.put, List.setIfInBounds_toArray, List.set_cons_zero, List.set_cons_succ]
                    refine wpAny_take (i := 12) (oi := ?oi23) (v := ?v23) ?hi23 (by kernel_rfl) (by kernel_rfl) (by kernel_rfl) ?hq23 ?hy23 ?hr23
                    case hi23 => (simp only [List.getElem?_toArray, List.getElem?_cons_succ, List.getElem?_cons_zero]; rfl)
                    case hq23 => exact fun _ _ _ h => h
                    case hy23 => exact Or.inl ⟨by rfl, by intro w; (first | (go_simp; done) | (go_simp; with_reducible rfl))⟩
                    try simp only [Act.put, List.setIfInBounds_toArray, List.set_cons_zero, List.set_cons_succ]
                    refine wpAny_take (i := 13) (oi := ?oi24) (v := ?v24) ?hi24 (by kernel_rfl) (by kernel_rfl) (by kernel_rfl) ?hq24 ?hy24 ?hr24
                    case hi24 => (simp only [List.getElem?_toArray, List.getElem?_cons_succ, List.getElem?_cons_zero]; rfl)
                    case hq24 => exact fun _ _ _ h => h
                    case hy24 => exact Or.inl ⟨by rfl, by intro w; (first | (go_simp; done) | (go_simp; with_reducible rfl))⟩
                    try simp only [Act.put, List.setIfInBounds_toArray, List.set_cons_zero, List.set_cons_succ]
                    refine wpAny_ready (rs := [15]) (by kernel_rfl) (by simp) ?_
                    refine AllReady.cons (o := ?oo25) ?hi25 (fun K hK => ?hs25) ?hm25
                    case hi25 => (simp only [List.getElem?_toArray, List.getElem?_cons_succ, List.getElem?_cons_zero]; rfl)
                    · go_simp
                      refine hK _ _ ?_; clear hK K
                      try simp only [Act.put, List.setIfInBounds_toArray, List.set_cons_zero, List.set_cons_succ]
                      refine wpAny_take (i := 16) (oi := ?oi26) (v := ?v26) ?hi26 (by kernel_rfl) (by kernel_rfl) (by kernel_rfl) ?hq26 ?hy26 ?hr26
                      case hi26 => (simp only [List.getElem?_toArray, List.getElem?_cons_succ, List.getElem?_cons_zero]; rfl)
                      case hq26 => exact fun _ _ _ h => h
                      case hy26 => exact Or.inl ⟨by rfl, by intro w; (first | (go_simp; done) | (go_simp; with_reducible rfl))⟩
                      try simp only [Act.put, List.setIfInBounds_toArray, List.set_cons_zero, List.set_cons_succ]
                      refine wpAny_take (i := 17) (oi := ?oi27) (v := ?v27) ?hi27 (by kernel_rfl) (by kernel_rfl) (by kernel_rfl) ?hq27 ?hy27 ?hr27
                      case hi27 => (simp only [List.getElem?_toArray, List.getElem?_cons_succ, List.getElem?_cons_zero]; rfl)
                      case hq27 => exact fun _ _ _ h => h
                      case hy27 => exact Or.inl ⟨by rfl, by intro w; (first | (go_simp; done) | (go_simp; with_reducible rfl))⟩
                      try simp only [Act.put, List.setIfInBounds_toArray, List.set_cons_zero, List.set_cons_succ]
                      refine wpAny_done (by kernel_rfl) ?_ _
                      have hb8d : Below w8.heap.size w8 w9 := ((Below.refl w8.heap.size w8).alloc (Nat.le_refl _) (.cells #[.bool false, .string ⟨#[]⟩, .slice none 0 0] 24)).drew.trans (HB9.out.mono (by simp))
                      have hb8w : Below w8.heap.size w8 (((w9.setCell ⟨w8.heap.size, 0, none⟩ (.bool c)).setCell ⟨w8.heap.size, 1, none⟩ (.string SN)).setCell ⟨w8.heap.size, 2, none⟩ (.slice A9 l cap9)) := ((hb8d.setCell (Nat.le_refl _) _).setCell (Nat.le_refl _) _).setCell (Nat.le_refl _) _
                      have hn10 : (((w9.setCell ⟨w8.heap.size, 0, none⟩ (.bool c)).setCell ⟨w8.heap.size, 1, none⟩ (.string SN)).setCell ⟨w8.heap.size, 2, none⟩ (.slice A9 l cap9)).heap[w8.heap.size]? = some (.cells #[.bool c, .string SN, .slice A9 l cap9] 24 (0, 0)) := by
                        rw [set_of (set_of (set_of HZ9.out _) _) _]
                        rfl
                      have hU10 := block_below HU8.out hb8w (Array.getElem?_eq_some_iff.1 HU8.out).1
                      have hKU := HK8.out.below hb8w
                      have hKA : Keys (((w9.setCell ⟨w8.heap.size, 0, none⟩ (.bool c)).setCell ⟨w8.heap.size, 1, none⟩ (.string SN)).setCell ⟨w8.heap.size, 2, none⟩ (.slice A9 l cap9)) (.slice A9 l cap9) sk := keys_far HK9.out (not_tag HZ9.out) (but_trans (but_trans (but_set w8.heap.size 0 w9 _) (but_set w8.heap.size 1 _ _)) (but_set w8.heap.size 2 _ _))
                      clear hb8d y0 y1 y2 y3
                      have HEQ2 := Lib.hid (equal_any c SN A9 A2 l cap9 cap2 sk (by omega) hKA hKU)
                      have p0 := cell_of (i := 0) hn10 rfl
                      have p1 := cell_of (i := 1) hn10 rfl
                      have p2 := cell_of (i := 2) hn10 rfl
                      have q0 := cell_of (i := 0) hU10 rfl
                      have q1 := cell_of (i := 1) hU10 rfl
                      have q2 := cell_of (i := 2) hU10 rfl
                      have HBW10 := Lib.hid (HBW8.out.trans (hb8w.mono HBW8.out.size))
                      clear hb8w hn10 hU10 hKU hKA
                      go_wp2_with fail
                      refine HEQ2.out.mono ?_
                      rintro e w11 ⟨rfl, hb11⟩
                      have HBW11 := Lib.hid (HBW10.out.trans (hb11.mono HBW10.out.size))
                      clear hb11 p0 p1 p2 q0 q1 q2
                      go_wp2_with fail
                      refine (H3.out _ (HM.out.below HBW11.out (Nat.le_refl _))).mono ?_
                      rintro e w12 ⟨rfl, hb12⟩
                      have HBW12 := Lib.hid (HBW11.out.trans (hb12.mono HBW11.out.size))
                      clear hb12
                      go_wp2
                      go_ret
                      exact ⟨rfl, HBW12.out⟩
                    exact AllReady.nil
                  exact AllReady.nil
                exact AllReady.nil
          · have hl0' : l = 0 := by omega
            have hl0i : ¬ (0 : Int) < (l : Int) := by omega
            clear hl0'
            go_wp2_with fail
            refine (H3.out _ (HM.out.below HBW8.out (Nat.le_refl _))).mono ?_
            rintro e w9 ⟨rfl, hb9⟩
            have HB9 := Lib.hid (HBW8.out.trans (hb9.mono HBW8.out.size))
            clear hb9
            go_wp2
            go_ret
            exact ⟨rfl, HB9.out⟩
        · have hfs : (⟨(formatS t).toArray⟩ : ByteArray) = ⟨#[]⟩ := by unfold formatS; rw [if_neg hE]
          obtain ⟨E, hEE⟩ : ∃ E, checkT t = E := ⟨_, rfl⟩
          rw [hEE] at hE
          simp only [hfs, hEE] at h1
          have HF := Lib.hid h1
          have e1 : ((E : Int) != 0) = true := by simp; omega
          have e2 : ((E : Int) == 0) = false := by simp; omega
          clear h1 hfs hEE
          go_enter Tryz.func5, Tryz.ntmps5
          go_wp2_with fail
          refine HLG.out.mono ?_
          rintro e w1 ⟨rfl, hb1⟩
          have hB1 := block_below HB.out hb1 (Array.getElem?_eq_some_iff.1 HB.out).1
          have b0 := cell_of (i := 0) hB1 rfl
          have b1 := cell_of (i := 1) hB1 rfl
          have b2 := cell_of (i := 2) hB1 rfl
          have HBW1 := Lib.hid (HBV.out.trans (hb1.mono HBV.out.size))
          clear hb1 hB1 a0 a1 a2
          go_wp2_with fail
          refine (HF.out _ (HM.out.below HBW1.out (Nat.le_refl _)) (HK.out.below HBW1.out)).mono ?_
          rintro e w2 ⟨rfl, hb2⟩
          have HBW2 := Lib.hid (HBW1.out.trans (hb2.mono HBW1.out.size))
          clear hb2 b0 b1 b2
          go_wp2_with fail
          refine (H3.out _ (HM.out.below HBW2.out (Nat.le_refl _))).mono ?_
          rintro e w3 ⟨rfl, hb3⟩
          have HBW3 := Lib.hid (HBW2.out.trans (hb3.mono HBW2.out.size))
          clear hb3
          go_wp2
          go_ret
          exact ⟨rfl, HBW3.out⟩

theorem own : ownKnob Tryz.prog.godebug = none := by kernel_rfl

set_option maxRecDepth 100000 in
theorem lifted (os : Os) (started : os.Started) (H : Type) (enc : TypeId × Value → H) :
    ReturnsInHanded {} Tryz.checked os 5 .any (fun w args => (Rows.markupRoundTripsSpec.pre enc Tryz.prog Tryz.f5 [] false w args ∧ laidMetH Tryz.prog Rows.markupRoundTripsRow.laid w) ∧ sizedMet enc Tryz.prog Tryz.f5 (OpenSpec.ofChange Rows.markupRoundTripsSpec) false w args)
      (Rows.markupRoundTripsSpec.post enc Tryz.prog Tryz.f5 false true false false) := by
  refine returnsInHanded_of_change_and (C := Tryz.checked) (X := fun w _ => laidMetH Tryz.prog Rows.markupRoundTripsRow.laid w) (fun _ _ _ hh h => h.of_heap hh) own started (by kernel_rfl) Tryz.func5
    (ChangeSpec.witness_shaped (enc := enc) (C := Tryz.checked) (os := os) (X := fun w _ => laidMetH Tryz.prog Rows.markupRoundTripsRow.laid w) false (World.laidAll Tryz.prog os laidAll) #[.agg #[.bool false, .string ⟨#[]⟩, .slice none 0 0], .int .i64 0] 8 (World.laidAll_os _ _ _) (all_shaped os) (by kernel_rfl) (by kernel_rfl) (by kernel_rfl) (all_met os _)) ?_
  intro W base args ds gs before hval0 hW _ hsz hL _
  have hval : ∀ (j : Nat) t v, Tryz.f5.params[j]? = some t → args[j]? = some v → Value.okWide Tryz.prog W .any base t v := hval0
  have hW' := hW
  have hplt : ∀ x ∈ before, x.block < W.heap.size := fun x hx => hW.lt x hx
  obtain ⟨p, q, hA0, hV, rfl, hfz, hnd⟩ := hW
  have hA : DataW.TrodAll enc Tryz.prog W 0 (fun _ => true) true Tryz.f5.params.toList args.toList ds p := hA0
  rw [Tryz.params5] at hA hval
  obtain ⟨v0, vs0, d0, ds0, p0, q0, hargs, rfl, rfl, h0, r0⟩ := trodAll_cons hA
  obtain ⟨v1, vs1, d1, ds1, p1, q1, rfl, rfl, rfl, h1, r1⟩ := trodAll_cons r0
  obtain ⟨rfl, rfl, rfl⟩ := trodAll_nil r1
  obtain rfl : args = #[v0, v1] := by cases args; simp_all
  obtain ⟨rfl, rfl⟩ := trodVars_none hV
  have hz0 : (d0.weights Tryz.prog 24).all (· ≤ reachBytes) = true := by
    have h := hsz
    rw [Tryz.params5] at h
    simp only [List.cons_append, List.nil_append, DataW.weightsEach, List.all_append, Bool.and_eq_true] at h
    exact h.1
  obtain ⟨t0, kv0, rfl, hk0, hl0, hn0, hs0⟩ := open_tagS (hval 0 24 v0 rfl rfl) h0 hz0
  obtain ⟨x1, rfl, m1, n1⟩ := open_i64 (hval 1 3 v1 rfl rfl) h1
  clear hA0 hval0
  refine (walk t0 kv0 hk0 hl0 hn0 hs0 x1 m1 n1 (mem_of_laid hL)).mono fun e W' ⟨he, bel⟩ => ?_
  subst he
  exact ⟨_, rfl, _, _, _, [], _, [], hW', trodAll_mk1 (shut_bool Tryz.underlying4 _), (trodAll_cons_mk (Below.trod Tryz.laidOut (by kernel_rfl) (of_decide_eq_true (by kernel_rfl)) h0 bel (fun x hx => hplt x (by simp [hx]))) (trodAll_cons_mk (Below.trod Tryz.laidOut (by kernel_rfl) (of_decide_eq_true (by kernel_rfl)) h1 bel (fun x hx => hplt x (by simp [hx]))) trodAll_mk0)), rfl, World.keptBut_mono (fun x hx => ⟨hx, Or.inr (by simpa using hx)⟩) (bel.frame (· ∈ _)), fun h => by cases h⟩

theorem over : Rows.markupRoundTripsRow.holds Tryz.pinned (OpenSpec.ofChange Rows.markupRoundTripsSpec) :=
  OpenClaim.holds_of_wide 5 Tryz.f5 rfl rfl rfl rfl rfl rfl rfl ⟨rfl, rfl, rfl, rfl, rfl⟩ rfl rfl rfl rfl rfl (by kernel_rfl) Tryz.func5 (by kernel_rfl)
    (of_decide_eq_true (by kernel_rfl)) (by unfold Func.isWrapper; first | (rw [if_pos (by decide +kernel)]; kernel_rfl) | (rw [if_neg (by decide +kernel)]; exact ⟨rfl, rfl⟩))
    (fun os started H enc _ => lifted os started H enc)

/-- THE STATEMENT: the tied card. -/
theorem proved : Rows.MarkupRoundTripsCardSaid :=
  Claim7.holds_tied_plain_at .later [] Rows.markupRoundTripsCard.laidKinds true Rows.markupRoundTripsCard.stood.harness Rows.markupRoundTripsCard.stood.looks
    over (fun _ h => by cases h) (by kernel_rfl) (fun _ h => by cases h) markupRoundTrips_row_tie rfl ⟨rfl, rfl⟩ (by kernel_rfl) rfl
    (fun f fn hf hfn => by
      obtain rfl : f = 5 := Option.some.inj ((show Tryz.prog.funcNamed "corpora/corporalaw04.MarkupRoundTrips" = some 5 by kernel_rfl).symm.trans hf) |>.symm
      obtain rfl : fn = Tryz.f5 := (Option.some.inj (Tryz.func5.symm.trans hfn)).symm
      exact ⟨by kernel_rfl, fun j t ht => by
        rw [Tryz.params5] at ht
        have hm : t ∈ [24, 3] := by simpa using Array.mem_of_getElem? ht
        have hall : ([24, 3].all fun u => !Tryz.prog.wantsStandIn u) = true := by kernel_rfl
        exact (show Tryz.prog.wantsStandIn t = false by simpa using List.all_eq_true.1 hall t hm)⟩)
    (by kernel_rfl)
end Go.Proofs.YtjablaidbccnbaaGreatDoor.markupRoundTrips
