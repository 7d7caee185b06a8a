/-
 WALKS over the reference of corpus: texts, regions.
-/
import Derived.Test.YtebmfkkkhmjkoaaGreatQuA
import Derived.Test.YtebmfkkkhmjkoaaGreatQmR
import Derived.Deep.RegionHeld3
import Derived.Deep.DrawnRows
namespace Go.Proofs.YtebmfkkkhmjkoaaGreat
open Go.RowKit Go.Shelf Go.Lib
set_option linter.unusedVariables false
attribute [local go_sem ↓] Go.wp_at_zero Go.wp_at_succ

def rExM (x : Ex) : Prop := x.name.length ≤ maxLen ∧ x.ps.length ≤ maxLen ∧ ∀ q ∈ x.ps, q.1.length ≤ maxLen ∧ q.2.length ≤ maxLen

set_option maxRecDepth 100000 in
set_option maxHeartbeats 16000000 in
theorem refTexts_any {w : World} (s : Sv) (c : Cor) (hv : Rows 4 EEx w s.vx c.texts) (ht : Rows 1 ETok w s.vt c.toks) (hl : c.texts.length ≤ maxLen) (hlt : c.toks.length ≤ maxLen) (hs : ∀ t ∈ c.texts, rExM t) :
 Calls Tryz.prog 86 #[.agg s.arr] w fun e w' => e = .returned (two (partE (textsE c) (textE c) c.texts.length)) ∧ Below w.heap.size w w' := by
 have hae : textsE c = if 64 < c.texts.length then 2 else if decide (c.texts.length = 0) ≠ decide (c.toks.length = 0) then 15 else 0 := rfl
 have hat := fun k t (h : c.texts[k]? = some t) => show textE c k = (if nameB t.name = false then 4 else if (c.texts.take k).any (fun y => decide (y.name = t.name)) then 5
  else if t.b ≠ endB c k ∨ t.e ≤ t.b ∨ (c.toks.length : Int) < t.e then 8 else if k + 1 = c.texts.length ∧ t.e ≠ (c.toks.length : Int) then 8 else pairsE t.ps) by unfold textE; rw [h]
 have heb := fun k t (h : c.texts[k]? = some t) => endB_succ h
 have he0 : endB c 0 = 0 := rfl
 obtain ⟨l, hlc⟩ : ∃ l, c.texts = l := ⟨_, rfl⟩
 obtain ⟨nt, hnt⟩ : ∃ l, c.toks.length = l := ⟨_, rfl⟩
 obtain ⟨f, hf⟩ : ∃ f, textE c = f := ⟨_, rfl⟩
 obtain ⟨g, hg⟩ : ∃ g, textsE c = g := ⟨_, rfl⟩
 obtain ⟨eB, heB⟩ : ∃ e, endB c = e := ⟨_, rfl⟩
 obtain ⟨A1, cap1, hvt, hc1⟩ := ht.form
 rw [hlc] at hv hl hs hae hat heb ⊢
 rw [hnt] at hvt hlt hae hat
 rw [heB] at hat heb he0
 rw [hf] at hat ⊢
 rw [hg] at hae ⊢
 clear hlc hf hg heB hnt ht hc1 c
 obtain ⟨A, cap, hvx, hc⟩ := hv.form
 obtain ⟨va, vt, vx, vr, vn, vh, vl⟩ := s
 simp only at hvx hvt hv
 subst hvx hvt
 simp only [Sv.arr]
 obtain ⟨n, hn⟩ : ∃ n, l.length = n := ⟨_, rfl⟩
 obtain ⟨p, hp⟩ : ∃ p, partE g f l.length = p := ⟨_, rfl⟩
 rw [hp]
 rw [hn] at hp hae hc hl hv hat ⊢
 unfold maxLen at hlt hl
 obtain ⟨N0, hN0⟩ : ∃ N, w.heap.size = N := ⟨_, rfl⟩
 obtain ⟨X, hX⟩ : ∃ X, w.alloc (.cells #[va, .slice A1 nt cap1, .slice A n cap, vr, vn, vh, vl] 30) = X := ⟨_, rfl⟩
 have hbX : Below w.heap.size w X := by rw [← hX]; exact below_box w _
 have x1 : X.heap[N0]? = some (.cells #[va, .slice A1 nt cap1, .slice A n cap, vr, vn, vh, vl] 30 (0, 0)) := by rw [← hX, ← hN0]; exact block_new w _
 have c1 : (w.alloc (.cells #[va, .slice A1 nt cap1, .slice A n cap, vr, vn, vh, vl] 30)).cell? ⟨w.heap.size, 1, none⟩ = some (.slice A1 nt cap1) := cell_of (block_new w _) rfl
 have c2 : (w.alloc (.cells #[va, .slice A1 nt cap1, .slice A n cap, vr, vn, vh, vl] 30)).cell? ⟨w.heap.size, 2, none⟩ = some (.slice A n cap) := cell_of (block_new w _) rfl
 have HV := Lib.hid (fun W (h : Below X.heap.size X W) => hv.below stays_ex (hbX.trans (h.mono hbX.size)))
 have HK := Lib.hid (fun W (h : Below X.heap.size X W) => block_below x1 h (Array.getElem?_eq_some_iff.1 x1).1)
 have HN := Lib.hid hn
 have HS := Lib.hid hs
 have HAT := Lib.hid hat
 have HEB := Lib.hid heb
 have HE00 := Lib.hid he0
 have HX := Lib.hid hX
 have HN0 := Lib.hid hN0
 have HBX := Lib.hid hbX
 clear hv hn hs hat heb he0 hX hN0 hbX x1
 by_cases h8 : 64 < n
 ·
  rw [if_pos h8] at hae
  subst hae
  rw [part_whole (by decide)] at hp
  subst hp
  have h8i : (64 : Int) < (n : Int) := by omega
  go_enter Tryz.func86, Tryz.ntmps86
  go_wp2_with fail
  go_ret2
  exact ⟨rfl, HX.out ▸ HBX.out⟩
 rw [if_neg h8] at hae
 have h8i : ¬ (64 : Int) < (n : Int) := by omega
 obtain ⟨q1, hq1⟩ : ∃ q, decide (n = 0) = q := ⟨_, rfl⟩
 obtain ⟨q2, hq2⟩ : ∃ q, decide (nt = 0) = q := ⟨_, rfl⟩
 have hz1 : ((n : Int) == 0) = q1 := by rw [← hq1]; by_cases h : n = 0 <;> simp [h]
 have hz2 : ((nt : Int) == 0) = q2 := by rw [← hq2]; by_cases h : nt = 0 <;> simp [h]
 rw [hq1, hq2] at hae
 by_cases hqq : q1 = q2
 ·
  rw [if_neg (fun h => h hqq)] at hae
  subst hqq hae
  rw [part_scan] at hp
  have HP0 : Hid (p = scanE f n 0) := Lib.hid hp.symm
  clear hp hq1 hq2
  go_enter Tryz.func86, Tryz.ntmps86
  go_wp2_with fail
  rw [HX.out, HN0.out]
  clear c1 c2
  go_loopw [5, 28] (fun en i wr => ∃ k : Nat, k ≤ n ∧ en = .int .i64 (eB k) ∧ i = .int .i64 k ∧ Hid (p = scanE f n k) ∧ Below X.heap.size X wr) (fun _ i _ => n - (Go.RowKit.intOf i).toNat)
  case atStart => exact ⟨0, Nat.zero_le _, by rw [HE00.out], rfl, HP0, Below.refl _ _⟩
  clear HP0
  obtain ⟨k, hk, rfl, rfl, hp, hb⟩ := hrel
  obtain ⟨en, hen⟩ : ∃ en, eB k = en := ⟨_, rfl⟩
  rw [hen]
  by_cases hlt' : k < n
  ·
   obtain ⟨x, hx⟩ : ∃ x, l[k]? = some x := ⟨_, List.getElem?_eq_getElem (by rw [HN.out]; exact hlt')⟩
   obtain ⟨bk, off, rfl, hbl, hj⟩ := at_ex (HV.out wr hb) (by rw [HN.out]; omega)
   obtain ⟨u, ru, u0, u1, u2, u3⟩ := hj k x hx
   have hfk := HAT.out k x hx
   have hsx := HS.out x (List.mem_of_getElem? hx)
   have hsc := hp.out
   rw [scanE_step hlt'] at hsc
   obtain ⟨Au, pu, rfl, -⟩ := ru.form
   obtain ⟨nu, hpx⟩ : ∃ n, x.ps.length = n := ⟨_, rfl⟩
   obtain ⟨P, hP⟩ : ∃ s : ByteArray, (⟨x.name.toArray⟩ : ByteArray) = s := ⟨_, rfl⟩
   have hPl : P.data.toList = x.name := by rw [← hP]
   have hvn := fun W => refName_any P (by rw [Lib.size_eq, hPl]; exact hsx.1) W
   rw [hPl] at hvn
   rw [hP] at u0
   rw [hpx] at u3 ru
   rw [hen] at hfk
   obtain ⟨a, ha⟩ : ∃ a, nameB x.name = a := ⟨_, rfl⟩
   rw [ha] at hvn hfk
   obtain ⟨N1, hN1⟩ : ∃ N, wr.heap.size = N := ⟨_, rfl⟩
   have q1' := block_new wr (.cells #[.string P, .int .i64 x.b, .int .i64 x.e, .slice Au nu pu] 51)
   have d0 : (wr.alloc (.cells #[.string P, .int .i64 x.b, .int .i64 x.e, .slice Au nu pu] 51)).cell? ⟨wr.heap.size, 0, none⟩ = some (.string P) := cell_of q1' rfl
   rw [hN1] at q1'
   obtain ⟨X1, hX1⟩ : ∃ X1, wr.alloc (.cells #[.string P, .int .i64 x.b, .int .i64 x.e, .slice Au nu pu] 51) = X1 := ⟨_, rfl⟩
   have hbX1 : Below X.heap.size X X1 := by rw [← hX1]; exact hb.trans ((below_box wr _).mono hb.size)
   have hbw1 : Below wr.heap.size wr X1 := by rw [← hX1]; exact below_box wr _
   rw [hX1] at q1'
   have hcx : (wr.alloc (.cells #[.string P, .int .i64 x.b, .int .i64 x.e, .slice Au nu pu] 51)).cell? ⟨N0, 2, none⟩ = some (.slice (some ⟨bk, off, none⟩) n cap) := by rw [hX1]; exact cell_of (HK.out X1 hbX1) rfl
   have HVN := Lib.hid hvn
   have HBX1 := Lib.hid hbX1
   have HX1 := Lib.hid hX1
   have HN1 := Lib.hid hN1
   have HE1 := Lib.hid q1'
   have HXX := Lib.hid hx
   have HPL := Lib.hid hPl
   have HNU := Lib.hid hpx
   have HSX := Lib.hid hsx
   have HRU := Lib.hid (fun W (h : Below X1.heap.size X1 W) => ru.below stays_pair (hbw1.trans (h.mono hbw1.size)))
   have HVB := Lib.hid (fun W (h : Below X1.heap.size X1 W) => HV.out W (hbX1.trans (h.mono hbX1.size)))
   have HKB := Lib.hid (fun W (h : Below X1.heap.size X1 W) => HK.out W (hbX1.trans (h.mono hbX1.size)))
   have k0 : (0 : Int) ≤ (k : Int) := by omega
   have kn : (k : Int) < (n : Int) := by omega
   have kc : (k : Int) ≤ (cap : Int) := by omega
   cases a with
   | false =>
     rw [if_pos rfl] at hfk
     rw [hfk, if_neg (by decide)] at hsc
     subst hsc
     clear hb hj hx hP hPl hvn ha hpx hN1 q1' hX1 hbX1 hbw1 hp hfk hbl ru hsx
     go_wp2_with fail
     refine (HVN.out _).mono ?_
     rintro e w1 ⟨rfl, rfl⟩
     clear hcx
     go_wp2_with fail
     go_ret2
     exact ⟨rfl, HX1.out ▸ (HBX.out.trans (HBX1.out.mono HBX.out.size))⟩
   | true =>
     rw [if_neg (by decide)] at hfk
     have HFK := Lib.hid hfk
     have HSC := Lib.hid hsc
     have HEN := Lib.hid hen
     clear hb hj hx hP hPl hvn ha hpx hN1 q1' hX1 hbX1 hbw1 hp hfk hsc hbl ru hsx hen
     obtain ⟨wo, hwo⟩ : ∃ wo, wo = wr := ⟨_, rfl⟩
     subst hwo
     go_wp2_with fail
     refine (HVN.out _).mono ?_
     rintro e w1 ⟨rfl, rfl⟩
     go_wp2_with fail
     rw [HX1.out, HN1.out]
     clear u0 u1 u2 u3 d0 hcx
     go_loopw [43] (fun i wi => ∃ m : Nat, m ≤ k ∧ i = .int .i64 m ∧ Hid (∀ (j : Nat) (y : Ex), j < m → l[j]? = some y → y.name ≠ x.name) ∧ Below X1.heap.size X1 wi) (fun i _ => k - (Go.RowKit.intOf i).toNat)
     case atStart => exact ⟨0, Nat.zero_le _, rfl, Lib.hid (fun j y h => absurd h (by omega)), Below.refl _ _⟩
     obtain ⟨m, hm, rfl, hs, hb⟩ := hrel
     by_cases hlm : m < k
     ·
      obtain ⟨y, hy⟩ : ∃ y, l[m]? = some y := ⟨_, List.getElem?_eq_getElem (by rw [HN.out]; omega)⟩
      obtain ⟨b2, off2, he2, hbl, hj⟩ := at_ex (HVB.out wr hb) (by rw [HN.out]; omega)
      cases he2
      obtain ⟨v, rv, u0, u1, u2, u3⟩ := hj m y hy
      obtain ⟨Av, pv, rfl, -⟩ := rv.form
      obtain ⟨nv, hnv⟩ : ∃ n, y.ps.length = n := ⟨_, rfl⟩
      obtain ⟨Q, hQ⟩ : ∃ s : ByteArray, (⟨y.name.toArray⟩ : ByteArray) = s := ⟨_, rfl⟩
      have hQl : Q.data.toList = y.name := by rw [← hQ]
      rw [hQ] at u0
      rw [hnv] at u3
      have d0 : (wr.alloc (.cells #[.string Q, .int .i64 y.b, .int .i64 y.e, .slice Av nv pv] 51)).cell? ⟨N1, 0, none⟩ = some (.string P) := Lib.cell?_alloc_some _ (cell_of (block_below HE1.out hb (Array.getElem?_eq_some_iff.1 HE1.out).1) rfl)
      have d1 : (wr.alloc (.cells #[.string Q, .int .i64 y.b, .int .i64 y.e, .slice Av nv pv] 51)).cell? ⟨wr.heap.size, 0, none⟩ = some (.string Q) := cell_of (block_new wr _) rfl
      have m0 : (0 : Int) ≤ (m : Int) := by omega
      have mk : (m : Int) < (k : Int) := by omega
      have HB := Lib.hid (hb.trans ((below_box wr (.cells #[.string Q, .int .i64 y.b, .int .i64 y.e, .slice Av nv pv] 51)).mono hb.size))
      by_cases he : y.name = x.name
      ·
       have z1 : (Q.toList == P.toList) = true := by
        rw [toL P, toL Q, HPL.out, hQl, he]; simp
       have h5 : f k = 5 := by rw [HFK.out, if_pos (List.any_eq_true.2 ⟨y, mem_take_of hy hlm, by simpa using he⟩)]
       have hsc := HSC.out
       rw [h5, if_neg (by decide)] at hsc
       subst hsc
       clear hb hj hy hQ hQl hnv rv hs he hbl h5
       go_wp2_with fail
       go_ret2
       exact ⟨rfl, HBX.out.trans ((HBX1.out.trans (HB.out.mono HBX1.out.size)).mono HBX.out.size)⟩
      have z1 : (Q.toList == P.toList) = false := by
       rw [toL P, toL Q, HPL.out, hQl]; simpa using he
      have hs' : Hid (∀ (j : Nat) (y : Ex), j < m + 1 → l[j]? = some y → y.name ≠ x.name) := Lib.hid fun j y' hj hy' => by
       by_cases e : j = m
       ·
        subst e
        rw [hy] at hy'
        cases hy'
        exact he
       exact hs.out j y' (by omega) hy'
      clear hb hj hy hQ hQl hnv rv hs he hbl
      go_wp2_with fail
      exact ⟨⟨m + 1, by omega, by go_num, hs', HB.out⟩, by simp only [Go.RowKit.intOf]; omega⟩
     obtain rfl : m = k := by omega
     have hany : (l.take m).any (fun y => decide (y.name = x.name)) = false := by
      rw [List.any_eq_false]
      intro y hy
      obtain ⟨j, hj, e⟩ := mem_take_ex hy
      simpa using hs.out j y hj e
     obtain ⟨k, rfl⟩ : ∃ k, k = m := ⟨_, rfl⟩
     have hfk := HFK.out
     rw [hany, if_neg (by decide)] at hfk
     have HFK := Lib.hid hfk
     have HBI := Lib.hid hb
     have HBW := Lib.hid (HBX.out.trans ((HBX1.out.trans (hb.mono HBX1.out.size)).mono HBX.out.size))
     have hb1 := block_below HE1.out hb (Array.getElem?_eq_some_iff.1 HE1.out).1
     have hk0 := HKB.out wr hb
     have d0 : wr.cell? ⟨N0, 1, none⟩ = some (.slice A1 nt cap1) := cell_of hk0 rfl
     have d1 : wr.cell? ⟨N0, 2, none⟩ = some (.slice (some ⟨bk, off, none⟩) n cap) := cell_of hk0 rfl
     have e0 : wr.cell? ⟨N1, 0, none⟩ = some (.string P) := cell_of hb1 rfl
     have e1 : wr.cell? ⟨N1, 1, none⟩ = some (.int .i64 x.b) := cell_of hb1 rfl
     have e2 : wr.cell? ⟨N1, 2, none⟩ = some (.int .i64 x.e) := cell_of hb1 rfl
     have e3 : wr.cell? ⟨N1, 3, none⟩ = some (.slice Au nu pu) := cell_of hb1 rfl
     have hwrap : IntKind.i64.wrap ((n : Int) - 1) = (n : Int) - 1 := by rw [IntKind.wrap_i64]; omega
     clear hb hs hany hfk hb1 hk0
     by_cases g1 : x.b = en
     ·
      by_cases g2 : x.e ≤ x.b
      ·
       have h8 : f k = 8 := by rw [HFK.out, if_pos (by omega)]
       have hsc := HSC.out
       rw [h8, if_neg (by decide)] at hsc
       subst hsc
       clear h8
       go_wp2_with fail
       go_ret2
       exact ⟨rfl, HBW.out⟩
      by_cases g3 : (nt : Int) < x.e
      ·
       have h8 : f k = 8 := by rw [HFK.out, if_pos (by omega)]
       have hsc := HSC.out
       rw [h8, if_neg (by decide)] at hsc
       subst hsc
       clear h8
       go_wp2_with fail
       go_ret2
       exact ⟨rfl, HBW.out⟩
      by_cases g4 : k + 1 = n
      ·
       by_cases g5 : x.e = (nt : Int)
       ·
        have hfp : f k = pairsE x.ps := by rw [HFK.out, if_neg (by omega), if_neg (by omega)]
        have g4i : (n : Int) - 1 = (k : Int) := by omega
        have HPR := Lib.hid (refPairs_any (HRU.out wr HBI.out) HSX.out.2.1 HSX.out.2.2)
        obtain ⟨z, hz⟩ : ∃ z, pairsE x.ps = z := ⟨_, rfl⟩
        rw [hz] at hfp HPR
        have hsc := HSC.out
        rw [hfp] at hsc
        by_cases hz0 : z = 0
        ·
         subst hz0
         rw [if_pos rfl] at hsc
         have HSC2 := Lib.hid hsc
         have hen := HEB.out k x HXX.out
         clear hz hfp hsc
         go_wp2_with fail
         refine HPR.out.mono ?_
         rintro e w1 ⟨rfl, hb1⟩
         have HB1 := Lib.hid (hb1.size)
         have hb2 := HBI.out.trans (hb1.mono HBI.out.size)
         have d2 : w1.cell? ⟨N1, 2, none⟩ = some (.int .i64 x.e) := cell_of (block_below HE1.out hb2 (Array.getElem?_eq_some_iff.1 HE1.out).1) rfl
         have HB2 := Lib.hid (HBX1.out.trans (hb2.mono HBX1.out.size))
         clear hb1 hb2 d0 d1 e0 e1 e2 e3
         go_wp2_with fail
         exact ⟨⟨k + 1, by omega, by first | (rw [hen]; done) | (rw [hen, g5]), by go_num, HSC2, HB2.out⟩, by simp only [Go.RowKit.intOf]; omega⟩
        rw [if_neg hz0] at hsc
        subst hsc
        have hz1 : ¬ ((z : Int) = 0) := by omega
        clear hz hfp
        go_wp2_with fail
        refine HPR.out.mono ?_
        rintro e w1 ⟨rfl, hb1⟩
        have HB2 := Lib.hid (HBX.out.trans ((HBX1.out.trans ((HBI.out.trans (hb1.mono HBI.out.size)).mono HBX1.out.size)).mono HBX.out.size))
        clear hb1 d0 d1 e0 e1 e2 e3
        go_wp2_with fail
        go_ret2
        exact ⟨rfl, HB2.out⟩
       have h8 : f k = 8 := by rw [HFK.out, if_neg (by omega), if_pos (by omega)]
       have hsc := HSC.out
       rw [h8, if_neg (by decide)] at hsc
       subst hsc
       have g4i : (n : Int) - 1 = (k : Int) := by omega
       have z5 : (x.e != (nt : Int)) = true := by simp only [bne_iff_ne, ne_eq]; exact g5
       clear h8
       go_wp2_with fail
       go_ret2
       exact ⟨rfl, HBW.out⟩
      have hfp : f k = pairsE x.ps := by rw [HFK.out, if_neg (by omega), if_neg (by omega)]
      have g4i : ¬ ((k : Int) = (n : Int) - 1) := by omega
      have HPR := Lib.hid (refPairs_any (HRU.out wr HBI.out) HSX.out.2.1 HSX.out.2.2)
      obtain ⟨z, hz⟩ : ∃ z, pairsE x.ps = z := ⟨_, rfl⟩
      rw [hz] at hfp HPR
      have hsc := HSC.out
      rw [hfp] at hsc
      by_cases hz0 : z = 0
      ·
       subst hz0
       rw [if_pos rfl] at hsc
       have HSC2 := Lib.hid hsc
       have hen := HEB.out k x HXX.out
       clear hz hfp hsc
       go_wp2_with fail
       refine HPR.out.mono ?_
       rintro e w1 ⟨rfl, hb1⟩
       have HB1 := Lib.hid (hb1.size)
       have hb2 := HBI.out.trans (hb1.mono HBI.out.size)
       have d2 : w1.cell? ⟨N1, 2, none⟩ = some (.int .i64 x.e) := cell_of (block_below HE1.out hb2 (Array.getElem?_eq_some_iff.1 HE1.out).1) rfl
       have HB2 := Lib.hid (HBX1.out.trans (hb2.mono HBX1.out.size))
       clear hb1 hb2 d0 d1 e0 e1 e2 e3
       go_wp2_with fail
       exact ⟨⟨k + 1, by omega, by first | (rw [hen]; done) | (rw [hen, g5]), by go_num, HSC2, HB2.out⟩, by simp only [Go.RowKit.intOf]; omega⟩
      rw [if_neg hz0] at hsc
      subst hsc
      have hz1 : ¬ ((z : Int) = 0) := by omega
      clear hz hfp
      go_wp2_with fail
      refine HPR.out.mono ?_
      rintro e w1 ⟨rfl, hb1⟩
      have HB2 := Lib.hid (HBX.out.trans ((HBX1.out.trans ((HBI.out.trans (hb1.mono HBI.out.size)).mono HBX1.out.size)).mono HBX.out.size))
      clear hb1 d0 d1 e0 e1 e2 e3
      go_wp2_with fail
      go_ret2
      exact ⟨rfl, HB2.out⟩
     have h8 : f k = 8 := by rw [HFK.out, if_pos (by omega)]
     have hsc := HSC.out
     rw [h8, if_neg (by decide)] at hsc
     subst hsc
     clear h8
     go_wp2_with fail
     go_ret2
     exact ⟨rfl, HBW.out⟩
  obtain rfl : k = n := by omega
  have hsc := hp.out
  rw [scanE_end (by omega)] at hsc
  subst hsc
  have HB := Lib.hid hb
  clear hb hp hen
  go_wp2_with fail
  go_ret2
  exact ⟨rfl, HBX.out.trans (HB.out.mono HBX.out.size)⟩
 rw [if_pos hqq] at hae
 subst hae
 rw [part_whole (by decide)] at hp
 subst hp
 have hne : (q1 == q2) = false := by simpa using hqq
 have hnx : (q1 != q2) = true := by simpa using hqq
 go_enter Tryz.func86, Tryz.ntmps86
 go_wp2_with fail
 go_ret2
 exact ⟨rfl, HX.out ▸ HBX.out⟩

theorem keepC {W W' : World} {a : Addr} {v : Value} (h : W.cell? a = some v) (hb : Below W.heap.size W W') : W'.cell? a = some v := by
 have hlt : a.block < W.heap.size := by
  rcases Nat.lt_or_ge a.block W.heap.size with h' | h'
  · exact h'
  simp [World.cell?, Array.getElem?_eq_none h'] at h
 exact (hb.cell hlt).trans h
theorem cnt_step {α : Type} {p : α → Bool} {l : List α} {m : Nat} {y : α} (h : l[m]? = some y) : ((l.take (m + 1)).filter p).length = if p y then ((l.take m).filter p).length + 1 else ((l.take m).filter p).length := by
 rw [List.take_add_one, h]
 by_cases hp : p y = true
 · simp [List.filter_append, hp]
 simp [List.filter_append, hp]
set_option maxRecDepth 100000 in
set_option maxHeartbeats 32000000 in
theorem refRegions_any {w : World} (s : Sv) (c : Cor) (hv : Rows 4 EEx w s.vr c.regs) (ht : Rows 4 EEx w s.vx c.texts) (hl : c.regs.length ≤ maxLen) (hlt : c.texts.length ≤ maxLen) (hs : ∀ t ∈ c.regs, rExM t) :
 Calls Tryz.prog 87 #[.agg s.arr] w fun e w' => e = .returned (two (partE (regsE c) (regE c) c.regs.length)) ∧ Below w.heap.size w w' := by
 have hwi := fun b e W (h : Below w.heap.size w W) => refWithin_any (w := W) s (c := c) (ht.below stays_ex h) hlt b e
 have hae : regsE c = if 1024 < c.regs.length then 2 else 0 := rfl
 have hat := fun k x (h : c.regs[k]? = some x) => show regE c k = (if nameB x.name = false then 4 else if within c x.b x.e = false then 8 else if pairsE x.ps ≠ 0 then pairsE x.ps
  else if badOrder c.regs k x then 6 else if (c.regs.take k).any (crosses x) then 13 else if 40 < ((c.regs.take (k + 1)).filter (holds x)).length then 2 else 0) by unfold regE; rw [h]
 obtain ⟨l, hlc⟩ : ∃ l, c.regs = l := ⟨_, rfl⟩
 obtain ⟨f, hf⟩ : ∃ f, regE c = f := ⟨_, rfl⟩
 obtain ⟨g, hg⟩ : ∃ g, regsE c = g := ⟨_, rfl⟩
 obtain ⟨wi, hwie⟩ : ∃ e, within c = e := ⟨_, rfl⟩
 rw [hlc] at hv hl hs hae hat ⊢
 rw [hwie] at hat
 simp only [hwie] at hwi
 rw [hf] at hat ⊢
 rw [hg] at hae ⊢
 clear hlc hf hg hwie ht hlt c
 obtain ⟨A, cap, hvx, hc⟩ := hv.form
 obtain ⟨va, vt, vx, vr, vn, vh, vl⟩ := s
 simp only at hvx hv
 subst hvx
 simp only [Sv.arr] at hwi ⊢
 obtain ⟨n, hn⟩ : ∃ n, l.length = n := ⟨_, rfl⟩
 obtain ⟨p, hp⟩ : ∃ p, partE g f l.length = p := ⟨_, rfl⟩
 rw [hp]
 rw [hn] at hp hae hc hl hv hwi ⊢
 unfold maxLen at hl
 obtain ⟨N0, hN0⟩ : ∃ N, w.heap.size = N := ⟨_, rfl⟩
 obtain ⟨X, hX⟩ : ∃ X, w.alloc (.cells #[va, vt, vx, .slice A n cap, vn, vh, vl] 30) = X := ⟨_, rfl⟩
 have hbX : Below w.heap.size w X := by rw [← hX]; exact below_box w _
 have x1 : X.heap[N0]? = some (.cells #[va, vt, vx, .slice A n cap, vn, vh, vl] 30 (0, 0)) := by rw [← hX, ← hN0]; exact block_new w _
 have c3 : (w.alloc (.cells #[va, vt, vx, .slice A n cap, vn, vh, vl] 30)).cell? ⟨w.heap.size, 3, none⟩ = some (.slice A n cap) := cell_of (block_new w _) rfl
 have HV := Lib.hid (fun W (h : Below X.heap.size X W) => hv.below stays_ex (hbX.trans (h.mono hbX.size)))
 have HK := Lib.hid (fun W (h : Below X.heap.size X W) => block_below x1 h (Array.getElem?_eq_some_iff.1 x1).1)
 have HWI := Lib.hid (fun b e W (h : Below X.heap.size X W) => hwi b e W (hbX.trans (h.mono hbX.size)))
 have HN := Lib.hid hn
 have HS := Lib.hid hs
 have HAT := Lib.hid hat
 have HX := Lib.hid hX
 have HN0 := Lib.hid hN0
 have HBX := Lib.hid hbX
 clear hv hn hs hat hX hN0 hbX x1 hwi
 by_cases h8 : 1024 < n
 ·
  rw [if_pos h8] at hae
  subst hae
  rw [part_whole (by decide)] at hp
  subst hp
  have h8i : (1024 : Int) < (n : Int) := by omega
  go_enter Tryz.func87, Tryz.ntmps87
  go_wp2_with fail
  go_ret2
  exact ⟨rfl, HX.out ▸ HBX.out⟩
 rw [if_neg h8] at hae
 subst hae
 rw [part_scan] at hp
 have h8i : ¬ (1024 : Int) < (n : Int) := by omega
 have HP0 : Hid (p = scanE f n 0) := Lib.hid hp.symm
 clear hp
 go_enter Tryz.func87, Tryz.ntmps87
 go_wp2_with fail
 rw [HX.out, HN0.out]
 clear c3
 go_loopw [17] (fun i wr => ∃ k : Nat, k ≤ n ∧ i = .int .i64 k ∧ Hid (p = scanE f n k) ∧ Below X.heap.size X wr) (fun i _ => n - (Go.RowKit.intOf i).toNat)
 case atStart => exact ⟨0, Nat.zero_le _, rfl, HP0, Below.refl _ _⟩
 clear HP0
 obtain ⟨k, hk, rfl, hp, hb⟩ := hrel
 by_cases hlt' : k < n
 ·
  obtain ⟨x, hx⟩ : ∃ x, l[k]? = some x := ⟨_, List.getElem?_eq_getElem (by rw [HN.out]; exact hlt')⟩
  obtain ⟨bk, off, rfl, hbl, hj⟩ := at_ex (HV.out wr hb) (by rw [HN.out]; omega)
  obtain ⟨u, ru, u0, u1, u2, u3⟩ := hj k x hx
  have hfk := HAT.out k x hx
  have hsx := HS.out x (List.mem_of_getElem? hx)
  have hsc := hp.out
  rw [scanE_step hlt'] at hsc
  obtain ⟨Au, pu, rfl, -⟩ := ru.form
  obtain ⟨nu, hpx⟩ : ∃ n, x.ps.length = n := ⟨_, rfl⟩
  obtain ⟨P, hP⟩ : ∃ s : ByteArray, (⟨x.name.toArray⟩ : ByteArray) = s := ⟨_, rfl⟩
  have hPl : P.data.toList = x.name := by rw [← hP]
  have hvn := fun W => refName_any P (by rw [Lib.size_eq, hPl]; exact hsx.1) W
  rw [hPl] at hvn
  rw [hP] at u0
  rw [hpx] at u3 ru
  obtain ⟨a, ha⟩ : ∃ a, nameB x.name = a := ⟨_, rfl⟩
  rw [ha] at hvn hfk
  obtain ⟨N1, hN1⟩ : ∃ N, wr.heap.size = N := ⟨_, rfl⟩
  have q1' := block_new wr (.cells #[.string P, .int .i64 x.b, .int .i64 x.e, .slice Au nu pu] 54)
  have d0 : (wr.alloc (.cells #[.string P, .int .i64 x.b, .int .i64 x.e, .slice Au nu pu] 54)).cell? ⟨wr.heap.size, 0, none⟩ = some (.string P) := cell_of q1' rfl
  have d1 : (wr.alloc (.cells #[.string P, .int .i64 x.b, .int .i64 x.e, .slice Au nu pu] 54)).cell? ⟨wr.heap.size, 1, none⟩ = some (.int .i64 x.b) := cell_of q1' rfl
  have d2 : (wr.alloc (.cells #[.string P, .int .i64 x.b, .int .i64 x.e, .slice Au nu pu] 54)).cell? ⟨wr.heap.size, 2, none⟩ = some (.int .i64 x.e) := cell_of q1' rfl
  rw [hN1] at q1'
  obtain ⟨X1, hX1⟩ : ∃ X1, wr.alloc (.cells #[.string P, .int .i64 x.b, .int .i64 x.e, .slice Au nu pu] 54) = X1 := ⟨_, rfl⟩
  have hbX1 : Below X.heap.size X X1 := by rw [← hX1]; exact hb.trans ((below_box wr _).mono hb.size)
  have hbw1 : Below wr.heap.size wr X1 := by rw [← hX1]; exact below_box wr _
  rw [hX1] at q1'
  have hkk := HK.out X1 hbX1
  rw [← hX1] at hkk
  have c0 : (wr.alloc (.cells #[.string P, .int .i64 x.b, .int .i64 x.e, .slice Au nu pu] 54)).cell? ⟨N0, 0, none⟩ = some va := cell_of hkk rfl
  have c1 : (wr.alloc (.cells #[.string P, .int .i64 x.b, .int .i64 x.e, .slice Au nu pu] 54)).cell? ⟨N0, 1, none⟩ = some vt := cell_of hkk rfl
  have c2 : (wr.alloc (.cells #[.string P, .int .i64 x.b, .int .i64 x.e, .slice Au nu pu] 54)).cell? ⟨N0, 2, none⟩ = some vx := cell_of hkk rfl
  have c3 : (wr.alloc (.cells #[.string P, .int .i64 x.b, .int .i64 x.e, .slice Au nu pu] 54)).cell? ⟨N0, 3, none⟩ = some (.slice (some ⟨bk, off, none⟩) n cap) := cell_of hkk rfl
  have c4 : (wr.alloc (.cells #[.string P, .int .i64 x.b, .int .i64 x.e, .slice Au nu pu] 54)).cell? ⟨N0, 4, none⟩ = some vn := cell_of hkk rfl
  have c5 : (wr.alloc (.cells #[.string P, .int .i64 x.b, .int .i64 x.e, .slice Au nu pu] 54)).cell? ⟨N0, 5, none⟩ = some vh := cell_of hkk rfl
  have c6 : (wr.alloc (.cells #[.string P, .int .i64 x.b, .int .i64 x.e, .slice Au nu pu] 54)).cell? ⟨N0, 6, none⟩ = some vl := cell_of hkk rfl
  have hwi := HWI.out x.b x.e X1 hbX1
  obtain ⟨wv, hwv⟩ : ∃ z, wi x.b x.e = z := ⟨_, rfl⟩
  rw [hwv] at hwi hfk
  have HWV := Lib.hid hwi
  have HVN := Lib.hid hvn
  have HBX1 := Lib.hid hbX1
  have HX1 := Lib.hid hX1
  have HN1 := Lib.hid hN1
  have HE1 := Lib.hid q1'
  have HXX := Lib.hid hx
  have HPL := Lib.hid hPl
  have HPA := Lib.hid (And.intro hP hpx)
  have HSX := Lib.hid hsx
  have HRU := Lib.hid (fun W (h : Below X1.heap.size X1 W) => ru.below stays_pair (hbw1.trans (h.mono hbw1.size)))
  have HVB := Lib.hid (fun W (h : Below X1.heap.size X1 W) => HV.out W (hbX1.trans (h.mono hbX1.size)))
  have HKB := Lib.hid (fun W (h : Below X1.heap.size X1 W) => HK.out W (hbX1.trans (h.mono hbX1.size)))
  have k0 : (0 : Int) ≤ (k : Int) := by omega
  have kn : (k : Int) < (n : Int) := by omega
  have kc : (k : Int) + 1 ≤ (cap : Int) := by omega
  clear hb hj hx hP hPl hvn ha hpx hN1 q1' hbX1 hbw1 hp hbl ru hsx hkk hwi hwv
  cases a with
  | false =>
    rw [if_pos rfl] at hfk
    rw [hfk, if_neg (by decide)] at hsc
    subst hsc
    clear hfk hX1
    go_wp2_with fail
    refine (HVN.out _).mono ?_
    rintro e w1 ⟨rfl, rfl⟩
    clear c0 c1 c2 c3 c4 c5 c6
    go_wp2_with fail
    go_ret2
    exact ⟨rfl, HX1.out ▸ (HBX.out.trans (HBX1.out.mono HBX.out.size))⟩
  | true =>
    rw [if_neg (by decide)] at hfk
    obtain ⟨wo, hwo⟩ : ∃ wo, wo = wr := ⟨_, rfl⟩
    subst hwo
    clear hX1
    go_wp2_with fail
    refine (HVN.out _).mono ?_
    rintro e w1 ⟨rfl, rfl⟩
    go_wp2_with fail
    rw [HX1.out, HN1.out]
    refine HWV.out.mono ?_
    rintro e w2 ⟨rfl, hb2⟩
    have HB2 := Lib.hid hb2
    have e3 : w2.cell? ⟨N1, 3, none⟩ = some (.slice Au nu pu) := cell_of (block_below HE1.out hb2 (Array.getElem?_eq_some_iff.1 HE1.out).1) rfl
    clear hb2 c0 c1 c2 c3 c4 c5 c6 d0 d1 d2 u0 u1 u2 u3
    cases wv with
    | false =>
      rw [if_pos rfl] at hfk
      rw [hfk, if_neg (by decide)] at hsc
      subst hsc
      clear hfk e3
      go_wp2_with fail
      go_ret2
      exact ⟨rfl, HBX.out.trans ((HBX1.out.trans (HB2.out.mono HBX1.out.size)).mono HBX.out.size)⟩
    | true =>
      rw [if_neg (by decide)] at hfk
      have HPR := Lib.hid (refPairs_any (HRU.out w2 HB2.out) HSX.out.2.1 HSX.out.2.2)
      obtain ⟨z, hz⟩ : ∃ z, pairsE x.ps = z := ⟨_, rfl⟩
      rw [hz] at hfk HPR
      clear hz
      go_wp2_with fail
      refine HPR.out.mono ?_
      rintro e w3 ⟨rfl, hb3⟩
      have HB3 := Lib.hid (HB2.out.trans (hb3.mono HB2.out.size))
      clear hb3 e3
      by_cases hz0 : z = 0
      ·
       subst hz0
       rw [if_neg (by simp)] at hfk
       rcases Nat.eq_zero_or_pos k with hk0 | hk0
       ·
        have kpos : ¬ (0 : Int) < (k : Int) := by omega
        have hbo : badOrder l k x = false := by unfold badOrder; simp [hk0]
        rw [hbo, if_neg (by decide)] at hfk
        have HFK := Lib.hid hfk
        have HSC := Lib.hid hsc
        clear hfk hsc hbo
        go_wp2_with fail
        go_quiet (fail)
        obtain ⟨w4, hw4⟩ : ∃ W, w3.drewN nq = W := ⟨_, rfl⟩
        have HB4 := Lib.hid (hw4 ▸ below_drewN HB3.out nq)
        rw [hw4]
        clear hw4
        have hk4 := HKB.out w4 HB4.out
        have c3 : w4.cell? ⟨N0, 3, none⟩ = some (.slice (some ⟨bk, off, none⟩) n cap) := cell_of hk4 rfl
        clear hk4
        go_wp2_with fail
        clear c3
        go_loopw [7, 64] (fun dp i wi => ∃ m : Nat, m ≤ k + 1 ∧ dp = .int .i64 ((((l.take m).filter (holds x)).length : Nat) : Int) ∧ i = .int .i64 m ∧ Hid (∀ (j : Nat) (y : Ex), j < m → j < k → l[j]? = some y → crosses x y = false) ∧ Below X1.heap.size X1 wi) (fun _ i _ => k + 1 - (Go.RowKit.intOf i).toNat)
        case atStart => exact ⟨0, Nat.zero_le _, rfl, rfl, Lib.hid (fun j y h => absurd h (by omega)), HB4.out⟩
        obtain ⟨m, hm, rfl, rfl, hs, hb⟩ := hrel
        have hdm : ((l.take m).filter (holds x)).length ≤ m := Nat.le_trans (List.length_filter_le _ _) (by rw [List.length_take]; exact Nat.min_le_left _ _)
        obtain ⟨d, hd⟩ : ∃ d, ((l.take m).filter (holds x)).length = d := ⟨_, rfl⟩
        rw [hd] at hdm ⊢
        by_cases hlm : m < k + 1
        ·
         obtain ⟨y, hy⟩ : ∃ y, l[m]? = some y := ⟨_, List.getElem?_eq_getElem (by rw [HN.out]; omega)⟩
         obtain ⟨b2, off2, he2, hbl, hj⟩ := at_ex (HVB.out wr hb) (by rw [HN.out]; omega)
         cases he2
         obtain ⟨v, rv, u0, u1, u2, u3⟩ := hj m y hy
         obtain ⟨Av, pv, rfl, -⟩ := rv.form
         obtain ⟨nv, hnv⟩ : ∃ n, y.ps.length = n := ⟨_, rfl⟩
         obtain ⟨Q, hQ⟩ : ∃ s : ByteArray, (⟨y.name.toArray⟩ : ByteArray) = s := ⟨_, rfl⟩
         have hQl : Q.data.toList = y.name := by rw [← hQ]
         rw [hQ] at u0
         rw [hnv] at u3
         have b1 := block_alloc (.cells #[.string Q, .int .i64 y.b, .int .i64 y.e, .slice Av nv pv] 54) (block_below HE1.out hb (Array.getElem?_eq_some_iff.1 HE1.out).1)
         have n1 := block_new wr (.cells #[.string Q, .int .i64 y.b, .int .i64 y.e, .slice Av nv pv] 54)
         have d0 := cell_of (i := 0) b1 rfl
         have d1 := cell_of (i := 1) b1 rfl
         have d2 := cell_of (i := 2) b1 rfl
         have e0 := cell_of (i := 0) n1 rfl
         have e1 := cell_of (i := 1) n1 rfl
         have e2 := cell_of (i := 2) n1 rfl
         have m0 : (0 : Int) ≤ (m : Int) := by omega
         have mk1 : (m : Int) < (k : Int) + 1 := by omega
         have HB := Lib.hid (hb.trans ((below_box wr (.cells #[.string Q, .int .i64 y.b, .int .i64 y.e, .slice Av nv pv] 54)).mono hb.size))
         clear b1 n1
         by_cases p1 : y.b ≤ x.b
         ·
          by_cases p2 : x.b < y.e
          ·
           have hmk : ¬ m < k := by omega
           have mki : ¬ (m : Int) < (k : Int) := by omega
           have hc : ((l.take (m + 1)).filter (holds x)).length = d + 1 := by
            rw [cnt_step hy, hd, if_pos (by unfold holds; simp <;> omega)]
           have hs' : Hid (∀ (j : Nat) (y : Ex), j < m + 1 → j < k → l[j]? = some y → crosses x y = false) := Lib.hid fun j y' hj hjk hy' => by
            by_cases e : j = m
            ·
             subst e
             rw [hy] at hy'
             cases hy'
             exact absurd hjk (by omega)
            exact hs.out j y' (by omega) hjk hy'
           clear hb hj hy hQ hQl hnv rv hs hd hbl HFK HSC HRU HVB HKB HSX HXX
           go_wp2_with fail
           exact ⟨⟨m + 1, by omega, by first | (rw [hc]; done) | (rw [hc]; go_num), by go_num, hs', HB.out⟩, by simp only [Go.RowKit.intOf]; omega⟩
          have hmk : ¬ m < k := by omega
          have mki : ¬ (m : Int) < (k : Int) := by omega
          have hc : ((l.take (m + 1)).filter (holds x)).length = d := by
           rw [cnt_step hy, hd, if_neg (by unfold holds; simp <;> omega)]
          have hs' : Hid (∀ (j : Nat) (y : Ex), j < m + 1 → j < k → l[j]? = some y → crosses x y = false) := Lib.hid fun j y' hj hjk hy' => by
           by_cases e : j = m
           ·
            subst e
            rw [hy] at hy'
            cases hy'
            exact absurd hjk (by omega)
           exact hs.out j y' (by omega) hjk hy'
          clear hb hj hy hQ hQl hnv rv hs hd hbl HFK HSC HRU HVB HKB HSX HXX
          go_wp2_with fail
          exact ⟨⟨m + 1, by omega, by first | (rw [hc]; done) | (rw [hc]; go_num), by go_num, hs', HB.out⟩, by simp only [Go.RowKit.intOf]; omega⟩
         have hmk : ¬ m < k := by omega
         have mki : ¬ (m : Int) < (k : Int) := by omega
         have hc : ((l.take (m + 1)).filter (holds x)).length = d := by
          rw [cnt_step hy, hd, if_neg (by unfold holds; simp <;> omega)]
         have hs' : Hid (∀ (j : Nat) (y : Ex), j < m + 1 → j < k → l[j]? = some y → crosses x y = false) := Lib.hid fun j y' hj hjk hy' => by
          by_cases e : j = m
          ·
           subst e
           rw [hy] at hy'
           cases hy'
           exact absurd hjk (by omega)
          exact hs.out j y' (by omega) hjk hy'
         clear hb hj hy hQ hQl hnv rv hs hd hbl HFK HSC HRU HVB HKB HSX HXX
         go_wp2_with fail
         exact ⟨⟨m + 1, by omega, by first | (rw [hc]; done) | (rw [hc]; go_num), by go_num, hs', HB.out⟩, by simp only [Go.RowKit.intOf]; omega⟩
        obtain rfl : m = k + 1 := by omega
        have hany : (l.take k).any (crosses x) = false := by
         rw [List.any_eq_false]
         intro y hy
         obtain ⟨j, hj, e⟩ := mem_take_ex hy
         simpa using hs.out j y (by omega) hj e
        have hfk := HFK.out
        rw [hany, if_neg (by decide), hd] at hfk
        have hsc := HSC.out
        rw [hfk] at hsc
        have HB5 := Lib.hid (HBX1.out.trans (hb.mono HBX1.out.size))
        by_cases h40 : 40 < d
        ·
         rw [if_pos h40, if_neg (by decide)] at hsc
         subst hsc
         have h40i : (40 : Int) < (d : Int) := by omega
         clear hb hs hany hfk hd
         go_wp2_with fail
         go_ret2
         exact ⟨by first | rfl | (rw [hk0]; rfl), HBX.out.trans (HB5.out.mono HBX.out.size)⟩
        rw [if_neg h40, if_pos rfl] at hsc
        have HSC2 := Lib.hid hsc
        have h40i : ¬ (40 : Int) < (d : Int) := by omega
        clear hb hs hany hfk hd hsc
        go_wp2_with fail
        exact ⟨⟨k + 1, by omega, by go_num, HSC2, HB5.out⟩, by simp only [Go.RowKit.intOf]; omega⟩
       obtain ⟨kp, hkp⟩ : ∃ m, k = m + 1 := ⟨k - 1, by omega⟩
       obtain ⟨y, hy⟩ : ∃ y, l[kp]? = some y := ⟨_, List.getElem?_eq_getElem (by rw [HN.out]; omega)⟩
       have hbo : badOrder l k x = decide (0 < cmpR y x) := by rw [hkp]; unfold badOrder; simp [hy]
       obtain ⟨zc, hzc⟩ : ∃ z, cmpR y x = z := ⟨_, rfl⟩
       rw [hbo, hzc] at hfk
       obtain ⟨b2, off2, he2, hbl, hj⟩ := at_ex (HVB.out w3 HB3.out) (by rw [HN.out]; omega)
       cases he2
       obtain ⟨v, rv, u0, u1, u2, u3⟩ := hj kp y hy
       have hcm := fun W (h : Below w3.heap.size w3 W) => refCmpR_any y x v (.slice Au nu pu) (rv.below stays_pair h) (HRU.out W (HB3.out.trans (h.mono HB3.out.size))) (HS.out y (List.mem_of_getElem? hy)).2.1 HSX.out.2.1
       obtain ⟨Ay, py, rfl, -⟩ := rv.form
       obtain ⟨ny, hny⟩ : ∃ n, y.ps.length = n := ⟨_, rfl⟩
       obtain ⟨R, hR⟩ : ∃ s : ByteArray, (⟨y.name.toArray⟩ : ByteArray) = s := ⟨_, rfl⟩
       rw [hR] at u0
       rw [hny] at u3
       simp only [hR, hny, HPA.out, hzc] at hcm
       have hk3 := HKB.out w3 HB3.out
       have c3 : w3.cell? ⟨N0, 3, none⟩ = some (.slice (some ⟨bk, off, none⟩) n cap) := cell_of hk3 rfl
       have e1 := block_below HE1.out HB3.out (Array.getElem?_eq_some_iff.1 HE1.out).1
       have g0 : w3.cell? ⟨N1, 0, none⟩ = some (.string P) := cell_of e1 rfl
       have g1 : w3.cell? ⟨N1, 1, none⟩ = some (.int .i64 x.b) := cell_of e1 rfl
       have g2 : w3.cell? ⟨N1, 2, none⟩ = some (.int .i64 x.e) := cell_of e1 rfl
       have g3 : w3.cell? ⟨N1, 3, none⟩ = some (.slice Au nu pu) := cell_of e1 rfl
       have HSS := Lib.hid (fun W (h : Below w3.heap.size w3 W) => show W.cell? ⟨N0, 3, none⟩ = some (.slice (some ⟨bk, off, none⟩) n cap) ∧ W.cell? ⟨bk, off + kp * 4, none⟩ = some (.string R) ∧ W.cell? ⟨bk, off + kp * 4 + 1, none⟩ = some (.int .i64 y.b) ∧ W.cell? ⟨bk, off + kp * 4 + 2, none⟩ = some (.int .i64 y.e) ∧ W.cell? ⟨bk, off + kp * 4 + 3, none⟩ = some (.slice Ay ny py) ∧ W.cell? ⟨N1, 0, none⟩ = some (.string P) ∧ W.cell? ⟨N1, 1, none⟩ = some (.int .i64 x.b) ∧ W.cell? ⟨N1, 2, none⟩ = some (.int .i64 x.e) ∧ W.cell? ⟨N1, 3, none⟩ = some (.slice Au nu pu) from ⟨keepC c3 h, keepC u0 h, keepC u1 h, keepC u2 h, keepC u3 h, keepC g0 h, keepC g1 h, keepC g2 h, keepC g3 h⟩)
       have HCM := Lib.hid hcm
       have kpos : (0 : Int) < (k : Int) := by omega
       have hm1 : IntKind.i64.wrap ((k : Int) - 1) = (kp : Int) := by rw [IntKind.wrap_i64]; omega
       have hmw : IntKind.i64.wrap (kp : Int) = (kp : Int) := by rw [IntKind.wrap_i64]; omega
       have hm0 : (0 : Int) ≤ (kp : Int) := by omega
       have hmn : (kp : Int) < (n : Int) := by omega
       have hm2 : (k : Int) - 1 = (kp : Int) := by omega
       have HKP := Lib.hid hkp
       clear hbo hj hbl hcm hk3 e1 hy hR hny hzc hkp
       go_wp2_with fail
       go_region_held3 (fun w' => w'.cell? ⟨N0, 3, none⟩ = some (.slice (some ⟨bk, off, none⟩) n cap) ∧ w'.cell? ⟨bk, off + kp * 4, none⟩ = some (.string R) ∧ w'.cell? ⟨bk, off + kp * 4 + 1, none⟩ = some (.int .i64 y.b) ∧ w'.cell? ⟨bk, off + kp * 4 + 2, none⟩ = some (.int .i64 y.e) ∧ w'.cell? ⟨bk, off + kp * 4 + 3, none⟩ = some (.slice Ay ny py) ∧ w'.cell? ⟨N1, 0, none⟩ = some (.string P) ∧ w'.cell? ⟨N1, 1, none⟩ = some (.int .i64 x.b) ∧ w'.cell? ⟨N1, 2, none⟩ = some (.int .i64 x.e) ∧ w'.cell? ⟨N1, 3, none⟩ = some (.slice Au nu pu))
        (first
         | go_keep
         | (exact HSS.out _ ((Below.refl _ w3).drew.trans hb4))
         | fail)
        ((first
          | (go_at_call 124; (with_reducible refine (HCM.out _ (Below.refl _ w3).drew).mono ?_); rintro e w4 ⟨rfl, hb4⟩)
          | fail))
       have HB4 := Lib.hid (HB3.out.trans (((Below.refl _ w3).drew.trans hb4).mono HB3.out.size))
       clear hb4 c3 u0 u1 u2 u3 g0 g1 g2 g3 hm1 hmw hm0 hmn hm2 HSS
       by_cases hz0 : 0 < zc
       ·
        rw [decide_eq_true hz0, if_pos rfl] at hfk
        rw [hfk, if_neg (by decide)] at hsc
        subst hsc
        clear hfk
        go_wp2_with fail
        go_ret2
        exact ⟨by first | rfl | (simp [two]), HBX.out.trans ((HBX1.out.trans (HB4.out.mono HBX1.out.size)).mono HBX.out.size)⟩
       rw [decide_eq_false hz0, if_neg (by decide)] at hfk
       have HFK := Lib.hid hfk
       have HSC := Lib.hid hsc
       clear hfk hsc HCM
       have hk4 := HKB.out w4 HB4.out
       have c3 : w4.cell? ⟨N0, 3, none⟩ = some (.slice (some ⟨bk, off, none⟩) n cap) := cell_of hk4 rfl
       clear hk4
       go_wp2_with fail
       clear c3
       go_loopw [7, 64] (fun dp i wi => ∃ m : Nat, m ≤ k + 1 ∧ dp = .int .i64 ((((l.take m).filter (holds x)).length : Nat) : Int) ∧ i = .int .i64 m ∧ Hid (∀ (j : Nat) (y : Ex), j < m → j < k → l[j]? = some y → crosses x y = false) ∧ Below X1.heap.size X1 wi) (fun _ i _ => k + 1 - (Go.RowKit.intOf i).toNat)
       case atStart => exact ⟨0, Nat.zero_le _, rfl, rfl, Lib.hid (fun j y h => absurd h (by omega)), HB4.out⟩
       obtain ⟨m, hm, rfl, rfl, hs, hb⟩ := hrel
       have hdm : ((l.take m).filter (holds x)).length ≤ m := Nat.le_trans (List.length_filter_le _ _) (by rw [List.length_take]; exact Nat.min_le_left _ _)
       obtain ⟨d, hd⟩ : ∃ d, ((l.take m).filter (holds x)).length = d := ⟨_, rfl⟩
       rw [hd] at hdm ⊢
       by_cases hlm : m < k + 1
       ·
        obtain ⟨y, hy⟩ : ∃ y, l[m]? = some y := ⟨_, List.getElem?_eq_getElem (by rw [HN.out]; omega)⟩
        obtain ⟨b2, off2, he2, hbl, hj⟩ := at_ex (HVB.out wr hb) (by rw [HN.out]; omega)
        cases he2
        obtain ⟨v, rv, u0, u1, u2, u3⟩ := hj m y hy
        obtain ⟨Av, pv, rfl, -⟩ := rv.form
        obtain ⟨nv, hnv⟩ : ∃ n, y.ps.length = n := ⟨_, rfl⟩
        obtain ⟨Q, hQ⟩ : ∃ s : ByteArray, (⟨y.name.toArray⟩ : ByteArray) = s := ⟨_, rfl⟩
        have hQl : Q.data.toList = y.name := by rw [← hQ]
        rw [hQ] at u0
        rw [hnv] at u3
        have b1 := block_alloc (.cells #[.string Q, .int .i64 y.b, .int .i64 y.e, .slice Av nv pv] 54) (block_below HE1.out hb (Array.getElem?_eq_some_iff.1 HE1.out).1)
        have n1 := block_new wr (.cells #[.string Q, .int .i64 y.b, .int .i64 y.e, .slice Av nv pv] 54)
        have d0 := cell_of (i := 0) b1 rfl
        have d1 := cell_of (i := 1) b1 rfl
        have d2 := cell_of (i := 2) b1 rfl
        have e0 := cell_of (i := 0) n1 rfl
        have e1 := cell_of (i := 1) n1 rfl
        have e2 := cell_of (i := 2) n1 rfl
        have m0 : (0 : Int) ≤ (m : Int) := by omega
        have mk1 : (m : Int) < (k : Int) + 1 := by omega
        have HB := Lib.hid (hb.trans ((below_box wr (.cells #[.string Q, .int .i64 y.b, .int .i64 y.e, .slice Av nv pv] 54)).mono hb.size))
        clear b1 n1
        by_cases p1 : y.b ≤ x.b
        ·
         by_cases p2 : x.b < y.e
         ·
          by_cases hmk : m < k
          ·
           have mki : (m : Int) < (k : Int) := by omega
           by_cases hnm : y.name = x.name
           ·
            have z1 : (Q.toList == P.toList) = true := by rw [toL P, toL Q, HPL.out, hQl, hnm]; simp
            by_cases c1 : y.b < x.e
            ·
             by_cases c4 : x.e ≤ y.e
             ·
              have hc : ((l.take (m + 1)).filter (holds x)).length = d + 1 := by
               rw [cnt_step hy, hd, if_pos (by unfold holds; simp <;> omega)]
              have hs' : Hid (∀ (j : Nat) (y : Ex), j < m + 1 → j < k → l[j]? = some y → crosses x y = false) := Lib.hid fun j y' hj hjk hy' => by
               by_cases e : j = m
               ·
                subst e
                rw [hy] at hy'
                cases hy'
                unfold crosses; simp <;> omega
               exact hs.out j y' (by omega) hjk hy'
              clear hb hj hy hQ hQl hnv rv hs hd hbl HFK HSC HRU HVB HKB HSX HXX
              go_wp2_with fail
              exact ⟨⟨m + 1, by omega, by first | (rw [hc]; done) | (rw [hc]; go_num), by go_num, hs', HB.out⟩, by simp only [Go.RowKit.intOf]; omega⟩
             by_cases c5 : x.b ≤ y.b
             ·
              have c6 : y.e ≤ x.e := by omega
              have hc : ((l.take (m + 1)).filter (holds x)).length = d + 1 := by
               rw [cnt_step hy, hd, if_pos (by unfold holds; simp <;> omega)]
              have hs' : Hid (∀ (j : Nat) (y : Ex), j < m + 1 → j < k → l[j]? = some y → crosses x y = false) := Lib.hid fun j y' hj hjk hy' => by
               by_cases e : j = m
               ·
                subst e
                rw [hy] at hy'
                cases hy'
                unfold crosses; simp <;> omega
               exact hs.out j y' (by omega) hjk hy'
              clear hb hj hy hQ hQl hnv rv hs hd hbl HFK HSC HRU HVB HKB HSX HXX
              go_wp2_with fail
              exact ⟨⟨m + 1, by omega, by first | (rw [hc]; done) | (rw [hc]; go_num), by go_num, hs', HB.out⟩, by simp only [Go.RowKit.intOf]; omega⟩
             have h13 : f k = 13 := by rw [HFK.out, if_pos (List.any_eq_true.2 ⟨y, mem_take_of hy hmk, by unfold crosses; simp [hnm] <;> omega⟩)]
             have hsc := HSC.out
             rw [h13, if_neg (by decide)] at hsc
             subst hsc
             clear hb hj hy hQ hQl hnv rv hs hd hbl h13
             go_wp2_with fail
             go_ret2
             exact ⟨rfl, HBX.out.trans ((HBX1.out.trans (HB.out.mono HBX1.out.size)).mono HBX.out.size)⟩
            have hc : ((l.take (m + 1)).filter (holds x)).length = d + 1 := by
             rw [cnt_step hy, hd, if_pos (by unfold holds; simp <;> omega)]
            have hs' : Hid (∀ (j : Nat) (y : Ex), j < m + 1 → j < k → l[j]? = some y → crosses x y = false) := Lib.hid fun j y' hj hjk hy' => by
             by_cases e : j = m
             ·
              subst e
              rw [hy] at hy'
              cases hy'
              unfold crosses; simp <;> omega
             exact hs.out j y' (by omega) hjk hy'
            clear hb hj hy hQ hQl hnv rv hs hd hbl HFK HSC HRU HVB HKB HSX HXX
            go_wp2_with fail
            exact ⟨⟨m + 1, by omega, by first | (rw [hc]; done) | (rw [hc]; go_num), by go_num, hs', HB.out⟩, by simp only [Go.RowKit.intOf]; omega⟩
           have z1 : (Q.toList == P.toList) = false := by rw [toL P, toL Q, HPL.out, hQl]; simpa using hnm
           have hc : ((l.take (m + 1)).filter (holds x)).length = d + 1 := by
            rw [cnt_step hy, hd, if_pos (by unfold holds; simp <;> omega)]
           have hs' : Hid (∀ (j : Nat) (y : Ex), j < m + 1 → j < k → l[j]? = some y → crosses x y = false) := Lib.hid fun j y' hj hjk hy' => by
            by_cases e : j = m
            ·
             subst e
             rw [hy] at hy'
             cases hy'
             unfold crosses; simp [hnm]
            exact hs.out j y' (by omega) hjk hy'
           clear hb hj hy hQ hQl hnv rv hs hd hbl HFK HSC HRU HVB HKB HSX HXX
           go_wp2_with fail
           exact ⟨⟨m + 1, by omega, by first | (rw [hc]; done) | (rw [hc]; go_num), by go_num, hs', HB.out⟩, by simp only [Go.RowKit.intOf]; omega⟩
          have mki : ¬ (m : Int) < (k : Int) := by omega
          have hc : ((l.take (m + 1)).filter (holds x)).length = d + 1 := by
           rw [cnt_step hy, hd, if_pos (by unfold holds; simp <;> omega)]
          have hs' : Hid (∀ (j : Nat) (y : Ex), j < m + 1 → j < k → l[j]? = some y → crosses x y = false) := Lib.hid fun j y' hj hjk hy' => by
           by_cases e : j = m
           ·
            subst e
            rw [hy] at hy'
            cases hy'
            exact absurd hjk (by omega)
           exact hs.out j y' (by omega) hjk hy'
          clear hb hj hy hQ hQl hnv rv hs hd hbl HFK HSC HRU HVB HKB HSX HXX
          go_wp2_with fail
          exact ⟨⟨m + 1, by omega, by first | (rw [hc]; done) | (rw [hc]; go_num), by go_num, hs', HB.out⟩, by simp only [Go.RowKit.intOf]; omega⟩
         by_cases hmk : m < k
         ·
          have mki : (m : Int) < (k : Int) := by omega
          by_cases hnm : y.name = x.name
          ·
           have z1 : (Q.toList == P.toList) = true := by rw [toL P, toL Q, HPL.out, hQl, hnm]; simp
           by_cases c1 : y.b < x.e
           ·
            have hc : ((l.take (m + 1)).filter (holds x)).length = d := by
             rw [cnt_step hy, hd, if_neg (by unfold holds; simp <;> omega)]
            have hs' : Hid (∀ (j : Nat) (y : Ex), j < m + 1 → j < k → l[j]? = some y → crosses x y = false) := Lib.hid fun j y' hj hjk hy' => by
             by_cases e : j = m
             ·
              subst e
              rw [hy] at hy'
              cases hy'
              unfold crosses; simp <;> omega
             exact hs.out j y' (by omega) hjk hy'
            clear hb hj hy hQ hQl hnv rv hs hd hbl HFK HSC HRU HVB HKB HSX HXX
            go_wp2_with fail
            exact ⟨⟨m + 1, by omega, by first | (rw [hc]; done) | (rw [hc]; go_num), by go_num, hs', HB.out⟩, by simp only [Go.RowKit.intOf]; omega⟩
           have hc : ((l.take (m + 1)).filter (holds x)).length = d := by
            rw [cnt_step hy, hd, if_neg (by unfold holds; simp <;> omega)]
           have hs' : Hid (∀ (j : Nat) (y : Ex), j < m + 1 → j < k → l[j]? = some y → crosses x y = false) := Lib.hid fun j y' hj hjk hy' => by
            by_cases e : j = m
            ·
             subst e
             rw [hy] at hy'
             cases hy'
             unfold crosses; simp <;> omega
            exact hs.out j y' (by omega) hjk hy'
           clear hb hj hy hQ hQl hnv rv hs hd hbl HFK HSC HRU HVB HKB HSX HXX
           go_wp2_with fail
           exact ⟨⟨m + 1, by omega, by first | (rw [hc]; done) | (rw [hc]; go_num), by go_num, hs', HB.out⟩, by simp only [Go.RowKit.intOf]; omega⟩
          have z1 : (Q.toList == P.toList) = false := by rw [toL P, toL Q, HPL.out, hQl]; simpa using hnm
          have hc : ((l.take (m + 1)).filter (holds x)).length = d := by
           rw [cnt_step hy, hd, if_neg (by unfold holds; simp <;> omega)]
          have hs' : Hid (∀ (j : Nat) (y : Ex), j < m + 1 → j < k → l[j]? = some y → crosses x y = false) := Lib.hid fun j y' hj hjk hy' => by
           by_cases e : j = m
           ·
            subst e
            rw [hy] at hy'
            cases hy'
            unfold crosses; simp [hnm]
           exact hs.out j y' (by omega) hjk hy'
          clear hb hj hy hQ hQl hnv rv hs hd hbl HFK HSC HRU HVB HKB HSX HXX
          go_wp2_with fail
          exact ⟨⟨m + 1, by omega, by first | (rw [hc]; done) | (rw [hc]; go_num), by go_num, hs', HB.out⟩, by simp only [Go.RowKit.intOf]; omega⟩
         have mki : ¬ (m : Int) < (k : Int) := by omega
         have hc : ((l.take (m + 1)).filter (holds x)).length = d := by
          rw [cnt_step hy, hd, if_neg (by unfold holds; simp <;> omega)]
         have hs' : Hid (∀ (j : Nat) (y : Ex), j < m + 1 → j < k → l[j]? = some y → crosses x y = false) := Lib.hid fun j y' hj hjk hy' => by
          by_cases e : j = m
          ·
           subst e
           rw [hy] at hy'
           cases hy'
           exact absurd hjk (by omega)
          exact hs.out j y' (by omega) hjk hy'
         clear hb hj hy hQ hQl hnv rv hs hd hbl HFK HSC HRU HVB HKB HSX HXX
         go_wp2_with fail
         exact ⟨⟨m + 1, by omega, by first | (rw [hc]; done) | (rw [hc]; go_num), by go_num, hs', HB.out⟩, by simp only [Go.RowKit.intOf]; omega⟩
        by_cases hmk : m < k
        ·
         have mki : (m : Int) < (k : Int) := by omega
         by_cases hnm : y.name = x.name
         ·
          have z1 : (Q.toList == P.toList) = true := by rw [toL P, toL Q, HPL.out, hQl, hnm]; simp
          by_cases c1 : y.b < x.e
          ·
           by_cases c2 : x.b < y.e
           ·
            have c5 : x.b ≤ y.b := by omega
            by_cases c6 : y.e ≤ x.e
            ·
             have hc : ((l.take (m + 1)).filter (holds x)).length = d := by
              rw [cnt_step hy, hd, if_neg (by unfold holds; simp <;> omega)]
             have hs' : Hid (∀ (j : Nat) (y : Ex), j < m + 1 → j < k → l[j]? = some y → crosses x y = false) := Lib.hid fun j y' hj hjk hy' => by
              by_cases e : j = m
              ·
               subst e
               rw [hy] at hy'
               cases hy'
               unfold crosses; simp <;> omega
              exact hs.out j y' (by omega) hjk hy'
             clear hb hj hy hQ hQl hnv rv hs hd hbl HFK HSC HRU HVB HKB HSX HXX
             go_wp2_with fail
             exact ⟨⟨m + 1, by omega, by first | (rw [hc]; done) | (rw [hc]; go_num), by go_num, hs', HB.out⟩, by simp only [Go.RowKit.intOf]; omega⟩
            have h13 : f k = 13 := by rw [HFK.out, if_pos (List.any_eq_true.2 ⟨y, mem_take_of hy hmk, by unfold crosses; simp [hnm] <;> omega⟩)]
            have hsc := HSC.out
            rw [h13, if_neg (by decide)] at hsc
            subst hsc
            clear hb hj hy hQ hQl hnv rv hs hd hbl h13
            go_wp2_with fail
            go_ret2
            exact ⟨rfl, HBX.out.trans ((HBX1.out.trans (HB.out.mono HBX1.out.size)).mono HBX.out.size)⟩
           have hc : ((l.take (m + 1)).filter (holds x)).length = d := by
            rw [cnt_step hy, hd, if_neg (by unfold holds; simp <;> omega)]
           have hs' : Hid (∀ (j : Nat) (y : Ex), j < m + 1 → j < k → l[j]? = some y → crosses x y = false) := Lib.hid fun j y' hj hjk hy' => by
            by_cases e : j = m
            ·
             subst e
             rw [hy] at hy'
             cases hy'
             unfold crosses; simp <;> omega
            exact hs.out j y' (by omega) hjk hy'
           clear hb hj hy hQ hQl hnv rv hs hd hbl HFK HSC HRU HVB HKB HSX HXX
           go_wp2_with fail
           exact ⟨⟨m + 1, by omega, by first | (rw [hc]; done) | (rw [hc]; go_num), by go_num, hs', HB.out⟩, by simp only [Go.RowKit.intOf]; omega⟩
          have hc : ((l.take (m + 1)).filter (holds x)).length = d := by
           rw [cnt_step hy, hd, if_neg (by unfold holds; simp <;> omega)]
          have hs' : Hid (∀ (j : Nat) (y : Ex), j < m + 1 → j < k → l[j]? = some y → crosses x y = false) := Lib.hid fun j y' hj hjk hy' => by
           by_cases e : j = m
           ·
            subst e
            rw [hy] at hy'
            cases hy'
            unfold crosses; simp <;> omega
           exact hs.out j y' (by omega) hjk hy'
          clear hb hj hy hQ hQl hnv rv hs hd hbl HFK HSC HRU HVB HKB HSX HXX
          go_wp2_with fail
          exact ⟨⟨m + 1, by omega, by first | (rw [hc]; done) | (rw [hc]; go_num), by go_num, hs', HB.out⟩, by simp only [Go.RowKit.intOf]; omega⟩
         have z1 : (Q.toList == P.toList) = false := by rw [toL P, toL Q, HPL.out, hQl]; simpa using hnm
         have hc : ((l.take (m + 1)).filter (holds x)).length = d := by
          rw [cnt_step hy, hd, if_neg (by unfold holds; simp <;> omega)]
         have hs' : Hid (∀ (j : Nat) (y : Ex), j < m + 1 → j < k → l[j]? = some y → crosses x y = false) := Lib.hid fun j y' hj hjk hy' => by
          by_cases e : j = m
          ·
           subst e
           rw [hy] at hy'
           cases hy'
           unfold crosses; simp [hnm]
          exact hs.out j y' (by omega) hjk hy'
         clear hb hj hy hQ hQl hnv rv hs hd hbl HFK HSC HRU HVB HKB HSX HXX
         go_wp2_with fail
         exact ⟨⟨m + 1, by omega, by first | (rw [hc]; done) | (rw [hc]; go_num), by go_num, hs', HB.out⟩, by simp only [Go.RowKit.intOf]; omega⟩
        have mki : ¬ (m : Int) < (k : Int) := by omega
        have hc : ((l.take (m + 1)).filter (holds x)).length = d := by
         rw [cnt_step hy, hd, if_neg (by unfold holds; simp <;> omega)]
        have hs' : Hid (∀ (j : Nat) (y : Ex), j < m + 1 → j < k → l[j]? = some y → crosses x y = false) := Lib.hid fun j y' hj hjk hy' => by
         by_cases e : j = m
         ·
          subst e
          rw [hy] at hy'
          cases hy'
          exact absurd hjk (by omega)
         exact hs.out j y' (by omega) hjk hy'
        clear hb hj hy hQ hQl hnv rv hs hd hbl HFK HSC HRU HVB HKB HSX HXX
        go_wp2_with fail
        exact ⟨⟨m + 1, by omega, by first | (rw [hc]; done) | (rw [hc]; go_num), by go_num, hs', HB.out⟩, by simp only [Go.RowKit.intOf]; omega⟩
       obtain rfl : m = k + 1 := by omega
       have hany : (l.take k).any (crosses x) = false := by
        rw [List.any_eq_false]
        intro y hy
        obtain ⟨j, hj, e⟩ := mem_take_ex hy
        simpa using hs.out j y (by omega) hj e
       have hfk := HFK.out
       rw [hany, if_neg (by decide), hd] at hfk
       have hsc := HSC.out
       rw [hfk] at hsc
       have HB5 := Lib.hid (HBX1.out.trans (hb.mono HBX1.out.size))
       by_cases h40 : 40 < d
       ·
        rw [if_pos h40, if_neg (by decide)] at hsc
        subst hsc
        have h40i : (40 : Int) < (d : Int) := by omega
        clear hb hs hany hfk hd
        go_wp2_with fail
        go_ret2
        exact ⟨rfl, HBX.out.trans (HB5.out.mono HBX.out.size)⟩
       rw [if_neg h40, if_pos rfl] at hsc
       have HSC2 := Lib.hid hsc
       have h40i : ¬ (40 : Int) < (d : Int) := by omega
       clear hb hs hany hfk hd hsc
       go_wp2_with fail
       exact ⟨⟨k + 1, by omega, by go_num, HSC2, HB5.out⟩, by simp only [Go.RowKit.intOf]; omega⟩
      rw [if_pos hz0] at hfk
      rw [hfk, if_neg hz0] at hsc
      subst hsc
      have hz1 : ¬ ((z : Int) = 0) := by omega
      clear hfk
      go_wp2_with fail
      go_ret2
      exact ⟨rfl, HBX.out.trans ((HBX1.out.trans (HB3.out.mono HBX1.out.size)).mono HBX.out.size)⟩
 obtain rfl : k = n := by omega
 have hsc := hp.out
 rw [scanE_end (by omega)] at hsc
 subst hsc
 have HB := Lib.hid hb
 clear hb hp
 go_wp2_with fail
 go_ret2
 exact ⟨rfl, HBX.out.trans (HB.out.mono HBX.out.size)⟩
end Go.Proofs.YtebmfkkkhmjkoaaGreat
