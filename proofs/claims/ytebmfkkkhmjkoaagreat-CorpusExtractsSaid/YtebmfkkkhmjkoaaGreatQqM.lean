/-
 WALKS over the reference of feature: Parse.
-/
import Derived.Test.YtebmfkkkhmjkoaaGreatQpM
import Derived.Test.YtebmfkkkhmjkoaaGreatBvM
namespace Go.Proofs.YtebmfkkkhmjkoaaGreat
open Go.RowKit Go.Shelf Go.Lib

/-- Between two rounds of the reference's first loop. -/
def RpI (w : World) (B : Bs) (o : Option Fs) (lv fv iv : Value) (wr : World) : Prop :=
 ∃ (l : Fs) (from_ i : Nat), 1 ≤ from_ ∧ from_ ≤ i ∧ i ≤ B.length ∧ fv = .int .i64 from_ ∧ iv = .int .i64 i ∧ wr.ownsRow w.heap.size 9 1 lv l.length (strs l) ∧
  o = (goF ((B.take i).drop from_) (B.drop i)).map (l ++ ·) ∧ (B[i - 1]? = some 124 → from_ = i) ∧ l.length ≤ i ∧ Below w.heap.size w wr
/-- Between two rounds of the second loop. -/
def RqI (w : World) (l : Fs) (iv : Value) (wr : World) : Prop :=
 ∃ k : Nat, k ≤ l.length ∧ iv = .int .i64 ((k : Int) + 1) ∧ (∀ j a b, j < k → l[j]? = some a → l[j + 1]? = some b → a < b) ∧ Below w.heap.size w wr
theorem goF_bar (cur r : Bs) : goF cur (124 :: r) = if cur = [] then none else (goF [] r).map (cur :: ·) := by rw [goF, if_pos rfl]
theorem goF_byte (cur r : Bs) (b : UInt8) (h : b ≠ 124) : goF cur (b :: r) = goF (cur ++ [b]) r := by rw [goF, if_neg h]
theorem take_step {B : Bs} {i f : Nat} {y : UInt8} (h : B[i]? = some y) (hf : f ≤ i) : (B.take (i + 1)).drop f = (B.take i).drop f ++ [y] := by
 have hl := (List.getElem?_eq_some_iff.1 h).1
 rw [List.take_add_one, h]
 rw [List.drop_append_of_le_length (by rw [List.length_take]; omega)]
 rfl

theorem ne_bar {y : UInt8} (h : ¬ y = 124) : ¬ (y.toNat : Int) = 124 := by
 intro e
 refine h (UInt8.toNat_inj.1 ?_)
 have : y.toNat = 124 := by omega
 rw [this]
 rfl
theorem textL_end : ∀ l : Fs, ∃ X, textL l = X ++ [124]
 | [] => ⟨[], rfl⟩
 | f :: l => by
   obtain ⟨X, hX⟩ := textL_end l
   refine ⟨124 :: (f ++ X), ?_⟩
   rw [textL, textB_cons, show (124 : UInt8) :: textB l = textL l from rfl, hX]
   simp
theorem feats_last {B : Bs} {l : Fs} (h : featsO B = some l) : B[B.length - 1]? = some 124 := by
 obtain ⟨_, rfl⟩ := featsO_some h
 obtain ⟨X, hX⟩ := textL_end l
 rw [hX]
 simp
theorem feats_first {B : Bs} {l : Fs} (h : featsO B = some l) : B[0]? = some 124 := by
 obtain ⟨_, rfl⟩ := featsO_some h
 rfl
theorem cur_len {B : Bs} {i f : Nat} (hi : i ≤ B.length) : ((B.take i).drop f).length = i - f := by
 rw [List.length_drop, List.length_take]
 omega

set_option maxHeartbeats 1000000 in
theorem refValue_max (s : ByteArray) (hs : s.size ≤ maxLen) (w : World) :
 Calls Tryz.prog 144 #[.string s] w fun e w' => e = .returned (.int .i64 (valE s.data.toList : Nat)) ∧ Below w.heap.size w w' := by
 by_cases h : s.size ≤ 400
 · exact refValue_any s h w
 have hve : valE s.data.toList = 2 := by
  unfold valE
  rw [if_pos (by rw [← Lib.size_eq]; omega)]
 rw [hve]
 unfold maxLen at hs
 clear hve
 go_enter Tryz.func144, Tryz.ntmps144
 go_wp2_with fail
 go_ret
 exact ⟨rfl, Below.refl _ _⟩

set_option maxRecDepth 100000 in
set_option maxHeartbeats 4000000 in
theorem refParse_any (s : ByteArray) (hs : s.size ≤ maxLen) (w : World) : Calls Tryz.prog 143 #[.string s] w (ParV w (parseL s.data.toList)) := by
 have hv := refValue_max s hs w
 obtain ⟨k0, hk⟩ : ∃ k, valE s.data.toList = k := ⟨_, rfl⟩
 obtain ⟨p, hp⟩ : ∃ p, parseL s.data.toList = p := ⟨_, rfl⟩
 have hpe := hp
 unfold parseL at hpe
 rw [hk] at hv hpe
 rw [hp]
 have HV := Lib.hid hv
 by_cases h0 : k0 = 0
 ·
  have hs : s.size ≤ 400 := by
   rw [h0] at hk
   have := (valE_zero.1 hk).1
   rw [Lib.size_eq]
   omega
  subst h0
  rw [if_pos rfl] at hpe
  have hsz : s.size ≤ 120 := by
   have := (valE_zero.1 hk).1
   rw [← Lib.size_eq] at this
   exact this
  obtain ⟨B, hB⟩ : ∃ B, s.data.toList = B := ⟨_, rfl⟩
  have hBl : B.length = s.size := by rw [← hB, ← Lib.size_eq]
  rw [hB] at hpe
  obtain ⟨o, ho⟩ : ∃ o, featsO B = o := ⟨_, rfl⟩
  rw [ho] at hpe
  have hix : ∀ (i : Nat) (h : i < s.size), ∃ y, B[i]? = some y ∧ (s[i]'h).toNat = y.toNat := fun i h => by
   refine ⟨s[i]'h, ?_, rfl⟩
   rw [← hB, List.getElem?_eq_getElem (by rw [← Lib.size_eq]; exact h)]
   rfl
  have hexs : ∀ a b : Nat, s.extract a b = ⟨((B.take b).drop a).toArray⟩ := fun a b => by
   rw [Lib.extract_eq, hB, List.drop_take]
  have HIX := Lib.hid hix
  have HEX := Lib.hid hexs
  have HBL := Lib.hid hBl
  have HO := Lib.hid ho
  clear hk hp hB hix hexs hBl ho hv hs
  by_cases hn0 : s.size = 0
  ·
   have ho2 : o = none := by
    have hb0 : B = [] := List.length_eq_zero_iff.1 (by rw [HBL.out]; exact hn0)
    rw [← HO.out, hb0]; rfl
   subst ho2
   simp only at hpe
   subst hpe
   have hs0 : (s.size : Int) = 0 := by omega
   go_enter Tryz.func143, Tryz.ntmps143
   go_wp2_with fail
   refine HV.out.mono ?_
   rintro e w1 ⟨rfl, hb1⟩
   have HB1 := Lib.hid hb1
   clear hb1
   go_wp2_with fail
   go_ret2
   exact ⟨⟨_, rfl, World.ownsRow_nil _ _ _ _⟩, HB1.out⟩
  have h00 : 0 < s.size := by omega
  have hnl : s.size - 1 < s.size := by omega
  obtain ⟨y0, hy0, hd0⟩ := HIX.out 0 h00
  obtain ⟨y1, hy1, hd1⟩ := HIX.out (s.size - 1) hnl
  have hn0i : ¬ ((s.size : Int) = 0) := by omega
  by_cases e0 : y0 = 124
  ·
   by_cases e1 : y1 = 124
   ·
    subst e0 e1
    obtain ⟨r, hr⟩ : ∃ r, B = 124 :: r := by
     cases B with
     | nil => cases hy0
     | cons b r => exact ⟨r, by simp at hy0; rw [hy0]⟩
    have hst : RpI w B o (.slice none 0 0) (.int .i64 1) (.int .i64 1) w := by
     refine ⟨[], 1, 1, Nat.le_refl _, Nat.le_refl _, by rw [HBL.out]; omega, rfl, rfl, World.ownsRow_nil _ _ _ _, ?_, fun _ => rfl, Nat.zero_le _, Below.refl _ _⟩
     rw [← HO.out, hr, featsO, if_pos rfl]
     show goF [] r = (goF [] r).map _
     cases goF [] r <;> rfl
    have hd0' : (s[0]'h00).toNat = 124 := hd0
    have hd1' : (s[s.size - 1]'hnl).toNat = 124 := hd1
    have HST := Lib.hid (fun W (h : Below w.heap.size w W) => (show RpI w B o (.slice none 0 0) (.int .i64 1) (.int .i64 1) W by
     obtain ⟨l, f, i, a1, a2, a3, a4, a5, a6, a7, a8, a9, a10⟩ := hst
     exact ⟨l, f, i, a1, a2, a3, a4, a5, own_after a6 (h.mono a10.size |>.trans (Below.refl _ _)), a7, a8, a9, a10.trans h⟩))
    have HY1 := Lib.hid hy1
    have hsub : (s.size : Int) - 1 = ((s.size - 1 : Nat) : Int) := by omega
    have hz0 : ((s.size : Int) == 0) = false := by simpa using hn0
    clear hd0 hd1 hy0 hy1 hr hst
    go_enter Tryz.func143, Tryz.ntmps143
    go_wp2_with fail
    refine HV.out.mono ?_
    rintro e w1 ⟨rfl, hb1⟩
    have HB1 := Lib.hid hb1
    clear hb1
    go_wp2_with fail
    have hst1 := HST.out w1 HB1.out
    have HST1 := Lib.hid hst1
    clear hst1 HST hd0' hd1' hsub
    go_loopw [6, 7, 8] (fun lv fv iv wr => RpI w B o lv fv iv wr) (fun _ _ i _ => s.size - (Go.RowKit.intOf i).toNat)
    case atStart => exact HST1.out
    obtain ⟨l, f, i, hf1, hfi, hiB, rfl, rfl, hown, hgo, hlast, hli, hb⟩ := hrel
    have hiB' : i ≤ s.size := by rw [← HBL.out]; exact hiB
    have HCL := Lib.hid (cur_len (f := f) hiB)
    have HOW := Lib.hid hown
    have HGO := Lib.hid hgo
    have HLA := Lib.hid hlast
    have HB := Lib.hid hb
    have hszb := hb.size
    clear hown hgo hlast hb hiB
    by_cases hlt : i < s.size
    ·
     obtain ⟨y, hy, hd⟩ := HIX.out i hlt
     have HY := Lib.hid hy
     have hdr : B.drop i = y :: B.drop (i + 1) := by
      obtain ⟨h, he⟩ := List.getElem?_eq_some_iff.1 hy
      rw [List.drop_eq_getElem_cons h, he]
     have HDR := Lib.hid hdr
     clear hy hdr
     by_cases hyb : y = 124
     ·
      subst hyb
      have hd' : (s[i]'hlt).toNat = 124 := hd
      by_cases hif : i = f
      ·
       subst hif
       have ho : o = none := by
        rw [HGO.out, HDR.out, goF_bar, if_pos (List.length_eq_zero_iff.1 (by rw [HCL.out]; omega))]
        rfl
       rw [ho] at hpe
       simp only at hpe
       subst hpe
       clear hd ho
       go_wp2_with fail
       go_ret2
       exact ⟨⟨_, rfl, World.ownsRow_nil _ _ _ _⟩, HB.out⟩
      have hne : ((i : Int) == (f : Int)) = false := by rw [beq_eq_false_iff_ne]; omega
      have hnei : ¬ ((i : Int) = (f : Int)) := by omega
      have hx : (s.extract f i).data.toList = (B.take i).drop f := by rw [HEX.out]
      have HX := Lib.hid hx
      have HNX : Hid (o = (goF ((B.take (i + 1)).drop (i + 1)) (B.drop (i + 1))).map ((l ++ [(s.extract f i).data.toList]) ++ ·)) := Lib.hid (by
       have hcn : ¬ (B.take i).drop f = [] := fun h => by
        have := congrArg List.length h
        rw [HCL.out] at this
        simp at this
        omega
       rw [HGO.out, HDR.out, goF_bar, if_neg hcn, HX.out, List.drop_eq_nil_of_le (by rw [List.length_take]; omega : (B.take (i + 1)).length ≤ i + 1)]
       cases goF [] (B.drop (i + 1)) with
       | none => rfl
       | some m => simp)
      obtain ⟨F, hF⟩ : ∃ F, s.extract f i = F := ⟨_, rfl⟩
      rw [hF] at HX HNX
      clear hd hx
      go_wp2_with (at_builtin; refine wpList_push rfl (.tmp 43) (.tmp 48) rfl w.heap.size _ l.length l F rfl rfl HOW.out (by omega) hszb ?_)
      intro v' w3 h1 h2 _
      have HO3 := Lib.hid h1.out
      have HB3 := Lib.hid (h2.out w.heap.size w HB.out (Nat.le_refl _))
      clear h1 h2
      go_wp2_with fail
      go_roundw
      case rel =>
       refine ⟨l ++ [F.data.toList], i + 1, i + 1, by omega, Nat.le_refl _, by rw [HBL.out]; omega, by go_num, by go_num, ?_, HNX.out, fun _ => rfl, ?_, HB3.out⟩
       · rw [List.length_append, List.length_singleton]
         exact HO3.out
       rw [List.length_append, List.length_singleton]
       omega
      case measure => simp only [Go.RowKit.intOf]; omega
     have hyi := ne_bar hyb
     have HNX : Hid (o = (goF ((B.take (i + 1)).drop f) (B.drop (i + 1))).map (l ++ ·)) := Lib.hid (by rw [HGO.out, HDR.out, goF_byte _ _ _ hyb, take_step HY.out hfi])
     have HNY : Hid (B[i + 1 - 1]? = some 124 → f = i + 1) := Lib.hid (fun h => by rw [Nat.add_sub_cancel, HY.out] at h; exact absurd (Option.some.inj h) hyb)
     clear hyb
     go_wp2_with fail
     exact ⟨⟨l, f, i + 1, hf1, by omega, by rw [HBL.out]; omega, rfl, by go_num, HOW.out, HNX.out, HNY.out, by omega, HB.out⟩, by simp only [Go.RowKit.intOf]; omega⟩
    obtain rfl : i = s.size := by omega
    obtain rfl : f = s.size := HLA.out HY1.out
    have ho : o = some l := by
     rw [HGO.out, List.length_eq_zero_iff.1 (by rw [HCL.out]; omega : ((B.take s.size).drop s.size).length = 0), List.drop_eq_nil_of_le (by rw [HBL.out]; exact Nat.le_refl _), goF, if_pos rfl]
     simp
    rw [ho] at hpe
    simp only at hpe
    have HV := Lib.hid (fun W (h : Below wr.heap.size wr W) => (rs_own HOW.out).1.below h)
    have HOF := Lib.hid (fun W (h : Below wr.heap.size wr W) => own_after HOW.out h)
    have HPE := Lib.hid hpe
    obtain ⟨A, cap, rfl, hc⟩ := own_form HOW.out
    obtain ⟨m, hm⟩ : ∃ m, l.length = m := ⟨_, rfl⟩
    have HN := Lib.hid hm
    rw [hm] at hc hli
    obtain ⟨wo, rfl⟩ : ∃ wo, wo = wr := ⟨_, rfl⟩
    have HST2 : Hid (RqI wo l (.int .i64 1) wo) := Lib.hid ⟨0, Nat.zero_le _, rfl, fun j a b h => absurd h (by omega), Below.refl _ _⟩
    rw [hm]
    clear hpe hm HST1 HLA HGO ho
    go_wp2_with fail
    go_loopw [9] (fun iv wr => RqI wo l iv wr) (fun i _ => m + 1 - (Go.RowKit.intOf i).toNat)
    case atStart => exact HST2.out
    obtain ⟨k, hk, rfl, hs, hb⟩ := hrel
    have hkm : k ≤ m := by rw [← HN.out]; exact hk
    by_cases hlt : k + 1 < m
    ·
     obtain ⟨a, ha⟩ : ∃ a, l[k]? = some a := ⟨_, List.getElem?_eq_getElem (by rw [HN.out]; omega)⟩
     obtain ⟨b, hb'⟩ : ∃ b, l[k + 1]? = some b := ⟨_, List.getElem?_eq_getElem (by rw [HN.out]; omega)⟩
     obtain ⟨A', cap', he, -, hr⟩ := (HV.out wr hb).form
     cases he
     obtain ⟨bk, off, rfl, -, hj⟩ := hr (by rw [HN.out]; omega)
     have c0 := hj k a ha
     have c1 := hj (k + 1) b hb'
     obtain ⟨P, hP⟩ : ∃ s : ByteArray, (⟨a.toArray⟩ : ByteArray) = s := ⟨_, rfl⟩
     obtain ⟨Q, hQ⟩ : ∃ s : ByteArray, (⟨b.toArray⟩ : ByteArray) = s := ⟨_, rfl⟩
     have ht : Op.bytesLess P.toList Q.toList = decide (a < b) := by rw [← hP, ← hQ, Lib.toList_data, Lib.toList_data, less_lt]
     rw [hP] at c0
     rw [hQ] at c1
     obtain ⟨t, htt⟩ : ∃ t, decide (a < b) = t := ⟨_, rfl⟩
     rw [htt] at ht
     have HB2 := Lib.hid hb
     have HS := Lib.hid hs
     have HA := Lib.hid ha
     have HBB := Lib.hid hb'
     have HT := Lib.hid htt
     have hlti : (k : Int) + 1 < (m : Int) := by omega
     clear hj hb hs ha hb' htt hP hQ hr
     go_wp2_with fail
     go_quiet (fail)
     cases t with
     | true =>
       clear c0 c1 ht
       go_wp2_with fail
       exact ⟨⟨k + 1, by rw [HN.out]; omega, by go_num, fun j x y hj hx hy => by
        by_cases hjk : j < k
        · exact HS.out j x y hjk hx hy
        obtain rfl : j = k := by omega
        rw [HA.out] at hx
        rw [HBB.out] at hy
        cases hx; cases hy
        exact of_decide_eq_true HT.out, below_drewN HB2.out _⟩, by simp only [Go.RowKit.intOf]; omega⟩
     | false =>
       clear c0 c1 ht
       have hpe := HPE.out
       rw [if_neg (of_decide_eq_false (asc_step HA.out HBB.out HT.out))] at hpe
       subst hpe
       go_wp2_with fail
       go_ret2
       exact ⟨⟨_, rfl, World.ownsRow_nil _ _ _ _⟩, HB.out.trans ((below_drewN HB2.out _).mono HB.out.size)⟩
    have hlti : ¬ ((k : Int) + 1 < (m : Int)) := by omega
    have hd : asc l := asc_iff.2 fun j a b ha hb' => hs j a b (by have := (List.getElem?_eq_some_iff.1 hb').1; have := HN.out; omega) ha hb'
    have hpe := HPE.out
    rw [if_pos hd] at hpe
    subst hpe
    have HB2 := Lib.hid hb
    clear hb hd hs
    go_wp2_with fail
    go_ret2
    have ho := HOF.out _ HB2.out
    rw [HN.out] at ho
    exact ⟨⟨_, rfl, by rw [HN.out]; exact ho⟩, HB.out.trans (HB2.out.mono HB.out.size)⟩
   have ho2 : o = none := by
    cases o with
    | none => rfl
    | some l =>
      have := feats_last HO.out
      rw [HBL.out, hy1] at this
      exact absurd (Option.some.inj this) e1
   subst ho2
   simp only at hpe
   subst hpe
   subst e0
   have h1i : ¬ (y1.toNat : Int) = 124 := ne_bar e1
   have hb1i : ((y1.toNat : Int) != 124) = true := by simpa using h1i
   have hz0 : ((s.size : Int) == 0) = false := by simpa using hn0
   have hd0' : (s[0]'h00).toNat = 124 := hd0
   have hsub : (s.size : Int) - 1 = ((s.size - 1 : Nat) : Int) := by omega
   clear hd0 hy0 hy1 e1
   go_enter Tryz.func143, Tryz.ntmps143
   go_wp2_with fail
   refine HV.out.mono ?_
   rintro e w1 ⟨rfl, hb1⟩
   have HB1 := Lib.hid hb1
   clear hb1
   go_wp2_with fail
   go_ret2
   exact ⟨⟨_, rfl, World.ownsRow_nil _ _ _ _⟩, HB1.out⟩
  have ho2 : o = none := by
   cases o with
   | none => rfl
   | some l =>
     have := feats_first HO.out
     rw [hy0] at this
     exact absurd (Option.some.inj this) e0
  subst ho2
  simp only at hpe
  subst hpe
  have h1i : ¬ (y0.toNat : Int) = 124 := ne_bar e0
  clear hy0 hy1 hd1 e0
  go_enter Tryz.func143, Tryz.ntmps143
  go_wp2_with fail
  refine HV.out.mono ?_
  rintro e w1 ⟨rfl, hb1⟩
  have HB1 := Lib.hid hb1
  clear hb1
  go_wp2_with fail
  go_ret2
  exact ⟨⟨_, rfl, World.ownsRow_nil _ _ _ _⟩, HB1.out⟩
 rw [if_neg h0] at hpe
 subst hpe
 have h0i : ¬ ((k0 : Int) = 0) := by omega
 clear hv hk hp h0
 go_enter Tryz.func143, Tryz.ntmps143
 go_wp2_with fail
 refine HV.out.mono ?_
 rintro e w1 ⟨rfl, hb1⟩
 have HB1 := Lib.hid hb1
 clear hb1
 go_wp2_with fail
 go_ret2
 exact ⟨⟨_, rfl, World.ownsRow_nil _ _ _ _⟩, HB1.out⟩
end Go.Proofs.YtebmfkkkhmjkoaaGreat
