/-
  WALKS over the reference of feature: In at fresh bytes, Format.
-/
import Derived.Test.YthagjdhfngdigaaFyM
import Derived.Test.YthagjdhfngdigaaMeO
namespace Go.Proofs.Ythagjdhfngdigaa
open Go.RowKit Go.Shelf Go.Lib

theorem insS_len (f : Bs) (l : Fs) : (insS f l).length ≤ l.length + 1 := by
  rw [insS_at]
  split
  · omega
  · rw [List.length_append, List.length_cons, List.length_take, List.length_drop]; omega

set_option maxRecDepth 100000 in
set_option maxHeartbeats 2000000 in
theorem inRaw_any {w : World} {b cap : Nat} {L : List UInt8} (hbk : b < w.heap.size) (hj : ∀ (k : Nat) (h : k < L.length), w.cell? ⟨b, k, none⟩ = some (.int .u8 (L[k].toNat : Int))) (hl : L.length ≤ 1000000) :
    Calls Try.prog 32 #[.slice (some ⟨b, 0, none⟩) L.length cap, .int .u8 124] w fun e w' => e = .returned (.bool (decide ((124 : UInt8) ∈ L))) ∧ Below w.heap.size w w' := by
  obtain ⟨n, hn⟩ : ∃ n, L.length = n := ⟨_, rfl⟩
  rw [hn] at hl ⊢
  have HR := Lib.hid hj
  have HN := Lib.hid hn
  have HBK := Lib.hid hbk
  clear hn hj hbk
  go_enter Try.func32, Try.ntmps32
  go_wp2_with fail
  go_loopw [9] (fun i wr => ∃ k : Nat, k ≤ n ∧ i = .int .i64 k ∧ (124 : UInt8) ∉ L.take k ∧ Below w.heap.size w wr) (fun i _ => n - (Go.RowKit.intOf i).toNat)
  case atStart => exact ⟨0, Nat.zero_le _, rfl, by simp, Below.refl _ _⟩
  case round =>
    obtain ⟨k, hk, rfl, hm, hb⟩ := hrel
    by_cases hlt : k < n
    · have hkl : k < L.length := by rw [HN.out]; exact hlt
      have c0 := (hb.cell (p := ⟨b, k, none⟩) HBK.out).trans (HR.out k hkl)
      obtain ⟨y, hy⟩ : ∃ y, L[k] = y := ⟨_, rfl⟩
      have hg : L[k]? = some y := by rw [List.getElem?_eq_getElem hkl, hy]
      rw [hy] at c0
      have HB := Lib.hid hb
      by_cases hyb : y = 124
      · subst hyb
        have HM : Hid (decide ((124 : UInt8) ∈ L) = true) := Lib.hid (decide_eq_true (List.mem_of_getElem? hg))
        have c1 : wr.cell? ⟨b, k, none⟩ = some (.int .u8 124) := c0
        clear hb hg hm hy hkl c0
        go_wp2_with fail
        go_ret
        exact ⟨by rw [HM.out]; rfl, HB.out⟩
      · have HM : Hid ((124 : UInt8) ∉ L.take (k + 1)) := Lib.hid (fun h => by
          rw [List.take_add_one, hg, List.mem_append] at h
          rcases h with h | h
          · exact hm h
          · simp at h
            exact hyb h.symm)
        have hyi := ne_bar hyb
        have hyi2 : ((y.toNat : Int) == 124) = false := by simpa using hyi
        clear hb hg hm hy hyb hkl
        go_wp2_with fail
        exact ⟨⟨k + 1, by omega, by go_num, HM.out, HB.out⟩, by simp only [Go.RowKit.intOf]; omega⟩
    · obtain rfl : k = n := by omega
      rw [List.take_of_length_le (by rw [HN.out]; exact Nat.le_refl _)] at hm
      have HM := Lib.hid (decide_eq_false hm)
      have HB := Lib.hid hb
      clear hb hm
      go_wp2_with fail
      go_ret
      exact ⟨by rw [HM.out]; rfl, HB.out⟩

/-- Between two rounds of the reference's Format. -/
def RfI (w : World) (fs : Fs) (n : Nat) (lv iv : Value) (wr : World) : Prop :=
  ∃ k : Nat, k ≤ n ∧ iv = .int .i64 k ∧ RS wr lv (setS (fs.take k)) ∧ (setS (fs.take k)).length ≤ k ∧ (textB (setS (fs.take k))).length ≤ k * 121 ∧ errS fs = errS (fs.drop k) ∧ Below w.heap.size w wr

set_option maxRecDepth 100000 in
set_option maxHeartbeats 4000000 in
theorem refFormat_any {w : World} {v : Value} {fs : Fs} (hv : RS w v fs) (hl : fs.length ≤ 300) (hs : ∀ f ∈ fs, f.length ≤ 400) :
    Calls Try.prog 17 #[v] w fun e w' => e = .returned (.tuple #[.string ⟨(formatL fs).1.toArray⟩, .int .i64 ((formatL fs).2 : Nat)]) ∧ Below w.heap.size w w' := by
  obtain ⟨A, cap, rfl, hc, -⟩ := hv.form
  obtain ⟨n, hn⟩ : ∃ n, fs.length = n := ⟨_, rfl⟩
  have HV := Lib.hid (fun W (h : Below w.heap.size w W) => hv.below h)
  have HSZ := Lib.hid hs
  rw [hn] at hc hl ⊢
  have HN := Lib.hid hn
  have HST : Hid (RfI w fs n (.slice none 0 0) (.int .i64 0) w) := Lib.hid ⟨0, Nat.zero_le _, rfl, RS.nil w, Nat.le_refl _, Nat.le_refl _, rfl, Below.refl _ _⟩
  clear hn hs hv
  go_enter Try.func17, Try.ntmps17
  go_wp2_with fail
  go_loopw [4, 11] (fun lv iv wr => RfI w fs n lv iv wr) (fun _ i _ => n - (Go.RowKit.intOf i).toNat)
  case atStart => exact HST.out
  case round =>
    obtain ⟨k, hk, rfl, hrs, hsl, htl, he, hb⟩ := hrel
    by_cases hlt : k < n
    · obtain ⟨f, hf⟩ : ∃ f, fs[k]? = some f := ⟨_, List.getElem?_eq_getElem (by rw [HN.out]; omega)⟩
      obtain ⟨A', cap', he', -, hr⟩ := (HV.out wr hb).form
      cases he'
      obtain ⟨bk, off, rfl, -, hj⟩ := hr (by rw [HN.out]; omega)
      have c0 := hj k f hf
      have hfs := HSZ.out f (List.mem_of_getElem? hf)
      rw [errS_step hf] at he
      have hnx := setS_take hf
      obtain ⟨L, hL⟩ : ∃ L, setS (fs.take k) = L := ⟨_, rfl⟩
      rw [hL] at hrs hsl htl hnx
      have hnl := insS_len f L
      have hnt := insS_size f L
      obtain ⟨F, hF⟩ : ∃ s : ByteArray, (⟨f.toArray⟩ : ByteArray) = s := ⟨_, rfl⟩
      have hFl : F.data.toList = f := by rw [← hF]
      have hFs : F.size = f.length := by rw [Lib.size_eq, hFl]
      rw [hF] at c0
      have hval := fun W => refValue_any F (by omega) W
      rw [hFl] at hval
      have hel : elE f = if valE f = 0 then (if f = [] ∨ (124 : UInt8) ∈ f then 3 else 0) else valE f := rfl
      have hv120 : valE f = 0 → f.length ≤ 120 := fun h => (valE_zero.1 h).1
      obtain ⟨q, hq⟩ : ∃ q, valE f = q := ⟨_, rfl⟩
      rw [hq] at hval hel hv120
      have HVA := Lib.hid hval
      have HB := Lib.hid hb
      have HRS := Lib.hid (fun W (h : Below wr.heap.size wr W) => hrs.below h)
      have HFL := Lib.hid hFl
      have HX := Lib.hid hnx
      have HEL := Lib.hid hel
      have HE := Lib.hid he
      have HNL := Lib.hid hnl
      have HNT := Lib.hid hnt
      have HFS := Lib.hid hFs
      clear hval hb hrs hF hnx hel hj hr hf hq hL hnl hnt he hFl hFs
      by_cases h0 : q = 0
      · subst h0
        have hf120 := hv120 rfl
        cases hem : F.toList.isEmpty with
        | true =>
          have hnil : f = [] := by rw [← HFL.out, ← Lib.toList_data]; exact List.isEmpty_iff.1 hem
          have HF : Hid (formatL fs = ([], 3)) := Lib.hid (by
            have h3 : elE f = 3 := by rw [HEL.out, if_pos rfl, if_pos (.inl hnil)]
            have h := HE.out
            rw [h3, if_neg (by decide)] at h
            unfold formatL
            rw [h, if_neg (by decide)])
          clear hnil hv120
          go_wp2_with fail
          refine (HVA.out _).mono ?_
          rintro e w2 ⟨rfl, hb2⟩
          have HB2 := Lib.hid hb2
          clear hb2
          go_wp2_with fail
          go_ret2
          exact ⟨by rw [HF.out]; rfl, HB.out.trans (HB2.out.mono HB.out.size)⟩
        | false =>
          have hnil : ¬ f = [] := by
            rw [← HFL.out, ← Lib.toList_data]
            intro h
            rw [h] at hem
            cases hem
          have hFp : 0 < F.data.size := by
            have h1 : F.size = F.data.size := rfl
            have := HFS.out
            have : 0 < f.length := List.length_pos_iff.2 hnil
            omega
          have hin : ∀ (W : World) (b c : Nat), (∀ (k : Nat) (h : k < F.data.size), W.cell? ⟨b, k, none⟩ = some (.int .u8 (F.data[k].toNat : Int))) → Calls Try.prog 32 #[.slice (some ⟨b, 0, none⟩) F.size c, .int .u8 124] W fun e w' => e = .returned (.bool (decide ((124 : UInt8) ∈ f))) ∧ Below W.heap.size W w' := fun W b c hcell => by
            have h1 : F.size = F.data.toList.length := Lib.size_eq F
            rw [h1, ← HFL.out]
            refine inRaw_any (lt_of_cell (hcell 0 hFp)) (fun k h => ?_) (by rw [← h1, HFS.out]; omega)
            have hk' : k < F.data.size := by simpa using h
            rw [hcell k hk']
            simp
          have HIN := Lib.hid hin
          obtain ⟨t, ht⟩ : ∃ t, decide ((124 : UInt8) ∈ f) = t := ⟨_, rfl⟩
          rw [ht] at HIN
          cases t with
          | true =>
            have HF : Hid (formatL fs = ([], 3)) := Lib.hid (by
              have h3 : elE f = 3 := by rw [HEL.out, if_pos rfl, if_pos (.inr (of_decide_eq_true ht))]
              have h := HE.out
              rw [h3, if_neg (by decide)] at h
              unfold formatL
              rw [h, if_neg (by decide)])
            clear hnil hv120 ht hin hFp
            go_wp2_with fail
            refine (HVA.out _).mono ?_
            rintro e w2 ⟨rfl, hb2⟩
            obtain ⟨bc, w3, hcv, hb3, hbc⟩ := bytes_of F w2
            have HB3 := Lib.hid (HB.out.trans ((hb2.trans (hb3.mono hb2.size)).mono HB.out.size))
            have HI2 := Lib.hid (HIN.out w3 w2.heap.size bc hbc)
            clear hb2 hb3 hbc
            go_wp2_with fail
            refine HI2.out.mono ?_
            rintro e w4 ⟨rfl, hb4⟩
            have HB4 := Lib.hid (HB3.out.trans (hb4.mono HB3.out.size))
            clear hb4
            go_wp2_with fail
            go_ret2
            exact ⟨by rw [HF.out]; rfl, HB4.out⟩
          | false =>
            have h3 : elE f = 0 := by rw [HEL.out, if_pos rfl, if_neg (fun h => h.elim hnil (of_decide_eq_false ht))]
            have HE2 : Hid (errS fs = errS (fs.drop (k + 1))) := Lib.hid (by
              have h := HE.out
              rw [h3, if_pos rfl] at h
              exact h)
            have HINS := Lib.hid (fun W (h : Below wr.heap.size wr W) => refInsert_any (w := W) (HRS.out W h) (by omega) F)
            rw [HFL.out] at HINS
            have hnl2 : (insS f L).length ≤ k + 1 := by have := HNL.out; omega
            have hnt2 : (textB (insS f L)).length ≤ (k + 1) * 121 := by
              rw [HNT.out]
              split <;> omega
            clear hnil hv120 ht hin hFp h3
            go_wp2_with fail
            refine (HVA.out _).mono ?_
            rintro e w2 ⟨rfl, hb2⟩
            obtain ⟨bc, w3, hcv, hb3, hbc⟩ := bytes_of F w2
            have HB3 := Lib.hid (hb2.trans (hb3.mono hb2.size))
            have HI2 := Lib.hid (HIN.out w3 w2.heap.size bc hbc)
            clear hb2 hb3 hbc
            go_wp2_with fail
            refine HI2.out.mono ?_
            rintro e w4 ⟨rfl, hb4⟩
            have HB4 := Lib.hid (HB3.out.trans (hb4.mono HB3.out.size))
            clear hb4
            go_wp2_with fail
            refine (HINS.out _ HB4.out).mono ?_
            rintro e w5 ⟨⟨lv, rfl, hrs5⟩, hb5⟩
            have HB5 := Lib.hid (HB.out.trans ((HB4.out.trans (hb5.mono HB4.out.size)).mono HB.out.size))
            have HRS5 := Lib.hid hrs5
            clear hb5 hrs5
            go_wp2_with fail
            exact ⟨⟨k + 1, by omega, by go_num, by rw [HX.out]; exact HRS5.out, by rw [HX.out]; exact hnl2, by rw [HX.out]; exact hnt2, HE2.out, HB5.out⟩, by simp only [Go.RowKit.intOf]; omega⟩
      · have h0i : ¬ ((q : Int) = 0) := by omega
        have HF : Hid (formatL fs = ([], q)) := Lib.hid (by
          have h3 : elE f = q := by rw [HEL.out, if_neg h0]
          have h := HE.out
          rw [h3, if_neg h0] at h
          unfold formatL
          rw [h, if_neg h0])
        clear h0 hv120
        go_wp2_with fail
        refine (HVA.out _).mono ?_
        rintro e w2 ⟨rfl, hb2⟩
        have HB2 := Lib.hid hb2
        clear hb2
        go_wp2_with fail
        go_ret2
        exact ⟨by rw [HF.out]; rfl, HB.out.trans (HB2.out.mono HB.out.size)⟩
    · obtain rfl : k = n := by omega
      have h0 : errS fs = 0 := by
        rw [he, List.drop_eq_nil_of_le (by rw [HN.out]; exact Nat.le_refl _)]
        rfl
      rw [List.take_of_length_le (by rw [HN.out]; exact Nat.le_refl _)] at hrs htl
      have hF : formatL fs = textT fs := by unfold formatL; rw [if_pos h0]
      have hT : textT fs = if 120 < (textL (setS fs)).length then ([], 2) else (textL (setS fs), 0) := rfl
      rw [← hF] at hT
      have hrt := fun W (h : Below wr.heap.size wr W) => refText_any (w := W) (hrs.below h) (by rw [textL_len]; omega)
      have hbs : (⟨(textL (setS fs)).toArray⟩ : ByteArray).size = (textL (setS fs)).length := by rw [Lib.size_eq]
      rw [← hbs] at hT
      obtain ⟨T, hTT⟩ : ∃ T : ByteArray, (⟨(textL (setS fs)).toArray⟩ : ByteArray) = T := ⟨_, rfl⟩
      rw [hTT] at hT
      simp only [hTT] at hrt
      have HRT := Lib.hid hrt
      have HB := Lib.hid hb
      have HTT := Lib.hid hTT
      have HT := Lib.hid hT
      clear hrt hb he h0 hF hT hbs hTT hrs htl hsl
      by_cases hbig : 120 < T.size
      · have HF : Hid (formatL fs = ([], 2)) := Lib.hid (by rw [HT.out, if_pos hbig])
        have hbi : (120 : Int) < (T.size : Int) := by omega
        go_wp2_with fail
        refine (HRT.out _ (Below.refl _ _)).mono ?_
        rintro e w2 ⟨rfl, hb2⟩
        have HB2 := Lib.hid hb2
        clear hb2
        go_wp2_with fail
        go_ret2
        exact ⟨by rw [HF.out]; rfl, HB.out.trans (HB2.out.mono HB.out.size)⟩
      · have HF : Hid (formatL fs = (textL (setS fs), 0)) := Lib.hid (by rw [HT.out, if_neg hbig])
        have hbi : ¬ (120 : Int) < (T.size : Int) := by omega
        go_wp2_with fail
        refine (HRT.out _ (Below.refl _ _)).mono ?_
        rintro e w2 ⟨rfl, hb2⟩
        have HB2 := Lib.hid hb2
        clear hb2
        go_wp2_with fail
        go_ret2
        exact ⟨by rw [HF.out]; simp only [HTT.out]; rfl, HB.out.trans (HB2.out.mono HB.out.size)⟩
end Go.Proofs.Ythagjdhfngdigaa
