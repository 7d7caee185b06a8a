/-
  WALKS over package feature: text.
-/
import Derived.Test.YthagjdhfngdigaaFeM
namespace Go.Proofs.Ythagjdhfngdigaa
open Go.RowKit Go.Shelf Go.Lib

theorem textL_len (l : Fs) : (textL l).length = (textB l).length + 1 := by rw [textL, List.length_cons]
theorem ins_found {f : Bs} {l : Fs} (h : decide (l[cntF f l]? = some f) = true) : insS f l = l := by
  rw [insS_at, if_pos (of_decide_eq_true h)]
theorem ins_new {f : Bs} {l : Fs} (h : decide (l[cntF f l]? = some f) = false) : insS f l = l.take (cntF f l) ++ f :: l.drop (cntF f l) ∧ (textB (insS f l)).length = (textB l).length + (f.length + 1) := by
  rw [insS_size, insS_at, if_neg (of_decide_eq_false h), if_neg (of_decide_eq_false h)]
  exact ⟨rfl, rfl⟩
/-- Between two rounds of text. -/
def TxtI (w : World) (fs : Fs) (n : Nat) (sv zv iv : Value) (wr : World) : Prop :=
  ∃ (k : Nat), k ≤ n ∧ iv = .int .i64 k ∧ wr.ownsRow w.heap.size 9 1 sv (setS (fs.take k)).length (strs (setS (fs.take k))) ∧ zv = .int .i64 ((textL (setS (fs.take k))).length : Nat) ∧ (textL (setS (fs.take k))).length ≤ 120 ∧ Below w.heap.size w wr

set_option maxRecDepth 100000 in
set_option maxHeartbeats 4000000 in
theorem text_any {w : World} {v : Value} {fs : Fs} (hv : RS w v fs) (hl : fs.length ≤ maxLen) (hs : ∀ f ∈ fs, f.length ≤ 120) :
    Calls Try.prog 31 #[v] w fun e w' => e = .returned (.tuple #[.string ⟨(textT fs).1.toArray⟩, .int .i64 ((textT fs).2 : Nat)]) ∧ Below w.heap.size w w' := by
  obtain ⟨A, cap, rfl, hc, -⟩ := hv.form
  obtain ⟨n, hn⟩ : ∃ n, fs.length = n := ⟨_, rfl⟩
  have HV := Lib.hid (fun W (h : Below w.heap.size w W) => hv.below h)
  have HSZ := Lib.hid hs
  rw [hn] at hc hl ⊢
  have HN := Lib.hid hn
  unfold maxLen at hl
  have HST : Hid (TxtI w fs n (.slice none 0 0) (.int .i64 1) (.int .i64 0) w) := Lib.hid ⟨0, Nat.zero_le _, rfl, World.ownsRow_nil _ _ _ _, rfl, by simp [setS, textL, textB], Below.refl _ _⟩
  clear hn hs hv
  go_enter Try.func31, Try.ntmps31
  go_wp2_with fail
  go_loopw [4, 5, 12] (fun sv zv iv wr => TxtI w fs n sv zv iv wr) (fun _ _ i _ => n - (Go.RowKit.intOf i).toNat)
  case atStart => exact HST.out
  case round =>
    obtain ⟨k, hk, rfl, hown, rfl, hsz, hb⟩ := hrel
    by_cases hlt : k < n
    · obtain ⟨f, hf⟩ : ∃ f, fs[k]? = some f := ⟨_, List.getElem?_eq_getElem (by rw [HN.out]; omega)⟩
      obtain ⟨A', cap', he, -, hr⟩ := (HV.out wr hb).form
      cases he
      obtain ⟨bk, off, rfl, -, hj⟩ := hr (by rw [HN.out]; omega)
      have c0 := hj k f hf
      have hfs := HSZ.out f (List.mem_of_getElem? hf)
      have hnx := setS_take hf
      have hmono := setS_size fs (k + 1)
      have hsasc := setS_asc (fs.take k)
      obtain ⟨L, hL⟩ : ∃ L, setS (fs.take k) = L := ⟨_, rfl⟩
      rw [hL] at hown hsz hnx hsasc ⊢
      obtain ⟨F, hF⟩ : ∃ s : ByteArray, (⟨f.toArray⟩ : ByteArray) = s := ⟨_, rfl⟩
      have hFl : F.data.toList = f := by rw [← hF]
      have hFs : F.size = f.length := by rw [Lib.size_eq, hFl]
      rw [hF] at c0
      rw [textL_len] at hsz ⊢
      have hLl := len_textB L
      have hse := fun W (h : Below wr.heap.size wr W) => search_any (w := W) ((rs_own hown).1.below h) hsasc (by omega) F
      have hin := fun W (h : Below wr.heap.size wr W) => insert_any (w := W) (own_after hown h) (Nat.le_trans hb.size h.size) (cntF f L) (cntF_le f L) (by omega) F
      rw [hFl] at hse hin
      obtain ⟨q, hq⟩ : ∃ q, decide (L[cntF f L]? = some f) = q := ⟨_, rfl⟩
      rw [hq] at hse
      have hcase : (q = true → insS f L = L) ∧ (q = false → insS f L = L.take (cntF f L) ++ f :: L.drop (cntF f L) ∧ (textB (insS f L)).length = (textB L).length + (f.length + 1)) := ⟨fun h => ins_found (hq.trans h), fun h => ins_new (hq.trans h)⟩
      have hcle := cntF_le f L
      obtain ⟨c, hcq⟩ : ∃ c, cntF f L = c := ⟨_, rfl⟩
      rw [hcq] at hcle
      have HLC := Lib.hid hcle
      clear hcle
      rw [hcq] at hse hin hcase
      obtain ⟨z, hz⟩ : ∃ z, (textB L).length = z := ⟨_, rfl⟩
      rw [hz] at hsz hcase ⊢
      have HO := Lib.hid hown
      have HX := Lib.hid hnx
      have HMO := Lib.hid hmono
      have HSE := Lib.hid hse
      have HIN := Lib.hid hin
      have HB := Lib.hid hb
      have HLE := Lib.hid hL
      have HZ := Lib.hid hz
      have HFL := Lib.hid hFl
      have hfz : F.size ≤ 120 := by omega
      have HFS := Lib.hid hFs
      clear hown hnx hmono hse hin hb hL hz hFl hFs hF hj hr hf hfs hsasc hq hcq hLl
      cases q with
      | true =>
        have HC := Lib.hid (hcase.1 rfl)
        clear hcase
        go_wp2_with fail
        refine (HSE.out _ (Below.refl _ _)).mono ?_
        rintro e w2 ⟨rfl, hb2⟩
        have HB2 := Lib.hid hb2
        clear hb2
        go_wp2_with fail
        refine ⟨⟨k + 1, by omega, by go_num, ?_⟩, by simp only [Go.RowKit.intOf]; omega⟩
        rw [HX.out, HC.out]
        exact ⟨own_after HO.out HB2.out, by rw [textL_len, HZ.out]; rfl, by rw [textL_len, HZ.out]; exact hsz, HB.out.trans (HB2.out.mono HB.out.size)⟩
      | false =>
        have HC := Lib.hid (hcase.2 rfl)
        clear hcase
        by_cases hbig : 120 < z + 1 + (F.size + 1)
        · have HT : Hid (textT fs = ([], 2)) := Lib.hid (by
            unfold textT
            rw [if_pos]
            have h1 := HMO.out
            rw [HX.out, HC.out.2] at h1
            have := HFS.out
            rw [textL_len]
            omega)
          have hbi : (120 : Int) < (z : Int) + 1 + ((F.size : Int) + 1) := by omega
          go_wp2_with fail
          refine (HSE.out _ (Below.refl _ _)).mono ?_
          rintro e w2 ⟨rfl, hb2⟩
          have HB2 := Lib.hid hb2
          clear hb2
          go_wp2_with fail
          go_ret2
          exact ⟨by rw [HT.out]; rfl, HB.out.trans (HB2.out.mono HB.out.size)⟩
        · have hbi : ¬ ((120 : Int) < (z : Int) + 1 + ((F.size : Int) + 1)) := by omega
          go_wp2_with fail
          refine (HSE.out _ (Below.refl _ _)).mono ?_
          rintro e w2 ⟨rfl, hb2⟩
          have HB2 := Lib.hid hb2
          clear hb2
          go_wp2_with fail
          refine (HIN.out _ HB2.out).mono ?_
          rintro e w3 ⟨⟨v', rfl, hown3⟩, hb3⟩
          have HB3 := Lib.hid hb3
          have HO3 := Lib.hid hown3
          clear hb3 hown3
          go_wp2_with fail
          refine ⟨⟨k + 1, by omega, by go_num, ?_⟩, by simp only [Go.RowKit.intOf]; omega⟩
          rw [HX.out]
          have hZ2 := HC.out.2
          have hE := HC.out.1
          have hfs' := HFS.out
          refine ⟨?_, ?_, ?_, HB.out.trans (HB2.out.mono HB.out.size) |>.trans HB3.out⟩
          · have hlen : (insS f L).length = L.length + 1 := by
              rw [hE, List.length_append, List.length_cons, List.length_take, List.length_drop]
              have := HLC.out
              omega
            rw [hlen, hE]
            exact HO3.out
          · rw [textL_len, hZ2]
            have : (((z + (f.length + 1) + 1 : Nat)) : Int) = (z : Int) + 1 + ((F.size : Int) + 1) := by omega
            rw [this]
          · rw [textL_len, hZ2]; omega
    · obtain rfl : k = n := by omega
      have hT : fs.take k = fs := List.take_of_length_le (by rw [HN.out]; exact Nat.le_refl _)
      rw [hT] at hown hsz ⊢
      have hj := fun W (h : Below wr.heap.size wr W) => join_any (w := W) ((rs_own hown).1.below h) (by omega)
      have HT : Hid (textT fs = (textL (setS fs), 0)) := Lib.hid (by
        unfold textT
        rw [if_neg (by omega)])
      have HJ := Lib.hid hj
      have HB := Lib.hid hb
      obtain ⟨zz, hzz⟩ : ∃ zz : Nat, (textL (setS fs)).length = zz := ⟨_, rfl⟩
      rw [hzz]
      clear hown hsz hj hb hT hzz
      go_wp2_with fail
      refine (HJ.out _ (Below.refl _ _)).mono ?_
      rintro e w2 ⟨rfl, hb2⟩
      have HB2 := Lib.hid hb2
      clear hb2
      go_wp2_with fail
      go_ret2
      exact ⟨by rw [HT.out]; rfl, HB.out.trans (HB2.out.mono HB.out.size)⟩
end Go.Proofs.Ythagjdhfngdigaa
