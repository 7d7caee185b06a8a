/-
  WALKS over the reference of feature: member, In, text, Has.
-/
import Derived.Test.YthagjdhfngdigaaFwM
namespace Go.Proofs.Ythagjdhfngdigaa
open Go.RowKit Go.Shelf Go.Lib

set_option maxRecDepth 100000 in
set_option maxHeartbeats 2000000 in
theorem member_any {w : World} {v : Value} {l : Fs} (hv : RS w v l) (hl : l.length ≤ 1000000) (f : ByteArray) :
    Calls Try.prog 37 #[v, .string f] w fun e w' => e = .returned (.bool (decide (f.data.toList ∈ l))) ∧ Below w.heap.size w w' := by
  obtain ⟨A, cap, rfl, hc, -⟩ := hv.form
  obtain ⟨n, hn⟩ : ∃ n, l.length = n := ⟨_, rfl⟩
  have HV := Lib.hid (fun W (h : Below w.heap.size w W) => hv.below h)
  rw [hn] at hc hl ⊢
  have HN := Lib.hid hn
  clear hn hv
  go_enter Try.func37, Try.ntmps37
  go_wp2_with fail
  go_loopw [9] (fun i wr => ∃ k : Nat, k ≤ n ∧ i = .int .i64 k ∧ f.data.toList ∉ l.take k ∧ Below w.heap.size w wr) (fun i _ => n - (Go.RowKit.intOf i).toNat)
  case atStart => exact ⟨0, Nat.zero_le _, rfl, by simp, Below.refl _ _⟩
  case round =>
    obtain ⟨k, hk, rfl, hm, hb⟩ := hrel
    by_cases hlt : k < n
    · obtain ⟨g, hg⟩ : ∃ g, l[k]? = some g := ⟨_, List.getElem?_eq_getElem (by rw [HN.out]; exact hlt)⟩
      obtain ⟨A', cap', he', -, hr⟩ := (HV.out wr hb).form
      cases he'
      obtain ⟨bk, off, rfl, -, hj⟩ := hr (by rw [HN.out]; omega)
      have c0 := hj k g hg
      obtain ⟨G, hG⟩ : ∃ s : ByteArray, (⟨g.toArray⟩ : ByteArray) = s := ⟨_, rfl⟩
      have ht : (G.toList == f.toList) = decide (g = f.data.toList) := by
        rw [← hG, Lib.toList_data, Lib.toList_data, Bool.eq_iff_iff]
        simp
      rw [hG] at c0
      have HM : Hid (decide (g = f.data.toList) = true → decide (f.data.toList ∈ l) = true) := Lib.hid (fun h => by
        rw [decide_eq_true_iff] at h ⊢
        rw [← h]
        exact List.mem_of_getElem? hg)
      have HM2 : Hid (decide (g = f.data.toList) = false → f.data.toList ∉ l.take (k + 1)) := Lib.hid (fun h => by
        rw [decide_eq_false_iff_not] at h
        rw [List.take_add_one, hg, List.mem_append]
        intro hh
        rcases hh with hh | hh
        · exact hm hh
        · simp at hh
          exact h hh.symm)
      obtain ⟨t, htt⟩ : ∃ t, decide (g = f.data.toList) = t := ⟨_, rfl⟩
      rw [htt] at ht HM HM2
      have HB := Lib.hid hb
      clear hb hG hj hr hg hm htt
      cases t with
      | true =>
        have HMM := Lib.hid (HM.out rfl)
        clear HM HM2
        go_wp2_with fail
        go_ret
        exact ⟨by rw [HMM.out]; rfl, HB.out⟩
      | false =>
        have HMM := Lib.hid (HM2.out rfl)
        clear HM HM2
        go_wp2_with fail
        exact ⟨⟨k + 1, by omega, by go_num, HMM.out, HB.out⟩, by simp only [Go.RowKit.intOf]; omega⟩
    · obtain rfl : k = n := by omega
      rw [List.take_of_length_le (by rw [HN.out]; exact Nat.le_refl _)] at hm
      have HM := Lib.hid (decide_eq_false hm)
      have HB := Lib.hid hb
      clear hb hm
      go_wp2_with fail
      go_ret
      exact ⟨by rw [HM.out]; rfl, HB.out⟩

set_option maxRecDepth 100000 in
set_option maxHeartbeats 2000000 in
theorem in_any {w : World} {v : Value} {L : List UInt8} (hv : Sees w w.heap.size v L) (hl : L.length ≤ 1000000) :
    Calls Try.prog 32 #[v, .int .u8 124] w fun e w' => e = .returned (.bool (decide ((124 : UInt8) ∈ L))) ∧ Below w.heap.size w w' := by
  obtain ⟨A, cap, rfl, hc, hr⟩ := hv.form2
  obtain ⟨n, hn⟩ : ∃ n, L.length = n := ⟨_, rfl⟩
  rw [hn] at hc hl
  have HR := Lib.hid hr
  have HN := Lib.hid hn
  rw [hn]
  clear hn hv hr
  go_enter Try.func32, Try.ntmps32
  go_wp2_with fail
  go_loopw [9] (fun i wr => ∃ k : Nat, k ≤ n ∧ i = .int .i64 k ∧ (124 : UInt8) ∉ L.take k ∧ Below w.heap.size w wr) (fun i _ => n - (Go.RowKit.intOf i).toNat)
  case atStart => exact ⟨0, Nat.zero_le _, rfl, by simp, Below.refl _ _⟩
  case round =>
    obtain ⟨k, hk, rfl, hm, hb⟩ := hrel
    by_cases hlt : k < n
    · have hkl : k < L.length := by rw [HN.out]; exact hlt
      obtain ⟨bk, off, rfl, hbk, hj⟩ := HR.out (by omega)
      have c0 := (hb.cell (p := ⟨bk, off + k, none⟩) hbk).trans (hj k hkl)
      obtain ⟨y, hy⟩ : ∃ y, L[k] = y := ⟨_, rfl⟩
      have hg : L[k]? = some y := by rw [List.getElem?_eq_getElem hkl, hy]
      rw [hy] at c0
      have HB := Lib.hid hb
      by_cases hyb : y = 124
      · subst hyb
        have HM : Hid (decide ((124 : UInt8) ∈ L) = true) := Lib.hid (decide_eq_true (List.mem_of_getElem? hg))
        have c1 : wr.cell? ⟨bk, off + k, none⟩ = some (.int .u8 124) := c0
        clear hb hj hg hm hy hkl c0
        go_wp2_with fail
        go_ret
        exact ⟨by rw [HM.out]; rfl, HB.out⟩
      · have HM : Hid ((124 : UInt8) ∉ L.take (k + 1)) := Lib.hid (fun h => by
          rw [List.take_add_one, hg, List.mem_append] at h
          rcases h with h | h
          · exact hm h
          · simp at h
            exact hyb h.symm)
        have hyi := ne_bar hyb
        have hyi2 : ((y.toNat : Int) == 124) = false := by simpa using hyi
        clear hb hj hg hm hy hyb hkl
        go_wp2_with fail
        exact ⟨⟨k + 1, by omega, by go_num, HM.out, HB.out⟩, by simp only [Go.RowKit.intOf]; omega⟩
    · obtain rfl : k = n := by omega
      rw [List.take_of_length_le (by rw [HN.out]; exact Nat.le_refl _)] at hm
      have HM := Lib.hid (decide_eq_false hm)
      have HB := Lib.hid hb
      clear hb hm
      go_wp2_with fail
      go_ret
      exact ⟨by rw [HM.out]; rfl, HB.out⟩

set_option maxRecDepth 100000 in
set_option maxHeartbeats 2000000 in
theorem refText_any {w : World} {v : Value} {l : Fs} (hv : RS w v l) (hl : (textL l).length ≤ 1000000) :
    Calls Try.prog 34 #[v] w fun e w' => e = .returned (.string ⟨(textL l).toArray⟩) ∧ Below w.heap.size w w' := by
  obtain ⟨A, cap, rfl, hc, -⟩ := hv.form
  obtain ⟨n, hn⟩ : ∃ n, l.length = n := ⟨_, rfl⟩
  have hle := len_textB l
  rw [textL_len] at hl
  have HV := Lib.hid (fun W (h : Below w.heap.size w W) => hv.below h)
  have HL := Lib.hid hl
  have hnb : n ≤ 1000000 := by omega
  rw [hn] at hc ⊢
  have HN := Lib.hid hn
  clear hn hl hle hv
  go_enter Try.func34, Try.ntmps34
  go_wp2_with fail
  go_loopw [3, 8] (fun sv i wr => ∃ k : Nat, k ≤ n ∧ i = .int .i64 k ∧ sv = .string ⟨(textL (l.take k)).toArray⟩ ∧ Below w.heap.size w wr) (fun _ i _ => n - (Go.RowKit.intOf i).toNat)
  case atStart => exact ⟨0, Nat.zero_le _, rfl, rfl, Below.refl _ _⟩
  case round =>
    obtain ⟨k, hk, rfl, rfl, hb⟩ := hrel
    by_cases hlt : k < n
    · obtain ⟨f, hf⟩ : ∃ f, l[k]? = some f := ⟨_, List.getElem?_eq_getElem (by rw [HN.out]; omega)⟩
      obtain ⟨A', cap', he, -, hr⟩ := (HV.out wr hb).form
      cases he
      obtain ⟨bk, off, rfl, -, hj⟩ := hr (by rw [HN.out]; omega)
      have c0 := hj k f hf
      have hnx : textL (l.take (k + 1)) = textL (l.take k) ++ (f ++ [124]) := by
        rw [List.take_add_one, hf, textL, textL, textB_app]
        simp [textB]
      have hsz : (textL (l.take (k + 1))).length ≤ 1000001 := by
        have h1 := textB_app (l.take (k + 1)) (l.drop (k + 1))
        rw [List.take_append_drop] at h1
        have h2 := congrArg List.length h1
        rw [List.length_append] at h2
        rw [textL, List.length_cons]
        have := HL.out
        omega
      obtain ⟨T, hT⟩ : ∃ T, textL (l.take k) = T := ⟨_, rfl⟩
      rw [hT] at hnx
      rw [hnx, List.length_append] at hsz
      rw [hT]
      have hfl : f.length ≤ 1000001 := by rw [List.length_append] at hsz; simp at hsz; omega
      obtain ⟨F, hF⟩ : ∃ s : ByteArray, (⟨f.toArray⟩ : ByteArray) = s := ⟨_, rfl⟩
      obtain ⟨TB, hTB⟩ : ∃ s : ByteArray, (⟨T.toArray⟩ : ByteArray) = s := ⟨_, rfl⟩
      have hFs : F.size ≤ 1000001 := by rw [Lib.size_eq, ← hF]; simpa using hfl
      have hTs : TB.size ≤ 1000001 := by
        rw [Lib.size_eq, ← hTB]
        show T.length ≤ _
        omega
      have happ : TB ++ (F ++ ⟨#[124]⟩) = ⟨(textL (l.take (k + 1))).toArray⟩ := by
        rw [hnx, ← hF, ← hTB]
        apply ByteArray.ext
        simp
      rw [hF] at c0
      rw [hTB]
      have HB := Lib.hid hb
      have HA := Lib.hid happ
      have hov : ¬ (9223372036854775807 < F.size + 1) := by omega
      have hov2 : ¬ (9223372036854775807 < TB.size + (F.size + 1)) := by omega
      clear hj hb hf hT hF hTB hnx hsz hfl happ hr
      go_wp2_with fail
      exact ⟨⟨k + 1, by omega, by go_num, by rw [← HA.out], HB.out⟩, by simp only [Go.RowKit.intOf]; omega⟩
    · obtain rfl : k = n := by omega
      have hT : l.take k = l := List.take_of_length_le (by rw [HN.out]; exact Nat.le_refl _)
      rw [hT]
      have HB := Lib.hid hb
      clear hb hT
      go_wp2_with fail
      go_ret
      exact ⟨rfl, HB.out⟩

set_option maxRecDepth 100000 in
set_option maxHeartbeats 2000000 in
theorem refHas_any (s f : ByteArray) (hs : s.size ≤ 400) (w : World) :
    Calls Try.prog 19 #[.string s, .string f] w fun e w' => e = .returned (.bool (hasL s.data.toList f.data.toList)) ∧ Below w.heap.size w w' := by
  have hp := refParse_any s hs w
  have hsm := (parse_small s.data.toList).1
  have hh : hasL s.data.toList f.data.toList = (decide ((parseL s.data.toList).2 = 0) && decide (f.data.toList ∈ (parseL s.data.toList).1)) := rfl
  obtain ⟨p, hpp⟩ : ∃ p, parseL s.data.toList = p := ⟨_, rfl⟩
  rw [hpp] at hp hsm hh
  obtain ⟨x, k⟩ := p
  simp only at hsm hh
  rw [hh]
  have HP := Lib.hid hp
  clear hp hpp hh
  by_cases h0 : k = 0
  · subst h0
    go_enter Try.func19, Try.ntmps19
    go_wp2_with fail
    refine HP.out.mono ?_
    rintro e w2 ⟨⟨v, rfl, hown⟩, hb2⟩
    have HB2 := Lib.hid hb2
    have HC := Lib.hid (member_any (l := x) (rs_own hown).1 (by omega) f)
    clear hb2 hown
    go_wp2_with fail
    refine HC.out.mono ?_
    rintro e w3 ⟨rfl, hb3⟩
    have HB3 := Lib.hid (HB2.out.trans (hb3.mono HB2.out.size))
    clear hb3
    go_wp2_with fail
    go_ret
    exact ⟨rfl, HB3.out⟩
  · have h0i : ¬ ((k : Int) = 0) := by omega
    have hkk : ((k : Int) == 0) = false := by simp [h0]
    rw [decide_eq_false h0, Bool.false_and]
    go_enter Try.func19, Try.ntmps19
    go_wp2_with fail
    refine HP.out.mono ?_
    rintro e w2 ⟨⟨v, rfl, -⟩, hb2⟩
    have HB2 := Lib.hid hb2
    clear hb2
    go_wp2_with fail
    go_ret
    exact ⟨rfl, HB2.out⟩
end Go.Proofs.Ythagjdhfngdigaa
