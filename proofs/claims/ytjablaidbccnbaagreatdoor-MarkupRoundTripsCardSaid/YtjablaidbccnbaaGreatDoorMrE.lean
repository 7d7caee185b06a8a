/-
  WALKS over the reference of markup: Unescape.
-/
import Derived.Test.YtjablaidbccnbaaGreatDoorMrD
namespace Go.Proofs.YtjablaidbccnbaaGreatDoor
open Go.RowKit Go.Shelf Go.Lib

set_option maxRecDepth 100000 in
set_option maxHeartbeats 4000000 in
theorem refUnescape_any (s : ByteArray) (hs : s.size ≤ 1000000) (w : World) :
    Calls Tryz.prog 37 #[.string s] w fun e w' => e = .returned (unV (unesc s.data.toList)) ∧ Below w.heap.size w w' := by
  have hsz : s.data.toList.length = s.size := (Lib.size_eq s).symm
  obtain ⟨U, hU⟩ : ∃ U, unesc s.data.toList = U := ⟨_, rfl⟩
  rw [hU]
  have HU := Lib.hid hU
  clear hU
  go_enter Tryz.func37, Tryz.ntmps37
  go_wp2_with fail
  go_loopw [5, 6] (fun a i wr => ∃ (k : Nat) (P : Bs), k ≤ s.size ∧ i = .int .i64 k ∧ a = .string ⟨P.toArray⟩ ∧ P.length ≤ k ∧ Below w.heap.size w wr ∧ U = behind P k (unesc (s.data.toList.drop k))) (fun _ i _ => s.size - (Go.RowKit.intOf i).toNat)
  case atStart =>
    refine ⟨0, [], Nat.zero_le _, rfl, rfl, Nat.le_refl _, Below.refl _ _, ?_⟩
    rw [← HU.out, List.drop_zero]
    cases unesc s.data.toList <;> rfl
  case round =>
    obtain ⟨k, P, hk, rfl, rfl, hPl, hb, hrel⟩ := hrel
    have HB := Lib.hid hb
    have HR := Lib.hid hrel
    clear hb hrel
    obtain ⟨sP, hsP⟩ : ∃ sP : ByteArray, (⟨P.toArray⟩ : ByteArray) = sP := ⟨_, rfl⟩
    have hzP : sP.size ≤ k := by rw [← hsP]; exact hPl
    by_cases hlt : k < s.size
    · have hlt' : k < s.data.toList.length := by rw [hsz]; exact hlt
      have hdr : s.data.toList.drop k = s.data.toList[k] :: s.data.toList.drop (k + 1) := List.drop_eq_getElem_cons hlt'
      have hex : s.extract k (k + 1) = ⟨#[s.data.toList[k]]⟩ := by
        rw [Lib.extract_eq, hdr]
        simp
      have hd : (s[k]'hlt).toNat = (s.data.toList[k]).toNat := rfl
      obtain ⟨c, hc⟩ : ∃ c, s.data.toList[k] = c := ⟨_, rfl⟩
      rw [hc] at hdr hex hd
      obtain ⟨d, hdd⟩ : ∃ d, c.toNat = d := ⟨_, rfl⟩
      rw [hdd] at hd
      by_cases h38 : d = 38
      · have hc38 : c = 38 := UInt8.toNat_inj.1 (hdd.trans h38)
        subst h38
        obtain ⟨R, hR⟩ : ∃ R, s.extract k s.size = R := ⟨_, rfl⟩
        have hRd : R.data.toList = s.data.toList.drop k := by
          rw [← hR, Lib.extract_eq]
          exact List.take_of_length_le (by rw [List.length_drop, hsz]; exact Nat.le_refl _)
        have hes := fun (W : World) => refLead_any R (by rw [Lib.size_eq, hRd, List.length_drop, hsz]; omega) W
        rw [hRd] at hes
        obtain ⟨V, hV⟩ : ∃ V, lead (s.data.toList.drop k) = V := ⟨_, rfl⟩
        rw [hV] at hes
        have hhd : (s.data.toList.drop k).head? = some 38 := by rw [hdr, hc38]; rfl
        cases V with
        | none =>
          have HF : Hid (U = .error k) := Lib.hid (by
            rw [HR.out, unesc_bad hhd hV]
            show Except.error (0 + k) = _
            rw [Nat.zero_add])
          have HES := Lib.hid hes
          rw [hsP]
          clear hdr hex hc hdd hc38 hRd hes hV hhd hlt'
          go_wp2_with fail
          refine (HES.out _).mono ?_
          rintro e w1 ⟨rfl, hb1⟩
          have HB1 := Lib.hid (HB.out.trans (hb1.mono HB.out.size))
          clear hb1
          simp only [leadV]
          go_wp2_with fail
          go_ret3
          exact ⟨by rw [HF.out]; rfl, HB1.out⟩
        | some q =>
          obtain ⟨x, n⟩ := q
          obtain ⟨l1, l2, l3⟩ := lead_len hV
          rw [List.length_drop, hsz] at l2
          have HF : Hid (U = behind (P ++ x) (k + n) (unesc (s.data.toList.drop (k + n)))) := Lib.hid (by
            rw [HR.out, unesc_lead hhd hV, behind_behind, List.drop_drop])
          have HES := Lib.hid hes
          obtain ⟨sx, hsx⟩ : ∃ sx : ByteArray, (⟨x.toArray⟩ : ByteArray) = sx := ⟨_, rfl⟩
          have hzx : sx.size ≤ 4 := by rw [← hsx]; exact l3
          have hcat : sP ++ sx = ⟨(P ++ x).toArray⟩ := by rw [← hsP, ← hsx, ByteArray.mk_append_mk]
          have HCT := Lib.hid hcat
          have HSX := Lib.hid hsx
          have hn0 : ((n : Int) == 0) = false := by simp; omega
          have z1 : ¬ (9223372036854775807 < sP.size + sx.size) := by omega
          rw [hsP]
          clear hdr hex hc hdd hc38 hRd hes hV hhd hlt' hsx hcat
          go_wp2_with fail
          refine (HES.out _).mono ?_
          rintro e w1 ⟨rfl, hb1⟩
          have HB1 := Lib.hid (HB.out.trans (hb1.mono HB.out.size))
          clear hb1
          simp only [leadV]
          rw [HSX.out]
          go_wp2_with fail
          exact ⟨⟨k + n, P ++ x, by omega, by go_num, by rw [HCT.out], by rw [List.length_append]; omega, HB1.out, HF.out⟩, by simp only [Go.RowKit.intOf]; omega⟩
      · have HF : Hid (U = behind (P ++ [c]) (k + 1) (unesc (s.data.toList.drop (k + 1)))) := Lib.hid (by
          rw [HR.out, hdr, unesc_byte c _ (fun e => h38 (by rw [← hdd, e]; rfl)), behind_behind])
        have hcat : sP ++ ⟨#[c]⟩ = ⟨(P ++ [c]).toArray⟩ := by
          rw [← hsP]
          show _ ++ (⟨([c] : Bs).toArray⟩ : ByteArray) = _
          rw [ByteArray.mk_append_mk]
        have HCT := Lib.hid hcat
        have h38i : ¬ ((d : Int) = 38) := by omega
        have z1 : ¬ (9223372036854775807 < sP.size + 1) := by omega
        rw [hsP]
        clear hdr hc hdd hcat hlt'
        go_wp2_with fail
        exact ⟨⟨k + 1, P ++ [c], by omega, by go_num, by rw [HCT.out], by rw [List.length_append]; simp; omega, HB.out, HF.out⟩, by simp only [Go.RowKit.intOf]; omega⟩
    · have hfin : s.data.toList.drop k = [] := List.drop_eq_nil_of_le (by rw [hsz]; omega)
      have HF : Hid (U = .ok P) := Lib.hid (by
        rw [HR.out, hfin, unesc_nil]
        show Except.ok (P ++ []) = _
        rw [List.append_nil])
      have HSP := Lib.hid hsP
      rw [hsP]
      clear hfin
      go_wp2_with fail
      go_ret3
      refine ⟨?_, HB.out⟩
      rw [HF.out]
      unfold unV
      simp only [HSP.out]
      rfl
end Go.Proofs.YtjablaidbccnbaaGreatDoor
