/-
  WALKS over package bitio, seventh part: the reference's Take.
-/
import Derived.Test.YtbfnkmibbieijaaBiF
namespace Go.Proofs.Ytbfnkmibbieijaa
open Go.RowKit Go.Shelf Go.Lib

theorem take_val2 (a b i : Nat) (ha : a < 2 ^ (7 * i)) (hi : i ≤ 8 ∨ (i = 9 ∧ b % 128 ≤ 1)) :
    bits .or .u64 (a : Int) (IntKind.u64.wrap ((b : Int) % 128 * 2 ^ (7 * i))) = ((a + b % 128 * 2 ^ (7 * i) : Nat) : Int) := by
  have e : (b : Int) % 128 = ((b % 128 : Nat) : Int) := by omega
  rw [e]
  exact take_or a (b % 128) i ha (by omega) hi

set_option maxRecDepth 100000 in
set_option maxHeartbeats 1000000 in
theorem take_any {w : World} {B : Nat} {v : Value} {L : List UInt8} (h : Sees w B v L) (hL : L.length ≤ 1000000) :
    Calls Try.prog 47 #[v] w fun e w' => e = .returned (tkV (tk L 0 0)) ∧ w = w' := by
  obtain ⟨sp, cap, rfl, _, hpos⟩ := h.form2
  have HP := Lib.hid hpos
  obtain ⟨n, hn⟩ : ∃ n, L.length = n := ⟨_, rfl⟩
  have HN := Lib.hid hn
  rw [hn] at hL ⊢
  clear hpos h hn
  go_enter Try.func47, Try.ntmps47
  go_wp2
  go_loop [5, 10] (fun v5 v10 => TRel L v5 v10) (fun _ v10 => n - (intOf v10).toNat)
  case atStart => exact ⟨0, 0, rfl, rfl, by omega, by omega, by simp, rfl⟩
  case round =>
    obtain ⟨i, a, rfl, rfl, hi, hi9, ha, htk⟩ := hrel
    rw [HN.out] at hi
    by_cases hlt : i < n
    · have hlL : i < L.length := by rw [HN.out]; exact hlt
      have hdrop := List.drop_eq_getElem_cons hlL
      obtain ⟨bk, off, rfl, _, hcell⟩ := HP.out (by rw [HN.out]; omega)
      have hc := hcell i hlL
      rw [hdrop] at htk
      have hb256 := UInt8.toNat_lt L[i]
      obtain ⟨c, hcc⟩ : ∃ c, L[i] = c := ⟨_, rfl⟩
      rw [hcc] at hc htk hb256
      have htb := tk_big c (L.drop (i + 1)) i a
      have htz := tk_zero c (L.drop (i + 1)) i a
      have htl := tk_last c (L.drop (i + 1)) i a
      have htm := tk_more c (L.drop (i + 1)) i a
      obtain ⟨b, hbb⟩ : ∃ b, c.toNat = b := ⟨_, rfl⟩
      rw [hbb] at hc hb256 htb htz htl htm
      have HT := Lib.hid htk
      have HTB := Lib.hid htb
      have HTZ := Lib.hid htz
      have HTL := Lib.hid htl
      have HTM := Lib.hid htm
      have HA := Lib.hid ha
      clear hcc hbb htk htb htz htl htm hdrop hcell ha
      by_cases hbig : i = 9 ∧ 1 < b
      · obtain ⟨h9, h1⟩ := hbig
        have h1' : (1 : Int) < b := by omega
        have h9' : ((i : Int) == 9) = true := by simp; omega
        have H9 := Lib.hid h9
        clear h9
        go_wp2
        go_ret3
        rw [HT.out, HTB.out H9.out h1]
        exact ⟨rfl, rfl⟩
      · by_cases hge : 128 ≤ b
        · have h9 : i ≤ 8 := by omega
          have h9' : ((i : Int) == 9) = false := by simp; omega
          have hge' : (128 : Int) ≤ b := by omega
          go_wp2
          refine ⟨⟨i + 1, a + b % 128 * 2 ^ (7 * i), by go_num, by rw [take_val2 a b i HA.out (.inl h9)], by rw [HN.out]; omega, by omega, ?_, by rw [HT.out, HTM.out (by omega) hge]⟩, by simp only [intOf]; omega⟩
          have e3 : 2 ^ (7 * (i + 1)) = 128 * 2 ^ (7 * i) := by
            rw [show 7 * (i + 1) = 7 + 7 * i by omega, Nat.pow_add]
          have hc3 : b % 128 * 2 ^ (7 * i) ≤ 127 * 2 ^ (7 * i) := Nat.mul_le_mul_right _ (by omega)
          have := HA.out
          omega
        · have hlt' : (b : Int) < 128 := by omega
          by_cases hz : b = 0 ∧ 0 < i
          · have hb0 : ((b : Int) == 0) = true := by simp; omega
            have hi0 : (0 : Int) < i := by omega
            have hb1 : (b : Int) ≤ 1 := by omega
            have HZ := Lib.hid hz
            clear hz
            by_cases h9 : i = 9
            · have h9' : ((i : Int) == 9) = true := by simp; omega
              clear h9 hbig
              go_wp2
              go_ret3
              rw [HT.out, HTZ.out HZ.out.1 HZ.out.2]
              exact ⟨rfl, rfl⟩
            · have h9' : ((i : Int) == 9) = false := by simp; omega
              clear h9 hbig
              go_wp2
              go_ret3
              rw [HT.out, HTZ.out HZ.out.1 HZ.out.2]
              exact ⟨rfl, rfl⟩
          · have hval := take_val2 a b i HA.out (by omega)
            have htl2 := HTL.out hbig (by omega) hz
            have hiw : ((i + 1 : Nat) : Int) = (i : Int) + 1 := by omega
            have HV := Lib.hid hval
            have HL2 := Lib.hid htl2
            clear hval htl2
            have hres : Ending.returned (.tuple #[.int .u64 (bits .or .u64 (a : Int) (IntKind.u64.wrap ((b : Int) % 128 * 2 ^ (7 * i)))), .int .i64 ((i : Int) + 1), .int .i64 0]) = .returned (tkV (tk L 0 0)) := by
              rw [HT.out, HL2.out, HV.out]
              rfl
            have HR := Lib.hid hres
            clear hres hiw
            by_cases h9 : i = 9
            · have h9' : ((i : Int) == 9) = true := by simp; omega
              have hb1 : (b : Int) ≤ 1 := by omega
              by_cases h0 : b = 0
              · omega
              · have h0' : ((b : Int) == 0) = false := by simp; omega
                clear h9 h0 hz
                go_wp2
                go_ret3
                exact ⟨HR.out, rfl⟩
            · have h9' : ((i : Int) == 9) = false := by simp; omega
              by_cases h0 : b = 0
              · have h0' : ((b : Int) == 0) = true := by simp; omega
                have hi0 : (i : Int) ≤ 0 := by omega
                clear h9 h0 hz
                go_wp2
                go_ret3
                exact ⟨HR.out, rfl⟩
              · have h0' : ((b : Int) == 0) = false := by simp; omega
                clear h9 h0 hz
                go_wp2
                go_ret3
                exact ⟨HR.out, rfl⟩
    · have hd : L.drop i = [] := List.drop_eq_nil_of_le (by rw [HN.out]; omega)
      rw [hd] at htk
      have HT := Lib.hid htk
      clear htk hd
      go_wp2
      go_ret3
      rw [HT.out]
      exact ⟨rfl, rfl⟩
end Go.Proofs.Ytbfnkmibbieijaa
