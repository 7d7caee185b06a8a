/-
  WALKS over package bitio, sixth part: Uvarint, and the reference's Take.
-/
import Derived.Test.YteennnhinfnahaaDoorTzI
import Derived.OwnWalk
namespace Go.Proofs.YteennnhinfnahaaDoor
open Go.RowKit Go.Shelf Go.Lib

/-- What both answer. -/
def tkV (t : Nat × Nat × Nat) : Value := .tuple #[.int .u64 t.1, .int .i64 t.2.1, .int .i64 t.2.2]

theorem take_or (a b i : Nat) (ha : a < 2 ^ (7 * i)) (hb : b < 128) (hi : i ≤ 8 ∨ (i = 9 ∧ b ≤ 1)) : bits .or .u64 (a : Int) (IntKind.u64.wrap ((b : Int) * 2 ^ (7 * i))) = ((a + b * 2 ^ (7 * i) : Nat) : Int) := by
  have hm : b * 2 ^ (7 * i) < 18446744073709551616 ∧ 2 ^ (7 * i) ≤ 9223372036854775808 := by
    have h63 : (2 : Nat) ^ 63 = 9223372036854775808 := by decide
    rcases hi with h | ⟨rfl, h⟩
    · have h1 := Nat.pow_le_pow_right (show 0 < 2 by decide) (show 7 * i ≤ 56 by omega)
      have h56 : (2 : Nat) ^ 56 = 72057594037927936 := by decide
      have h2 : b * 2 ^ (7 * i) ≤ 127 * 2 ^ (7 * i) := Nat.mul_le_mul_right _ (by omega)
      omega
    · have h2 : b * 2 ^ (7 * 9) ≤ 1 * 2 ^ (7 * 9) := Nat.mul_le_mul_right _ h
      have h3 : (2 : Nat) ^ (7 * 9) = 9223372036854775808 := by decide
      omega
  have e1 : (b : Int) * 2 ^ (7 * i) = ((b * 2 ^ (7 * i) : Nat) : Int) := by simp
  have e2 : IntKind.u64.wrap ((b * 2 ^ (7 * i) : Nat) : Int) = ((b * 2 ^ (7 * i) : Nat) : Int) := by rw [IntKind.wrap_u64]; omega
  rw [e1, e2, bits_or_u64_nat _ _ (by omega) hm.1]
  have h3 := Nat.two_pow_add_eq_or_of_lt ha b
  rw [Nat.or_comm, Nat.mul_comm b, ← h3, Nat.add_comm]
theorem andNot_128 (b : Nat) (hb : b < 256) : bits .andNot .u8 (b : Int) 128 = ((b % 128 : Nat) : Int) := by
  have h := u8_andNot_nat b 128 hb (by omega)
  have e2 : ((128 : Nat) : Int) = 128 := rfl
  rw [e2] at h
  rw [h]
  have all : ∀ z : Fin 256, z.val &&& (255 - 128) = z.val % 128 := by decide +kernel
  rw [all ⟨b, hb⟩]
theorem take_val (a b i : Nat) (ha : a < 2 ^ (7 * i)) (hb : b < 256) (hi : i ≤ 8 ∨ (i = 9 ∧ b % 128 ≤ 1)) :
    bits .or .u64 (a : Int) (IntKind.u64.wrap (IntKind.u64.wrap (bits .andNot .u8 (b : Int) 128) * 2 ^ (7 * i))) = ((a + b % 128 * 2 ^ (7 * i) : Nat) : Int) := by
  have e : IntKind.u64.wrap ((b % 128 : Nat) : Int) = ((b % 128 : Nat) : Int) := by rw [IntKind.wrap_u64]; omega
  rw [andNot_128 b hb, e]
  exact take_or a (b % 128) i ha (by omega) hi

/-- Between two rounds: i bytes have been read, they hold a. -/
def TRel (L : List UInt8) (v2 v9 : Value) : Prop :=
  ∃ i a : Nat, v9 = .int .i64 i ∧ v2 = .int .u64 a ∧ i ≤ L.length ∧ i ≤ 9 ∧ a < 2 ^ (7 * i) ∧ tk L 0 0 = tk (L.drop i) i a

set_option maxRecDepth 100000 in
set_option maxHeartbeats 1000000 in
theorem uvarint_any {w : World} {B : Nat} {v : Value} {L : List UInt8} (h : Sees w B v L) (hL : L.length ≤ 1000000) :
    Calls Tryd.prog 68 #[v] w fun e w' => e = .returned (tkV (tk L 0 0)) ∧ w = w' := by
  obtain ⟨sp, cap, rfl, _, hpos⟩ := h.form2
  have HP := Lib.hid hpos
  obtain ⟨n, hn⟩ : ∃ n, L.length = n := ⟨_, rfl⟩
  have HN := Lib.hid hn
  rw [hn] at hL ⊢
  clear hpos h hn
  go_enter Tryd.func68, Tryd.ntmps68
  go_wp2
  go_loop [2, 9] (fun v2 v9 => TRel L v2 v9) (fun _ v9 => n - (intOf v9).toNat)
  case atStart => exact ⟨0, 0, rfl, rfl, by omega, by omega, by simp, rfl⟩
  case round =>
    obtain ⟨i, a, rfl, rfl, hi, hi9, ha, htk⟩ := hrel
    rw [HN.out] at hi
    by_cases hlt : i < n
    · have hlL : i < L.length := by rw [HN.out]; exact hlt
      have hdrop := List.drop_eq_getElem_cons hlL
      obtain ⟨bk, off, rfl, _, hcell⟩ := HP.out (by rw [HN.out]; omega)
      have hc := hcell i hlL
      rw [hdrop] at htk
      have hb256 := UInt8.toNat_lt L[i]
      obtain ⟨c, hcc⟩ : ∃ c, L[i] = c := ⟨_, rfl⟩
      rw [hcc] at hc htk hb256
      have htb := tk_big c (L.drop (i + 1)) i a
      have htz := tk_zero c (L.drop (i + 1)) i a
      have htl := tk_last c (L.drop (i + 1)) i a
      have htm := tk_more c (L.drop (i + 1)) i a
      obtain ⟨b, hbb⟩ : ∃ b, c.toNat = b := ⟨_, rfl⟩
      rw [hbb] at hc hb256 htb htz htl htm
      have HT := Lib.hid htk
      have HTB := Lib.hid htb
      have HTZ := Lib.hid htz
      have HTL := Lib.hid htl
      have HTM := Lib.hid htm
      have HA := Lib.hid ha
      clear hcc hbb htk htb htz htl htm hdrop hcell ha
      by_cases hbig : i = 9 ∧ 1 < b
      · obtain ⟨h9, h1⟩ := hbig
        have h1' : (1 : Int) < b := by omega
        have h9' : ((i : Int) == 9) = true := by simp; omega
        have H9 := Lib.hid h9
        clear h9
        go_wp2
        go_ret3
        rw [HT.out, HTB.out H9.out h1]
        exact ⟨rfl, rfl⟩
      · by_cases hge : 128 ≤ b
        · have h9 : i ≤ 8 := by omega
          have h9' : ((i : Int) == 9) = false := by simp; omega
          have hge' : (128 : Int) ≤ b := by omega
          go_wp2
          refine ⟨⟨i + 1, a + b % 128 * 2 ^ (7 * i), by go_num, by rw [take_val a b i HA.out (by omega) (.inl h9)], by rw [HN.out]; omega, by omega, ?_, by rw [HT.out, HTM.out (by omega) hge]⟩, by simp only [intOf]; omega⟩
          have e3 : 2 ^ (7 * (i + 1)) = 128 * 2 ^ (7 * i) := by
            rw [show 7 * (i + 1) = 7 + 7 * i by omega, Nat.pow_add]
          have hc3 : b % 128 * 2 ^ (7 * i) ≤ 127 * 2 ^ (7 * i) := Nat.mul_le_mul_right _ (by omega)
          have := HA.out
          omega
        · have hlt' : (b : Int) < 128 := by omega
          by_cases hz : b = 0 ∧ 0 < i
          · have hb0 : ((b : Int) == 0) = true := by simp; omega
            have hi0 : (0 : Int) < i := by omega
            have hb1 : (b : Int) ≤ 1 := by omega
            have HZ := Lib.hid hz
            clear hz
            by_cases h9 : i = 9
            · have h9' : ((i : Int) == 9) = true := by simp; omega
              clear h9 hbig
              go_wp2
              go_ret3
              rw [HT.out, HTZ.out HZ.out.1 HZ.out.2]
              exact ⟨rfl, rfl⟩
            · have h9' : ((i : Int) == 9) = false := by simp; omega
              clear h9 hbig
              go_wp2
              go_ret3
              rw [HT.out, HTZ.out HZ.out.1 HZ.out.2]
              exact ⟨rfl, rfl⟩
          · have hval := take_val a b i HA.out (by omega) (by omega)
            have htl2 := HTL.out hbig (by omega) hz
            have hiw : ((i + 1 : Nat) : Int) = (i : Int) + 1 := by omega
            have HV := Lib.hid hval
            have HL2 := Lib.hid htl2
            clear hval htl2
            have hres : Ending.returned (.tuple #[.int .u64 (bits .or .u64 (a : Int) (IntKind.u64.wrap (IntKind.u64.wrap (bits .andNot .u8 (b : Int) 128) * 2 ^ (7 * i)))), .int .i64 ((i : Int) + 1), .int .i64 0]) = .returned (tkV (tk L 0 0)) := by
              rw [HT.out, HL2.out, HV.out]
              rfl
            have HR := Lib.hid hres
            clear hres hiw
            by_cases h9 : i = 9
            · have h9' : ((i : Int) == 9) = true := by simp; omega
              have hb1 : (b : Int) ≤ 1 := by omega
              by_cases h0 : b = 0
              · omega
              · have h0' : ((b : Int) == 0) = false := by simp; omega
                clear h9 h0 hz
                go_wp2
                go_ret3
                exact ⟨HR.out, rfl⟩
            · have h9' : ((i : Int) == 9) = false := by simp; omega
              by_cases h0 : b = 0
              · have h0' : ((b : Int) == 0) = true := by simp; omega
                have hi0 : (i : Int) ≤ 0 := by omega
                clear h9 h0 hz
                go_wp2
                go_ret3
                exact ⟨HR.out, rfl⟩
              · have h0' : ((b : Int) == 0) = false := by simp; omega
                clear h9 h0 hz
                go_wp2
                go_ret3
                exact ⟨HR.out, rfl⟩
    · have hd : L.drop i = [] := List.drop_eq_nil_of_le (by rw [HN.out]; omega)
      rw [hd] at htk
      have HT := Lib.hid htk
      clear htk hd
      go_wp2
      go_ret3
      rw [HT.out]
      exact ⟨rfl, rfl⟩
end Go.Proofs.YteennnhinfnahaaDoor
