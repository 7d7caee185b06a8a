/-
  WALKS over package checksum, second part: both Sums.
-/
import Derived.Test.YtifdencdbpdbfaaDoorCkA
namespace Go.Proofs.YtifdencdbpdbfaaDoor
open Go.RowKit Go.Shelf Go.Lib

theorem Tab.below {B : Nat} {w w' : World} (h : Tab w) (hb : Below B w w') (hB : 0 < B) : Tab w' := fun i hi => (hb.cell (p := ⟨0, i, none⟩) hB).trans (h i hi)
theorem Tab.drewN {w : World} (h : Tab w) (n : Nat) : Tab (w.drewN n) := h
theorem crc_take (L : List UInt8) (k : Nat) (hk : k < L.length) : crc 4294967295 (L.take (k + 1)) = sts 8 (crc 4294967295 (L.take k) ^^^ L[k].toNat) := by
  rw [List.take_succ_eq_append_getElem hk, crc_snoc]

set_option maxHeartbeats 400000 in
theorem sum_any {w : World} {B : Nat} {v : Value} {L : List UInt8} (hs : Sees w B v L) (hm : L.length ≤ 9223372036854775807) (ht : Tab w) :
    Calls Tryd.prog 34 #[v] w fun e w' => e = .returned (.int .u32 ((sumL L : Nat) : Int)) ∧ w = w' := by
  obtain ⟨sp, cap, hv, hcap, hcell⟩ := hs.form2
  have HT := Lib.hid ht
  obtain ⟨n, hn⟩ : ∃ n, L.length = n := ⟨_, rfl⟩
  rw [hn] at hv hm
  have HN := Lib.hid hn
  have HC := Lib.hid hcell
  subst hv
  clear hs ht hcell hcap hn
  go_enter Tryd.func34, Tryd.ntmps34
  go_wp2
  go_loop [3, 8] (fun v3 v8 => ∃ k : Nat, k ≤ n ∧ v3 = .int .u32 ((crc 4294967295 (L.take k) : Nat) : Int) ∧ v8 = .int .i64 k) (fun _ v8 => n - (intOf v8).toNat)
  case atStart => exact ⟨0, Nat.zero_le _, rfl, rfl⟩
  case round =>
    obtain ⟨k, hk, rfl, rfl⟩ := hrel
    have hc := crc_lt (L.take k) (v := 4294967295) (by decide)
    by_cases hlt : k < n
    · obtain ⟨b, off, rfl, _, hcs⟩ := HC.out (by rw [HN.out]; omega)
      have hkl : k < L.length := by rw [HN.out]; exact hlt
      have hck := hcs k hkl
      have HS := Lib.hid (crc_take L k hkl)
      have hb := byte_lt L[k]
      obtain ⟨a, ha⟩ : ∃ a, crc 4294967295 (L.take k) = a := ⟨_, rfl⟩
      obtain ⟨c, hce⟩ : ∃ c, L[k].toNat = c := ⟨_, rfl⟩
      rw [ha, hce] at HS
      rw [ha] at hc ⊢
      rw [hce] at hck hb
      clear ha hce hcs
      have x1 : bits .xor .u32 (a : Int) (c : Int) = ((a ^^^ c : Nat) : Int) := xor32 rfl rfl hc (by omega)
      have hx : a ^^^ c < 4294967296 := Nat.xor_lt_two_pow (n := 32) hc (by omega)
      go_wp2_with fail
      refine (afterByte_any _ hx HT.out).mono ?_
      rintro e w' ⟨rfl, rfl⟩
      go_wp2_with fail
      go_round
      case rel => exact ⟨k + 1, by omega, by rw [HS.out], by go_num⟩
      case measure => simp [intOf]; omega
    · have hkn : k = n := by omega
      subst hkn
      have hf : L.take k = L := by rw [← HN.out, List.take_length]
      rw [hf] at hc ⊢
      clear hf
      have HS : Hid (bits .xor .u32 IntKind.u32.max ((crc 4294967295 L : Nat) : Int) = ((sumL L : Nat) : Int)) := Lib.hid (xor32 (a := 4294967295) rfl rfl (by decide) hc)
      go_wp2
      go_ret
      exact ⟨congrArg (fun z => Ending.returned (Value.int IntKind.u32 z)) HS.out, rfl⟩

set_option maxHeartbeats 400000 in
theorem refSum_any {w : World} {B : Nat} {v : Value} {L : List UInt8} (hs : Sees w B v L) (hm : L.length ≤ 9223372036854775807) :
    Calls Tryd.prog 39 #[v] w fun e w' => e = .returned (.int .u32 ((sumL L : Nat) : Int)) ∧ w = w' := by
  obtain ⟨sp, cap, hv, hcap, hcell⟩ := hs.form2
  obtain ⟨n, hn⟩ : ∃ n, L.length = n := ⟨_, rfl⟩
  rw [hn] at hv hm
  have HN := Lib.hid hn
  have HC := Lib.hid hcell
  subst hv
  clear hs hcell hcap hn
  go_enter Tryd.func39, Tryd.ntmps39
  go_wp2
  go_loop [3, 8] (fun v3 v8 => ∃ k : Nat, k ≤ n ∧ v3 = .int .u32 ((crc 4294967295 (L.take k) : Nat) : Int) ∧ v8 = .int .i64 k) (fun _ v8 => n - (intOf v8).toNat)
  case atStart => exact ⟨0, Nat.zero_le _, rfl, rfl⟩
  case round =>
    obtain ⟨k, hk, rfl, rfl⟩ := hrel
    have hc := crc_lt (L.take k) (v := 4294967295) (by decide)
    by_cases hlt : k < n
    · obtain ⟨b, off, rfl, _, hcs⟩ := HC.out (by rw [HN.out]; omega)
      have hkl : k < L.length := by rw [HN.out]; exact hlt
      have hck := hcs k hkl
      have HS := Lib.hid (crc_take L k hkl)
      have hb := byte_lt L[k]
      obtain ⟨a, ha⟩ : ∃ a, crc 4294967295 (L.take k) = a := ⟨_, rfl⟩
      obtain ⟨c, hce⟩ : ∃ c, L[k].toNat = c := ⟨_, rfl⟩
      rw [ha, hce] at HS
      rw [ha] at hc ⊢
      rw [hce] at hck hb
      clear ha hce hcs
      have x1 : bits .xor .u32 (a : Int) (c : Int) = ((a ^^^ c : Nat) : Int) := xor32 rfl rfl hc (by omega)
      have hx : a ^^^ c < 4294967296 := Nat.xor_lt_two_pow (n := 32) hc (by omega)
      go_wp2_with fail
      refine (step_any _ hx _).mono ?_
      rintro e w' ⟨rfl, rfl⟩
      go_wp2_with fail
      go_round
      case rel => exact ⟨k + 1, by omega, by rw [HS.out], by go_num⟩
      case measure => simp [intOf]; omega
    · have hkn : k = n := by omega
      subst hkn
      have hf : L.take k = L := by rw [← HN.out, List.take_length]
      rw [hf] at hc ⊢
      clear hf
      have HS : Hid (bits .xor .u32 IntKind.u32.max ((crc 4294967295 L : Nat) : Int) = ((sumL L : Nat) : Int)) := Lib.hid (xor32 (a := 4294967295) rfl rfl (by decide) hc)
      go_wp2
      go_ret
      exact ⟨congrArg (fun z => Ending.returned (Value.int IntKind.u32 z)) HS.out, rfl⟩
end Go.Proofs.YtifdencdbpdbfaaDoor
