/-
  WALKS over package checksum, first part: eight steps by the table, eight steps of the reference.
-/
import Derived.Test.YtifdencdbpdbfaaDoorCkM
import Derived.Test.YtifdencdbpdbfaaDoorMeA
import Derived.Laws.BitsAllLaws
import Derived.Laws.DeepNot64
namespace Go.Proofs.YtifdencdbpdbfaaDoor
open Go.RowKit Go.Shelf Go.Lib

/-- The table: what four steps make of a number of four bits. -/
def Tab (w : World) : Prop := ∀ i : Nat, i < 16 → w.cell? ⟨0, i, none⟩ = some (.int .u32 ((sts 4 i : Nat) : Int))
theorem sts_four (v : Nat) : sts 4 v = v / 16 ^^^ sts 4 (v % 16) := by
  have h := low_xor 4 v
  have h2 := congrArg (sts 4) h
  rw [sts_xor, sts_shift] at h2
  rw [h2, Nat.xor_comm]
theorem u32_wrap (n : Nat) (h : n < 4294967296) : IntKind.u32.wrap (n : Int) = (n : Int) := by
  rw [IntKind.wrap_u32']; omega
theorem and_nib (v : Nat) (h : v < 4294967296) : bits .and .u32 (v : Int) 15 = ((v % 16 : Nat) : Int) := by
  have e := u32_and_nat v 15 h (by omega)
  rw [show ((15 : Nat) : Int) = 15 by rfl] at e
  rw [e, show (15 : Nat) = 2 ^ 4 - 1 by rfl, Nat.and_two_pow_sub_one_eq_mod]
theorem and_one (v : Nat) (h : v < 4294967296) : bits .and .u32 (v : Int) 1 = ((v % 2 : Nat) : Int) := by
  have e := u32_and_nat v 1 h (by omega)
  rw [show ((1 : Nat) : Int) = 1 by rfl] at e
  rw [e, show (1 : Nat) = 2 ^ 1 - 1 by rfl, Nat.and_two_pow_sub_one_eq_mod]

theorem xor32 {a b : Nat} {A B : Int} (hA : A = a) (hB : B = b) (ha : a < 4294967296) (hb : b < 4294967296) : bits .xor .u32 A B = ((a ^^^ b : Nat) : Int) := by
  subst hA hB
  exact u32_xor_nat a b ha hb

set_option maxHeartbeats 400000 in
theorem afterByte_any (v : Nat) (hv : v < 4294967296) {w : World} (ht : Tab w) :
    Calls Tryd.prog 48 #[.int .u32 v] w fun e w' => e = .returned (.int .u32 ((sts 8 v : Nat) : Int)) ∧ w = w' := by
  have a1 := and_nib v hv
  have c1 := ht (v % 16) (by omega)
  have u1 : sts 4 (v % 16) < 4294967296 := sts_lt 4 (by omega)
  have x1 : bits .xor .u32 ((v : Int) / 16) ((sts 4 (v % 16) : Nat) : Int) = ((sts 4 v : Nat) : Int) := by
    rw [sts_four v]; exact xor32 (by omega) rfl (by omega) u1
  have hu := sts_lt 4 hv
  have h8 : sts 8 v = sts 4 (sts 4 v) := sts_add 4 4 v
  obtain ⟨t, ht1⟩ : ∃ t, sts 4 (v % 16) = t := ⟨_, rfl⟩
  obtain ⟨u, hu1⟩ : ∃ u, sts 4 v = u := ⟨_, rfl⟩
  rw [ht1] at c1 x1 u1
  rw [hu1] at x1 hu h8
  clear ht1 hu1
  have a2 := and_nib u hu
  have c2 := ht (u % 16) (by omega)
  have u2 : sts 4 (u % 16) < 4294967296 := sts_lt 4 (by omega)
  have x2 : bits .xor .u32 ((u : Int) / 16) ((sts 4 (u % 16) : Nat) : Int) = ((sts 4 u : Nat) : Int) := by
    rw [sts_four u]; exact xor32 (by omega) rfl (by omega) u2
  rw [h8]
  obtain ⟨t2, ht2⟩ : ∃ t, sts 4 (u % 16) = t := ⟨_, rfl⟩
  obtain ⟨z, hz⟩ : ∃ t, sts 4 u = t := ⟨_, rfl⟩
  rw [ht2] at c2 x2
  rw [hz] at x2 ⊢
  clear ht ht2 hz h8 u2
  go_enter Tryd.func48, Tryd.ntmps48
  go_wp2
  go_ret
  exact ⟨rfl, rfl⟩

set_option maxHeartbeats 400000 in
theorem step_any (v : Nat) (hv : v < 4294967296) (w : World) :
    Calls Tryd.prog 50 #[.int .u32 v] w fun e w' => e = .returned (.int .u32 ((sts 8 v : Nat) : Int)) ∧ w = w' := by
  go_enter Tryd.func50, Tryd.ntmps50
  go_wp2
  go_loop [0, 3] (fun v0 v3 => ∃ k x : Nat, k ≤ 8 ∧ v0 = .int .u32 x ∧ x < 4294967296 ∧ v3 = .int .i64 k ∧ Hid (sts (8 - k) x = sts 8 v)) (fun _ v3 => 8 - (intOf v3).toNat)
  case atStart => exact ⟨0, v, by omega, rfl, hv, rfl, rfl⟩
  case round =>
    obtain ⟨k, x, hk, rfl, hx, rfl, HE⟩ := hrel
    have a1 := and_one x hx
    by_cases hlt : k < 8
    · have HN : Hid (sts (8 - (k + 1)) (st x) = sts 8 v) := Lib.hid (by rw [← HE.out, show 8 - k = (8 - (k + 1)) + 1 by omega]; rfl)
      by_cases hodd : x % 2 = 1
      · have o1 : (x : Int) % 2 = 1 := by omega
        have hst : st x = x / 2 ^^^ 2197175160 := by rw [st, if_pos hodd]
        have hs := st_lt hx
        have x1 : bits .xor .u32 ((x : Int) / 2) 2197175160 = ((st x : Nat) : Int) := by
          rw [hst]; exact xor32 (a := x / 2) (b := 2197175160) (by omega) rfl (by omega) (by omega)
        obtain ⟨z, hz⟩ : ∃ t, st x = t := ⟨_, rfl⟩
        rw [hz] at x1 HN hs
        clear hz hst HE
        go_wp2
        go_round
        case rel => exact ⟨k + 1, z, by omega, rfl, hs, by go_num, HN⟩
        case measure => simp [intOf]; omega
      · have o1 : (x : Int) % 2 = 0 := by omega
        have hst : st x = x / 2 := by rw [st, if_neg hodd]
        rw [hst] at HN
        clear hst HE
        go_wp2
        go_round
        case rel => exact ⟨k + 1, x / 2, by omega, by go_num, by omega, by go_num, HN⟩
        case measure => simp [intOf]; omega
    · have hk8 : k = 8 := by omega
      subst hk8
      have hx8 : x = sts 8 v := HE.out
      subst hx8
      clear HE a1
      go_wp2
      go_ret
      exact ⟨rfl, rfl⟩
end Go.Proofs.YtifdencdbpdbfaaDoor
