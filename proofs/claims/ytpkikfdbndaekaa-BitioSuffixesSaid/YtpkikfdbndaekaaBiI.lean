/-
  WALKS over package corporaref02: Top; two Writers beside each other.
-/
import Derived.Test.YtpkikfdbndaekaaBiE
namespace Go.Proofs.Ytpkikfdbndaekaa
open Go.RowKit Go.Shelf Go.Lib

set_option maxHeartbeats 400000 in
theorem top_any (x : Nat) (hx : x < 18446744073709551616) (w : World) :
    Calls Try.prog 33 #[.int .u64 x] w fun e w' => e = .returned (.int .i64 (Nat.log2 x : Nat)) ∧ w = w' := by
  have hlog := log_lt x hx
  obtain ⟨n, hn⟩ : ∃ n, Nat.log2 x = n := ⟨_, rfl⟩
  rw [hn] at hlog ⊢
  have HN := Lib.hid hn
  clear hn
  go_enter Try.func33, Try.ntmps33
  go_wp2
  go_loop [0, 3] (fun v0 v3 => ∃ y k : Nat, v0 = .int .u64 y ∧ v3 = .int .i64 k ∧ k + Nat.log2 y = n ∧ y < 18446744073709551616) (fun v0 _ => (intOf v0).toNat)
  case atStart => exact ⟨x, 0, rfl, rfl, by rw [Nat.zero_add]; exact HN.out, hx⟩
  case round =>
    obtain ⟨y, k, rfl, rfl, hk, hy⟩ := hrel
    by_cases h2 : 2 ≤ y
    · have hh := log_half y h2
      have hk2 : k + 1 + Nat.log2 (y / 2) = n := by omega
      have HK := Lib.hid hk2
      have hkn : k ≤ 63 := by omega
      clear hk hk2 hh
      have h1 : (1 : Int) < y := by omega
      go_wp2
      go_round
      case rel => exact ⟨y / 2, k + 1, by go_num, by go_num, HK.out, by omega⟩
      case measure => simp [intOf]; omega
    · have hh := log_small y (by omega)
      have hkn : k = n := by omega
      subst hkn
      clear hk hh
      have h1 : (y : Int) ≤ 1 := by omega
      go_wp2
      go_ret
      exact ⟨rfl, rfl⟩
theorem top_of (x : Nat) (X : Int) (hX : X = x) (hx : x < 18446744073709551616) (w : World) :
    Calls Try.prog 33 #[.int .u64 X] w fun e w' => e = .returned (.int .i64 (Nat.log2 x : Nat)) ∧ w = w' := by
  subst hX
  exact top_any x hx w

/-- A Writer stands while another one writes. -/
theorem WAt.aside {w w' : World} {B g g' : Nat} {v v1 v1' : Value} {l : List Bool} (h : WAt w B g v l) (hs : Stepped g' v1 w v1' w') (hg : g ≠ g') (hb : v1.ownBlock ≠ some g) (hv : ∀ k, v.ownBlock = some k → k ≠ g' ∧ v1.ownBlock ≠ some k) : WAt w' B g v l :=
  ⟨h.1, (hs.block g h.lt hg hb).trans h.2.1, own_below h.2.2 fun k e => hs.block k (own_low h.2.2 k e).2 (hv k e).1 (hv k e).2⟩
end Go.Proofs.Ytpkikfdbndaekaa
