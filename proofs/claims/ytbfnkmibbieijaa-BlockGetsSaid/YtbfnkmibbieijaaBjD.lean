/-
  WALKS over package corporaref02: Unpack, number, zeros.
-/
import Derived.Test.YtbfnkmibbieijaaBjC
namespace Go.Proofs.Ytbfnkmibbieijaa
open Go.RowKit Go.Shelf Go.Lib

theorem unpack_succ (L : List UInt8) (k : Nat) : unpack L (k + 1) = unpack L k ++ [decide ((L.getD (k / 8) 0).toNat / 2 ^ (7 - k % 8) % 2 = 1)] := by
  unfold unpack
  rw [List.range_succ, List.map_append]
  rfl
theorem mask_val (y r : Nat) (hy : y < 256) (hr : r < 8) : (bits .and .u8 (y : Int) (128 / 2 ^ r) != 0) = decide (y / 2 ^ (7 - r) % 2 = 1) := by
  have e : (128 : Int) / 2 ^ r = ((2 ^ (7 - r) : Nat) : Int) := by
    match r, hr with
    | 0, _ => rfl
    | 1, _ => rfl
    | 2, _ => rfl
    | 3, _ => rfl
    | 4, _ => rfl
    | 5, _ => rfl
    | 6, _ => rfl
    | 7, _ => rfl
  have hp : 2 ^ (7 - r) ≤ 2 ^ 7 := Nat.pow_le_pow_right (by decide) (by omega)
  have h128 : (2 : Nat) ^ 7 = 128 := by decide
  rw [e, u8_and_nat _ _ hy (by omega)]
  have all : ∀ (z : Fin 256) (r : Fin 8), ((((z.val &&& 2 ^ (7 - r.val) : Nat) : Int)) != 0) = decide (z.val / 2 ^ (7 - r.val) % 2 = 1) := by decide +kernel
  exact all ⟨y, hy⟩ ⟨r, hr⟩

/-- Between two rounds of Unpack: k bits are there. -/
def QRel (L : List UInt8) (n : Nat) (w : World) (v5 v6 : Value) (wr : World) : Prop :=
  ∃ k : Nat, k ≤ n ∧ v6 = .int .i64 (k : Int) ∧ wr.ownsRow w.heap.size 4 1 v5 k (boolCells (unpack L k)) ∧ Below w.heap.size w wr

set_option maxRecDepth 100000 in
set_option maxHeartbeats 1000000 in
theorem unpack_any {w : World} {v : Value} {L : List UInt8} (hs : Sees w w.heap.size v L) (hL : L.length ≤ 12500) (n : Nat) (hn : n ≤ 8 * L.length) :
    Calls Try.prog 48 #[v, .int .i64 n] w fun e w' => ∃ v', e = .returned v' ∧ w'.ownsRow w.heap.size 4 1 v' n (boolCells (unpack L n)) ∧ Below w.heap.size w w' := by
  obtain ⟨sp, cap, rfl, hcap, hpos⟩ := hs.form2
  obtain ⟨m, hm⟩ : ∃ m, L.length = m := ⟨_, rfl⟩
  rw [hm] at hL hn ⊢
  have HP := Lib.hid hpos
  have HM := Lib.hid hm
  obtain ⟨i0, hi, hz0, hz1, hz2⟩ := info_parts' Try.infoBool
  clear hs hm hcap hpos
  go_enter Try.func48, Try.ntmps48
  go_wp2
  go_loopw [5, 6] (fun v5 v6 wr => QRel L n w v5 v6 wr) (fun _ v6 _ => n - (intOf v6).toNat)
  case atStart => exact ⟨0, Nat.zero_le _, rfl, World.ownsRow_nil _ _ _ _, Below.refl _ _⟩
  case round =>
    obtain ⟨k, hk, rfl, hown, hb⟩ := hrel
    by_cases hlt : k < n
    · have hk8 : k / 8 < L.length := by rw [HM.out]; omega
      obtain ⟨b, off, rfl, hbB, hcell⟩ := HP.out (by omega)
      have hc := (hb.cell (p := ⟨b, off + k / 8, none⟩) hbB).trans (hcell (k / 8) hk8)
      have hsu := unpack_succ L k
      have hgd : L.getD (k / 8) 0 = L[k / 8] := by simp [List.getD, hk8]
      rw [hgd] at hsu
      have hy := UInt8.toNat_lt L[k / 8]
      obtain ⟨y, hyy⟩ : ∃ y, (L[k / 8]).toNat = y := ⟨_, rfl⟩
      rw [hyy] at hc hsu hy
      obtain ⟨r, hr⟩ : ∃ r, k % 8 = r := ⟨_, rfl⟩
      have hr8 : r < 8 := by omega
      have hmask := mask_val y r hy hr8
      rw [hr] at hsu
      obtain ⟨x, hx⟩ : ∃ x, decide (y / 2 ^ (7 - r) % 2 = 1) = x := ⟨_, rfl⟩
      rw [hx] at hmask hsu
      have hjm : k / 8 < m := by rw [HM.out] at hk8; exact hk8
      obtain ⟨j, hj⟩ : ∃ j, k / 8 = j := ⟨_, rfl⟩
      rw [hj] at hc hjm
      have hje : (k : Int) / 8 = (j : Int) := by omega
      have hre : (k : Int) % 8 = (r : Int) := by omega
      have hr0 : (0 : Int) ≤ (r : Int) := by omega
      have hlow := own_low hown
      have hsz := hb.size
      have HSU := Lib.hid hsu
      have HB := Lib.hid hb
      have HLOW := Lib.hid hlow
      clear hcell hsu hgd hyy hr hx hj hb hlow hk8
      go_wp2_with (at_builtin; refine wpList_append_own _ rfl (.tmp 12) (.tmp 24) 71 rfl w.heap.size 4 i0 _ 1 1 Try.underlying71 hi hz0 hz1 hz2 rfl (by decide) _ k _ rfl (hown.alloc _) _ 1 1 [.bool x] rfl rfl (news_at _ [.bool x] 4) (by simp [Value.oneCell']) (by unfold maxLen; omega) (by omega) (by simp; omega) ?_)
      intro v' w' hown' hgrow _
      have HO := Lib.hid hown'
      have hb2 : Below w.heap.size w w' := (HB.out.alloc hsz _).grown hgrow (by simp; omega) (fun q e => (HLOW.out q e).1)
      have HB2 := Lib.hid hb2
      clear hown' hgrow hb2 hown
      go_wp2
      go_roundw
      case rel =>
        refine ⟨k + 1, by omega, by go_num, ?_, HB2.out⟩
        rw [HSU.out, boolCells_app]
        exact HO.out
      case measure => simp [intOf]; omega
    · have hkn : k = n := by omega
      subst hkn
      have HO := Lib.hid hown
      have HB := Lib.hid hb
      clear hown hb hk
      go_wp2
      go_ret
      exact ⟨_, rfl, HO.out, HB.out⟩

/-- What the reference's zeros answers. -/
def zV (z : Nat × Nat) : Value := .tuple #[.int .i64 (z.1 : Nat), .int .i64 (z.2 : Nat)]
end Go.Proofs.Ytbfnkmibbieijaa
