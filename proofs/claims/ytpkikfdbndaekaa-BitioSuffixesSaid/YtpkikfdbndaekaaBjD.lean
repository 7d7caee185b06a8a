/-
  WALKS over package corporaref02: Unpack, number, zeros.
-/
import Derived.Test.YtpkikfdbndaekaaBjC
namespace Go.Proofs.Ytpkikfdbndaekaa
open Go.RowKit Go.Shelf Go.Lib

theorem unpack_succ (L : List UInt8) (k : Nat) : unpack L (k + 1) = unpack L k ++ [decide ((L.getD (k / 8) 0).toNat / 2 ^ (7 - k % 8) % 2 = 1)] := by
  unfold unpack
  rw [List.range_succ, List.map_append]
  rfl
theorem mask_val (y r : Nat) (hy : y < 256) (hr : r < 8) : (bits .and .u8 (y : Int) (128 / 2 ^ r) != 0) = decide (y / 2 ^ (7 - r) % 2 = 1) := by
  have e : (128 : Int) / 2 ^ r = ((2 ^ (7 - r) : Nat) : Int) := by
    match r, hr with
    | 0, _ => rfl
    | 1, _ => rfl
    | 2, _ => rfl
    | 3, _ => rfl
    | 4, _ => rfl
    | 5, _ => rfl
    | 6, _ => rfl
    | 7, _ => rfl
  have hp : 2 ^ (7 - r) ≤ 2 ^ 7 := Nat.pow_le_pow_right (by decide) (by omega)
  have h128 : (2 : Nat) ^ 7 = 128 := by decide
  rw [e, u8_and_nat _ _ hy (by omega)]
  have all : ∀ (z : Fin 256) (r : Fin 8), ((((z.val &&& 2 ^ (7 - r.val) : Nat) : Int)) != 0) = decide (z.val / 2 ^ (7 - r.val) % 2 = 1) := by decide +kernel
  exact all ⟨y, hy⟩ ⟨r, hr⟩

/-- Between two rounds of Unpack: k bits are there. -/
def QRel (L : List UInt8) (n : Nat) (w : World) (v5 v6 : Value) (wr : World) : Prop :=
  ∃ k : Nat, k ≤ n ∧ v6 = .int .i64 (k : Int) ∧ wr.ownsRow w.heap.size 4 1 v5 k (boolCells (unpack L k)) ∧ Below w.heap.size w wr

set_option maxRecDepth 100000 in
set_option maxHeartbeats 1000000 in
theorem unpack_any {w : World} {v : Value} {L : List UInt8} (hs : Sees w w.heap.size v L) (hL : L.length ≤ 12500) (n : Nat) (hn : n ≤ 8 * L.length) :
    Calls Try.prog 26 #[v, .int .i64 n] w fun e w' => ∃ v', e = .returned v' ∧ w'.ownsRow w.heap.size 4 1 v' n (boolCells (unpack L n)) ∧ Below w.heap.size w w' := by
  obtain ⟨sp, cap, rfl, hcap, hpos⟩ := hs.form2
  obtain ⟨m, hm⟩ : ∃ m, L.length = m := ⟨_, rfl⟩
  rw [hm] at hL hn ⊢
  have HP := Lib.hid hpos
  have HM := Lib.hid hm
  obtain ⟨i0, hi, hz0, hz1, hz2⟩ := info_parts' Try.infoBool
  clear hs hm hcap hpos
  go_enter Try.func26, Try.ntmps26
  go_wp2
  go_loopw [5, 6] (fun v5 v6 wr => QRel L n w v5 v6 wr) (fun _ v6 _ => n - (intOf v6).toNat)
  case atStart => exact ⟨0, Nat.zero_le _, rfl, World.ownsRow_nil _ _ _ _, Below.refl _ _⟩
  case round =>
    obtain ⟨k, hk, rfl, hown, hb⟩ := hrel
    by_cases hlt : k < n
    · have hk8 : k / 8 < L.length := by rw [HM.out]; omega
      obtain ⟨b, off, rfl, hbB, hcell⟩ := HP.out (by omega)
      have hc := (hb.cell (p := ⟨b, off + k / 8, none⟩) hbB).trans (hcell (k / 8) hk8)
      have hsu := unpack_succ L k
      have hgd : L.getD (k / 8) 0 = L[k / 8] := by simp [List.getD, hk8]
      rw [hgd] at hsu
      have hy := UInt8.toNat_lt L[k / 8]
      obtain ⟨y, hyy⟩ : ∃ y, (L[k / 8]).toNat = y := ⟨_, rfl⟩
      rw [hyy] at hc hsu hy
      obtain ⟨r, hr⟩ : ∃ r, k % 8 = r := ⟨_, rfl⟩
      have hr8 : r < 8 := by omega
      have hmask := mask_val y r hy hr8
      rw [hr] at hsu
      obtain ⟨x, hx⟩ : ∃ x, decide (y / 2 ^ (7 - r) % 2 = 1) = x := ⟨_, rfl⟩
      rw [hx] at hmask hsu
      have hjm : k / 8 < m := by rw [HM.out] at hk8; exact hk8
      obtain ⟨j, hj⟩ : ∃ j, k / 8 = j := ⟨_, rfl⟩
      rw [hj] at hc hjm
      have hje : (k : Int) / 8 = (j : Int) := by omega
      have hre : (k : Int) % 8 = (r : Int) := by omega
      have hr0 : (0 : Int) ≤ (r : Int) := by omega
      have hlow := own_low hown
      have hsz := hb.size
      have HSU := Lib.hid hsu
      have HB := Lib.hid hb
      have HLOW := Lib.hid hlow
      clear hcell hsu hgd hyy hr hx hj hb hlow hk8
      go_wp2_with (at_builtin; refine wpList_append_own _ rfl (.tmp 12) (.tmp 24) 38 rfl w.heap.size 4 i0 _ 1 1 Try.underlying38 hi hz0 hz1 hz2 rfl (by decide) _ k _ rfl (hown.alloc _) _ 1 1 [.bool x] rfl rfl (news_at _ [.bool x] 4) (by simp [Value.oneCell']) (by unfold maxLen; omega) (by omega) (by simp; omega) ?_)
      intro v' w' hown' hgrow _
      have HO := Lib.hid hown'
      have hb2 : Below w.heap.size w w' := (HB.out.alloc hsz _).grown hgrow (by simp; omega) (fun q e => (HLOW.out q e).1)
      have HB2 := Lib.hid hb2
      clear hown' hgrow hb2 hown
      go_wp2
      go_roundw
      case rel =>
        refine ⟨k + 1, by omega, by go_num, ?_, HB2.out⟩
        rw [HSU.out, boolCells_app]
        exact HO.out
      case measure => simp [intOf]; omega
    · have hkn : k = n := by omega
      subst hkn
      have HO := Lib.hid hown
      have HB := Lib.hid hb
      clear hown hb hk
      go_wp2
      go_ret
      exact ⟨_, rfl, HO.out, HB.out⟩

set_option maxRecDepth 100000 in
set_option maxHeartbeats 1000000 in
theorem number_any {w : World} {B : Nat} {v : Value} {l : List Bool} (hs : SeesC w B v (boolCells l)) (hl : l.length ≤ 64) :
    Calls Try.prog 39 #[v] w fun e w' => e = .returned (.int .u64 (numL l : Nat)) ∧ w' = w := by
  obtain ⟨A, cap, hv, _, hpos⟩ := hs.form
  rw [boolCells_length] at hv hpos
  obtain ⟨n, hn⟩ : ∃ n, l.length = n := ⟨_, rfl⟩
  rw [hn] at hv hpos hl
  subst hv
  have HP := Lib.hid hpos
  have HN := Lib.hid hn
  clear hs hpos hn
  go_enter Try.func39, Try.ntmps39
  go_wp2
  go_loop [3, 8] (fun v3 v8 => ∃ k : Nat, k ≤ n ∧ v8 = .int .i64 k ∧ v3 = .int .u64 ((numL (l.take k) : Nat) : Int)) (fun _ v8 => n - (intOf v8).toNat)
  case atStart => exact ⟨0, Nat.zero_le _, rfl, rfl⟩
  case round =>
    obtain ⟨k, hk, rfl, rfl⟩ := hrel
    by_cases hlt : k < n
    · have hkl : k < l.length := by rw [HN.out]; exact hlt
      obtain ⟨b, off, rfl, _, hcell⟩ := HP.out (by omega)
      have hc := hcell k (.bool l[k]) (by simp [boolCells, hkl])
      have hst : numL (l.take (k + 1)) = 2 * numL (l.take k) + (l[k]).toNat := by rw [List.take_succ_eq_append_getElem hkl, numL_snoc]
      have hV := numL_lt (l.take k)
      have htl : (l.take k).length = k := by rw [List.length_take]; omega
      rw [htl] at hV
      have hpow : 2 ^ k ≤ 2 ^ 63 := Nat.pow_le_pow_right (by decide) (by omega)
      have h63 : (2 : Nat) ^ 63 = 9223372036854775808 := by decide
      obtain ⟨x, hx⟩ : ∃ x, l[k] = x := ⟨_, rfl⟩
      rw [hx] at hc hst
      obtain ⟨V, hVV⟩ : ∃ V, numL (l.take k) = V := ⟨_, rfl⟩
      rw [hVV] at hV hst ⊢
      have hV63 : V < 9223372036854775808 := by omega
      have HST := Lib.hid hst
      clear hcell hst hx htl hpow h63 hV hVV
      cases x with
      | true =>
        go_wp2
        go_round
        case rel => exact ⟨k + 1, by omega, by go_num, by rw [HST.out, Bool.toNat_true]; go_num⟩
        case measure => simp [intOf]; omega
      | false =>
        go_wp2
        go_round
        case rel => exact ⟨k + 1, by omega, by go_num, by rw [HST.out, Bool.toNat_false]; go_num⟩
        case measure => simp [intOf]; omega
    · have hkn : k = n := by omega
      subst hkn
      have htk : l.take k = l := List.take_of_length_le (by rw [HN.out]; exact Nat.le_refl _)
      have HT := Lib.hid htk
      clear htk hk
      go_wp2
      go_ret
      rw [HT.out]
      exact ⟨rfl, rfl⟩

/-- What the reference's zeros answers. -/
def zV (z : Nat × Nat) : Value := .tuple #[.int .i64 (z.1 : Nat), .int .i64 (z.2 : Nat)]
set_option maxRecDepth 100000 in
set_option maxHeartbeats 1000000 in
theorem zeros_any {w : World} {B : Nat} {v : Value} {l : List Bool} (hs : SeesC w B v (boolCells l)) (hl : l.length ≤ 1000000) (p m : Nat) (hp : p ≤ l.length) (hm : m ≤ 4096) :
    Calls Try.prog 40 #[v, .int .i64 p, .int .i64 m] w fun e w' => e = .returned (zV (zr (l.drop p) 0 m)) ∧ w' = w := by
  obtain ⟨A, cap, hv, _, hpos⟩ := hs.form
  rw [boolCells_length] at hv hpos
  obtain ⟨n, hn⟩ : ∃ n, l.length = n := ⟨_, rfl⟩
  rw [hn] at hv hpos hl hp
  subst hv
  have HP := Lib.hid hpos
  have HN := Lib.hid hn
  clear hs hpos hn
  go_enter Try.func40, Try.ntmps40
  go_wp2
  go_loop [8] (fun v8 => ∃ c : Nat, c ≤ m ∧ p + c ≤ n ∧ v8 = .int .i64 c ∧ zr (l.drop p) 0 m = zr (l.drop (p + c)) c m) (fun v8 => m + 1 - (intOf v8).toNat)
  case atStart => exact ⟨0, Nat.zero_le _, hp, rfl, rfl⟩
  case round =>
    obtain ⟨c, hc, hpc, rfl, hz⟩ := hrel
    by_cases hlt : p + c < n
    · have hkl : p + c < l.length := by rw [HN.out]; exact hlt
      obtain ⟨b, off, rfl, _, hcell⟩ := HP.out (by omega)
      have hcl := hcell (p + c) (.bool l[p + c]) (by simp [boolCells, hkl])
      have hzs := zr_step l (p + c) c m hkl
      rw [hzs] at hz
      obtain ⟨x, hx⟩ : ∃ x, l[p + c] = x := ⟨_, rfl⟩
      rw [hx] at hcl hz
      have HZ := Lib.hid hz
      have hadd : (p : Int) + (c : Int) = ((p + c : Nat) : Int) := by omega
      obtain ⟨q, hq⟩ : ∃ q, p + c = q := ⟨_, rfl⟩
      rw [hq] at hcl hadd hlt
      have HQ := Lib.hid hq
      have hqn : (q : Int) < (n : Int) := by omega
      have hq0 : (0 : Int) ≤ (q : Int) := by omega
      clear hcell hz hzs hx hq
      cases x with
      | true =>
        go_wp2
        go_ret2
        rw [HZ.out]
        exact ⟨rfl, rfl⟩
      | false =>
        by_cases hmc : m < c + 1
        · have hmc' : (m : Int) < (c : Int) + 1 := by omega
          go_wp2
          go_ret2
          rw [HZ.out, if_neg (by decide), if_pos hmc]
          exact ⟨rfl, rfl⟩
        · have hmc' : (c : Int) + 1 ≤ (m : Int) := by omega
          have hz2 := HZ.out
          rw [if_neg (by decide), if_neg hmc, HQ.out] at hz2
          have HZ2 := Lib.hid hz2
          clear hz2
          go_wp2
          go_round
          case rel => exact ⟨c + 1, by omega, by have := HQ.out; omega, by go_num, by rw [HZ2.out]; congr 1; have := HQ.out; congr 1; omega⟩
          case measure => simp [intOf]; omega
    · have hze := zr_end l (p + c) c m (by rw [HN.out]; omega)
      rw [hze] at hz
      have HZ := Lib.hid hz
      have hge : (n : Int) ≤ (p : Int) + (c : Int) := by omega
      clear hz hze
      go_wp2
      go_ret2
      rw [HZ.out]
      exact ⟨rfl, rfl⟩
end Go.Proofs.Ytpkikfdbndaekaa
