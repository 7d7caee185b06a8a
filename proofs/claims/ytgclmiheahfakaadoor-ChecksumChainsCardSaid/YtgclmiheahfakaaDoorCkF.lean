/-
  WALKS over package checksum, sixth part: the effect of bytes 0, Combine; the reference's Zeros.
-/
import Derived.Test.YtgclmiheahfakaaDoorCkE
namespace Go.Proofs.YtgclmiheahfakaaDoor
open Go.RowKit Go.Shelf Go.Lib

theorem colL_one (k : Nat) : (colL k 32).toArray.all (·.oneCell') = true := by rw [← partL_full]; exact partL_one _ _
theorem colL_size (k : Nat) : (colL k 32).toArray.size = 32 := by rw [← partL_full]; exact partL_size _ _
theorem alloc_at {W : World} {n : Nat} (o : Obj) (h : W.heap.size = n) : (W.alloc o).heap[n]? = some o := by subst h; exact block_new W o
theorem below_undrewN {B n : Nat} {w w' : World} (h : Below B (w.drewN n) w') : Below B w w' := ⟨h.os, h.tape, h.output, h.size, h.block⟩
theorem half_odd (k n x : Nat) (h : n % 2 = 1) : sts (k * n) x = sts ((k + k) * (n / 2)) (sts k x) := by
  rw [← sts_add]
  congr 1
  have : n = 2 * (n / 2) + 1 := by omega
  generalize n / 2 = q at *
  subst this
  rw [Nat.mul_add, Nat.mul_one, Nat.add_comm, Nat.add_mul, ← Nat.mul_assoc, Nat.mul_comm k 2, Nat.two_mul, Nat.add_mul]
theorem half_even (k n x : Nat) (h : n % 2 = 0) : sts (k * n) x = sts ((k + k) * (n / 2)) x := by
  congr 1
  have : n = 2 * (n / 2) := by omega
  generalize n / 2 = q at *
  subst this
  rw [← Nat.mul_assoc, Nat.mul_comm k 2, Nat.two_mul]
theorem and_one64 (n : Nat) (h : n < 9223372036854775808) : bits .and .i64 (n : Int) 1 = ((n % 2 : Nat) : Int) := by
  have h1 : (BitVec.ofInt 64 (n : Int)).toNat = n := by
    rw [BitVec.ofInt_natCast, BitVec.toNat_ofNat]; exact Nat.mod_eq_of_lt (by omega)
  show IntKind.i64.wrap ((BitVec.ofInt 64 (n : Int) &&& BitVec.ofInt 64 ((1 : Nat) : Int)).toNat : Int) = _
  have h2 : (BitVec.ofInt 64 ((1 : Nat) : Int)).toNat = 1 := by decide
  rw [BitVec.toNat_and, h1, h2, show (1 : Nat) = 2 ^ 1 - 1 by rfl, Nat.and_two_pow_sub_one_eq_mod, IntKind.wrap_i64]
  omega

set_option maxRecDepth 100000 in
set_option maxHeartbeats 1000000 in
theorem afterZeros_any (v n0 : Nat) (hv : v < 4294967296) (hn0 : n0 ≤ 9223372036854775807) {w : World} (ht : Tab w) (h0 : 0 < w.heap.size) :
    Calls Tryd.prog 22 #[.int .u32 v, .int .i64 n0] w fun e w' => e = .returned (.int .u32 ((sts (8 * n0) v : Nat) : Int)) ∧ Below w.heap.size w w' := by
  have HZB := Lib.hid (zeroByte_any ht h0)
  clear ht h0
  go_enter Tryd.func22, Tryd.ntmps22
  go_wp2_with fail
  refine HZB.out.mono ?_
  rintro e w1 ⟨rfl, hb1⟩
  have hsz1 := hb1.size
  have HN1 := Lib.hid (alloc_at (W := w1) (.cells (List.replicate 32 (Value.int .u32 0)).toArray 46) rfl)
  have HB1 := Lib.hid (below_setRow (hb1.alloc hsz1 (.cells (List.replicate 32 (Value.int .u32 0)).toArray 46)) (g := w1.heap.size) hsz1 (colL 8 32).toArray)
  have HM1 := Lib.hid (setRow_heap _ w1.heap.size _ (colL 8 32).toArray _ _ HN1.out)
  clear hb1
  go_wp2_with (refine wpList_store_row rfl 46 (.tmp 5) (.tmp 6) rfl w1.heap.size (colL 8 32).toArray rfl rfl 46 _ HN1.out (by rw [colL_size]; exact matSize) (by rw [colL_size]; rfl) (colL_one _) ?_)
  simp only [Act.put]
  go_loopw [0, 1, 5] (fun x0 x1 x5 w' => ∃ x n k g : Nat, x0 = .int .u32 x ∧ x < 4294967296 ∧ x1 = .int .i64 n ∧ n ≤ 9223372036854775807 ∧ x5 = .pointer (some ⟨g, 0, none⟩) ∧ MatAt w' g k ∧ w.heap.size ≤ g ∧ Below w.heap.size w w' ∧ Hid (sts (k * n) x = sts (8 * n0) v)) (fun _ x1 _ _ => (intOf x1).toNat)
  case atStart => exact ⟨v, n0, 8, w1.heap.size, rfl, hv, rfl, hn0, rfl, HM1.out, hsz1, HB1.out, rfl⟩
  case round =>
    obtain ⟨x, n, k, g, rfl, hx, rfl, hn, rfl, hmat, hwg, hb, HE⟩ := hrel
    by_cases h0 : n = 0
    · subst h0
      have HX : Hid (x = sts (8 * n0) v) := HE.out
      have HB := Lib.hid hb
      clear hmat hb HE
      go_wp2_with fail
      go_ret
      exact ⟨congrArg (fun z : Nat => Ending.returned (.int .u32 (z : Int))) HX.out, HB.out⟩
    · have hpos : (0 : Int) < n := by omega
      have hglt : g < wr.heap.size := (Array.getElem?_eq_some_iff.1 hmat).1
      have hand := and_one64 n (by omega)
      by_cases hodd : n % 2 = 1
      · have o1 : (n : Int) % 2 = 1 := by omega
        have HE2 := Lib.hid ((half_odd k n x hodd).symm.trans HE.out)
        have hof := of_any hmat x hx
        have hx' := sts_lt k hx
        obtain ⟨y, hy⟩ : ∃ y, sts k x = y := ⟨_, rfl⟩
        rw [hy] at HE2 hof hx'
        have HOF := Lib.hid hof
        have HSQ := Lib.hid (fun m => squared_any (hmat.drewN m) hglt)
        have HMAT := Lib.hid hmat
        have HB := Lib.hid hb
        clear hof hmat hb HE hy
        go_wp2_with fail
        refine HOF.out.mono ?_
        rintro e w' ⟨rfl, n2, rfl⟩
        go_wp2_with fail
        refine (HSQ.out _).mono ?_
        rintro e w2 ⟨rfl, hb2⟩
        have hz : (0 : Nat) < 1 := by decide
        have h1 := HMAT.out.below (w' := w2) (below_undrewN hb2) hglt
        have hb02 := HB.out.trans ((below_undrewN hb2).mono HB.out.size)
        have hb3 := below_setRow hb02 hwg (colL (k + k) 32).toArray
        have h3 := alloc_at (W := w2.setRow g (colL (k + k) 32).toArray) (.cells (List.replicate 32 (Value.int .u32 0)).toArray 46) (size_setRow _ _ _)
        have hb4 := hb3.alloc hb3.size (.cells (List.replicate 32 (Value.int .u32 0)).toArray 46)
        have hsz2 := hb02.size
        have hb5 := below_setRow hb4 hsz2 (colL (k + k) 32).toArray
        have H1 := Lib.hid h1
        have H2 := Lib.hid (setRow_heap w2 g _ (colL (k + k) 32).toArray _ _ h1)
        have H3 := Lib.hid h3
        have HM4 := Lib.hid (setRow_heap _ w2.heap.size _ (colL (k + k) 32).toArray _ _ h3)
        have HB5 := Lib.hid hb5
        clear hb2 h1 hb02 hb3 h3 hb4 hb5 hz
        go_wp2_with (first
          | refine wpList_load_row rfl 46 (.tmp 5) rfl g rfl 46 (colL (k + k) 32).toArray (0, 0) _ H2.out Tryd.underlying46 rfl (by rw [colL_size]; exact matSize) ?_
          | refine wpList_store_row rfl 46 (.tmp 5) (.tmp 16) rfl g (colL (k + k) 32).toArray rfl rfl 46 _ H1.out (by rw [colL_size]; exact matSize) (by rw [colL_size, colL_size]) (colL_one _) ?_
          | refine wpList_store_row rfl 46 (.tmp 5) (.tmp 17) rfl w2.heap.size (colL (k + k) 32).toArray rfl rfl 46 _ H3.out (by rw [colL_size]; exact matSize) (by rw [colL_size]; rfl) (colL_one _) ?_)
        exact ⟨⟨y, n / 2, k + k, w2.heap.size, rfl, hx', by go_num, by omega, rfl, HM4.out, hsz2, HB5.out, HE2.out⟩, by simp only [intOf]; omega⟩
      · have o1 : (n : Int) % 2 = 0 := by omega
        have HE2 := Lib.hid ((half_even k n x (by omega)).symm.trans HE.out)
        have HSQ0 := Lib.hid (squared_any hmat hglt)
        have HMAT := Lib.hid hmat
        have HB := Lib.hid hb
        clear hmat hb HE
        go_wp2_with fail
        refine HSQ0.out.mono ?_
        rintro e w2 ⟨rfl, hb2⟩
        have hz : (0 : Nat) < 1 := by decide
        have h1 := HMAT.out.below (w' := w2) (hb2) hglt
        have hb02 := HB.out.trans ((hb2).mono HB.out.size)
        have hb3 := below_setRow hb02 hwg (colL (k + k) 32).toArray
        have h3 := alloc_at (W := w2.setRow g (colL (k + k) 32).toArray) (.cells (List.replicate 32 (Value.int .u32 0)).toArray 46) (size_setRow _ _ _)
        have hb4 := hb3.alloc hb3.size (.cells (List.replicate 32 (Value.int .u32 0)).toArray 46)
        have hsz2 := hb02.size
        have hb5 := below_setRow hb4 hsz2 (colL (k + k) 32).toArray
        have H1 := Lib.hid h1
        have H2 := Lib.hid (setRow_heap w2 g _ (colL (k + k) 32).toArray _ _ h1)
        have H3 := Lib.hid h3
        have HM4 := Lib.hid (setRow_heap _ w2.heap.size _ (colL (k + k) 32).toArray _ _ h3)
        have HB5 := Lib.hid hb5
        clear hb2 h1 hb02 hb3 h3 hb4 hb5 hz
        go_wp2_with (first
          | refine wpList_load_row rfl 46 (.tmp 5) rfl g rfl 46 (colL (k + k) 32).toArray (0, 0) _ H2.out Tryd.underlying46 rfl (by rw [colL_size]; exact matSize) ?_
          | refine wpList_store_row rfl 46 (.tmp 5) (.tmp 16) rfl g (colL (k + k) 32).toArray rfl rfl 46 _ H1.out (by rw [colL_size]; exact matSize) (by rw [colL_size, colL_size]) (colL_one _) ?_
          | refine wpList_store_row rfl 46 (.tmp 5) (.tmp 17) rfl w2.heap.size (colL (k + k) 32).toArray rfl rfl 46 _ H3.out (by rw [colL_size]; exact matSize) (by rw [colL_size]; rfl) (colL_one _) ?_)
        exact ⟨⟨x, n / 2, k + k, w2.heap.size, rfl, hx, by go_num, by omega, rfl, HM4.out, hsz2, HB5.out, HE2.out⟩, by simp only [intOf]; omega⟩

theorem afterZeros_of (v n0 : Nat) (N : Int) (hN : N = n0) (hv : v < 4294967296) (hn0 : n0 ≤ 9223372036854775807) {w : World} (ht : Tab w) (h0 : 0 < w.heap.size) :
    Calls Tryd.prog 22 #[.int .u32 v, .int .i64 N] w fun e w' => e = .returned (.int .u32 ((sts (8 * n0) v : Nat) : Int)) ∧ Below w.heap.size w w' := by
  subst hN
  exact afterZeros_any v n0 hv hn0 ht h0

set_option maxHeartbeats 400000 in
theorem combine_any (x y n : Nat) (N : Int) (hN : N = n) (hx : x < 4294967296) (hy : y < 4294967296) (hn : n ≤ 9223372036854775807) {w : World} (ht : Tab w) (h0 : 0 < w.heap.size) :
    Calls Tryd.prog 14 #[.int .u32 x, .int .u32 y, .int .i64 N] w fun e w' => e = .returned (.int .u32 ((comb x y n : Nat) : Int)) ∧ Below w.heap.size w w' := by
  subst hN
  have hz := afterZeros_any x n hx hn ht h0
  have hs := sts_lt (8 * n) hx
  have hc : comb x y n = sts (8 * n) x ^^^ y := rfl
  obtain ⟨s, hse⟩ : ∃ s, sts (8 * n) x = s := ⟨_, rfl⟩
  rw [hse] at hz hs hc
  have hxor : bits .xor .u32 (s : Int) (y : Int) = ((comb x y n : Nat) : Int) := by rw [hc]; exact xor32 rfl rfl hs hy
  obtain ⟨c, hce⟩ : ∃ c, comb x y n = c := ⟨_, rfl⟩
  rw [hce] at hxor ⊢
  have HZ := Lib.hid hz
  have hn0 : (0 : Int) ≤ n := by omega
  clear hz hc hse hce ht h0
  go_enter Tryd.func14, Tryd.ntmps14
  go_wp2_with fail
  refine HZ.out.mono ?_
  rintro e w' ⟨rfl, hb⟩
  have HB := Lib.hid hb
  clear hb
  go_wp2_with fail
  go_ret
  exact ⟨rfl, HB.out⟩
set_option maxHeartbeats 400000 in
theorem combine_neg (x y : Value) (n : Int) (hn : n < 0) (w : World) :
    Calls Tryd.prog 14 #[x, y, .int .i64 n] w fun e w' => e = .returned (.int .u32 0) ∧ w = w' := by
  go_enter Tryd.func14, Tryd.ntmps14
  go_wp2
  go_ret
  exact ⟨rfl, rfl⟩

theorem sts_one_more (k n x : Nat) (h : k < n) : sts (8 * (n - (k + 1))) (sts 8 x) = sts (8 * (n - k)) x := by
  rw [← sts_add]
  congr 1
  omega
set_option maxHeartbeats 400000 in
theorem refZeros_any (v n : Nat) (hv : v < 4294967296) (hn : n ≤ 3000) (w : World) :
    Calls Tryd.prog 15 #[.int .u32 v, .int .i64 n] w fun e w' => e = .returned (.int .u32 ((sts (8 * n) v : Nat) : Int)) ∧ w = w' := by
  go_enter Tryd.func15, Tryd.ntmps15
  go_wp2
  go_loop [0, 5] (fun v0 v5 => ∃ k x : Nat, k ≤ n ∧ v0 = .int .u32 x ∧ x < 4294967296 ∧ v5 = .int .i64 k ∧ Hid (sts (8 * (n - k)) x = sts (8 * n) v)) (fun _ v5 => n - (intOf v5).toNat)
  case atStart => exact ⟨0, v, Nat.zero_le _, rfl, hv, rfl, rfl⟩
  case round =>
    obtain ⟨k, x, hk, rfl, hx, rfl, HE⟩ := hrel
    by_cases hlt : k < n
    · have HE2 := Lib.hid ((sts_one_more k n x hlt).trans HE.out)
      have hst := step_any x hx w
      have hs := sts_lt 8 hx
      obtain ⟨y, hy⟩ : ∃ y, sts 8 x = y := ⟨_, rfl⟩
      rw [hy] at HE2 hst hs
      have HST := Lib.hid hst
      clear hst hy HE
      go_wp2_with fail
      refine HST.out.mono ?_
      rintro e w' ⟨rfl, rfl⟩
      go_wp2_with fail
      go_round
      case rel => exact ⟨k + 1, y, by omega, rfl, hs, by go_num, HE2⟩
      case measure => simp [intOf]; omega
    · have hkn : k = n := by omega
      subst hkn
      have HX : Hid (x = sts (8 * k) v) := Lib.hid (by have := HE.out; rw [Nat.sub_self] at this; exact this)
      clear HE
      go_wp2_with fail
      go_ret
      exact ⟨congrArg (fun z : Nat => Ending.returned (.int .u32 (z : Int))) HX.out, rfl⟩
end Go.Proofs.YtgclmiheahfakaaDoor
