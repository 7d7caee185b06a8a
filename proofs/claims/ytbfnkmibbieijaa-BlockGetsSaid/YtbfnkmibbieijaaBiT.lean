/-
  WALKS over package corporaref02: Pack.
-/
import Derived.Test.YtbfnkmibbieijaaBiS
namespace Go.Proofs.Ytbfnkmibbieijaa
open Go.RowKit Go.Shelf Go.Lib


/-- The bytes when the first k bits have been laid. -/
def rowP (l : List Bool) (k : Nat) : List UInt8 := (List.range ((l.length + 7) / 8)).map fun j => UInt8.ofNat (byteAt (l.take k) j)
theorem rowP_len (l : List Bool) (k : Nat) : (rowP l k).length = (l.length + 7) / 8 := by simp [rowP]
theorem byteAt_far (l : List Bool) (k : Nat) (h : l.length ≤ 8 * k) : byteAt l k = 0 := by
  unfold byteAt
  rw [getD_far _ _ (by omega), getD_far _ _ (by omega), getD_far _ _ (by omega), getD_far _ _ (by omega), getD_far _ _ (by omega), getD_far _ _ (by omega), getD_far _ _ (by omega), getD_far _ _ (by omega)]
  rfl
theorem rowP_zero (l : List Bool) : rowP l 0 = List.replicate ((l.length + 7) / 8) 0 := by
  unfold rowP
  apply List.ext_getElem?
  intro i
  by_cases h : i < (l.length + 7) / 8
  · simp [h, byteAt_far]
  · simp [h]
theorem rowP_all (l : List Bool) : rowP l l.length = pack l := by
  unfold rowP pack
  rw [List.take_length]
theorem rowP_at (l : List Bool) (k : Nat) (h : k < l.length) : (rowP l k)[k / 8]? = some (UInt8.ofNat (byteAt (l.take k) (k / 8))) := by
  have : k / 8 < (l.length + 7) / 8 := by omega
  simp [rowP, this]
theorem rowP_succ (l : List Bool) (k : Nat) (h : k < l.length) : rowP l (k + 1) = (rowP l k).set (k / 8) (UInt8.ofNat (byteAt (l.take k) (k / 8) + (l[k]).toNat * 2 ^ (7 - k % 8))) := by
  have htk : l.take (k + 1) = l.take k ++ [l[k]] := List.take_succ_eq_append_getElem h
  have hl : (l.take k).length = k := by rw [List.length_take]; omega
  apply List.ext_getElem?
  intro i
  have hn := (byteAt_new (l.take k) l[k]).1
  rw [hl] at hn
  by_cases hi : i < (l.length + 7) / 8
  · by_cases h1 : i < k / 8
    · rw [List.getElem?_set_ne (by omega)]
      simp only [rowP, List.getElem?_map, List.getElem?_range hi, Option.map_some, htk]
      rw [byteAt_old _ _ _ (by rw [hl]; exact h1)]
    · by_cases h2 : i = k / 8
      · subst h2
        rw [List.getElem?_set_self (by rw [rowP_len]; exact hi)]
        simp only [rowP, List.getElem?_map, List.getElem?_range hi, Option.map_some, htk, hn]
      · rw [List.getElem?_set_ne (by omega)]
        simp only [rowP, List.getElem?_map, List.getElem?_range hi, Option.map_some, htk]
        rw [byteAt_far _ _ (by rw [List.length_append, hl, List.length_singleton]; omega), byteAt_far _ _ (by rw [hl]; omega)]
  · rw [List.getElem?_eq_none (by rw [rowP_len]; omega), List.getElem?_eq_none (by rw [List.length_set, rowP_len]; omega)]
theorem rowP_same (l : List Bool) (k : Nat) (h : k < l.length) (hf : l[k] = false) : rowP l (k + 1) = rowP l k := by
  rw [rowP_succ l k h, hf]
  apply List.ext_getElem?
  intro i
  by_cases h2 : i = k / 8
  · subst h2
    rw [List.getElem?_set_self (by rw [rowP_len]; omega), rowP_at l k h]
    simp
  · rw [List.getElem?_set_ne (by omega)]
theorem set_bit (y r : Nat) (hr : r < 8) (hy : y < 256) (h0 : y % 2 ^ (8 - r) = 0) : bits .or .u8 (y : Int) (128 / 2 ^ r) = ((y + 1 * 2 ^ (7 - r) : Nat) : Int) := by
  have e : (128 : Int) / 2 ^ r = ((2 ^ (7 - r) : Nat) : Int) := by
    match r, hr with
    | 0, _ => rfl
    | 1, _ => rfl
    | 2, _ => rfl
    | 3, _ => rfl
    | 4, _ => rfl
    | 5, _ => rfl
    | 6, _ => rfl
    | 7, _ => rfl
  have hp : 2 ^ (7 - r) ≤ 2 ^ 7 := Nat.pow_le_pow_right (by decide) (by omega)
  have h128 : (2 : Nat) ^ 7 = 128 := by decide
  have hpos : 0 < 2 ^ (7 - r) := Nat.pow_pos (by decide)
  have e2 : 2 ^ (8 - r) = 2 ^ (7 - r) * 2 := by rw [← Nat.pow_succ]; congr 1; omega
  rw [e, u8_or_nat _ _ hy (by omega), or_add y (2 ^ (7 - r)) (8 - r) _ rfl h0 (by omega), Nat.one_mul]

/-- Between two rounds of Pack. -/
def KRel (l : List Bool) (w : World) (i : Value) (wr : World) : Prop :=
  ∃ k : Nat, k ≤ l.length ∧ i = .int .i64 k ∧ wr.heap[w.heap.size]? = some (.cells (byteCells (rowP l k)).toArray 5 (0, 0)) ∧ Below w.heap.size w wr

set_option maxRecDepth 100000 in
set_option maxHeartbeats 1000000 in
theorem pack_any {w : World} {v : Value} {l : List Bool} (hs : SeesC w w.heap.size v (boolCells l)) (hl : l.length ≤ 1000000) :
    Calls Try.prog 43 #[v] w fun e w' => ∃ v', e = .returned v' ∧ w'.ownsRow w.heap.size 5 1 v' (pack l).length (byteCells (pack l)) ∧ Below w.heap.size w w' := by
  obtain ⟨A, cap, hv, _, hpos⟩ := hs.form
  rw [boolCells_length] at hv hpos
  obtain ⟨L, hL⟩ : ∃ L, l.length = L := ⟨_, rfl⟩
  obtain ⟨q, hq⟩ : ∃ q, (L + 7) / 8 = q := ⟨_, rfl⟩
  have hrl := rowP_len l
  have hz := rowP_zero l
  have hpl := pack_len l
  rw [hL] at hv hpos hl hz hpl
  simp only [hL] at hrl
  rw [hq] at hz hpl
  simp only [hq] at hrl
  subst hv
  obtain ⟨i0, hi, hz0, hz1, hz2⟩ := info_parts' Try.infoByte
  have hmk : (Instr.makeSlice 23 (.int .i64 q) (.int .i64 q)).run Try.prog w = .ok (.slice (some ⟨w.heap.size, 0, none⟩) q q) (w.alloc (.cells (byteCells (rowP l 0)).toArray 5)) := by
    have := run_make (P := Try.prog) w 23 5 i0 _ Try.underlying23 hi hz0 .i64 .i64 q q (by omega) (by omega) (by rw [hz2]; omega) (by omega)
    have hz3 : (Value.int .u8 0).cells = #[Value.int .u8 0] := rfl
    rw [hz1, hz3, Int.toNat_natCast, Nat.mul_one, madeCells_bytes, ← hz] at this
    exact this
  obtain ⟨Z, hZ⟩ : ∃ Z, (byteCells (rowP l 0)).toArray = Z := ⟨_, rfl⟩
  rw [hZ] at hmk
  have hqe : ((L : Int) + 7) / 8 = (q : Int) := by omega
  have HL := Lib.hid hL
  have HQ := Lib.hid hq
  have HR := Lib.hid hrl
  have HP := Lib.hid hpos
  have HZ := Lib.hid hZ
  have HPL := Lib.hid hpl
  have hq1 : q ≤ 125001 := by omega
  clear hL hq hrl hz hpl hpos hZ hs
  go_enter Try.func43, Try.ntmps43
  go_wp2
  go_loopw [13] (fun i wr => KRel l w i wr) (fun i _ => L - (intOf i).toNat)
  case atStart => exact ⟨0, Nat.zero_le _, rfl, by rw [HZ.out]; exact block_new w _, (Below.refl _ w).alloc (Nat.le_refl _) _⟩
  case round =>
    obtain ⟨k, hk, rfl, hrow, hb⟩ := hrel
    rw [HL.out] at hk
    by_cases hlt : k < L
    · have hkl : k < l.length := by rw [HL.out]; exact hlt
      obtain ⟨b, off, rfl, hbB, hcell⟩ := HP.out (by omega)
      have hc : w.cell? ⟨b, off + k, none⟩ = some (.bool l[k]) := hcell k _ (by simp [boolCells, hkl])
      have hc2 := (hb.cell (p := ⟨b, off + k, none⟩) hbB).trans hc
      have hsame := rowP_same l k hkl
      have hsucc := rowP_succ l k hkl
      have hat := rowP_at l k hkl
      obtain ⟨x, hx⟩ : ∃ x, l[k] = x := ⟨_, rfl⟩
      rw [hx] at hc2 hsame hsucc
      clear hx hc hcell
      cases x with
      | false =>
        have hrow2 := hrow
        rw [← hsame rfl] at hrow2
        have HR2 := Lib.hid hrow2
        have HB := Lib.hid hb
        clear hrow hrow2 hb hsame hsucc hat
        go_wp2
        go_roundw
        case rel => exact ⟨k + 1, by rw [HL.out]; omega, by go_num, HR2.out, HB.out⟩
        case measure => simp [intOf]; omega
      | true =>
        obtain ⟨j, hj⟩ : ∃ j, k / 8 = j := ⟨_, rfl⟩
        obtain ⟨r, hr⟩ : ∃ r, k % 8 = r := ⟨_, rfl⟩
        obtain ⟨y, hy⟩ : ∃ y, byteAt (l.take k) j = y := ⟨_, rfl⟩
        have hy256 : y < 256 := by rw [← hy]; exact byteAt_lt _ _
        have hy0 := (byteAt_new (l.take k) true).2
        have hlk : (l.take k).length = k := by rw [List.length_take]; omega
        rw [hlk, hj, hr, hy] at hy0
        rw [hj, hy] at hat
        rw [hj, hr, hy, Bool.toNat_true] at hsucc
        have hr8 : r < 8 := by omega
        have hor := set_bit y r hr8 hy256 hy0
        have hjq : j < q := by have := HQ.out; omega
        have hjc : (byteCells (rowP l k)).toArray[j]? = some (.int .u8 (y : Int)) := by
          rw [List.getElem?_toArray, byteCells, List.getElem?_map, hat]
          simp only [Option.map_some]
          rw [toNat_of _ hy256]
        have k1 := cell_of (i := j) hrow hjc
        have k2 := frozen_of (i := j) hrow
        have hset := set_of hrow (i := j) (.int .u8 ((y + 1 * 2 ^ (7 - r) : Nat) : Int))
        have e : ((byteCells (rowP l k)).toArray.setIfInBounds j (.int .u8 ((y + 1 * 2 ^ (7 - r) : Nat) : Int))) = (byteCells (rowP l (k + 1))).toArray := by
          have hlt256 : y + 1 * 2 ^ (7 - r) < 256 := by
            have hb1 := byteAt_lt (l.take k ++ [true]) j
            have hb2 := (byteAt_new (l.take k) true).1
            rw [hlk, hj, hr, hy, Bool.toNat_true] at hb2
            rw [hb2] at hb1
            exact hb1
          rw [hsucc, List.setIfInBounds_toArray]
          congr 1
          unfold byteCells
          rw [List.map_set, toNat_of _ hlt256]
        rw [e] at hset
        have hje : (k : Int) / 8 = (j : Int) := by omega
        have hre : (k : Int) % 8 = (r : Int) := by omega
        have hr0 : (0 : Int) ≤ (r : Int) := by omega
        have hb2 := hb.setCell (p := ⟨w.heap.size, j, none⟩) (Nat.le_refl _) (.int .u8 ((y + 1 * 2 ^ (7 - r) : Nat) : Int))
        obtain ⟨E, hE⟩ : ∃ E, ((y + 1 * 2 ^ (7 - r) : Nat) : Int) = E := ⟨_, rfl⟩
        rw [hE] at hset hb2 hor
        have HSET := Lib.hid hset
        have HB2 := Lib.hid hb2
        clear hrow hb hsame hsucc hat hj hr hy hy0 hlk hjc hset e hb2 hE
        go_wp2
        go_roundw
        case rel => exact ⟨k + 1, by rw [HL.out]; omega, by go_num, HSET.out, HB2.out⟩
        case measure => simp [intOf]; omega
    · have hkL : k = L := by omega
      subst hkL
      have hrow2 := hrow
      have hall := rowP_all l
      rw [HL.out] at hall
      rw [hall] at hrow2
      have HR2 := Lib.hid hrow2
      have HB := Lib.hid hb
      clear hrow hrow2 hb hall hk
      go_wp2
      go_ret
      refine ⟨_, rfl, ?_, HB.out⟩
      rw [HPL.out]
      exact ⟨by rw [byteCells_length, HPL.out, Nat.mul_one], .inr ⟨w.heap.size, q, _, rfl, Nat.le_refl _, HR2.out, Nat.le_refl _, by unfold maxLen; omega, by rw [List.size_toArray, byteCells_length, HPL.out, Nat.mul_one], by
        show (byteCells (pack l)).take (q * 1) = _
        rw [List.take_of_length_le (by rw [byteCells_length, HPL.out]; omega)]⟩⟩
end Go.Proofs.Ytbfnkmibbieijaa
