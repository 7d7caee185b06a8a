/-
  WALKS over package corporaref02: Read, second part: Unary, Gamma, Delta.
-/
import Derived.Test.YtpkikfdbndaekaaBjE
namespace Go.Proofs.Ytpkikfdbndaekaa
open Go.RowKit Go.Shelf Go.Lib

set_option maxRecDepth 100000 in
set_option maxHeartbeats 1000000 in
theorem refRead_una {w : World} {v : Value} {l : List Bool} (hs : SeesC w w.heap.size v (boolCells l)) (hl : l.length ≤ 100000) (p : Nat) (hp : p ≤ l.length) (x n : Int) :
    Calls Try.prog 27 #[v, .int .i64 p, .agg #[.int .i64 1, .int .u64 x, .int .i64 n]] w (ReadPost w (runa l p)) := by
  have hb1 : Below w.heap.size w (w.alloc (.cells #[.int .i64 1, .int .u64 x, .int .i64 n] 40)) := (Below.refl _ w).alloc (Nat.le_refl _) _
  have hz := zeros_any (hs.below hb1) (by omega) p 4096 hp (by omega)
  have hru : runa l p = if (zr (l.drop p) 0 4096).2 ≠ 0 then (0, p, (zr (l.drop p) 0 4096).2) else ((zr (l.drop p) 0 4096).1, p + (zr (l.drop p) 0 4096).1 + 1, 0) := rfl
  have hv := zr_val (l.drop p) 0 4096 (by omega)
  obtain ⟨z, hzz⟩ : ∃ z, zr (l.drop p) 0 4096 = z := ⟨_, rfl⟩
  rw [hzz] at hz hru hv
  obtain ⟨k, er⟩ := z
  simp only at hru hv
  have HZ := Lib.hid hz
  have HRU := Lib.hid hru
  have HB := Lib.hid hb1
  have hp1 : p ≤ 100000 := by omega
  clear hz hru hzz hb1 hs
  by_cases he : er = 0
  · subst he
    have HF : Hid (ReadPost w (runa l p) (.returned (.tuple #[.int .u64 (k : Nat), .int .i64 ((p : Int) + (k : Int) + 1), .int .i64 0])) (w.alloc (.cells #[.int .i64 1, .int .u64 x, .int .i64 n] 40))) := by
      rw [HRU.out, if_neg (by simp)]
      refine ⟨?_, HB.out⟩
      unfold RV
      have : ((p + k + 1 : Nat) : Int) = (p : Int) + (k : Int) + 1 := by omega
      simp only [this]
      rfl
    go_enter Try.func27, Try.ntmps27
    go_wp2_with fail
    refine HZ.out.mono ?_
    rintro e w2 ⟨rfl, rfl⟩
    unfold zV
    go_wp2_with fail
    go_ret3
    exact HF.out
  · have he' : ((er : Int) != 0) = true := by simp; omega
    have HF : Hid (ReadPost w (runa l p) (.returned (.tuple #[.int .u64 0, .int .i64 p, .int .i64 (er : Nat)])) (w.alloc (.cells #[.int .i64 1, .int .u64 x, .int .i64 n] 40))) := by
      rw [HRU.out, if_pos he]
      exact ⟨rfl, HB.out⟩
    clear he
    go_enter Try.func27, Try.ntmps27
    go_wp2_with fail
    refine HZ.out.mono ?_
    rintro e w2 ⟨rfl, rfl⟩
    unfold zV
    go_wp2_with fail
    go_ret3
    exact HF.out

/-- What Gamma reads, from the zeros that stand there. -/
theorem rgam_case (l : List Bool) (p n er : Nat) (hz : zr (l.drop p) 0 63 = (n, er)) :
    (er ≠ 0 → rgam l p = (0, p, er)) ∧ (er = 0 → l.length - p < 2 * n + 1 → rgam l p = (0, p, 10)) ∧
    (er = 0 → ¬ l.length - p < 2 * n + 1 → p + 2 * n + 1 ≤ l.length ∧ rgam l p = (numL ((l.drop (p + n)).take (n + 1)), p + 2 * n + 1, 0)) := by
  have hat := zr_at l p 63
  unfold rgam
  rw [hz] at hat ⊢
  simp only at hat ⊢
  refine ⟨fun h => by rw [if_pos h], fun h h2 => ?_, fun h h2 => ?_⟩
  · obtain ⟨_, h3, _⟩ := hat h
    rw [if_neg (by omega), if_pos (by omega)]
  · obtain ⟨_, h3, h4⟩ := hat h
    refine ⟨by omega, ?_⟩
    rw [if_neg (by omega), if_neg (by omega), h4, numL_true _ _ (by rw [List.length_drop]; omega)]
    congr 2
    omega

set_option maxRecDepth 100000 in
set_option maxHeartbeats 2000000 in
theorem refRead_gam {w : World} {v : Value} {l : List Bool} (hs : SeesC w w.heap.size v (boolCells l)) (hl : l.length ≤ 100000) (p : Nat) (hp : p ≤ l.length) (k x n : Int) (h0 : k ≠ 0) (h1 : k ≠ 1) :
    Calls Try.prog 27 #[v, .int .i64 p, .agg #[.int .i64 k, .int .u64 x, .int .i64 n]] w (ReadPost w (if k = 2 then rgam l p else rdel l p)) := by
  obtain ⟨A, cap, hv, _, _⟩ := hs.form
  rw [boolCells_length] at hv
  obtain ⟨L, hL⟩ : ∃ L, l.length = L := ⟨_, rfl⟩
  have hb1 : Below w.heap.size w (w.alloc (.cells #[.int .i64 k, .int .u64 x, .int .i64 n] 40)) := (Below.refl _ w).alloc (Nat.le_refl _) _
  have hs1 := hs.below hb1
  have hz := zeros_any hs1 (by omega) p 63 hp (by omega)
  have hval := zr_val (l.drop p) 0 63 (by omega)
  have hcase := rgam_case l p
  have hpos := rgam_pos l p
  have hfit := rgam_fits l p
  have hrd : rdel l p = if (rgam l p).2.2 ≠ 0 then (0, p, (rgam l p).2.2)
      else (if 64 < (rgam l p).1 then (0, p, 9) else (if l.length - (rgam l p).2.1 < (rgam l p).1 - 1 then (0, p, 10)
        else (2 ^ ((rgam l p).1 - 1) + numL ((l.drop (rgam l p).2.1).take ((rgam l p).1 - 1)), (rgam l p).2.1 + ((rgam l p).1 - 1), 0))) := rfl
  obtain ⟨z, hzz⟩ : ∃ z, zr (l.drop p) 0 63 = z := ⟨_, rfl⟩
  rw [hzz] at hz hval
  obtain ⟨m, er⟩ := z
  simp only at hval
  obtain ⟨hc1, hc2, hc3⟩ := hcase m er hzz
  rw [hL] at hv hl hp hc2 hc3 hrd
  subst hv
  have hk0 : (k == 0) = false := by simp; exact h0
  have hk1 : (k == 1) = false := by simp; exact h1
  have HS := Lib.hid hs1
  have HB := Lib.hid hb1
  have HL := Lib.hid hL
  have HZ := Lib.hid hz
  have HRD := Lib.hid hrd
  have HPOS := Lib.hid hpos
  have HFIT := Lib.hid hfit
  clear hs hs1 hb1 hL hz hcase hrd hpos hfit hzz
  by_cases he : er = 0
  · subst he
    by_cases hlt : L - p < 2 * m + 1
    · have hg := hc2 rfl hlt
      have hres : (if k = 2 then rgam l p else rdel l p) = (0, p, 10) := by
        split
        · exact hg
        · rw [HRD.out, hg]
          rfl
      rw [hres]
      have HF : Hid (ReadPost w (0, p, 10) (.returned (.tuple #[.int .u64 0, .int .i64 p, .int .i64 10])) (w.alloc (.cells #[.int .i64 k, .int .u64 x, .int .i64 n] 40))) := ⟨rfl, HB.out⟩
      have hlt' : (L : Int) - (p : Int) < 2 * (m : Int) + 1 := by omega
      clear hres hg hc1 hc2 hc3 h0 h1
      go_enter Try.func27, Try.ntmps27
      go_wp2_with fail
      refine HZ.out.mono ?_
      rintro e w2 ⟨rfl, rfl⟩
      unfold zV
      go_wp2_with fail
      go_ret3
      exact HF.out
    · obtain ⟨hle, hg⟩ := hc3 rfl hlt
      have hge' : 2 * (m : Int) + 1 ≤ (L : Int) - (p : Int) := by omega
      obtain ⟨v', hsl, hsv⟩ := HS.out.to (p + m) (p + 2 * m + 1) (by omega) (by omega)
      rw [bools_mid] at hsv
      have hsub : p + 2 * m + 1 - (p + m) = m + 1 := by omega
      rw [hsub] at hsv
      have hnum := number_any hsv (by rw [List.length_take]; omega)
      have hpos2 := HPOS.out
      have hfit2 := HFIT.out
      rw [hg] at hpos2 hfit2
      simp only at hpos2 hfit2
      have hrd2 := HRD.out
      rw [hg] at hrd2
      simp only at hrd2
      rw [if_neg (by simp)] at hrd2
      have hpos3 := hpos2 trivial
      obtain ⟨N, hN⟩ : ∃ N, numL ((l.drop (p + m)).take (m + 1)) = N := ⟨_, rfl⟩
      rw [hN] at hnum hg hpos3 hfit2 hrd2
      have e1 : ((p + m : Nat) : Int) = (p : Int) + (m : Int) := by omega
      have e2 : ((p + 2 * m + 1 : Nat) : Int) = (p : Int) + 2 * (m : Int) + 1 := by omega
      rw [e1, e2] at hsl
      have HSL := Lib.hid hsl
      have HNUM := Lib.hid hnum
      have hslw := hsl (w.alloc (.cells #[.int .i64 k, .int .u64 x, .int .i64 n] 40))
      by_cases h2 : k = 2
      · rw [if_pos h2, hg]
        subst h2
        have HF : Hid (ReadPost w (N, p + 2 * m + 1, 0) (.returned (.tuple #[.int .u64 (N : Nat), .int .i64 ((p : Int) + 2 * (m : Int) + 1), .int .i64 0])) (w.alloc (.cells #[.int .i64 2, .int .u64 x, .int .i64 n] 40))) := by
          refine ⟨?_, HB.out⟩
          unfold RV
          simp only [e2]
          rfl
        clear hnum hsl hsv hpos2 hpos3 hrd2 hg hN e1 e2 hsub hc1 hc2 hc3 h0 h1
        go_enter Try.func27, Try.ntmps27
        go_wp2_with fail
        refine HZ.out.mono ?_
        rintro e w2 ⟨rfl, rfl⟩
        unfold zV
        go_wp2_with fail
        refine HNUM.out.mono ?_
        rintro e w2 ⟨rfl, rfl⟩
        go_wp2_with fail
        go_ret3
        exact HF.out
      · rw [if_neg h2, hrd2]
        have hk2 : (k == 2) = false := by simp; exact h2
        by_cases h64 : 64 < N
        · rw [if_pos h64]
          have h64' : (64 : Int) < (N : Int) := by omega
          have HF : Hid (ReadPost w (0, p, 9) (.returned (.tuple #[.int .u64 0, .int .i64 p, .int .i64 9])) (w.alloc (.cells #[.int .i64 k, .int .u64 x, .int .i64 n] 40))) := ⟨rfl, HB.out⟩
          clear hnum hsl hsv hpos2 hpos3 hrd2 hg hN e1 e2 hsub hc1 hc2 hc3 h0 h1 h2
          go_enter Try.func27, Try.ntmps27
          go_wp2_with fail
          refine HZ.out.mono ?_
          rintro e w2 ⟨rfl, rfl⟩
          unfold zV
          go_wp2_with fail
          refine HNUM.out.mono ?_
          rintro e w2 ⟨rfl, rfl⟩
          go_wp2_with fail
          go_ret3
          exact HF.out
        · rw [if_neg h64]
          obtain ⟨K, rfl⟩ : ∃ K, N = K + 1 := ⟨N - 1, by omega⟩
          rw [Nat.add_sub_cancel]
          have hK : K ≤ 63 := by omega
          have h64' : ((K + 1 : Nat) : Int) ≤ 64 := by omega
          have hkc : ((K + 1 : Nat) : Int) - 1 = (K : Int) := by omega
          by_cases hlt2 : L - (p + 2 * m + 1) < K
          · rw [if_pos hlt2]
            have hlt2' : (L : Int) - ((p : Int) + 2 * (m : Int) + 1) < (K : Int) := by omega
            have HF : Hid (ReadPost w (0, p, 10) (.returned (.tuple #[.int .u64 0, .int .i64 p, .int .i64 10])) (w.alloc (.cells #[.int .i64 k, .int .u64 x, .int .i64 n] 40))) := ⟨rfl, HB.out⟩
            clear hnum hsl hsv hpos2 hpos3 hrd2 hg hN e1 e2 hsub hc1 hc2 hc3 h0 h1 h2
            go_enter Try.func27, Try.ntmps27
            go_wp2_with fail
            refine HZ.out.mono ?_
            rintro e w2 ⟨rfl, rfl⟩
            unfold zV
            go_wp2_with fail
            refine HNUM.out.mono ?_
            rintro e w2 ⟨rfl, rfl⟩
            go_wp2_with fail
            go_ret3
            exact HF.out
          · rw [if_neg hlt2]
            have hge2' : (K : Int) ≤ (L : Int) - ((p : Int) + 2 * (m : Int) + 1) := by omega
            obtain ⟨v2, hsl2, hsv2⟩ := HS.out.to (p + 2 * m + 1) (p + 2 * m + 1 + K) (by omega) (by omega)
            rw [bools_mid, Nat.add_sub_cancel_left] at hsv2
            have hnum2 := number_any hsv2 (by rw [List.length_take]; omega)
            have hlo := take_num_lt l (p + 2 * m + 1) K
            obtain ⟨M, hM⟩ : ∃ M, numL ((l.drop (p + 2 * m + 1)).take K) = M := ⟨_, rfl⟩
            rw [hM] at hnum2 hlo ⊢
            have hor := top_or K M hK hlo
            have e3 : ((p + 2 * m + 1 + K : Nat) : Int) = (p : Int) + 2 * (m : Int) + 1 + (K : Int) := by omega
            rw [e2, e3] at hsl2
            have hslw2 := hsl2 (w.alloc (.cells #[.int .i64 k, .int .u64 x, .int .i64 n] 40))
            have HNUM2 := Lib.hid hnum2
            have HF : Hid (ReadPost w (2 ^ K + M, p + 2 * m + 1 + K, 0) (.returned (.tuple #[.int .u64 (bits .or .u64 (IntKind.u64.wrap (2 ^ K)) (M : Int)), .int .i64 ((p : Int) + 2 * (m : Int) + 1 + (K : Int)), .int .i64 0])) (w.alloc (.cells #[.int .i64 k, .int .u64 x, .int .i64 n] 40))) := by
              refine ⟨?_, HB.out⟩
              unfold RV
              simp only [e3]
              rw [hor]
              rfl
            have hK0 : (0 : Int) ≤ (K : Int) := by omega
            clear hnum hsl hsv hpos2 hpos3 hrd2 hg hN e1 e2 e3 hsub hc1 hc2 hc3 h0 h1 h2 hsl2 hsv2 hnum2 hM hor hlo
            go_enter Try.func27, Try.ntmps27
            go_wp2_with fail
            refine HZ.out.mono ?_
            rintro e w2 ⟨rfl, rfl⟩
            unfold zV
            go_wp2_with fail
            refine HNUM.out.mono ?_
            rintro e w2 ⟨rfl, rfl⟩
            go_wp2_with fail
            refine HNUM2.out.mono ?_
            rintro e w2 ⟨rfl, rfl⟩
            go_wp2_with fail
            go_ret3
            exact HF.out
  · have hg := hc1 he
    have he' : ((er : Int) != 0) = true := by simp; omega
    have he2 : ((er : Int) == 0) = false := by simp; omega
    have hres : (if k = 2 then rgam l p else rdel l p) = (0, p, er) := by
      split
      · exact hg
      · rw [HRD.out, hg]
        show (if er ≠ 0 then (0, p, er) else _) = _
        rw [if_pos he]
    rw [hres]
    have HF : Hid (ReadPost w (0, p, er) (.returned (.tuple #[.int .u64 0, .int .i64 p, .int .i64 (er : Nat)])) (w.alloc (.cells #[.int .i64 k, .int .u64 x, .int .i64 n] 40))) := ⟨rfl, HB.out⟩
    clear hres hg hc1 hc2 hc3 h0 h1 he
    go_enter Try.func27, Try.ntmps27
    go_wp2_with fail
    refine HZ.out.mono ?_
    rintro e w2 ⟨rfl, rfl⟩
    unfold zV
    go_wp2_with fail
    go_ret3
    exact HF.out

/-- The reference's Read. -/
theorem refRead_any {w : World} {v : Value} {l : List Bool} (hs : SeesC w w.heap.size v (boolCells l)) (hl : l.length ≤ 100000) (p : Nat) (hp : p ≤ l.length) (c : CallL) (hc : okCall c) :
    Calls Try.prog 27 #[v, .int .i64 p, callV c] w (ReadPost w (rd l p c)) := by
  obtain ⟨k, x, n⟩ := c
  obtain ⟨hk1, hk2, hx, hn1, hn2⟩ := hc
  simp only at hk1 hk2 hx hn1 hn2
  unfold callV rd
  simp only
  by_cases h0 : k = 0
  · subst h0
    rw [if_pos rfl]
    exact refRead_bits hs hl p hp x n hn1 hn2
  · rw [if_neg h0]
    by_cases h1 : k = 1
    · subst h1
      rw [if_pos rfl]
      exact refRead_una hs hl p hp x n
    · rw [if_neg h1]
      exact refRead_gam hs hl p hp k x n h0 h1
end Go.Proofs.Ytpkikfdbndaekaa
