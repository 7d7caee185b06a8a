/-
  HuffmanRoundTrips is proved: for every list of numbers and every number the call of the law returns true, and each argument reads afterwards as it read before. It has no condition.
-/
import Derived.Test.YtghfehjkhkjgfaaRows
import Derived.Test.YtghfehjkhkjgfaaHoO
import Derived.Test.YtghfehjkhkjgfaaHuV
import Derived.Test.YtghfehjkhkjgfaaHzA
import Derived.ProofKit
import Derived.OpenShut
import Derived.Carry
namespace Go.Proofs.Ytghfehjkhkjgfaa.huffmanRoundTrips
open Go.ChangeShapes Go.WideShapes Go.ChangeAt Go.RowKit Go.Shelf Go.Lib
set_option linter.unusedVariables false

theorem wrap_idM {a : Nat} (ha : a ≤ 1000000) : wrap64 (a : Int) = (a : Int) := by unfold wrap64; omega
/-- Between two symbols that are counted. -/
structure RtAt (w : World) (D : Nat) (ss : List Int) (i : Nat) (wr : World) : Prop where
  b : Below D w wr
  d : wr.heap[D]? = some (.cells (intRow (cntL (natLs (ss.take i)))) 3 (0, 0))
  g : ∀ x ∈ ss.take i, 0 ≤ x ∧ x < 32
theorem cast_nat {ss : List Int} (h : ∀ x ∈ ss, 0 ≤ x ∧ x < 32) : castN' (natLs ss) = ss := nat_cast fun c hc => (h c hc).1
set_option maxRecDepth 100000 in
set_option maxHeartbeats 8000000 in
theorem walk {w : World} (v : Value) (ss : List Int) (hv : Rows 1 EInt w v ss) (hm : ss.length ≤ maxLen) (_ : ∀ x ∈ ss, -9223372036854775808 ≤ x ∧ x ≤ 9223372036854775807)
    (lim : Int) (hl0 : -9223372036854775808 ≤ lim) (hl1 : lim ≤ 9223372036854775807) :
    Calls Try.prog 10 #[v, .int .i64 lim] w fun e w1 => e = .returned (.bool true) ∧ Below w.heap.size w w1 := by
  have HV := Lib.hid (fun W (hb : Below w.heap.size w W) => hv.below stays_int hb)
  have HA := Lib.hid (fun (W : World) => awake_any W)
  obtain ⟨A, cap, rfl, hc⟩ := hv.form
  obtain ⟨n, hn⟩ : ∃ n, ss.length = n := ⟨_, rfl⟩
  rw [hn] at HV hm ⊢
  have HN := Lib.hid hn
  unfold maxLen at hm
  clear hv hc hn
  obtain ⟨i1, hi1, hy0, hy1, hy2⟩ := info_parts' Try.infoInt2
  obtain ⟨Z, hZ⟩ : ∃ Z, List.replicate 32 (0 : Int) = Z := ⟨_, rfl⟩
  have hmk : ∀ W : World, (Instr.makeSlice 22 (.int .i64 32) (.int .i64 32)).run Try.prog W = .ok (.slice (some ⟨W.heap.size, 0, none⟩) 32 32) (W.alloc (.cells (intRow Z) 3)) := fun W => by
    have := run_make (P := Try.prog) W 22 3 i1 _ Try.underlying22 hi1 hy0 .i64 .i64 32 32 (by omega) (by omega) (by rw [hy2]; omega) (by omega)
    rw [hy1] at this
    rw [← hZ, ← made_int]
    exact this
  go_enter Try.func10, Try.ntmps10
  by_cases hbig : 100 < n
  · have hI : (100 : Int) < (n : Int) := by omega
    go_wp2_with fail
    go_ret
    exact ⟨rfl, Below.refl _ _⟩
  · have hI : ¬ (100 : Int) < (n : Int) := by omega
    by_cases h5 : lim < 5
    · go_wp2_with fail
      go_ret
      exact ⟨rfl, Below.refl _ _⟩
    · by_cases h15 : 15 < lim
      · go_wp2_with fail
        go_ret
        exact ⟨rfl, Below.refl _ _⟩
      · obtain ⟨l, rfl⟩ : ∃ l : Nat, lim = l := ⟨lim.toNat, by omega⟩
        have HL5 := Lib.hid (show 5 ≤ l ∧ l ≤ 15 by omega)
        have HN1 := Lib.hid (show n ≤ 100 by omega)
        obtain ⟨D, hD⟩ : ∃ D, w.heap.size = D := ⟨_, rfl⟩
        obtain ⟨X, hX⟩ : ∃ X, w.alloc (.cells (intRow Z) 3) = X := ⟨_, rfl⟩
        have HST0 : Hid (RtAt w D ss 0 X) := Lib.hid ⟨by rw [← hX, ← hD]; exact below_box _ _, by rw [← hX, ← hD, show natLs (ss.take 0) = [] from rfl, cnt_zero, hZ]; exact block_new _ _, fun x hx => by simp at hx⟩
        have HX := Lib.hid hX
        have HD := Lib.hid hD
        rw [hD] at HV
        clear hX hbig hm hZ hD
        go_wp2_with fail
        rw [HX.out, HD.out]
        clear hmk HX
        go_loopw [32] (fun sv wr => ∃ i : Nat, i ≤ n ∧ sv = .int .i64 i ∧ Hid (RtAt w D ss i wr)) (fun sv _ => n - (Go.RowKit.intOf sv).toNat)
        case atStart => exact ⟨0, Nat.zero_le _, rfl, HST0⟩
        case round =>
          clear HST0
          obtain ⟨i, hi, rfl, HS⟩ := hrel
          by_cases hlt : i < n
          · have hlti : (i : Int) < (n : Int) := by omega
            obtain ⟨x, hx⟩ : ∃ x, ss[i]? = some x := ⟨_, List.getElem?_eq_getElem (by rw [HN.out]; exact hlt)⟩
            obtain ⟨b, o, rfl, -, hj⟩ := at_int (HV.out wr HS.out.b) (by rw [HN.out]; omega)
            have u0 := hj i x hx
            have hbw := HS.out.b
            have HBW := Lib.hid (show Below w.heap.size w wr by rw [HD.out]; exact hbw)
            by_cases d1 : x < 0
            · have b1 : decide (x < 0) = true := decide_eq_true d1
              clear hj hx HS hbw d1
              go_wp2_with fail
              go_ret
              exact ⟨rfl, HBW.out⟩
            · have b1 : decide (x < 0) = false := decide_eq_false d1
              by_cases d2 : 32 ≤ x
              · have b2 : decide (x ≥ 32) = true := decide_eq_true d2
                clear hj hx HS hbw
                go_wp2_with fail
                go_ret
                exact ⟨rfl, HBW.out⟩
              · have b2 : decide (x ≥ 32) = false := decide_eq_false d2
                obtain ⟨s, rfl⟩ : ∃ s : Nat, x = s := ⟨x.toNat, by omega⟩
                have hs32 : s < 32 := by omega
                have hs32i : (s : Int) < 32 := by omega
                have d0 := cell_of HS.out.d (rowI_at (cnt_at (natLs (ss.take i)) hs32))
                have f0 : wr.frozen? ⟨D, s, none⟩ = false := frozen_of HS.out.d
                have hcb := List.count_le_length (a := s) (l := natLs (ss.take i))
                have hcl : (natLs (ss.take i)).length ≤ 100 := by unfold natLs; rw [List.length_map, List.length_take, HN.out]; have := HN1.out; omega
                obtain ⟨c, hc⟩ : ∃ c, (natLs (ss.take i)).count s = c := ⟨_, rfl⟩
                obtain ⟨c2, hc2⟩ : ∃ c2, c + 1 = c2 := ⟨_, rfl⟩
                rw [hc] at d0 hcb
                have n1 : wrap64 ((c : Int) + 1) = (c2 : Int) := by unfold wrap64; omega
                have HNX : Hid (RtAt w D ss (i + 1) (wr.setCell ⟨D, s, none⟩ (.int .i64 (c2 : Int)))) := Lib.hid ⟨HS.out.b.setCell (p := ⟨D, s, none⟩) (Nat.le_refl _) _, by
                  have h1 := cnt_step (natLs (ss.take i)) hs32
                  rw [hc, hc2] at h1
                  rw [natLs_step hx, Int.toNat_natCast, ← h1, ← intRow_set]; exact set_of HS.out.d _, fun y hy => by
                  rw [List.take_add_one, hx] at hy
                  rcases List.mem_append.1 hy with hy | hy
                  · exact HS.out.g y hy
                  · have : y = (s : Int) := by simpa using hy
                    omega⟩
                clear hj hx HS hbw hcb hcl hc hc2 d1 d2 HBW
                go_wp2_with fail
                exact ⟨⟨i + 1, by omega, by go_num, HNX⟩, by simp only [Go.RowKit.intOf]; omega⟩
          · obtain rfl : i = n := by omega
            have hlti : ¬ (i : Int) < (i : Int) := by omega
            have hdd := HS.out.d
            have hgg := HS.out.g
            rw [List.take_of_length_le (by rw [HN.out]; exact Nat.le_refl _)] at hdd hgg
            obtain ⟨S, hS⟩ : ∃ S, natLs ss = S := ⟨_, rfl⟩
            have hcast := cast_nat hgg
            rw [hS] at hdd hcast
            have hSl : S.length = i := by rw [← hS]; unfold natLs; rw [List.length_map, HN.out]
            have hSb : ∀ s ∈ S, s < 32 := fun s hs => by
              rw [← hS] at hs
              unfold natLs at hs
              obtain ⟨x, hx, rfl⟩ := List.mem_map.1 hs
              have := hgg x hx
              omega
            have hchk : chkH (cntL S) (l : Int) = 0 := chk_cnt (by have := HN1.out; omega) HL5.out.1 HL5.out.2
            obtain ⟨H, hH⟩ : ∃ H, hufLs (cntL S) l = H := ⟨_, rfl⟩
            have hHl : H.length = 32 := by rw [← hH, hufLs_len, cntL_len]
            have hokH : okLH H := by rw [← hH]; exact okLH_huf hchk
            have hsym : ∀ s ∈ S, okSym (natLs H) s := fun s hs => by
              obtain ⟨c, h1, h2⟩ := cntL_pos hSb s hs
              rw [← hH]; exact huf_sym hchk h1 h2
            have henc : encE H ss = 0 := by rw [← hcast, ← hH]; exact enc_zero hchk (cntL_pos hSb) (by have := HN1.out; omega)
            obtain ⟨Bt, hBt⟩ : ∃ Bt, encB (natLs H) S = Bt := ⟨_, rfl⟩
            have hbtl : Bt.length ≤ 1500 := by
              rw [← hBt]
              have := encB_len hokH.lens S
              have := HN1.out
              omega
            obtain ⟨P, hP⟩ : ∃ P, pack Bt = P := ⟨_, rfl⟩
            obtain ⟨q, hq⟩ : ∃ q, Bt.length = q := ⟨_, rfl⟩
            have hPl : P.length = (q + 7) / 8 := by rw [← hP, pack_len, hq]
            have hdec := dec_round hokH hsym (by have := HN1.out; omega) hBt
            rw [hP, hq, hSl] at hdec
            have hcost := enc_cost (L := natLs H) hSb
            rw [hBt, hq] at hcost
            rw [hq] at hbtl
            have hrc : Rows 1 EInt wr (.slice (some ⟨D, 0, none⟩) 32 32) (cntL S) := rows_int (cntL_len S) (Nat.le_refl _) hdd
            have HLC := Lib.hid (lengths_ok hrc (by rw [cntL_len]; unfold maxLen; omega) (l : Int) hl0 hl1 hchk (l := H) (by rw [Int.toNat_natCast]; exact hH))
            have HEC := Lib.hid (fun (W : World) (u : Value) (hu : Rows 1 EInt W u H) (hb : Below D w W) => encode_ok hu (by rw [hHl]; unfold maxLen; omega) (HV.out W hb) (by rw [HN.out]; unfold maxLen; have := HN1.out; omega) henc (by rw [hS]; exact hBt) hP hq)
            have HDC := Lib.hid (fun (W : World) (u t : Value) (hu : Rows 1 EInt W u H) (ht : Sees W W.heap.size t P) => by
              have h := decode_any hu (by rw [hHl]; unfold maxLen; omega) ht (by rw [hPl]; omega) (q : Int) (i : Int) (by omega) (by have := HN1.out; omega) (by omega) (by have := HN1.out; omega)
              rw [hdec] at h
              exact h)
            have HSI := Lib.hid (fun (W : World) (u : Value) (hu : Rows 1 EInt W u ss) (hb : Below D w W) => sameInts_any hu (HV.out W hb) (by rw [HN.out]; unfold maxLen; have := HN1.out; omega) (by rw [HN.out]; unfold maxLen; have := HN1.out; omega))
            have HCC := Lib.hid hcost
            have HHL := Lib.hid hHl
            have HPL := Lib.hid hPl
            have HBT := Lib.hid hbtl
            have HCAST := Lib.hid hcast
            have HHD := Lib.hid hdd
            have HOKH := Lib.hid hokH
            have HSL := Lib.hid hSl
            have HB0 := Lib.hid HS.out.b
            clear HS hdd hgg hS hcast hSl hSb hchk hH hHl hokH hsym henc hBt hbtl hP hq hPl hdec hcost hrc
            go_wp2_with fail
            refine HLC.out.mono ?_
            rintro e w2 ⟨v1, rfl, hr1, hb2⟩
            obtain ⟨A1, c1, rfl, -⟩ := hr1.form
            have hDr : D ≤ wr.heap.size := by have := HB0.out.size; rw [HD.out] at this; exact this
            have hb02 : Below D w w2 := HB0.out.trans (hb2.mono hDr)
            have hD2 : D ≤ w2.heap.size := Nat.le_trans hDr hb2.size
            rw [HHL.out]
            have HE2 := Lib.hid (HEC.out w2 _ hr1 hb02)
            have HR1 := Lib.hid (fun W (hb : Below w2.heap.size w2 W) => hr1.below stays_int hb)
            have HB2 := Lib.hid (And.intro hb02 (And.intro hD2 hb2))
            rw [HHL.out] at HE2 HR1
            clear hr1 hb02 hb2 hD2 hDr HEC HLC
            go_wp2_with fail
            refine HE2.out.mono ?_
            rintro e w3 ⟨v3, rfl, hs3, hb3⟩
            have HD3 := Lib.hid (HDC.out w3 _ _ (HR1.out w3 hb3) hs3)
            obtain ⟨A3, c3, rfl, -⟩ := hs3.form
            obtain ⟨r, hr⟩ : ∃ r, (q + 7) / 8 = r := ⟨_, rfl⟩
            rw [HPL.out, hr] at HD3 ⊢
            have HB3 := Lib.hid hb3
            have HRR := Lib.hid hr
            clear hs3 hb3 HE2 HDC hr
            go_wp2_with fail
            refine HD3.out.mono ?_
            rintro e w4 ⟨hb4, v4, he, hr4⟩
            have he' : e = .returned (.tuple #[v4, .int .i64 0]) := he
            subst he'
            rw [show castN' (S, 0).1 = ss from HCAST.out] at hr4
            have hb24 : Below w2.heap.size w2 w4 := HB3.out.trans (hb4.mono HB3.out.size)
            have hbr4 : Below wr.heap.size wr w4 := HB2.out.2.2.trans (hb24.mono HB2.out.2.2.size)
            have hb04 : Below D w w4 := HB2.out.1.trans (hb24.mono HB2.out.2.1)
            obtain ⟨f, hf⟩ : ∃ f, (fun s => (natLs H).getD s 0) = f := ⟨_, rfl⟩
            have hcc := HCC.out
            rw [hf] at hcc
            have HCQ := Lib.hid hcc
            have HF := Lib.hid hf
            have HRL := Lib.hid (fun W (hb : Below w4.heap.size w4 W) => HR1.out W (hb24.trans (hb.mono hb24.size)))
            have HRC := Lib.hid (fun W (hb : Below w4.heap.size w4 W) (k : Nat) (hk : k < 32) => show W.cell? ⟨D, k, none⟩ = some (.int .i64 ((S.count k : Nat) : Int)) from
              ((hbr4.trans (hb.mono hbr4.size)).cell (p := ⟨D, k, none⟩) (heap_lt HHD.out)).trans (cell_of HHD.out (rowI_at (cnt_at S hk))))
            have HSM := Lib.hid (fun W (hb : Below w4.heap.size w4 W) => HSI.out W _ (hr4.below stays_int hb) (hb04.trans (hb.mono (Nat.le_trans HB2.out.2.1 hb24.size))))
            have HBE := Lib.hid (fun W (hb : Below w4.heap.size w4 W) => show Below w.heap.size w W from by rw [HD.out]; exact hb04.trans (hb.mono (Nat.le_trans HB2.out.2.1 hb24.size)))
            have HST1 : Hid (Below w4.heap.size w4 w4) := Lib.hid (Below.refl _ _)
            clear hb24 hbr4 hb04 hb4 hr4 he hcc hf HSI HB3 HB2 HD3 HR1 HHD HB0 HCC
            go_wp2_with fail
            go_loopw [15, 88] (fun cv sv wx => ∃ k : Nat, k ≤ 32 ∧ sv = .int .i64 k ∧ cv = .int .i64 ((csum f S k : Nat) : Int) ∧ Hid (Below w4.heap.size w4 wx)) (fun _ sv _ => 32 - (Go.RowKit.intOf sv).toNat)
            case atStart => exact ⟨0, by omega, rfl, rfl, HST1⟩
            case round =>
              clear HST1
              obtain ⟨k, hk, rfl, rfl, HT⟩ := hrel
              by_cases hk32 : k < 32
              · have hk32i : (k : Int) < 32 := by omega
                obtain ⟨c, hc⟩ : ∃ c, S.count k = c := ⟨_, rfl⟩
                have u0 := HRC.out _ HT.out k hk32
                rw [hc] at u0
                have hcb : c ≤ 100 := by
                  rw [← hc]
                  have := List.count_le_length (a := k) (l := S)
                  have h1 := HSL.out
                  have h2 := HN1.out
                  omega
                obtain ⟨b, o, rfl, -, hj⟩ := at_int (HRL.out _ HT.out) (by rw [HHL.out]; omega)
                obtain ⟨yi, hy⟩ : ∃ y, H[k]? = some y := ⟨_, List.getElem?_eq_getElem (by rw [HHL.out]; exact hk32)⟩
                obtain ⟨hy0, hy15⟩ := HOKH.out.2.1 yi (List.mem_of_getElem? hy)
                obtain ⟨y, rfl⟩ : ∃ y : Nat, yi = y := ⟨yi.toNat, by omega⟩
                have u1 := hj k (y : Int) hy
                have hfy : f k = y := by
                  rw [← HF.out]
                  show (natLs H).getD k 0 = y
                  unfold natLs
                  rw [List.getD_eq_getElem?_getD, List.getElem?_map, hy]; simp
                obtain ⟨z, hz⟩ : ∃ z, c * y = z := ⟨_, rfl⟩
                have hzb : z ≤ 1500 := by rw [← hz]; exact Nat.mul_le_mul hcb (show y ≤ 15 by omega)
                obtain ⟨a, ha⟩ : ∃ a, csum f S k = a := ⟨_, rfl⟩
                have hab : a ≤ 1500 := by
                  rw [← ha]
                  have h1 := csum_mono f S hk
                  rw [← HCQ.out] at h1
                  exact Nat.le_trans h1 HBT.out
                have hnx : csum f S (k + 1) = a + z := by unfold csum; rw [ha, hc, hfy, hz]
                obtain ⟨a2, ha2⟩ : ∃ a2, a + z = a2 := ⟨_, rfl⟩
                rw [ha2] at hnx
                rw [ha]
                have hzz : (c : Int) * (y : Int) = (z : Int) := by rw [← hz]; simp
                have n1 : wrap64 ((c : Int) * (y : Int)) = (z : Int) := by rw [hzz]; exact wrap_idM (Nat.le_trans hzb (by decide))
                have n2 : wrap64 ((a : Int) + (z : Int)) = (a2 : Int) := wrap_addM ha2.symm (by rw [← ha2]; exact Nat.le_trans (Nat.add_le_add hab hzb) (by decide))
                clear hc hcb hj hy hy0 hy15 hfy hz hzb ha hab ha2 hzz hk32
                go_wp2_with fail
                exact ⟨⟨k + 1, by omega, by go_num, (by rw [hnx]; first | rfl | rw [n2]), HT⟩, by simp only [Go.RowKit.intOf]; omega⟩
              · obtain rfl : k = 32 := by omega
                rw [← HCQ.out]
                have HS2 := Lib.hid ((HSM.out _ HT.out).mono (fun (e : Ending) w' h => show e = .returned (.bool true) ∧ Below _ _ w' from ⟨by rw [h.1]; simp, h.2⟩))
                have HX2 := Lib.hid (HBE.out _ HT.out)
                have hqb := HBT.out
                have n1 : wrap64 ((q : Int) + 7) = (q : Int) + 7 := by unfold wrap64; omega
                have n2 : ((q : Int) + 7) / 8 = (r : Int) := by have := HRR.out; omega
                have n3 : wrap64 (r : Int) = (r : Int) := by unfold wrap64; have := HRR.out; omega
                have n6 : ((q : Int) + 7).tdiv 8 = (r : Int) := by rw [Int.tdiv_eq_ediv_of_nonneg (by omega), n2]
                have n4 : ((q : Int) == (q : Int)) = true := beq_self_eq_true _
                have n5 : ((r : Int) == (r : Int)) = true := beq_self_eq_true _
                clear HT hqb
                go_wp2_with fail
                refine HS2.out.mono ?_
                rintro e w5 ⟨rfl, hb5⟩
                have HX5 := Lib.hid (HX2.out.trans (hb5.mono HX2.out.size))
                have HAW := Lib.hid (HA.out w5)
                clear hb5 HS2
                go_wp2_with fail
                refine HAW.out.mono ?_
                rintro e w6 ⟨rfl, hb6⟩
                have HX6 := Lib.hid (HX5.out.trans (hb6.mono HX5.out.size))
                clear hb6 HAW
                go_wp2_with fail
                go_ret
                exact ⟨rfl, HX6.out⟩

theorem own : ownKnob Try.prog.godebug = none := by kernel_rfl

set_option maxRecDepth 100000 in
theorem lifted (os : Os) (started : os.Started) (H : Type) (enc : TypeId × Value → H) :
    ReturnsInHanded {} Try.checked os 10 .any (Rows.huffmanRoundTripsSpec.pre6 enc Try.prog Try.f10 Rows.huffmanRoundTripsRow.domain false) (Rows.huffmanRoundTripsSpec.post enc Try.prog Try.f10 false true false false) := by
  refine returnsInHanded_of_change (C := Try.checked) own started (by kernel_rfl) Try.func10
    (ChangeSpec.witness6 (enc := enc) (C := Try.checked) false ⟨#[], #[.slice none 0 0, .int .i64 0], []⟩ 8 (by kernel_rfl) (by kernel_rfl) (by kernel_rfl) (by kernel_rfl)) ?_
  intro W base args ds gs before hval0 hW hcnd _
  have hval : ∀ (j : Nat) t v, Try.f10.params[j]? = some t → args[j]? = some v → Value.okWide Try.prog W .any base t v := hval0
  have hW' := hW
  have hplt : ∀ x ∈ before, x.block < W.heap.size := fun x hx => hW.lt x hx
  obtain ⟨p, q, hA0, hV, rfl, hfz, hnd⟩ := hW
  have hA : DataW.TrodAll enc Try.prog W 0 (fun _ => true) true Try.f10.params.toList args.toList ds p := hA0
  rw [Try.params10] at hA hval
  obtain ⟨v0, vs0, d0, ds0, p0, q0, hargs, rfl, rfl, h0, r0⟩ := trodAll_cons hA
  obtain ⟨v1, vs1, d1, ds1, p1, q1, rfl, rfl, rfl, h1, r1⟩ := trodAll_cons r0
  obtain ⟨rfl, rfl, rfl⟩ := trodAll_nil r1
  obtain rfl : args = #[v0, v1] := by cases args; simp_all
  obtain ⟨rfl, rfl⟩ := trodVars_none hV
  obtain ⟨l0, s0, m0, n0⟩ := open_rowI (hval 0 22 v0 rfl rfl) h0
  obtain ⟨x1, rfl, m1, n1⟩ := open_i64 (hval 1 3 v1 rfl rfl) h1
  clear hA0 hval0
  refine (walk v0 l0 s0 m0 n0 x1 m1 n1).mono fun e W' ⟨he, bel⟩ => ?_
  subst he
  exact ⟨_, rfl, _, _, _, [], _, [], hW', trodAll_mk1 (shut_bool Try.underlying4 _), (trodAll_cons_mk (Below.trod Try.laidOut (by kernel_rfl) (of_decide_eq_true (by kernel_rfl)) h0 bel (fun x hx => hplt x (by simp [hx]))) (trodAll_cons_mk (Below.trod Try.laidOut (by kernel_rfl) (of_decide_eq_true (by kernel_rfl)) h1 bel (fun x hx => hplt x (by simp [hx]))) trodAll_mk0)), rfl, World.keptBut_mono (fun x hx => ⟨hx, Or.inr (by simpa using hx)⟩) (bel.frame (· ∈ _)), fun h => by cases h⟩

theorem over : Rows.huffmanRoundTripsRow.holds Try.pinned (OpenSpec.ofChange Rows.huffmanRoundTripsSpec) :=
  OpenClaim.holds_of_wide 10 Try.f10 rfl rfl rfl rfl rfl rfl rfl ⟨rfl, rfl, rfl, rfl, rfl⟩ rfl rfl rfl rfl rfl (by kernel_rfl) Try.func10 (by kernel_rfl)
    (of_decide_eq_true (by kernel_rfl)) (by unfold Func.isWrapper; first | (rw [if_pos (by decide +kernel)]; kernel_rfl) | (rw [if_neg (by decide +kernel)]; exact ⟨rfl, rfl⟩))
    (fun os started H enc _ => lifted os started H enc)

/-- THE STATEMENT. -/
theorem proved : Rows.HuffmanRoundTripsSaid := over
end Go.Proofs.Ytghfehjkhkjgfaa.huffmanRoundTrips
