/-
  WALK over the reference of lexicon: Suffix.
-/
import Derived.Test.YtfcekoedhbmaeaaLzV
import Derived.BigQuiet
namespace Go.Proofs.Ytfcekoedhbmaeaa
open Go.RowKit Go.Shelf Go.Lib Go.Sort Go.Maps
set_option linter.unusedVariables false
set_option linter.unusedSimpArgs false

theorem hasS_iff (s x : Wd) : hasS s x = true ↔ s.length ≤ x.length ∧ x.drop (x.length - s.length) = s := by
  unfold hasS
  rw [List.isSuffixOf_iff_suffix]
  constructor
  · rintro ⟨t, rfl⟩
    refine ⟨by simp, ?_⟩
    rw [List.length_append, Nat.add_sub_cancel, List.drop_left' rfl]
  · rintro ⟨h1, h2⟩
    exact ⟨x.take (x.length - s.length), by
      have := List.take_append_drop (x.length - s.length) x
      rw [h2] at this
      exact this⟩
theorem endOf (x : Wd) (T : ByteArray) (n : Nat) (hT : (⟨x.toArray⟩ : ByteArray) = T) : (T.extract n T.size).toList = x.drop n := by
  have hs : T.size = x.length := by rw [← hT]; rfl
  rw [hs, ← hT, Lib.toList_data, ByteArray.data_extract, Array.toList_extract, List.extract_eq_take_drop]
  show (x.drop n).take (x.length - n) = x.drop n
  rw [List.take_of_length_le]
  simp
/-- What the reference finds of one word. -/
def finS (S T : ByteArray) : Bool := decide (S.size ≤ T.size) && ((T.extract (T.size - S.size) T.size).toList == S.toList)
theorem finS_eq {s x : Wd} {S T : ByteArray} (hS : (⟨s.toArray⟩ : ByteArray) = S) (hT : (⟨x.toArray⟩ : ByteArray) = T) : finS S T = hasS s x := by
  have hs : S.size = s.length := by rw [← hS]; rfl
  have ht : T.size = x.length := by rw [← hT]; rfl
  unfold finS
  rw [endOf x T _ hT, show S.toList = s by rw [← hS, Lib.toList_data], hs, ht, Bool.eq_iff_iff, hasS_iff]
  simp

set_option maxRecDepth 100000 in
set_option maxHeartbeats 16000000 in
theorem refSuffix_any {w : World} {vW vC : Value} {ws : List Wd} {cs : List Nat} (hW : Rows 1 EStr w vW ws) (hC : Rows 1 EInt w vC (intsN cs)) (hle : cs.length = ws.length) (hfew : ws.length ≤ 4096) (hval : ∀ x ∈ ws, x.length ≤ 120) (s : Wd) (hsz : s.length ≤ maxLen) :
    Calls Try.prog 24 #[.agg #[vW, vC], .string ⟨s.toArray⟩] w (NumV w (sufL ws s (ordK (kyL ws) ws.length))) := by
  have HRV0 := Lib.hid (fun W (hb : Below w.heap.size w W) => refByReverse_any (hW.below stays_str hb) (hC.below stays_int hb) hle hfew hval)
  obtain ⟨A1, c1, rfl, hc1⟩ := hW.form
  obtain ⟨A2, c2, rfl, hc2⟩ := hC.form
  have hil : (intsN cs).length = ws.length := by rw [List.length_map, hle]
  rw [hil] at hc2 HRV0 ⊢
  obtain ⟨n, hn⟩ : ∃ n, ws.length = n := ⟨_, rfl⟩
  obtain ⟨O, hO⟩ : ∃ O, ordK (kyL ws) ws.length = O := ⟨_, rfl⟩
  have hOl : O.length = n := by rw [← hO, ordK_len, hn]
  have hOm : ∀ x ∈ O, x < n := fun x hx => by rw [← hO] at hx; rw [← hn]; exact (ordK_mem _ _ _).1 hx
  rw [hO] at HRV0 ⊢
  rw [hn] at hW hc1 hc2 hfew HRV0 ⊢
  have hb0 := below_box w (.cells #[.slice A1 n c1, .slice A2 n c2] 27)
  obtain ⟨X, hX⟩ : ∃ X, w.alloc (.cells #[.slice A1 n c1, .slice A2 n c2] 27) = X := ⟨_, rfl⟩
  obtain ⟨N, hN⟩ : ∃ N, w.heap.size = N := ⟨_, rfl⟩
  have hbx : X.heap[N]? = some (.cells #[.slice A1 n c1, .slice A2 n c2] 27 (0, 0)) := by rw [← hX, ← hN]; exact block_new _ _
  rw [hX] at hb0
  have HW := Lib.hid (fun W (hb : Below X.heap.size X W) => hW.below stays_str (hb0.trans (hb.mono hb0.size)))
  have HBX := Lib.hid (fun W (hb : Below X.heap.size X W) => block_below hbx hb (Array.getElem?_eq_some_iff.1 hbx).1)
  have HRV := Lib.hid (HRV0.out X hb0)
  have HB0 := Lib.hid hb0
  have HN' := Lib.hid hn
  have HOL := Lib.hid hOl
  have HOM := Lib.hid hOm
  obtain ⟨S, hS⟩ : ∃ S : ByteArray, (⟨s.toArray⟩ : ByteArray) = S := ⟨_, rfl⟩
  have hSs : S.size ≤ 9223372036854775807 := by rw [← hS]; show s.toArray.size ≤ _; simp only [List.size_toArray]; unfold maxLen at hsz; omega
  have HS := Lib.hid hS
  rw [hS]
  have d0 : X.cell? ⟨N, 0, none⟩ = some (.slice A1 n c1) := cell_of hbx rfl
  have d1 : X.cell? ⟨N, 1, none⟩ = some (.slice A2 n c2) := cell_of hbx rfl
  have HX := Lib.hid hX
  have HNN := Lib.hid hN
  have HVAL := Lib.hid hval
  clear hW hC hil hb0 hbx hX hN hn hO hOl hOm hle hS hsz HRV0 hval
  go_enter Try.func24, Try.ntmps24
  go_upto_region 1 with fail
  rw [HX.out, HNN.out]
  go_wp2_with fail
  refine HRV.out.mono ?_
  rintro e y1 ⟨v1, rfl, hr1, hb1⟩
  obtain ⟨A3, c3, rfl, -⟩ := hr1.form
  have hil : (intsN O).length = n := by rw [List.length_map, HOL.out]
  rw [hil] at hr1 ⊢
  have HR1 := Lib.hid (fun W (hb : Below y1.heap.size y1 W) => hr1.below stays_int hb)
  have HB1 := Lib.hid hb1
  obtain ⟨M, hM⟩ : ∃ M, y1.heap.size = M := ⟨_, rfl⟩
  have HM := Lib.hid hM
  have HST0 := Lib.hid (show OwnN y1 y1 M (.slice none 0 0) (sufL ws s (O.take 0)) from ⟨World.ownsRow_nil _ _ _ _, Below.refl _ _⟩)
  clear hr1 hb1 hil hM d0 d1 HRV
  go_wp2_with fail
  go_loopg [5, 12] n (fun gg av sv' wr => ∃ (k : Nat) (v : Value), k ≤ n ∧ n - k ≤ gg ∧ v = av ∧ sv' = .int .i64 k ∧ Hid (OwnN y1 wr M v (sufL ws s (O.take k))))
  case atStart => exact ⟨0, _, Nat.zero_le _, Nat.le_refl _, rfl, rfl, HST0⟩
  case round =>
    clear HST0
    obtain ⟨k, v, hkn, hkg, rfl, rfl, HR⟩ := hrel
    have HBA := Lib.hid (show Below X.heap.size X wr from HB1.out.trans (HR.out.below.mono HB1.out.size))
    by_cases hlt : k < n
    · have hlti : (k : Int) < (n : Int) := by omega
      obtain ⟨i, hi⟩ : ∃ i, O[k]? = some i := ⟨_, List.getElem?_eq_getElem (by rw [HOL.out]; exact hlt)⟩
      have hin : i < n := HOM.out i (List.mem_of_getElem? hi)
      obtain ⟨x, hx⟩ : ∃ x, ws[i]? = some x := ⟨_, List.getElem?_eq_getElem (by rw [HN'.out]; exact hin)⟩
      obtain ⟨b1, o1, rfl, -, hj1⟩ := at_int (HR1.out wr HR.out.below) (by rw [List.length_map, HOL.out]; omega)
      obtain ⟨b2, o2, rfl, -, hj2⟩ := at_str (HW.out wr HBA.out) (by rw [HN'.out]; omega)
      have u0 := hj1 k (i : Int) (by rw [List.getElem?_map, hi]; rfl)
      have u1 := hj2 i x hx
      have d0 : wr.cell? ⟨N, 0, none⟩ = some (.slice (some ⟨b2, o2, none⟩) n c1) := cell_of (HBX.out wr HBA.out) rfl
      have hii : (i : Int) < (n : Int) := by omega
      have hstep := sufL_step (s := s) hi hx
      obtain ⟨T, hT⟩ : ∃ T : ByteArray, (⟨x.toArray⟩ : ByteArray) = T := ⟨_, rfl⟩
      have hTs : T.size ≤ 120 := by
        have := HVAL.out x (List.mem_of_getElem? hx)
        rw [← hT]
        show x.toArray.size ≤ _
        simp only [List.size_toArray]
        exact this
      have hfin := finS_eq HS.out hT
      rw [hT] at u1
      obtain ⟨q, hq⟩ : ∃ q, hasS s x = q := ⟨_, rfl⟩
      rw [hq] at hfin hstep
      have HST := Lib.hid hstep
      have HFIN := Lib.hid hfin
      have hal : (sufL ws s (O.take k)).length ≤ 1000000 := Nat.le_trans (sufL_len _ _ _) (by simp; omega)
      obtain ⟨acc, hacc⟩ : ∃ acc, sufL ws s (O.take k) = acc := ⟨_, rfl⟩
      rw [hacc] at HR HST hal
      have HNB := Lib.hid (show M ≤ wr.heap.size by rw [← HM.out]; exact HR.out.below.size)
      obtain ⟨ln, hln⟩ : ∃ ln, acc.length = ln := ⟨_, rfl⟩
      have hown := HR.out.own
      rw [hln] at hown hal
      have HOWN := Lib.hid hown
      have HLN := Lib.hid hln
      have HBB := Lib.hid HR.out.below
      have HJ := Lib.hid (And.intro hlt hkg)
      have HNO : Hid (q = false → OwnN y1 wr M v (sufL ws s (O.take (k + 1)))) := Lib.hid fun e => ⟨by
        have := HOWN.out
        rw [HST.out, e]
        simpa [HLN.out] using this, HBB.out⟩
      clear hstep hj1 hj2 hi hx hT hq hacc HR hown hln hfin hlt hkg hin
      by_cases hsz : S.size ≤ T.size
      · have hszI : (S.size : Int) ≤ (T.size : Int) := by omega
        have hfr2 : ((T.extract (T.size - S.size) T.size).toList == S.toList) = q := by have := HFIN.out; unfold finS at this; rw [decide_eq_true hsz, Bool.true_and] at this; exact this
        have hdw : IntKind.i64.wrap ((T.size : Int) - (S.size : Int)) = ((T.size - S.size : Nat) : Int) := by rw [IntKind.wrap_i64]; omega
        obtain ⟨d, hd⟩ : ∃ d, d = T.size - S.size := ⟨_, rfl⟩
        rw [← hd] at hdw hfr2
        have hdl : d ≤ T.size := by omega
        have hdI : (d : Int) ≤ (T.size : Int) := by omega
        clear hd
        cases q with
        | true =>
          go_wp2_with (at_builtin; refine wpList_pushI rfl (.tmp 37) (.tmp 39) rfl M v ln _ (i : Int) rfl rfl HOWN.out hal HNB.out ?_; intro v' w4 ho hg)
          have HNX := Lib.hid (show OwnN y1 w4 M v' (sufL ws s (O.take (k + 1))) from ⟨by
            have := ho.out
            rw [HST.out]
            simpa [HLN.out] using this, hg.out _ _ HBB.out (by rw [HM.out]; exact Nat.le_refl _)⟩)
          clear ho hg
          go_wp2_with fail
          go_roundg (n - (k + 1))
          case measure => have := HJ.out; omega
          case rel => exact ⟨k + 1, v', by have := HJ.out; omega, Nat.le_refl _, rfl, by go_num, HNX⟩
        | false =>
          have HNX := Lib.hid (HNO.out rfl)
          go_wp2_with fail
          go_roundg (n - (k + 1))
          case measure => have := HJ.out; omega
          case rel => exact ⟨k + 1, v, by have := HJ.out; omega, Nat.le_refl _, rfl, by go_num, HNX⟩
      · have hszI : ¬ (S.size : Int) ≤ (T.size : Int) := by omega
        obtain rfl : q = false := by have := HFIN.out; unfold finS at this; rw [decide_eq_false hsz, Bool.false_and] at this; exact this.symm
        have HNX := Lib.hid (HNO.out rfl)
        go_wp2_with fail
        go_roundg (n - (k + 1))
        case measure => have := HJ.out; omega
        case rel => exact ⟨k + 1, v, by have := HJ.out; omega, Nat.le_refl _, rfl, by go_num, HNX⟩
    · obtain rfl : k = n := by omega
      have hlti : ¬ (k : Int) < (k : Int) := by omega
      have hfull : O.take k = O := List.take_of_length_le (by rw [HOL.out]; exact Nat.le_refl _)
      rw [hfull] at HR
      have HE := Lib.hid (show NumV w (sufL ws s O) (.returned v) wr from ⟨v, rfl, HR.out.rows, HB0.out.trans (HBA.out.mono HB0.out.size)⟩)
      clear HR hfull
      go_wp2_with fail
      go_ret
      exact HE.out
end Go.Proofs.Ytfcekoedhbmaeaa
