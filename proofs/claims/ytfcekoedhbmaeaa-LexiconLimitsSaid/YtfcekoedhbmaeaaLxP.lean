/-
  WALK over the reference of lexicon: Prefix. (Tried at a scratch seat with a stand-in for package lexicon.)
-/
import Derived.Test.YtfcekoedhbmaeaaLxF
namespace Go.Proofs.Ytfcekoedhbmaeaa
open Go Go.RowKit Go.Shelf Go.Lib
set_option linter.unusedVariables false
set_option linter.unusedSimpArgs false
theorem pre_iff (p w : Wd) : p <+: w ↔ p.length ≤ w.length ∧ w.take p.length = p := by
  constructor
  · rintro ⟨t, rfl⟩
    exact ⟨by rw [List.length_append]; omega, List.take_left' rfl⟩
  · rintro ⟨_, h⟩
    refine ⟨w.drop p.length, ?_⟩
    have := List.take_append_drop p.length w
    rw [h] at this
    exact this
def PreV (w : World) (ws : List Wd) (s : Wd) (e : Ending) (w' : World) : Prop :=
  e = .returned (.tuple #[.int .i64 ((preP ws s).1 : Nat), .int .i64 ((preP ws s).2 : Nat)]) ∧ Below w.heap.size w w'
set_option maxRecDepth 100000 in
set_option maxHeartbeats 4000000 in
theorem refPrefix_any {w : World} {vw vc : Value} {ws : List Wd} (hv : Rows 1 EStr w vw ws) (hl : ws.length ≤ maxLen) (hs : Asc ws) (s : Wd) :
    Calls Try.prog 21 #[.agg #[vw, vc], .string ⟨s.toArray⟩] w (PreV w ws s) := by
  have hb0 := below_box w (.cells #[vw, vc] 27)
  obtain ⟨X, hX⟩ : ∃ X, w.alloc (.cells #[vw, vc] 27) = X := ⟨_, rfl⟩
  obtain ⟨N, hN⟩ : ∃ N, w.heap.size = N := ⟨_, rfl⟩
  have hbx : X.heap[N]? = some (.cells #[vw, vc] 27 (0, 0)) := by rw [← hX, ← hN]; exact block_new _ _
  rw [hX] at hb0
  have hvX := hv.below stays_str hb0
  obtain ⟨A, cap, rfl, hc⟩ := hv.form
  obtain ⟨n, hn⟩ : ∃ n, ws.length = n := ⟨_, rfl⟩
  have hend := preSt_end ws s
  have hzero := preSt_zero ws s
  rw [hn] at hvX hbx hX hc hl hend ⊢
  unfold maxLen at hl
  have d0 : X.cell? ⟨N, 0, none⟩ = some (.slice A n cap) := cell_of (i := 0) hbx rfl
  have HVX := Lib.hid hvX
  have HX := Lib.hid hX
  have HNN := Lib.hid hN
  have HN := Lib.hid hn
  have HS := Lib.hid hs
  have HZ := Lib.hid hzero
  obtain ⟨S, hS⟩ : ∃ S : ByteArray, (⟨s.toArray⟩ : ByteArray) = S := ⟨_, rfl⟩
  have HSd : Hid (S.data.toList = s ∧ S.toList = s ∧ S.size = s.length) := Lib.hid (by rw [← hS, Lib.toList_data]; exact ⟨rfl, rfl, rfl⟩)
  have HEND : Hid (PreV w ws s (.returned (.tuple #[.int .i64 ((preSt ws s n).1 : Nat), .int .i64 ((preSt ws s n).2 : Nat)])) X) := Lib.hid ⟨by rw [hend], hb0⟩
  rw [hS]
  clear hv hvX hb0 hX hN hbx hn hS hend hzero hs
  go_enter Try.func21, Try.ntmps21
  go_upto_region 1 with fail
  rw [HX.out, HNN.out]
  go_wp2_with fail
  go_loopw [6, 7, 13] (fun fv tv kv wr => ∃ k f t : Nat, k ≤ n ∧ kv = .int .i64 k ∧ fv = .int .i64 f ∧ tv = .int .i64 t ∧ Hid (preSt ws s k = (f, t)) ∧ t ≤ k ∧ wr = X) (fun _ _ kv _ => n - (Go.RowKit.intOf kv).toNat)
  case atStart => exact ⟨0, 0, 0, Nat.zero_le _, rfl, rfl, rfl, HZ, Nat.le_refl _, rfl⟩
  case round =>
    obtain ⟨k, f, t, hk, rfl, rfl, rfl, HST, ht, rfl⟩ := hrel
    by_cases hge : n ≤ k
    · obtain rfl : k = n := by omega
      have hlt : ¬ k < k := by omega
      have HE : Hid (PreV w ws s (.returned (.tuple #[.int .i64 (f : Nat), .int .i64 (t : Nat)])) wr) := Lib.hid (by have := HEND.out; rw [HST.out] at this; exact this)
      clear HEND
      go_wp2_with fail
      go_ret2
      exact HE.out
    · have hlt : k < n := by omega
      obtain ⟨x, hx⟩ : ∃ x, ws[k]? = some x := ⟨_, List.getElem?_eq_getElem (by rw [HN.out]; exact hlt)⟩
      obtain ⟨b1, o1, rfl, -, hj1⟩ := at_str HVX.out (by rw [HN.out]; omega)
      have u0 := hj1 k x hx
      have hstep := preSt_step HS.out s hx
      rw [HST.out] at hstep
      simp only at hstep
      obtain ⟨T, hT⟩ : ∃ T : ByteArray, (⟨x.toArray⟩ : ByteArray) = T := ⟨_, rfl⟩
      have HTd : Hid (T.data.toList = x ∧ T.toList = x ∧ T.size = x.length) := Lib.hid (by rw [← hT, Lib.toList_data]; exact ⟨rfl, rfl, rfl⟩)
      rw [hT] at u0
      have HXX := Lib.hid hx
      have HSTEP := Lib.hid hstep
      clear hj1 hx hT hstep
      by_cases hsz : T.size < S.size
      · have hno : ¬ s <+: x := fun h => by
          have := h.length_le
          rw [← HSd.out.2.2, ← HTd.out.2.2] at this
          omega
        have hsI : (T.size : Int) < (S.size : Int) := by omega
        have HST2 : Hid (preSt ws s (k + 1) = (f, t)) := Lib.hid (by rw [HSTEP.out, if_neg hno])
        clear hno HSTEP
        go_wp2_with fail
        exact ⟨⟨k + 1, f, t, by omega, by go_num, rfl, rfl, HST2, by omega, trivial⟩, by simp only [Go.RowKit.intOf]; omega⟩
      · have hsz2 : S.size ≤ T.size := by omega
        have hxt : (T.extract 0 S.size).toList = x.take s.length := by
          rw [Lib.toList_data, ByteArray.data_extract, Array.toList_extract, List.extract_eq_take_drop, HTd.out.1, HSd.out.2.2]
          simp
        obtain ⟨r, hr⟩ : ∃ r, ((T.extract 0 S.size).toList == S.toList) = r := ⟨_, rfl⟩
        have hrq : r = decide (s <+: x) := by
          rw [← hr, hxt, HSd.out.2.1]
          by_cases h : s <+: x
          · rw [decide_eq_true h, ((pre_iff s x).1 h).2]; simp
          · rw [decide_eq_false h]
            simp only [beq_eq_false_iff_ne]
            exact fun e => h ((pre_iff s x).2 ⟨by rw [← HSd.out.2.2, ← HTd.out.2.2]; exact hsz2, e⟩)
        have HRQ := Lib.hid hrq
        clear hxt hrq
        cases r
        · have hno := of_decide_eq_false HRQ.out.symm
          have HST2 : Hid (preSt ws s (k + 1) = (f, t)) := Lib.hid (by rw [HSTEP.out, if_neg hno])
          clear hno HSTEP
          go_wp2_with fail
          exact ⟨⟨k + 1, f, t, by omega, by go_num, rfl, rfl, HST2, by omega, trivial⟩, by simp only [Go.RowKit.intOf]; omega⟩
        · have hyes := of_decide_eq_true HRQ.out.symm
          by_cases ht0 : t = 0
          · have HST2 : Hid (preSt ws s (k + 1) = (k, k + 1)) := Lib.hid (by rw [HSTEP.out, if_pos hyes, if_pos ht0])
            subst ht0
            clear hyes HSTEP
            go_wp2_with fail
            exact ⟨⟨k + 1, k, k + 1, by omega, by go_num, rfl, by go_num, HST2, Nat.le_refl _, trivial⟩, by simp only [Go.RowKit.intOf]; omega⟩
          · have HST2 : Hid (preSt ws s (k + 1) = (f, k + 1)) := Lib.hid (by rw [HSTEP.out, if_pos hyes, if_neg ht0])
            have htb : ((t : Int) == 0) = false := by simp [ht0]
            clear hyes HSTEP
            go_wp2_with fail
            exact ⟨⟨k + 1, f, k + 1, by omega, by go_num, rfl, by go_num, HST2, Nat.le_refl _, trivial⟩, by simp only [Go.RowKit.intOf]; omega⟩
end Go.Proofs.Ytfcekoedhbmaeaa
