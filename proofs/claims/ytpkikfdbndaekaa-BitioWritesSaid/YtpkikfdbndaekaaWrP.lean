/-
  BitioWrites is proved: for every slice of calls the call of the law returns true, and each argument reads afterwards as it read before. It has no condition.
-/
import Derived.Test.YtpkikfdbndaekaaRows
import Derived.Test.YtpkikfdbndaekaaBiV
import Derived.Test.YtpkikfdbndaekaaBiE
import Derived.ProofKit
import Derived.OpenShut
import Derived.Carry
namespace Go.Proofs.Ytpkikfdbndaekaa.bitioWrites
open Go.ChangeShapes Go.WideShapes Go.ChangeAt Go.RowKit Go.Shelf Go.Lib
set_option linter.unusedVariables false

/-- Between two rounds: k calls have been made, the bits are l. -/
def Rel (w : World) (n : Nat) (v4 i : Value) (wr : World) : Prop :=
  ∃ (k : Nat) (l : List Bool) (v : Value), k ≤ n ∧ i = .int .i64 k ∧ l.length ≤ 4097 * k ∧ WAt wr w.heap.size w.heap.size v l ∧ wr.ownsRow w.heap.size 4 1 v4 l.length (boolCells l) ∧ Below w.heap.size w wr

set_option maxRecDepth 100000 in
set_option maxHeartbeats 4000000 in
theorem walk (v : Value) (cs : List CallL) {w : World} (hs : SeesK w w.heap.size v cs) (hm : cs.length ≤ maxLen) :
    Calls Try.prog 7 #[v] w fun e w1 => e = .returned (.bool true) ∧ Below w.heap.size w w1 := by
  unfold maxLen at hm
  obtain ⟨A, cap, hv, hcell⟩ := hs
  obtain ⟨n, hn⟩ : ∃ n, cs.length = n := ⟨_, rfl⟩
  rw [hn] at hv hm
  subst hv
  have HN := Lib.hid hn
  have HCELL := Lib.hid hcell
  clear hn hcell
  by_cases h12 : n ≤ 12
  · go_enter Try.func7, Try.ntmps7
    go_wp2_with fail
    refine (newWriter_any _).mono ?_
    rintro e w1 ⟨rfl, rfl⟩
    go_wp2_with fail
    go_loopw [4, 18] (fun v4 i wr => Rel w n v4 i wr) (fun _ i _ => n - (intOf i).toNat)
    case atStart => exact ⟨0, [], _, Nat.zero_le _, rfl, Nat.le_refl _, writer_new w, World.ownsRow_nil _ _ _ _, (Below.refl _ w).alloc (Nat.le_refl _) _⟩
    case round =>
      obtain ⟨k, l, v, hk, rfl, hl, hat, hrow, hb⟩ := hrel
      by_cases hlt : k < n
      · obtain ⟨b, off, rfl, hbB, hall⟩ := HCELL.out (by rw [HN.out]; omega)
        have hkl : k < cs.length := by rw [HN.out]; exact hlt
        obtain ⟨hok, g0, g1, g2⟩ := hall k hkl
        obtain ⟨bs, ok, ev, _, hbs, hcase, hrw, hwr⟩ := call_both (cs[k]'hkl) hok
        have c0 := (hb.cell (p := ⟨b, off + k * 3, none⟩) hbB).trans g0
        have c1 := (hb.cell (p := ⟨b, off + k * 3 + 1, none⟩) hbB).trans g1
        have c2 := (hb.cell (p := ⟨b, off + k * 3 + 2, none⟩) hbB).trans g2
        rw [call_apart] at hrw hwr
        obtain ⟨ck, hck⟩ : ∃ ck, (cs[k]'hkl).kind = ck := ⟨_, rfl⟩
        obtain ⟨cv, hcv⟩ : ∃ cv, (cs[k]'hkl).v = cv := ⟨_, rfl⟩
        obtain ⟨cn, hcn⟩ : ∃ cn, (cs[k]'hkl).n = cn := ⟨_, rfl⟩
        rw [hck] at c0 hrw hwr
        rw [hcv] at c1 hrw hwr
        rw [hcn] at c2 hrw hwr
        have HRW := Lib.hid hrw
        have HWR := Lib.hid hwr
        have HAT := Lib.hid hat
        have HROW := Lib.hid hrow
        have HB := Lib.hid hb
        clear hrw hwr hat hrow hb hall g0 g1 g2 hok hck hcv hcn
        rcases hcase with ⟨rfl, rfl⟩ | ⟨rfl, rfl⟩
        · go_wp2_with fail
          refine (HRW.out _).mono ?_
          rintro e w2 ⟨v2, rfl, hown2, hb2⟩
          have hbn := block_new wr (.cells #[.int .i64 ck, .int .u64 cv, .int .i64 cn] 40)
          have d0 : w2.cell? ⟨wr.heap.size, 0, none⟩ = some (.int .i64 ck) := (hb2.cell (p := ⟨wr.heap.size, 0, none⟩) (by simp)).trans (cell_of (i := 0) hbn rfl)
          have d1 : w2.cell? ⟨wr.heap.size, 1, none⟩ = some (.int .u64 cv) := (hb2.cell (p := ⟨wr.heap.size, 1, none⟩) (by simp)).trans (cell_of (i := 1) hbn rfl)
          have d2 : w2.cell? ⟨wr.heap.size, 2, none⟩ = some (.int .i64 cn) := (hb2.cell (p := ⟨wr.heap.size, 2, none⟩) (by simp)).trans (cell_of (i := 2) hbn rfl)
          have hat2 := (HAT.out.alloc (.cells #[.int .i64 ck, .int .u64 cv, .int .i64 cn] 40)).kept hb2
          have hrow2 := own_below HROW.out (fun q e => (hb2.block q (by have := (own_low HROW.out q e).2; simp; omega)).trans (Below.heap_alloc wr (.cells #[.int .i64 ck, .int .u64 cv, .int .i64 cn] 40) q (own_low HROW.out q e).2))
          have hbb2 : Below w.heap.size w w2 := (HB.out.alloc HB.out.size _).trans (hb2.mono (by have := HB.out.size; simp; omega))
          have HAT2 := Lib.hid hat2
          have HROW2 := Lib.hid hrow2
          have HOWN2 := Lib.hid hown2
          have HB2 := Lib.hid hbb2
          clear hbn hown2 hb2 hat2 hrow2 hbb2 c0 c1 c2
          go_wp2_with fail
          refine (HWR.out _ _ _ _ _ HAT2.out HB2.out.size (by omega)).mono ?_
          rintro e w3 ⟨v3, rfl, hw3, hs3⟩
          have hrow3 := bits_aside HAT2.out hs3 HROW2.out
          have hown3 := bits_aside HAT2.out hs3 HOWN2.out
          have hsee3 := (seesC_own hown3).1
          have hbb3 := HB2.out.trans (HAT2.out.below hs3 HB2.out.size)
          have HW3 := Lib.hid hw3
          have HROW3 := Lib.hid hrow3
          have HSEE3 := Lib.hid hsee3
          have HB3 := Lib.hid hbb3
          have HBL := Lib.hid (boolCells_length bs)
          clear hw3 hs3 hrow3 hown3 hsee3 hbb3 d0 d1 d2
          obtain ⟨i0, hi, hz0, hz1, hz2⟩ := info_parts' Try.infoBool
          go_wp2_with (at_builtin; refine wpList_append_sees rfl (.tmp 42) (.tmp 43) 38 rfl w.heap.size 4 i0 _ 1 Try.underlying38 hi hz0 hz1 hz2 rfl _ l.length _ rfl HROW3.out _ _ (boolCells bs) rfl HSEE3.out (bools_one _) (by rw [HBL.out]; unfold maxLen; omega) (by rw [HBL.out]; omega) HB3.out.size ?_)
          intro v4 w4 hown4 hgrow4 _
          have hat4 := writer_aside HW3.out HROW3.out hgrow4
          have hlen4 : l.length + (boolCells bs).length = (l ++ bs).length := by rw [HBL.out, List.length_append]
          rw [hlen4, ← boolCells_app] at hown4
          have hbb4 := HB3.out.grown hgrow4 HB3.out.size (fun q e => (own_low HROW3.out q e).1)
          have hl2 : (l ++ bs).length ≤ 4097 * (k + 1) := by rw [List.length_append]; omega
          obtain ⟨L2, hL2⟩ : ∃ L2, l ++ bs = L2 := ⟨_, rfl⟩
          rw [hL2] at hat4 hown4 hl2
          clear hlen4 hL2 hgrow4
          obtain ⟨A4, cap4, rfl, hc4⟩ := own_form hown4
          have hlen := len_any hat4
          have hby := bytes_any hat4 (by omega)
          obtain ⟨m2, hm2⟩ : ∃ m2, L2.length = m2 := ⟨_, rfl⟩
          rw [hm2] at hlen hown4 hl2
          have HM2 := Lib.hid hm2
          have HAT4 := Lib.hid hat4
          have HOWN4 := Lib.hid hown4
          have HB4 := Lib.hid hbb4
          have HLEN := Lib.hid hlen
          have HBY := Lib.hid hby
          clear hat4 hown4 hbb4 hlen hby hm2 hc4 HW3 HROW3 HSEE3 HAT HROW HAT2 HROW2 HOWN2
          rw [HM2.out]
          go_wp2_with fail
          refine HLEN.out.mono ?_
          rintro e w5 ⟨rfl, rfl⟩
          go_wp2_with fail
          refine HBY.out.mono ?_
          rintro e w5 ⟨v5, rfl, hown5, hb5⟩
          have hrow5 := own_below HOWN4.out (fun q e => hb5.block q (own_low HOWN4.out q e).2)
          have hpk := pack_any (seesC_own hrow5).1 (by rw [HM2.out]; omega)
          have HROW5 := Lib.hid hrow5
          have HOWN5 := Lib.hid hown5
          have HB5 := Lib.hid hb5
          have HPK := Lib.hid hpk
          clear hrow5 hown5 hb5 hpk
          go_wp2_with fail
          refine HPK.out.mono ?_
          rintro e w6 ⟨v6, rfl, hown6, hb6⟩
          have hown5 := own_below HOWN5.out (fun q e => hb6.block q (own_low HOWN5.out q e).2)
          have hq := same_true (sees_own hown5) (sees_own hown6)
          have hrow6 := own_below HROW5.out (fun q e => hb6.block q (own_low HROW5.out q e).2)
          have hb46 := HB5.out.trans (hb6.mono HB5.out.size)
          have HATT := Lib.hid (HAT4.out.kept hb46)
          have HROW6 := Lib.hid hrow6
          have HB6 := Lib.hid (HB4.out.trans (hb46.mono HB4.out.size))
          have HQ := Lib.hid hq
          clear hown6 hb6 hown5 hq hrow6 hb46 HPK HROW5 HOWN5
          go_wp2_with fail
          refine HQ.out.mono ?_
          rintro e w7 ⟨rfl, rfl⟩
          go_wp2_with fail
          go_roundw
          case rel => exact ⟨k + 1, L2, v3, by omega, by go_num, by rw [HM2.out]; exact hl2, HATT.out, by rw [HM2.out]; exact HROW6.out, HB6.out⟩
          case measure => simp [intOf]; omega
        · go_wp2_with fail
          refine (HRW.out _).mono ?_
          rintro e w2 ⟨v2, rfl, hown2, hb2⟩
          have hbn := block_new wr (.cells #[.int .i64 ck, .int .u64 cv, .int .i64 cn] 40)
          have d0 : w2.cell? ⟨wr.heap.size, 0, none⟩ = some (.int .i64 ck) := (hb2.cell (p := ⟨wr.heap.size, 0, none⟩) (by simp)).trans (cell_of (i := 0) hbn rfl)
          have d1 : w2.cell? ⟨wr.heap.size, 1, none⟩ = some (.int .u64 cv) := (hb2.cell (p := ⟨wr.heap.size, 1, none⟩) (by simp)).trans (cell_of (i := 1) hbn rfl)
          have d2 : w2.cell? ⟨wr.heap.size, 2, none⟩ = some (.int .i64 cn) := (hb2.cell (p := ⟨wr.heap.size, 2, none⟩) (by simp)).trans (cell_of (i := 2) hbn rfl)
          have hat2 := (HAT.out.alloc (.cells #[.int .i64 ck, .int .u64 cv, .int .i64 cn] 40)).kept hb2
          have hrow2 := own_below HROW.out (fun q e => (hb2.block q (by have := (own_low HROW.out q e).2; simp; omega)).trans (Below.heap_alloc wr (.cells #[.int .i64 ck, .int .u64 cv, .int .i64 cn] 40) q (own_low HROW.out q e).2))
          have hbb2 : Below w.heap.size w w2 := (HB.out.alloc HB.out.size _).trans (hb2.mono (by have := HB.out.size; simp; omega))
          have HAT2 := Lib.hid hat2
          have HROW2 := Lib.hid hrow2
          have HOWN2 := Lib.hid hown2
          have HB2 := Lib.hid hbb2
          clear hbn hown2 hb2 hat2 hrow2 hbb2 c0 c1 c2
          go_wp2_with fail
          refine (HWR.out _ _ _ _ _ HAT2.out HB2.out.size (by omega)).mono ?_
          rintro e w3 ⟨v3, rfl, hw3, hs3⟩
          have hrow3 := bits_aside HAT2.out hs3 HROW2.out
          have hown3 := bits_aside HAT2.out hs3 HOWN2.out
          have hsee3 := (seesC_own hown3).1
          have hbb3 := HB2.out.trans (HAT2.out.below hs3 HB2.out.size)
          have HW3 := Lib.hid hw3
          have HROW3 := Lib.hid hrow3
          have HSEE3 := Lib.hid hsee3
          have HB3 := Lib.hid hbb3
          have HBL := Lib.hid (boolCells_length bs)
          clear hw3 hs3 hrow3 hown3 hsee3 hbb3 d0 d1 d2
          obtain ⟨i0, hi, hz0, hz1, hz2⟩ := info_parts' Try.infoBool
          go_wp2_with (at_builtin; refine wpList_append_sees rfl (.tmp 42) (.tmp 43) 38 rfl w.heap.size 4 i0 _ 1 Try.underlying38 hi hz0 hz1 hz2 rfl _ l.length _ rfl HROW3.out _ _ (boolCells bs) rfl HSEE3.out (bools_one _) (by rw [HBL.out]; unfold maxLen; omega) (by rw [HBL.out]; omega) HB3.out.size ?_)
          intro v4 w4 hown4 hgrow4 _
          have hat4 := writer_aside HW3.out HROW3.out hgrow4
          have hlen4 : l.length + (boolCells bs).length = (l ++ bs).length := by rw [HBL.out, List.length_append]
          rw [hlen4, ← boolCells_app] at hown4
          have hbb4 := HB3.out.grown hgrow4 HB3.out.size (fun q e => (own_low HROW3.out q e).1)
          have hl2 : (l ++ bs).length ≤ 4097 * (k + 1) := by rw [List.length_append]; omega
          obtain ⟨L2, hL2⟩ : ∃ L2, l ++ bs = L2 := ⟨_, rfl⟩
          rw [hL2] at hat4 hown4 hl2
          clear hlen4 hL2 hgrow4
          obtain ⟨A4, cap4, rfl, hc4⟩ := own_form hown4
          have hlen := len_any hat4
          have hby := bytes_any hat4 (by omega)
          obtain ⟨m2, hm2⟩ : ∃ m2, L2.length = m2 := ⟨_, rfl⟩
          rw [hm2] at hlen hown4 hl2
          have HM2 := Lib.hid hm2
          have HAT4 := Lib.hid hat4
          have HOWN4 := Lib.hid hown4
          have HB4 := Lib.hid hbb4
          have HLEN := Lib.hid hlen
          have HBY := Lib.hid hby
          clear hat4 hown4 hbb4 hlen hby hm2 hc4 HW3 HROW3 HSEE3 HAT HROW HAT2 HROW2 HOWN2
          rw [HM2.out]
          go_wp2_with fail
          refine HLEN.out.mono ?_
          rintro e w5 ⟨rfl, rfl⟩
          go_wp2_with fail
          refine HBY.out.mono ?_
          rintro e w5 ⟨v5, rfl, hown5, hb5⟩
          have hrow5 := own_below HOWN4.out (fun q e => hb5.block q (own_low HOWN4.out q e).2)
          have hpk := pack_any (seesC_own hrow5).1 (by rw [HM2.out]; omega)
          have HROW5 := Lib.hid hrow5
          have HOWN5 := Lib.hid hown5
          have HB5 := Lib.hid hb5
          have HPK := Lib.hid hpk
          clear hrow5 hown5 hb5 hpk
          go_wp2_with fail
          refine HPK.out.mono ?_
          rintro e w6 ⟨v6, rfl, hown6, hb6⟩
          have hown5 := own_below HOWN5.out (fun q e => hb6.block q (own_low HOWN5.out q e).2)
          have hq := same_true (sees_own hown5) (sees_own hown6)
          have hrow6 := own_below HROW5.out (fun q e => hb6.block q (own_low HROW5.out q e).2)
          have hb46 := HB5.out.trans (hb6.mono HB5.out.size)
          have HATT := Lib.hid (HAT4.out.kept hb46)
          have HROW6 := Lib.hid hrow6
          have HB6 := Lib.hid (HB4.out.trans (hb46.mono HB4.out.size))
          have HQ := Lib.hid hq
          clear hown6 hb6 hown5 hq hrow6 hb46 HPK HROW5 HOWN5
          go_wp2_with fail
          refine HQ.out.mono ?_
          rintro e w7 ⟨rfl, rfl⟩
          go_wp2_with fail
          go_roundw
          case rel => exact ⟨k + 1, L2, v3, by omega, by go_num, by rw [HM2.out]; exact hl2, HATT.out, by rw [HM2.out]; exact HROW6.out, HB6.out⟩
          case measure => simp [intOf]; omega
      · have hkn : k = n := by omega
        subst hkn
        have HB := Lib.hid hb
        clear hat hrow hb
        go_wp2_with fail
        refine (awake_any _).mono ?_
        rintro e w5 ⟨rfl, hb5⟩
        have HB5 := Lib.hid hb5
        clear hb5
        go_wp2
        go_ret
        exact ⟨rfl, HB.out.trans (HB5.out.mono HB.out.size)⟩
  · have h12' : (12 : Int) < n := by omega
    go_enter Try.func7, Try.ntmps7
    go_wp2_with fail
    refine (newWriter_any _).mono ?_
    rintro e w1 ⟨rfl, rfl⟩
    go_wp2_with fail
    go_ret
    exact ⟨rfl, (Below.refl _ w).alloc (Nat.le_refl _) _⟩

theorem own : ownKnob Try.prog.godebug = none := by kernel_rfl

set_option maxRecDepth 100000 in
theorem lifted (os : Os) (started : os.Started) (H : Type) (enc : TypeId × Value → H) :
    ReturnsInHanded {} Try.checked os 7 .any (Rows.bitioWritesSpec.pre6 enc Try.prog Try.f7 Rows.bitioWritesRow.domain false) (Rows.bitioWritesSpec.post enc Try.prog Try.f7 false true false false) := by
  refine returnsInHanded_of_change (C := Try.checked) own started (by kernel_rfl) Try.func7
    (ChangeSpec.witness6 (enc := enc) (C := Try.checked) false ⟨#[], #[.slice none 0 0], []⟩ 8 (by kernel_rfl) (by kernel_rfl) (by kernel_rfl) (by kernel_rfl)) ?_
  intro W base args ds gs before hval0 hW hcnd _
  have hval : ∀ (j : Nat) t v, Try.f7.params[j]? = some t → args[j]? = some v → Value.okWide Try.prog W .any base t v := hval0
  have hW' := hW
  have hplt : ∀ x ∈ before, x.block < W.heap.size := fun x hx => hW.lt x hx
  obtain ⟨p, q, hA0, hV, rfl, hfz, hnd⟩ := hW
  have hA : DataW.TrodAll enc Try.prog W 0 (fun _ => true) true Try.f7.params.toList args.toList ds p := hA0
  rw [Try.params7] at hA hval
  obtain ⟨v0, vs0, d0, ds0, p0, q0, hargs, rfl, rfl, h0, r0⟩ := trodAll_cons hA
  obtain ⟨rfl, rfl, rfl⟩ := trodAll_nil r0
  obtain rfl : args = #[v0] := by cases args; simp_all
  obtain ⟨rfl, rfl⟩ := trodVars_none hV
  obtain ⟨L0, s0, m0⟩ := open_calls (hval 0 35 v0 rfl rfl) h0
  clear hA0 hval0
  refine (walk v0 L0 s0 m0).mono fun e W' ⟨he, bel⟩ => ?_
  subst he
  exact ⟨_, rfl, _, _, _, [], _, [], hW', trodAll_mk1 (shut_bool Try.underlying4 _), (trodAll_cons_mk (Below.trod Try.laidOut (by kernel_rfl) (of_decide_eq_true (by kernel_rfl)) h0 bel (fun x hx => hplt x (by simp [hx]))) trodAll_mk0), rfl, World.keptBut_mono (fun x hx => ⟨hx, Or.inr (by simpa using hx)⟩) (bel.frame (· ∈ _)), fun h => by cases h⟩

theorem over : Rows.bitioWritesRow.holds Try.pinned (OpenSpec.ofChange Rows.bitioWritesSpec) :=
  OpenClaim.holds_of_wide 7 Try.f7 rfl rfl rfl rfl rfl rfl rfl ⟨rfl, rfl, rfl, rfl, rfl⟩ rfl rfl rfl rfl rfl (by kernel_rfl) Try.func7 (by kernel_rfl)
    (of_decide_eq_true (by kernel_rfl)) (by unfold Func.isWrapper; first | (rw [if_pos (by decide +kernel)]; kernel_rfl) | (rw [if_neg (by decide +kernel)]; exact ⟨rfl, rfl⟩))
    (fun os started H enc _ => lifted os started H enc)

/-- THE STATEMENT. -/
theorem proved : Rows.BitioWritesSaid := over
end Go.Proofs.Ytpkikfdbndaekaa.bitioWrites
