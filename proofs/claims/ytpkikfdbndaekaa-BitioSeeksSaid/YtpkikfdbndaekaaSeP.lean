/-
  BitioSeeks is proved: for every byte slice and every number and every call the call of the law returns true, and each argument reads afterwards as it read before. It has no condition.
-/
import Derived.Test.YtpkikfdbndaekaaRows
import Derived.Test.YtpkikfdbndaekaaBjF
import Derived.Test.YtpkikfdbndaekaaBiU
import Derived.Test.YtpkikfdbndaekaaBiE
import Derived.ProofKit
import Derived.OpenShut
import Derived.Carry
import Derived.Deep.RegionHeld3
import Derived.Deep.DrawnRows
namespace Go.Proofs.Ytpkikfdbndaekaa.bitioSeeks
open Go.ChangeShapes Go.WideShapes Go.ChangeAt Go.RowKit Go.Shelf Go.Lib
set_option linter.unusedVariables false

set_option maxRecDepth 100000 in
set_option maxHeartbeats 4000000 in
theorem walk (v : Value) (L : List UInt8) {w : World} (hs : Sees w w.heap.size v L) (hm : L.length ≤ maxLen) (x : Int) (hx1 : -9223372036854775808 ≤ x) (hx2 : x ≤ 9223372036854775807) (c : CallL) (hc : okCall c) :
    Calls Try.prog 11 #[v, .int .i64 x, callV c] w fun e w1 => e = .returned (.bool true) ∧ Below w.heap.size w w1 := by
  unfold maxLen at hm
  obtain ⟨sp, cap, hv, hcap, _⟩ := hs.form2
  obtain ⟨m, hmm⟩ : ∃ m, L.length = m := ⟨_, rfl⟩
  rw [hmm] at hv hm hcap
  subst hv
  have hb0 : ∀ o, Below w.heap.size w (w.alloc o) := fun o => (Below.refl _ w).alloc (Nat.le_refl _) o
  have hs1 := (hs.below (hb0 (.cells #[.int .i64 c.kind, .int .u64 c.v, .int .i64 c.n] 40))).mono (hb0 (.cells #[.int .i64 c.kind, .int .u64 c.v, .int .i64 c.n] 40)).size
  have hb1 := hb0 (.cells #[.int .i64 c.kind, .int .u64 c.v, .int .i64 c.n] 40)
  have hrr := fun (W : World) (u : Value) (bits : List Bool) (p : Nat) (hp : p ≤ bits.length) (hl : bits.length ≤ 100000) (hW : SeesC W W.heap.size u (boolCells bits)) => refRead_any hW hl p hp c hc
  have hrd := fun (W : World) (B g : Nat) (vb : Value) (bs : List UInt8) (s p : Nat) (hW : RAt W B g vb bs s p) => read_any hW c hc
  have hrdc : ∀ l p, ∃ t, rd l p c = t := fun l p => ⟨_, rfl⟩
  simp only [call_apart] at hrr hrd ⊢
  have HS := Lib.hid hs1
  have HS0 := Lib.hid hs
  have HB := Lib.hid hb1
  have HM := Lib.hid hmm
  have HRR := Lib.hid hrr
  have HRD := Lib.hid hrd
  obtain ⟨ck, hck⟩ : ∃ ck, c.kind = ck := ⟨_, rfl⟩
  obtain ⟨cv, hcv⟩ : ∃ cv, c.v = cv := ⟨_, rfl⟩
  obtain ⟨cn, hcn⟩ : ∃ cn, c.n = cn := ⟨_, rfl⟩
  rw [hck, hcv, hcn] at HS HB HRR HRD ⊢
  clear hs hb0 hs1 hb1 hmm hrr hrd hck hcv hcn
  by_cases h700 : 700 < m
  · have h700' : (700 : Int) < m := by omega
    go_enter Try.func11, Try.ntmps11
    go_wp2
    go_ret
    exact ⟨rfl, HB.out⟩
  · have h700' : (m : Int) ≤ 700 := by omega
    obtain ⟨s, hs8⟩ : ∃ s, 8 * m = s := ⟨_, rfl⟩
    have h8 : 8 * (m : Int) = (s : Int) := by omega
    have hs56 : s ≤ 5600 := by omega
    have h8w : IntKind.i64.wrap (s : Int) = (s : Int) := by rw [IntKind.wrap_i64]; omega
    have HR := Lib.hid (newReader_any HS.out (by rw [HM.out]; omega) s (by rw [HM.out]; omega))
    have HUT := Lib.hid (unpack_take L s)
    have HS8 := Lib.hid hs8
    obtain ⟨w1, hw1⟩ : ∃ w1, w.alloc (.cells #[.int .i64 ck, .int .u64 cv, .int .i64 cn] 40) = w1 := ⟨_, rfl⟩
    have hbn := block_new w (.cells #[.int .i64 ck, .int .u64 cv, .int .i64 cn] 40)
    have hszw : (w.alloc (.cells #[.int .i64 ck, .int .u64 cv, .int .i64 cn] 40)).heap.size = w.heap.size + 1 := by simp
    rw [hw1] at HS HB HR hbn hszw
    have HBN := Lib.hid hbn
    have HSZ := Lib.hid hszw
    clear hs8 hbn hszw
    go_enter Try.func11, Try.ntmps11
    go_wp2_with fail
    clear hw1
    refine HR.out.mono ?_
    rintro e w2 ⟨g, vb, rfl, hrat, hb2⟩
    obtain ⟨bs, hbs⟩ : ∃ bs, L.take ((s + 7) / 8) = bs := ⟨_, rfl⟩
    rw [hbs] at hrat
    have hut := HUT.out
    rw [hbs] at hut
    have hblk2 := (hb2.block w.heap.size (by rw [HSZ.out]; omega)).trans HBN.out
    have hs2 := (HS.out.below hb2).mono hb2.size
    have hbb2 : Below w.heap.size w w2 := HB.out.trans (hb2.mono HB.out.size)
    have hgne : w.heap.size ≠ g := by
      intro e
      have := hrat.1
      rw [HSZ.out] at this
      omega
    have HRAT := Lib.hid hrat
    have HB2 := Lib.hid hbb2
    have HUT2 := Lib.hid hut
    have HS2 := Lib.hid hs2
    have HBLK := Lib.hid hblk2
    clear hrat hb2 hbb2 hut hs2 hblk2 hbs
    by_cases hout : x < 0 ∨ (s : Int) < x
    · have hsk := rseek_out HRAT.out x hout
      have HSK := Lib.hid hsk
      have HPOS := Lib.hid (rpos_any HRAT.out)
      clear hsk
      rcases hout with hneg | hbig
      · go_wp2_with fail
        refine HSK.out.mono ?_
        rintro e w3 ⟨rfl, rfl⟩
        go_wp2_with fail
        refine HPOS.out.mono ?_
        rintro e w3 ⟨rfl, rfl⟩
        go_wp2_with fail
        refine (awake_any _).mono ?_
        rintro e w5 ⟨rfl, hb5⟩
        have HB5 := Lib.hid hb5
        clear hb5
        go_wp2
        go_ret
        exact ⟨rfl, HB2.out.trans (HB5.out.mono HB2.out.size)⟩
      · have h0 : 0 ≤ x := by omega
        go_wp2_with fail
        refine HSK.out.mono ?_
        rintro e w3 ⟨rfl, rfl⟩
        go_wp2_with fail
        refine HPOS.out.mono ?_
        rintro e w3 ⟨rfl, rfl⟩
        go_wp2_with fail
        refine (awake_any _).mono ?_
        rintro e w5 ⟨rfl, hb5⟩
        have HB5 := Lib.hid hb5
        clear hb5
        go_wp2
        go_ret
        exact ⟨rfl, HB2.out.trans (HB5.out.mono HB2.out.size)⟩
    · obtain ⟨q, rfl⟩ : ∃ q : Nat, x = q := ⟨x.toNat, by omega⟩
      have hqs : q ≤ s := by omega
      have hqs' : (q : Int) ≤ (s : Int) := by omega
      have hq0 : (0 : Int) ≤ (q : Int) := by omega
      have HSK := Lib.hid (rseek_any HRAT.out q hqs)
      clear hout
      go_wp2_with fail
      refine HSK.out.mono ?_
      rintro e w3 ⟨rfl, hat3, hgr3⟩
      have hblk3 := (hgr3.block w.heap.size (Array.getElem?_eq_some_iff.1 HBLK.out).1 (fun e => by injection e with e; exact hgne e)).trans HBLK.out
      have hbb3 := grown_below hgr3 (Nat.le_trans (show w.heap.size ≤ w1.heap.size by rw [HSZ.out]; omega) HRAT.out.1) HB2.out.size
      have hbb3' := HB2.out.trans hbb3
      have hs3 := ((HS0.out.below hbb3').mono hbb3'.size)
      have hrat3 := hat3
      have hpos3 := rpos_any hat3
      obtain ⟨l, hll⟩ : ∃ l, unpack bs s = l := ⟨_, rfl⟩
      have hlen : l.length = s := by rw [← hll, unpack_len]
      have hut := HUT2.out
      rw [hll] at hut
      have hun := fun (W : World) (hW : Sees W W.heap.size (.slice sp m cap) L) => unpack_any hW (by rw [HM.out]; omega) s (by rw [HM.out]; have := HS8.out; omega)
      rw [← hut] at hun
      obtain ⟨t, ht⟩ : ∃ t, rd l q c = t := ⟨_, rfl⟩
      have hrr := fun (W : World) (u : Value) (hW : SeesC W W.heap.size u (boolCells l)) => HRR.out W u l q (by rw [hlen]; exact hqs) (by rw [hlen]; omega) hW
      have hrd := fun (W : World) (hW : RAt W w1.heap.size g vb bs s q) => HRD.out W _ _ _ _ _ _ hW
      rw [hll] at hrd
      rw [ht] at hrr hrd
      obtain ⟨tv, tn, te⟩ := t
      have k0 : w3.cell? ⟨w.heap.size, 0, none⟩ = some (.int .i64 ck) := cell_of (i := 0) hblk3 rfl
      have k1 : w3.cell? ⟨w.heap.size, 1, none⟩ = some (.int .u64 cv) := cell_of (i := 1) hblk3 rfl
      have k2 : w3.cell? ⟨w.heap.size, 2, none⟩ = some (.int .i64 cn) := cell_of (i := 2) hblk3 rfl
      have hlt3 : w.heap.size < w3.heap.size := (Array.getElem?_eq_some_iff.1 hblk3).1
      have HUN := Lib.hid (hun w3.drew (hs3.keep fun _ _ => rfl))
      have HRR3 := Lib.hid hrr
      have HRD3 := Lib.hid hrd
      have HAT3 := Lib.hid hat3
      have HB3 := Lib.hid hbb3'
      have HLEN := Lib.hid hlen
      clear hs3 hrat3 hpos3 hll hlen hut hun ht hrr hrd hat3 hgr3 hblk3 hbb3 hbb3' HRR HRD
      go_wp2_with fail
      go_region_held3 (fun w' => w'.cell? ⟨w.heap.size, 0, none⟩ = some (.int .i64 ck) ∧ w'.cell? ⟨w.heap.size, 1, none⟩ = some (.int .u64 cv) ∧ w'.cell? ⟨w.heap.size, 2, none⟩ = some (.int .i64 cn))
        (first
          | go_keep
          | (exact ⟨(hb4.cell (p := ⟨w.heap.size, 0, none⟩) hlt3).trans k0, (hb4.cell (p := ⟨w.heap.size, 1, none⟩) hlt3).trans k1, (hb4.cell (p := ⟨w.heap.size, 2, none⟩) hlt3).trans k2⟩)
          | (exact ⟨(hb5.cell (p := ⟨w.heap.size, 0, none⟩) (Nat.lt_of_lt_of_le hlt3 hb4.size)).trans ((hb4.cell (p := ⟨w.heap.size, 0, none⟩) hlt3).trans k0), (hb5.cell (p := ⟨w.heap.size, 1, none⟩) (Nat.lt_of_lt_of_le hlt3 hb4.size)).trans ((hb4.cell (p := ⟨w.heap.size, 1, none⟩) hlt3).trans k1), (hb5.cell (p := ⟨w.heap.size, 2, none⟩) (Nat.lt_of_lt_of_le hlt3 hb4.size)).trans ((hb4.cell (p := ⟨w.heap.size, 2, none⟩) hlt3).trans k2)⟩))
        ((first
          | (go_at_call 26; refine HUN.out.mono ?_; rintro e w4 ⟨v9, rfl, hown, hb4⟩)
          | (go_at_call 27; refine (HRR3.out _ _ (seesC_own hown).1).mono ?_; rintro e w5 ⟨rfl, hb5⟩; unfold RV)))
      have hlt4 : w.heap.size < w4.heap.size := Nat.lt_of_lt_of_le hlt3 hb4.size
      have d0 : w5.cell? ⟨w.heap.size, 0, none⟩ = some (.int .i64 ck) := (hb5.cell (p := ⟨w.heap.size, 0, none⟩) hlt4).trans ((hb4.cell (p := ⟨w.heap.size, 0, none⟩) hlt3).trans k0)
      have d1 : w5.cell? ⟨w.heap.size, 1, none⟩ = some (.int .u64 cv) := (hb5.cell (p := ⟨w.heap.size, 1, none⟩) hlt4).trans ((hb4.cell (p := ⟨w.heap.size, 1, none⟩) hlt3).trans k1)
      have d2 : w5.cell? ⟨w.heap.size, 2, none⟩ = some (.int .i64 cn) := (hb5.cell (p := ⟨w.heap.size, 2, none⟩) hlt4).trans ((hb4.cell (p := ⟨w.heap.size, 2, none⟩) hlt3).trans k2)
      have hat5 := HAT3.out.heap (w' := w5) (fun q hq => (hb5.block q (Nat.lt_of_lt_of_le hq hb4.size)).trans (hb4.block q hq))
      have hw3 : Below w.heap.size w w3.drew := HB3.out.drew
      have hbb5 : Below w.heap.size w w5 := (hw3.trans (hb4.mono hw3.size)).trans (hb5.mono (Nat.le_of_lt hlt4))
      have HPOS5 := Lib.hid (rpos_any hat5)
      have HRD5 := Lib.hid (HRD3.out _ hat5)
      have HAT5 := Lib.hid hat5
      have HB5 := Lib.hid hbb5
      clear hb4 hb5 hown hat5 hw3 hbb5 k0 k1 k2 HRD3 HUN HRR3 HAT3
      go_wp2_with fail
      refine HPOS5.out.mono ?_
      rintro e w6 ⟨rfl, rfl⟩
      go_wp2_with fail
      refine HRD5.out.mono ?_
      rintro e w6 ⟨rfl, hat6, hgr6⟩
      have hbb6 := HB5.out.trans (grown_below hgr6 (Nat.le_trans (show w.heap.size ≤ w1.heap.size by rw [HSZ.out]; omega) HAT5.out.1) HB5.out.size)
      have HPOS6 := Lib.hid (rpos_any hat6)
      have HSK6 := Lib.hid (rseek_any hat6 0 (Nat.zero_le _))
      have HB6 := Lib.hid hbb6
      have HG6 := Lib.hid hat6.1
      clear hat6 hgr6 hbb6 d0 d1 d2
      go_wp2_with fail
      refine HPOS6.out.mono ?_
      rintro e w7 ⟨rfl, rfl⟩
      go_wp2_with fail
      refine HSK6.out.mono ?_
      rintro e w7 ⟨rfl, hat7, hgr7⟩
      have hbb7 := HB6.out.trans (grown_below hgr7 (Nat.le_trans (show w.heap.size ≤ w1.heap.size by rw [HSZ.out]; omega) HG6.out) HB6.out.size)
      have HPOS7 := Lib.hid (rpos_any hat7)
      have HB7 := Lib.hid hbb7
      clear hat7 hgr7 hbb7
      go_wp2_with fail
      refine HPOS7.out.mono ?_
      rintro e w8 ⟨rfl, rfl⟩
      go_wp2_with fail
      refine (awake_any _).mono ?_
      rintro e w8 ⟨rfl, hb8⟩
      have HB8 := Lib.hid hb8
      clear hb8
      go_wp2
      go_ret
      exact ⟨rfl, HB7.out.trans (HB8.out.mono HB7.out.size)⟩

theorem own : ownKnob Try.prog.godebug = none := by kernel_rfl

set_option maxRecDepth 100000 in
theorem lifted (os : Os) (started : os.Started) (H : Type) (enc : TypeId × Value → H) :
    ReturnsInHanded {} Try.checked os 11 .any (Rows.bitioSeeksSpec.pre6 enc Try.prog Try.f11 Rows.bitioSeeksRow.domain false) (Rows.bitioSeeksSpec.post enc Try.prog Try.f11 false true false false) := by
  refine returnsInHanded_of_change (C := Try.checked) own started (by kernel_rfl) Try.func11
    (ChangeSpec.witness6 (enc := enc) (C := Try.checked) false ⟨#[], #[.slice none 0 0, .int .i64 0, .agg #[.int .i64 0, .int .u64 0, .int .i64 0]], []⟩ 8 (by kernel_rfl) (by kernel_rfl) (by kernel_rfl) (by kernel_rfl)) ?_
  intro W base args ds gs before hval0 hW hcnd _
  have hval : ∀ (j : Nat) t v, Try.f11.params[j]? = some t → args[j]? = some v → Value.okWide Try.prog W .any base t v := hval0
  have hW' := hW
  have hplt : ∀ x ∈ before, x.block < W.heap.size := fun x hx => hW.lt x hx
  obtain ⟨p, q, hA0, hV, rfl, hfz, hnd⟩ := hW
  have hA : DataW.TrodAll enc Try.prog W 0 (fun _ => true) true Try.f11.params.toList args.toList ds p := hA0
  rw [Try.params11] at hA hval
  obtain ⟨v0, vs0, d0, ds0, p0, q0, hargs, rfl, rfl, h0, r0⟩ := trodAll_cons hA
  obtain ⟨v1, vs1, d1, ds1, p1, q1, rfl, rfl, rfl, h1, r1⟩ := trodAll_cons r0
  obtain ⟨v2, vs2, d2, ds2, p2, q2, rfl, rfl, rfl, h2, r2⟩ := trodAll_cons r1
  obtain ⟨rfl, rfl, rfl⟩ := trodAll_nil r2
  obtain rfl : args = #[v0, v1, v2] := by cases args; simp_all
  obtain ⟨rfl, rfl⟩ := trodVars_none hV
  obtain ⟨L0, s0, m0⟩ := open_bytes (hval 0 22 v0 rfl rfl) h0
  obtain ⟨x1, rfl, m1, n1⟩ := open_i64 (hval 1 3 v1 rfl rfl) h1
  obtain ⟨c2, rfl, m2⟩ := open_call (hval 2 40 v2 rfl rfl) h2
  clear hA0 hval0
  refine (walk v0 L0 s0 m0 x1 m1 n1 c2 m2).mono fun e W' ⟨he, bel⟩ => ?_
  subst he
  exact ⟨_, rfl, _, _, _, [], _, [], hW', trodAll_mk1 (shut_bool Try.underlying4 _), (trodAll_cons_mk (Below.trod Try.laidOut (by kernel_rfl) (of_decide_eq_true (by kernel_rfl)) h0 bel (fun x hx => hplt x (by simp [hx]))) (trodAll_cons_mk (Below.trod Try.laidOut (by kernel_rfl) (of_decide_eq_true (by kernel_rfl)) h1 bel (fun x hx => hplt x (by simp [hx]))) (trodAll_cons_mk (Below.trod Try.laidOut (by kernel_rfl) (of_decide_eq_true (by kernel_rfl)) h2 bel (fun x hx => hplt x (by simp [hx]))) trodAll_mk0))), rfl, World.keptBut_mono (fun x hx => ⟨hx, Or.inr (by simpa using hx)⟩) (bel.frame (· ∈ _)), fun h => by cases h⟩

theorem over : Rows.bitioSeeksRow.holds Try.pinned (OpenSpec.ofChange Rows.bitioSeeksSpec) :=
  OpenClaim.holds_of_wide 11 Try.f11 rfl rfl rfl rfl rfl rfl rfl ⟨rfl, rfl, rfl, rfl, rfl⟩ rfl rfl rfl rfl rfl (by kernel_rfl) Try.func11 (by kernel_rfl)
    (of_decide_eq_true (by kernel_rfl)) (by unfold Func.isWrapper; first | (rw [if_pos (by decide +kernel)]; kernel_rfl) | (rw [if_neg (by decide +kernel)]; exact ⟨rfl, rfl⟩))
    (fun os started H enc _ => lifted os started H enc)

/-- THE STATEMENT. -/
theorem proved : Rows.BitioSeeksSaid := over
end Go.Proofs.Ytpkikfdbndaekaa.bitioSeeks
