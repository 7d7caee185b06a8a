/-
  BitioReads is proved: for every byte slice and every number and every slice of calls the call of the law returns true, and each argument reads afterwards as it read before. It has no condition.
-/
import Derived.Test.YtpkikfdbndaekaaRows
import Derived.Test.YtpkikfdbndaekaaBjF
import Derived.Test.YtpkikfdbndaekaaBiU
import Derived.Test.YtpkikfdbndaekaaBiE
import Derived.ProofKit
import Derived.OpenShut
import Derived.Carry
namespace Go.Proofs.Ytpkikfdbndaekaa.bitioReads
open Go.ChangeShapes Go.WideShapes Go.ChangeAt Go.RowKit Go.Shelf Go.Lib
set_option linter.unusedVariables false

/-- Between two rounds: k calls have been made, the position is p. -/
def Rel (w : World) (b g : Nat) (vb : Value) (bs : List UInt8) (size n : Nat) (v9 v10 i : Value) (wr : World) : Prop :=
  ∃ k p : Nat, k ≤ n ∧ i = .int .i64 k ∧ v10 = .int .i64 p ∧ RAt wr w.heap.size g vb bs size p ∧ wr.ownsRow b 4 1 v9 size (boolCells (unpack bs size)) ∧ Below w.heap.size w wr

theorem bits_stay {w w' : World} {b B g n size p : Nat} {v9 vb : Value} {bs : List UInt8} {xs : List Value} (hr : RAt w B g vb bs size p) (hg : w.grownBy w' (some g)) (ho : w.ownsRow b 4 1 v9 n xs) : w'.ownsRow b 4 1 v9 n xs :=
  own_below ho fun k e => hg.block k (own_low ho k e).2 (fun e2 => by
    injection e2 with e2
    subst e2
    obtain ⟨c, h1⟩ := own_elem ho e
    rw [hr.2.1] at h1
    injection h1 with h1
    injection h1 with _ h1
    exact absurd h1 (by decide))

set_option maxRecDepth 100000 in
set_option maxHeartbeats 4000000 in
theorem walk (v : Value) (L : List UInt8) {w : World} (hs : Sees w w.heap.size v L) (hm : L.length ≤ maxLen) (x : Int) (hx1 : -9223372036854775808 ≤ x) (hx2 : x ≤ 9223372036854775807) (vc : Value) (cs : List CallL) (hk : SeesK w w.heap.size vc cs) (hkm : cs.length ≤ maxLen) :
    Calls Try.prog 8 #[v, .int .i64 x, vc] w fun e w1 => e = .returned (.bool true) ∧ Below w.heap.size w w1 := by
  unfold maxLen at hm hkm
  obtain ⟨sp, cap, hv, hcap, _⟩ := hs.form2
  obtain ⟨A, capc, hvc, hcell⟩ := hk
  obtain ⟨m, hmm⟩ : ∃ m, L.length = m := ⟨_, rfl⟩
  obtain ⟨n, hn⟩ : ∃ n, cs.length = n := ⟨_, rfl⟩
  rw [hmm] at hv hm hcap
  rw [hn] at hvc hkm
  subst hv hvc
  have HS := Lib.hid hs
  have HM := Lib.hid hmm
  have HN := Lib.hid hn
  have HCELL := Lib.hid hcell
  clear hs hmm hn hcell
  by_cases h700 : 700 < m
  · have h700' : (700 : Int) < m := by omega
    go_enter Try.func8, Try.ntmps8
    go_wp2
    go_ret
    exact ⟨rfl, Below.refl _ _⟩
  · by_cases h12 : 12 < n
    · have h12' : (12 : Int) < n := by omega
      have h700' : (m : Int) ≤ 700 := by omega
      go_enter Try.func8, Try.ntmps8
      go_wp2
      go_ret
      exact ⟨rfl, Below.refl _ _⟩
    · have h12' : (n : Int) ≤ 12 := by omega
      have h700' : (m : Int) ≤ 700 := by omega
      by_cases hout : x < 0 ∨ 8 * (m : Int) < x
      · have HR := Lib.hid (newReader_out HS.out (by rw [HM.out]; omega) x (by rw [HM.out]; exact hout))
        rcases hout with hneg | hbig
        · go_enter Try.func8, Try.ntmps8
          go_wp2_with fail
          refine HR.out.mono ?_
          rintro e w2 ⟨rfl, rfl⟩
          go_wp2_with fail
          refine (awake_any _).mono ?_
          rintro e w5 ⟨rfl, hb5⟩
          have HB5 := Lib.hid hb5
          clear hb5
          go_wp2
          go_ret
          exact ⟨rfl, HB5.out⟩
        · have h0 : 0 ≤ x := by omega
          go_enter Try.func8, Try.ntmps8
          go_wp2_with fail
          refine HR.out.mono ?_
          rintro e w2 ⟨rfl, rfl⟩
          go_wp2_with fail
          refine (awake_any _).mono ?_
          rintro e w5 ⟨rfl, hb5⟩
          have HB5 := Lib.hid hb5
          clear hb5
          go_wp2
          go_ret
          exact ⟨rfl, HB5.out⟩
      · obtain ⟨s, rfl⟩ : ∃ s : Nat, x = s := ⟨x.toNat, by omega⟩
        have hs8 : s ≤ 8 * m := by omega
        have hs8' : (s : Int) ≤ 8 * (m : Int) := by omega
        have hs0 : (0 : Int) ≤ (s : Int) := by omega
        have HR := Lib.hid (newReader_any HS.out (by rw [HM.out]; omega) s (by rw [HM.out]; exact hs8))
        have HUT := Lib.hid (unpack_take L s)
        clear hout
        go_enter Try.func8, Try.ntmps8
        go_wp2_with fail
        refine HR.out.mono ?_
        rintro e w2 ⟨g, vb, rfl, hrat, hb2⟩
        obtain ⟨bs, hbs⟩ : ∃ bs, L.take ((s + 7) / 8) = bs := ⟨_, rfl⟩
        rw [hbs] at hrat
        have hut := HUT.out
        rw [hbs] at hut
        have hun := unpack_any ((HS.out.below hb2).mono hb2.size) (by rw [HM.out]; omega) s (by rw [HM.out]; exact hs8)
        rw [← hut] at hun
        have HRAT := Lib.hid hrat
        have HB2 := Lib.hid hb2
        have HUN := Lib.hid hun
        clear hrat hb2 hun hut hbs
        go_wp2_with fail
        refine HUN.out.mono ?_
        rintro e w3 ⟨v9, rfl, hown3, hb3⟩
        obtain ⟨A9, cap9, rfl, _⟩ := own_form hown3
        have hrat3 := HRAT.out.heap (fun q hq => hb3.block q hq)
        have hbb3 : Below w.heap.size w w3 := HB2.out.trans (hb3.mono HB2.out.size)
        have HRAT3 := Lib.hid hrat3
        have HOWN3 := Lib.hid hown3
        have HB3 := Lib.hid hbb3
        clear hown3 hb3 hrat3 hbb3
        go_wp2_with fail
        go_loopw [10, 61] (fun v10 i wr => Rel w w2.heap.size g vb bs s n (.slice A9 s cap9) v10 i wr) (fun _ i _ => n - (intOf i).toNat)
        case atStart => exact ⟨0, 0, Nat.zero_le _, rfl, rfl, HRAT3.out, HOWN3.out, HB3.out⟩
        case round =>
          obtain ⟨k, p, hk, rfl, rfl, hat, hrow, hb⟩ := hrel
          by_cases hlt : k < n
          · have hkl : k < cs.length := by rw [HN.out]; exact hlt
            obtain ⟨bk, off, rfl, hbB, hall⟩ := HCELL.out (by omega)
            obtain ⟨hok, g0, g1, g2⟩ := hall k hkl
            have c0 := (hb.cell (p := ⟨bk, off + k * 3, none⟩) hbB).trans g0
            have c1 := (hb.cell (p := ⟨bk, off + k * 3 + 1, none⟩) hbB).trans g1
            have c2 := (hb.cell (p := ⟨bk, off + k * 3 + 2, none⟩) hbB).trans g2
            have hps := hat.2.2.2.1
            have hrr := fun (W : World) (hW : SeesC W W.heap.size (.slice A9 s cap9) (boolCells (unpack bs s))) => refRead_any hW (by rw [unpack_len]; omega) p (by rw [unpack_len]; exact hps) (cs[k]'hkl) hok
            have hrd := fun (W : World) (hW : RAt W w.heap.size g vb bs s p) => read_any hW (cs[k]'hkl) hok
            obtain ⟨t, ht⟩ : ∃ t, rd (unpack bs s) p (cs[k]'hkl) = t := ⟨_, rfl⟩
            rw [ht] at hrr hrd
            rw [call_apart] at hrr hrd
            obtain ⟨tv, tn, te⟩ := t
            obtain ⟨ck, hck⟩ : ∃ ck, (cs[k]'hkl).kind = ck := ⟨_, rfl⟩
            obtain ⟨cv, hcv⟩ : ∃ cv, (cs[k]'hkl).v = cv := ⟨_, rfl⟩
            obtain ⟨cn, hcn⟩ : ∃ cn, (cs[k]'hkl).n = cn := ⟨_, rfl⟩
            rw [hck] at c0 hrr hrd
            rw [hcv] at c1 hrr hrd
            rw [hcn] at c2 hrr hrd
            have hrow1 := own_below hrow (fun q e => Below.heap_alloc wr (.cells #[.int .i64 ck, .int .u64 cv, .int .i64 cn] 40) q (own_low hrow q e).2)
            have hrr1 := hrr _ (seesC_own hrow1).1
            have hat1 := hat.alloc (.cells #[.int .i64 ck, .int .u64 cv, .int .i64 cn] 40)
            have HRR := Lib.hid hrr1
            have HRD := Lib.hid hrd
            have HAT1 := Lib.hid hat1
            have HROW1 := Lib.hid hrow1
            have HB := Lib.hid hb
            clear hrr hrr1 hrd hat hat1 hrow hrow1 hb hall g0 g1 g2 hok ht hck hcv hcn
            go_wp2_with fail
            refine HRR.out.mono ?_
            rintro e w4 ⟨rfl, hb4⟩
            unfold RV
            have hbn := block_new wr (.cells #[.int .i64 ck, .int .u64 cv, .int .i64 cn] 40)
            have d0 : w4.cell? ⟨wr.heap.size, 0, none⟩ = some (.int .i64 ck) := (hb4.cell (p := ⟨wr.heap.size, 0, none⟩) (by simp)).trans (cell_of (i := 0) hbn rfl)
            have d1 : w4.cell? ⟨wr.heap.size, 1, none⟩ = some (.int .u64 cv) := (hb4.cell (p := ⟨wr.heap.size, 1, none⟩) (by simp)).trans (cell_of (i := 1) hbn rfl)
            have d2 : w4.cell? ⟨wr.heap.size, 2, none⟩ = some (.int .i64 cn) := (hb4.cell (p := ⟨wr.heap.size, 2, none⟩) (by simp)).trans (cell_of (i := 2) hbn rfl)
            have hat4 := HAT1.out.heap (fun q hq => hb4.block q hq)
            have hrow4 := own_below HROW1.out (fun q e => hb4.block q (own_low HROW1.out q e).2)
            have hbb4 : Below w.heap.size w w4 := (HB.out.alloc HB.out.size _).trans (hb4.mono (by have := HB.out.size; simp; omega))
            have HRD4 := Lib.hid (HRD.out _ hat4)
            have HAT4 := Lib.hid hat4
            have HROW4 := Lib.hid hrow4
            have HB4 := Lib.hid hbb4
            clear hbn hb4 hat4 hrow4 hbb4 c0 c1 c2 HRD HRR HAT1 HROW1
            go_wp2_with fail
            refine HRD4.out.mono ?_
            rintro e w5 ⟨rfl, hat5, hgr5⟩
            have hrow5 := bits_stay HAT4.out hgr5 HROW4.out
            have hbb5 := HB4.out.trans (grown_below hgr5 HAT4.out.1 HB4.out.size)
            have hpos := rpos_any hat5
            have HPOS := Lib.hid hpos
            have HAT5 := Lib.hid hat5
            have HROW5 := Lib.hid hrow5
            have HB5 := Lib.hid hbb5
            clear hat5 hgr5 hrow5 hbb5 hpos d0 d1 d2
            go_wp2_with fail
            refine HPOS.out.mono ?_
            rintro e w6 ⟨rfl, rfl⟩
            go_wp2_with fail
            go_roundw
            case rel => exact ⟨k + 1, tn, by omega, by go_num, rfl, HAT5.out, HROW5.out, HB5.out⟩
            case measure => simp [intOf]; omega
          · have HB := Lib.hid hb
            clear hat hrow hb
            go_wp2_with fail
            refine (awake_any _).mono ?_
            rintro e w5 ⟨rfl, hb5⟩
            have HB5 := Lib.hid hb5
            clear hb5
            go_wp2
            go_ret
            exact ⟨rfl, HB.out.trans (HB5.out.mono HB.out.size)⟩

theorem own : ownKnob Try.prog.godebug = none := by kernel_rfl

set_option maxRecDepth 100000 in
theorem lifted (os : Os) (started : os.Started) (H : Type) (enc : TypeId × Value → H) :
    ReturnsInHanded {} Try.checked os 8 .any (Rows.bitioReadsSpec.pre6 enc Try.prog Try.f8 Rows.bitioReadsRow.domain false) (Rows.bitioReadsSpec.post enc Try.prog Try.f8 false true false false) := by
  refine returnsInHanded_of_change (C := Try.checked) own started (by kernel_rfl) Try.func8
    (ChangeSpec.witness6 (enc := enc) (C := Try.checked) false ⟨#[], #[.slice none 0 0, .int .i64 0, .slice none 0 0], []⟩ 8 (by kernel_rfl) (by kernel_rfl) (by kernel_rfl) (by kernel_rfl)) ?_
  intro W base args ds gs before hval0 hW hcnd _
  have hval : ∀ (j : Nat) t v, Try.f8.params[j]? = some t → args[j]? = some v → Value.okWide Try.prog W .any base t v := hval0
  have hW' := hW
  have hplt : ∀ x ∈ before, x.block < W.heap.size := fun x hx => hW.lt x hx
  obtain ⟨p, q, hA0, hV, rfl, hfz, hnd⟩ := hW
  have hA : DataW.TrodAll enc Try.prog W 0 (fun _ => true) true Try.f8.params.toList args.toList ds p := hA0
  rw [Try.params8] at hA hval
  obtain ⟨v0, vs0, d0, ds0, p0, q0, hargs, rfl, rfl, h0, r0⟩ := trodAll_cons hA
  obtain ⟨v1, vs1, d1, ds1, p1, q1, rfl, rfl, rfl, h1, r1⟩ := trodAll_cons r0
  obtain ⟨v2, vs2, d2, ds2, p2, q2, rfl, rfl, rfl, h2, r2⟩ := trodAll_cons r1
  obtain ⟨rfl, rfl, rfl⟩ := trodAll_nil r2
  obtain rfl : args = #[v0, v1, v2] := by cases args; simp_all
  obtain ⟨rfl, rfl⟩ := trodVars_none hV
  obtain ⟨L0, s0, m0⟩ := open_bytes (hval 0 22 v0 rfl rfl) h0
  obtain ⟨x1, rfl, m1, n1⟩ := open_i64 (hval 1 3 v1 rfl rfl) h1
  obtain ⟨L2, s2, m2⟩ := open_calls (hval 2 35 v2 rfl rfl) h2
  clear hA0 hval0
  refine (walk v0 L0 s0 m0 x1 m1 n1 v2 L2 s2 m2).mono fun e W' ⟨he, bel⟩ => ?_
  subst he
  exact ⟨_, rfl, _, _, _, [], _, [], hW', trodAll_mk1 (shut_bool Try.underlying4 _), (trodAll_cons_mk (Below.trod Try.laidOut (by kernel_rfl) (of_decide_eq_true (by kernel_rfl)) h0 bel (fun x hx => hplt x (by simp [hx]))) (trodAll_cons_mk (Below.trod Try.laidOut (by kernel_rfl) (of_decide_eq_true (by kernel_rfl)) h1 bel (fun x hx => hplt x (by simp [hx]))) (trodAll_cons_mk (Below.trod Try.laidOut (by kernel_rfl) (of_decide_eq_true (by kernel_rfl)) h2 bel (fun x hx => hplt x (by simp [hx]))) trodAll_mk0))), rfl, World.keptBut_mono (fun x hx => ⟨hx, Or.inr (by simpa using hx)⟩) (bel.frame (· ∈ _)), fun h => by cases h⟩

theorem over : Rows.bitioReadsRow.holds Try.pinned (OpenSpec.ofChange Rows.bitioReadsSpec) :=
  OpenClaim.holds_of_wide 8 Try.f8 rfl rfl rfl rfl rfl rfl rfl ⟨rfl, rfl, rfl, rfl, rfl⟩ rfl rfl rfl rfl rfl (by kernel_rfl) Try.func8 (by kernel_rfl)
    (of_decide_eq_true (by kernel_rfl)) (by unfold Func.isWrapper; first | (rw [if_pos (by decide +kernel)]; kernel_rfl) | (rw [if_neg (by decide +kernel)]; exact ⟨rfl, rfl⟩))
    (fun os started H enc _ => lifted os started H enc)

/-- THE STATEMENT. -/
theorem proved : Rows.BitioReadsSaid := over
end Go.Proofs.Ytpkikfdbndaekaa.bitioReads
