/-
  DependParses is proved: for every string and every number the call of the law returns true, and each argument reads afterwards as it read before. The package-level variables that the row lists hold what the program's text lays in them: this is tied to the text.
-/
import Derived.Test.YtjialelklnjcfaaDoorRows
import Derived.Test.YtjialelklnjcfaaDoorCards
import Derived.Test.YtjialelklnjcfaaDoorTie
import Derived.Test.YtjialelklnjcfaaDoorDcL
import Derived.Test.YtjialelklnjcfaaDoorDcG
import Derived.Test.YtjialelklnjcfaaDoorDpD
import Derived.Test.YtjialelklnjcfaaDoorDpB
import Derived.ProofKit
import Derived.OpenShut
import Derived.Carry
import Derived.SevenTiedAt
import Derived.LaidMore
import Derived.Stop.Joined
namespace Go.Proofs.YtjialelklnjcfaaDoor.dependParses
open Go.ChangeShapes Go.WideShapes Go.ChangeAt Go.RowKit Go.Shelf Go.Lib
set_option linter.unusedVariables false

theorem lt_blk {W : World} {b : Nat} {o : Obj} (h : W.heap[b]? = some o) : b < W.heap.size := (Array.getElem?_eq_some_iff.1 h).1
theorem parseH_len (s : ByteArray) (T : Int) : (parseH s T).2.2.1.length ≤ 4096 ∧ (parseH s T).2.2.2.length ≤ 4096 := by
  unfold parseH
  split
  · exact ⟨Nat.zero_le _, Nat.zero_le _⟩
  · rename_i h0
    split
    · exact ⟨Nat.zero_le _, Nat.zero_le _⟩
    · split
      · rename_i hz
        obtain ⟨h1, h2, -⟩ := textE_ok T.toNat s.data.toList hz
        show (rd T.toNat (linesL s.data.toList)).hs.length ≤ 4096 ∧ (rd T.toNat (linesL s.data.toList)).rs.length ≤ 4096
        rw [h1, h2]
        omega
      · exact ⟨Nat.zero_le _, Nat.zero_le _⟩
set_option maxRecDepth 100000 in
set_option maxHeartbeats 8000000 in
theorem walk (s : ByteArray) (hs : s.size ≤ maxLen) (T : Int) (_ : -9223372036854775808 ≤ T) (_ : T ≤ 9223372036854775807) {w : World} (hE : ErrAt w) :
    Calls Tryd.prog 3 #[.string s, .int .i64 T] w fun e w1 => e = .returned (.bool true) ∧ Below w.heap.size w w1 := by
  have HP := Lib.hid (parse_any hE s T)
  have HA := Lib.hid (fun (W : World) (hb : Below w.heap.size w W) => awake_any (w := W) (ErrAt.same hE (hb.block _ hE.lt)))
  unfold maxLen at hs
  clear hE
  by_cases c1 : 1500 < s.size
  · clear HP
    have c1' : (s.size : Int) > 1500 := by omega
    go_enter Tryd.func3, Tryd.ntmps3
    go_wp2_with fail
    go_ret
    exact ⟨rfl, Below.refl _ _⟩
  have c1' : ¬ (s.size : Int) > 1500 := by omega
  have HR := Lib.hid (fun (W : World) => refParseP_any (w := W) s (by omega) T)
  obtain ⟨hl1, hl2⟩ := parseH_len s T
  obtain ⟨⟨⟨q1, q2⟩, er, H, G⟩, hr⟩ : ∃ r, parseH s T = r := ⟨_, rfl⟩
  rw [hr] at HP HR hl1 hl2
  simp only at hl1 hl2
  obtain ⟨p1, hp1⟩ : ∃ p : Int, (q1 : Int) = p := ⟨_, rfl⟩
  obtain ⟨p2, hp2⟩ : ∃ p : Int, (q2 : Int) = p := ⟨_, rfl⟩
  have HIN := Lib.hid (fun (W : World) (a b : Value) (ha : Rows 1 EInt W a H) (hb : Rows 1 EInt W b H) => sameInts_any ha hb (by unfold maxLen; omega) (by unfold maxLen; omega))
  have HST := Lib.hid (fun (W : World) (a b : Value) (ha : Rows 1 EStr W a G) (hb : Rows 1 EStr W b G) => sameStrs_any ha hb (by unfold maxLen; omega) (by unfold maxLen; omega))
  rw [decide_eq_true rfl] at HIN HST
  have eer : (er == er) = true := by simp
  clear hr hl1 hl2
  go_enter Tryd.func3, Tryd.ntmps3
  go_wp2_with fail
  refine HP.out.mono ?_
  rintro e w1 ⟨⟨vh, vr, rfl, oh, orr, -⟩, hb1⟩
  simp only at oh orr
  have HH := Lib.hid (fun (W : World) (hb : Below w1.heap.size w1 W) => (own_rows (base := w.heap.size) oh).below stays_int hb)
  have HG := Lib.hid (fun (W : World) (hb : Below w1.heap.size w1 W) => (own_rowsS (base := w.heap.size) orr).below stays_str hb)
  have HB1 := Lib.hid hb1
  obtain ⟨Ah, ch, rfl, -⟩ := own_form oh
  obtain ⟨Ar, cr, rfl, -⟩ := own_form orr
  clear hb1 oh orr HP
  unfold posV
  simp only [hp1, hp2]
  go_wp2_with fail
  obtain ⟨w2, hw2⟩ : ∃ W, w1.alloc (.cells #[.int .i64 p1, .int .i64 p2] 25) = W := ⟨_, rfl⟩
  rw [hw2]
  obtain ⟨P1, hP1⟩ : ∃ P, w1.heap.size = P := ⟨_, rfl⟩
  have hk2 : w2.heap[P1]? = some (.cells #[.int .i64 p1, .int .i64 p2] 25 (0, 0)) := by rw [← hw2, ← hP1]; exact block_new w1 _
  have hb2 : Below w1.heap.size w1 w2 := by rw [← hw2]; exact below_box w1 _
  have HB2 := Lib.hid hb2
  have HB2' := Lib.hid (HB1.out.trans (hb2.mono HB1.out.size))
  have HK2 := Lib.hid hk2
  have HP1 := Lib.hid hP1
  rw [hP1]
  clear hw2 hk2 hb2 hP1
  refine (HR.out w2).mono ?_
  rintro e w3 ⟨⟨vh2, vr2, rfl, oh, orr, -⟩, hb3⟩
  simp only at oh orr
  have HH2 := Lib.hid (fun (W : World) (hb : Below w3.heap.size w3 W) => (own_rows (base := w2.heap.size) oh).below stays_int hb)
  have HG2 := Lib.hid (fun (W : World) (hb : Below w3.heap.size w3 W) => (own_rowsS (base := w2.heap.size) orr).below stays_str hb)
  have HB3 := Lib.hid (HB2.out.trans (hb3.mono HB2.out.size))
  have HK3 := Lib.hid (block_below HK2.out hb3 (lt_blk HK2.out))
  obtain ⟨Ah2, ch2, rfl, -⟩ := own_form oh
  obtain ⟨Ar2, cr2, rfl, -⟩ := own_form orr
  clear hb3 oh orr
  unfold posV
  simp only [hp1, hp2]
  clear hp1 hp2
  go_wp2_with fail
  obtain ⟨w4, hw4⟩ : ∃ W, w3.alloc (.cells #[.int .i64 p1, .int .i64 p2] 25) = W := ⟨_, rfl⟩
  rw [hw4]
  obtain ⟨P2, hP2⟩ : ∃ P, w3.heap.size = P := ⟨_, rfl⟩
  have hk4 : w4.heap[P2]? = some (.cells #[.int .i64 p1, .int .i64 p2] 25 (0, 0)) := by rw [← hw4, ← hP2]; exact block_new w3 _
  have hb4 : Below w3.heap.size w3 w4 := by rw [← hw4]; exact below_box w3 _
  have HB4 := Lib.hid hb4
  have HB4' := Lib.hid (HB3.out.trans (hb4.mono HB3.out.size))
  have HK4 := Lib.hid hk4
  have HK4' := Lib.hid (block_below HK3.out hb4 (lt_blk HK3.out))
  rw [hP2]
  clear hw4 hk4 hb4 hP2
  refine (HIN.out w4 _ _ (HH.out w4 HB4'.out) (HH2.out w4 HB4.out)).mono ?_
  rintro e w5 ⟨rfl, hb5⟩
  have HB5 := Lib.hid (HB4.out.trans (hb5.mono HB4.out.size))
  have HB5' := Lib.hid (HB4'.out.trans (hb5.mono HB4'.out.size))
  have HK5 := Lib.hid (block_below HK4.out hb5 (lt_blk HK4.out))
  have HK5' := Lib.hid (block_below HK4'.out hb5 (lt_blk HK4'.out))
  clear hb5
  go_wp2_with fail
  refine (HST.out w5 _ _ (HG.out w5 HB5'.out) (HG2.out w5 HB5.out)).mono ?_
  rintro e w6 ⟨rfl, hb6⟩
  have HB6 := Lib.hid (HB1.out.trans ((HB5'.out.trans (hb6.mono HB5'.out.size)).mono HB1.out.size))
  have hk6 := block_below HK5.out hb6 (lt_blk HK5.out)
  have hk6' := block_below HK5'.out hb6 (lt_blk HK5'.out)
  have z0 := cell_of (i := 0) hk6 rfl
  have z1 := cell_of (i := 1) hk6 rfl
  have y0 := cell_of (i := 0) hk6' rfl
  have y1 := cell_of (i := 1) hk6' rfl
  clear hb6 hk6 hk6'
  go_wp2_with fail
  refine (HA.out w6 HB6.out).mono ?_
  rintro e w7 ⟨rfl, hb7⟩
  have HB7 := Lib.hid (HB6.out.trans (hb7.mono HB6.out.size))
  clear hb7
  go_wp2_with fail
  go_ret
  exact ⟨rfl, HB7.out⟩

theorem own : ownKnob Tryd.prog.godebug = none := by kernel_rfl

set_option maxRecDepth 100000 in
theorem lifted (os : Os) (started : os.Started) (H : Type) (enc : TypeId × Value → H) :
    ReturnsInHanded {} Tryd.checked os 3 .any (fun w args => (Rows.dependParsesSpec.pre enc Tryd.prog Tryd.f3 [] false w args ∧ laidMetH Tryd.prog Rows.dependParsesRow.laid w) ∧ sizedMet enc Tryd.prog Tryd.f3 (OpenSpec.ofChange Rows.dependParsesSpec) false w args)
      (Rows.dependParsesSpec.post enc Tryd.prog Tryd.f3 false true false false) := by
  refine returnsInHanded_of_change_and (C := Tryd.checked) (X := fun w _ => laidMetH Tryd.prog Rows.dependParsesRow.laid w) (fun _ _ _ hh h => h.of_heap hh) own started (by kernel_rfl) Tryd.func3
    (ChangeSpec.witness_shaped (enc := enc) (C := Tryd.checked) (os := os) (X := fun w _ => laidMetH Tryd.prog Rows.dependParsesRow.laid w) false (World.laidAll Tryd.prog os laidAll) #[.string ⟨#[]⟩, .int .i64 0] 8 (World.laidAll_os _ _ _) (all_shaped os) (by kernel_rfl) (by kernel_rfl) (by kernel_rfl) (all_met os _)) ?_
  intro W base args ds gs before hval0 hW _ _ hL _
  have hval : ∀ (j : Nat) t v, Tryd.f3.params[j]? = some t → args[j]? = some v → Value.okWide Tryd.prog W .any base t v := hval0
  have hW' := hW
  have hplt : ∀ x ∈ before, x.block < W.heap.size := fun x hx => hW.lt x hx
  obtain ⟨p, q, hA0, hV, rfl, hfz, hnd⟩ := hW
  have hA : DataW.TrodAll enc Tryd.prog W 0 (fun _ => true) true Tryd.f3.params.toList args.toList ds p := hA0
  rw [Tryd.params3] at hA hval
  obtain ⟨v0, vs0, d0, ds0, p0, q0, hargs, rfl, rfl, h0, r0⟩ := trodAll_cons hA
  obtain ⟨v1, vs1, d1, ds1, p1, q1, rfl, rfl, rfl, h1, r1⟩ := trodAll_cons r0
  obtain ⟨rfl, rfl, rfl⟩ := trodAll_nil r1
  obtain rfl : args = #[v0, v1] := by cases args; simp_all
  obtain ⟨rfl, rfl⟩ := trodVars_none hV
  obtain ⟨a0, rfl, m0⟩ := open_str (hval 0 9 v0 rfl rfl) h0
  obtain ⟨x1, rfl, m1, n1⟩ := open_i64 (hval 1 3 v1 rfl rfl) h1
  clear hA0 hval0
  refine (walk a0 m0 x1 m1 n1 (err_of_laid hL)).mono fun e W' ⟨he, bel⟩ => ?_
  subst he
  exact ⟨_, rfl, _, _, _, [], _, [], hW', trodAll_mk1 (shut_bool Tryd.underlying4 _), (trodAll_cons_mk (Below.trod Tryd.laidOut (by kernel_rfl) (of_decide_eq_true (by kernel_rfl)) h0 bel (fun x hx => hplt x (by simp [hx]))) (trodAll_cons_mk (Below.trod Tryd.laidOut (by kernel_rfl) (of_decide_eq_true (by kernel_rfl)) h1 bel (fun x hx => hplt x (by simp [hx]))) trodAll_mk0)), rfl, World.keptBut_mono (fun x hx => ⟨hx, Or.inr (by simpa using hx)⟩) (bel.frame (· ∈ _)), fun h => by cases h⟩

theorem over : Rows.dependParsesRow.holds Tryd.pinned (OpenSpec.ofChange Rows.dependParsesSpec) :=
  OpenClaim.holds_of_wide 3 Tryd.f3 rfl rfl rfl rfl rfl rfl rfl ⟨rfl, rfl, rfl, rfl, rfl⟩ rfl rfl rfl rfl rfl (by kernel_rfl) Tryd.func3 (by kernel_rfl)
    (of_decide_eq_true (by kernel_rfl)) (by unfold Func.isWrapper; first | (rw [if_pos (by decide +kernel)]; kernel_rfl) | (rw [if_neg (by decide +kernel)]; exact ⟨rfl, rfl⟩))
    (fun os started H enc _ => lifted os started H enc)

/-- THE STATEMENT: the tied card. -/
theorem proved : Rows.DependParsesCardSaid :=
  Claim7.holds_tied_plain_at .later [] Rows.dependParsesCard.laidKinds true Rows.dependParsesCard.stood.harness Rows.dependParsesCard.stood.looks
    over (fun _ h => by cases h) (by kernel_rfl) (fun _ h => by cases h) dependParses_row_tie rfl ⟨rfl, rfl⟩ (by kernel_rfl) rfl
    (fun f fn hf hfn => by
      obtain rfl : f = 3 := Option.some.inj ((show Tryd.prog.funcNamed "corpora/corporalaw09.DependParses" = some 3 by kernel_rfl).symm.trans hf) |>.symm
      obtain rfl : fn = Tryd.f3 := (Option.some.inj (Tryd.func3.symm.trans hfn)).symm
      exact ⟨by kernel_rfl, fun j t ht => by
        rw [Tryd.params3] at ht
        have hm : t ∈ [9, 3] := by simpa using Array.mem_of_getElem? ht
        have hall : ([9, 3].all fun u => !Tryd.prog.wantsStandIn u) = true := by kernel_rfl
        exact (show Tryd.prog.wantsStandIn t = false by simpa using List.all_eq_true.1 hall t hm)⟩)
    (by kernel_rfl)
end Go.Proofs.YtjialelklnjcfaaDoor.dependParses
