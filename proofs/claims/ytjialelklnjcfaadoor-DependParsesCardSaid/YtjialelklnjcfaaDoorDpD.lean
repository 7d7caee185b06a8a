/-
  WALKS over the reference of depend: Parse.
-/
import Derived.Test.YtjialelklnjcfaaDoorDpA
import Derived.Test.YtjialelklnjcfaaDoorDcG
import Derived.Test.YtjialelklnjcfaaDoorAtR
import Derived.Deep.Cut
namespace Go.Proofs.YtjialelklnjcfaaDoor
open Go Go.RowKit Go.Shelf Go.Lib
set_option linter.unusedVariables false

theorem results_parse9 {tmps : Array Value} {W : World} {B : Nat} {a b : Int} {v4 v5 v7 : Value} (h6 : tmps[6]? = some (.pointer (some ⟨B, 0, none⟩))) (h4 : tmps[4]? = some v4) (h5 : tmps[5]? = some v5) (h7 : tmps[7]? = some v7) (hB : W.heap[B]? = some (.cells #[.int .i64 a, .int .i64 b] 25 (0, 0))) :
    (results Tryd.f6 tmps).run Tryd.prog W = .ok (.tuple #[v4, v5, .agg #[.int .i64 a, .int .i64 b], v7]) W := by
  have q1 := cell_of (i := 0) hB rfl
  have q2 := cell_of (i := 1) hB rfl
  simp [results, Tryd.f6, go_sem, h4, h5, h6, h7, q1, q2]
theorem set_two {W : World} {p : Nat} {a b a' b' : Value} {t : TypeId} {f : Nat × Nat} (h : W.heap[p]? = some (.cells #[a, b] t f)) : ((W.setCell ⟨p, 0, none⟩ a').setCell ⟨p, 1, none⟩ b').heap[p]? = some (.cells #[a', b'] t f) := by
  rw [set_of (set_of h _) _]
  rfl

set_option maxRecDepth 100000 in
set_option maxHeartbeats 4000000 in
theorem refParseP_any {w : World} (s : ByteArray) (hs : s.size ≤ 2000) (T : Int) :
    Calls Tryd.prog 6 #[.string s, .int .i64 T] w (Parsed w (parseH s T)) := by
  unfold parseH
  by_cases h0 : T < 0
  · rw [if_pos (Or.inl h0)]
    have e0 : decide (T < 0) = true := decide_eq_true h0
    have hb0 := block_new w (.cells #[.int .i64 0, .int .i64 0] 25)
    obtain ⟨W0, hW0⟩ : ∃ W0, w.alloc (.cells #[.int .i64 0, .int .i64 0] 25) = W0 := ⟨_, rfl⟩
    have hbw : Below w.heap.size w W0 := by rw [← hW0]; exact below_box _ _
    rw [hW0] at hb0
    have HP1 := Lib.hid hb0
    have HW0 := Lib.hid hW0
    have HB1 := Lib.hid hbw
    have c0 := cell_of (i := 0) (v := .int .i64 0) hb0 rfl
    have f0 := frozen_of (i := 0) hb0
    have c1 := cell_of (i := 1) (v := .int .i64 0) hb0 rfl
    have f1 := frozen_of (i := 1) hb0
    clear h0 hb0 hbw hW0
    go_enter Tryd.func6, Tryd.ntmps6
    go_upto_region 1 with fail
    rw [HW0.out]
    go_wp2_with fail
    exact bodyPost_ret (results_parse9 rfl rfl rfl rfl (set_two HP1.out)) rfl (parsed_bad (p := (0, 0)) ((HB1.out.setCell (p := ⟨w.heap.size, 0, none⟩) (Nat.le_refl _) _).setCell (p := ⟨w.heap.size, 1, none⟩) (Nat.le_refl _) _))
  · by_cases h1 : 4096 < T
    · rw [if_pos (Or.inr h1)]
      have e0 : decide (T < 0) = false := decide_eq_false h0
      have e1 : decide (T > 4096) = true := decide_eq_true h1
      have hb0 := block_new w (.cells #[.int .i64 0, .int .i64 0] 25)
      obtain ⟨W0, hW0⟩ : ∃ W0, w.alloc (.cells #[.int .i64 0, .int .i64 0] 25) = W0 := ⟨_, rfl⟩
      have hbw : Below w.heap.size w W0 := by rw [← hW0]; exact below_box _ _
      rw [hW0] at hb0
      have HP1 := Lib.hid hb0
      have HW0 := Lib.hid hW0
      have HB1 := Lib.hid hbw
      have c0 := cell_of (i := 0) (v := .int .i64 0) hb0 rfl
      have f0 := frozen_of (i := 0) hb0
      have c1 := cell_of (i := 1) (v := .int .i64 0) hb0 rfl
      have f1 := frozen_of (i := 1) hb0
      clear h0 h1 hb0 hbw hW0
      go_enter Tryd.func6, Tryd.ntmps6
      go_upto_region 1 with fail
      rw [HW0.out]
      go_wp2_with fail
      exact bodyPost_ret (results_parse9 rfl rfl rfl rfl (set_two HP1.out)) rfl (parsed_bad (p := (0, 0)) ((HB1.out.setCell (p := ⟨w.heap.size, 0, none⟩) (Nat.le_refl _) _).setCell (p := ⟨w.heap.size, 1, none⟩) (Nat.le_refl _) _))
    · rw [if_neg (fun h => h.elim h0 h1), if_neg (by omega)]
      obtain ⟨t, rfl⟩ : ∃ t : Nat, T = (t : Int) := ⟨T.toNat, by omega⟩
      rw [Int.toNat_natCast]
      have e0 : decide ((t : Int) < 0) = false := decide_eq_false h0
      have e1 : decide ((t : Int) > 4096) = false := decide_eq_false h1
      have e2 : decide ((s.size : Int) > 1048576) = false := decide_eq_false (by omega)
      have hb0 := block_new w (.cells #[.int .i64 0, .int .i64 0] 25)
      obtain ⟨W0, hW0⟩ : ∃ W0, w.alloc (.cells #[.int .i64 0, .int .i64 0] 25) = W0 := ⟨_, rfl⟩
      have hbw : Below w.heap.size w W0 := by rw [← hW0]; exact below_box _ _
      have hsz0 : W0.heap.size = w.heap.size + 1 := by rw [← hW0]; simp
      rw [hW0] at hb0
      have hpr := refParse_any (w := W0) s hs t (by omega)
      have hrg := textE_range t s.data.toList
      have hsl : (s.data.toList.length : Int) = (s.size : Int) := by rw [← Lib.size_eq]
      rw [hsl] at hrg
      have hpos := fun (W : World) => refPosition_in s hs (textE t s.data.toList).1 hrg.1 hrg.2 W
      unfold RParsed at hpr
      obtain ⟨⟨t1, t2⟩, hte⟩ : ∃ r, textE t s.data.toList = r := ⟨_, rfl⟩
      rw [hte] at hpr hpos ⊢
      simp only at hpr hpos ⊢
      have HPR := Lib.hid hpr
      have HPO := Lib.hid hpos
      have HW0 := Lib.hid hW0
      have HP0 := Lib.hid hb0
      have HB0 := Lib.hid hbw
      have HSZ := Lib.hid hsz0
      clear hpr hpos hte hrg hsl hW0 hbw hb0 hsz0 h0 h1
      by_cases hz : t2 = 0
      · rw [if_pos hz]
        subst hz
        obtain ⟨hs', hhs⟩ : ∃ l, (rd t (linesL s.data.toList)).hs = l := ⟨_, rfl⟩
        obtain ⟨rs', hrs⟩ : ∃ l, (rd t (linesL s.data.toList)).rs = l := ⟨_, rfl⟩
        rw [hhs, hrs] at HPR ⊢
        clear hhs hrs
        go_enter Tryd.func6, Tryd.ntmps6
        go_upto_region 1 with fail
        rw [HW0.out]
        go_wp2_with fail
        refine HPR.out.mono ?_
        rintro e W1 ⟨⟨vh, vr, rfl, hro, -⟩, hb1⟩
        obtain ⟨oh, orr⟩ : W1.ownsRow W0.heap.size 3 1 vh hs'.length (intV hs') ∧ W1.ownsRow W0.heap.size 9 1 vr rs'.length (strsV rs') := by first | exact hro rfl | exact hro trivial | exact hro
        obtain ⟨Ah, ch, rfl, -⟩ := own_form oh
        obtain ⟨Ar, cr, rfl, -⟩ := own_form orr
        have hp1 := block_below HP0.out hb1 (by have := HSZ.out; omega)
        have HP1 := Lib.hid hp1
        have HB1 := Lib.hid (HB0.out.trans (hb1.mono (by have := HSZ.out; omega)))
        have HOH := Lib.hid oh
        have HOR := Lib.hid orr
        have c0 := cell_of (i := 0) (v := .int .i64 0) hp1 rfl
        have f0 := frozen_of (i := 0) hp1
        have c1 := cell_of (i := 1) (v := .int .i64 0) hp1 rfl
        have f1 := frozen_of (i := 1) hp1
        clear hp1 hb1 oh orr hro HPR HPO HW0
        go_wp2_with fail
        have hlt : w.heap.size < W0.heap.size := by have := HSZ.out; omega
        refine bodyPost_ret (results_parse9 (B := w.heap.size) (a := 0) (b := 0) rfl rfl rfl rfl ?_) rfl ⟨⟨_, _, rfl, ?_, ?_, fun h => absurd rfl h⟩, ?_⟩
        · exact set_two HP1.out
        · exact own_base (own_set (own_set HOH.out hlt) hlt) (Nat.le_of_lt hlt)
        · exact own_base (own_set (own_set HOR.out hlt) hlt) (Nat.le_of_lt hlt)
        · exact (HB1.out.setCell (p := ⟨w.heap.size, 0, none⟩) (Nat.le_refl _) _).setCell (p := ⟨w.heap.size, 1, none⟩) (Nat.le_refl _) _
      · rw [if_neg hz]
        have hzb : (t2 != 0) = true := by simp [hz]
        go_enter Tryd.func6, Tryd.ntmps6
        go_upto_region 1 with fail
        rw [HW0.out]
        go_wp2_with fail
        refine HPR.out.mono ?_
        rintro e W1 ⟨⟨vh, vr, rfl, -, hnil⟩, hb1⟩
        have HB1 := Lib.hid (HB0.out.trans (hb1.mono (by have := HSZ.out; omega)))
        have HP1 := Lib.hid (block_below HP0.out hb1 (by have := HSZ.out; omega))
        clear hb1 hnil HPR HW0 hz
        go_wp2_with fail
        refine (HPO.out _).mono ?_
        rintro e W2 ⟨rfl, hb2⟩
        have HB2 := Lib.hid hb2
        have HP2 := Lib.hid (block_below HP1.out hb2 (Array.getElem?_eq_some_iff.1 HP1.out).1)
        have c0 := cell_of (i := 0) (v := .int .i64 0) HP2.out rfl
        have c1 := cell_of (i := 1) (v := .int .i64 0) HP2.out rfl
        have f0 := frozen_of (i := 0) HP2.out
        have f1 := frozen_of (i := 1) HP2.out
        clear hb2
        unfold posV
        go_wp2_with fail
        exact bodyPost_ret (results_parse9 rfl rfl rfl rfl (set_of (set_of HP2.out _) _)) rfl (parsed_bad (p := posP (before s t1)) (((HB1.out.trans (HB2.out.mono HB1.out.size)).setCell (p := ⟨w.heap.size, 0, none⟩) (Nat.le_refl _) _).setCell (p := ⟨w.heap.size, 1, none⟩) (Nat.le_refl _) _))
end Go.Proofs.YtjialelklnjcfaaDoor
