/-
  WALKS over the reference of treelabel, first part: cyclic, the method walk, which calls itself.
-/
import Derived.Test.YtjialelklnjcfaaEbA
import Derived.BigRegion
namespace Go.Proofs.Ytjialelklnjcfaa
open Go Go.RowKit Go.Shelf Go.Lib
set_option linter.unusedVariables false
set_option linter.unusedSimpArgs false

theorem itN_none2 {h : List Int} {m i : Nat} (e : itN h m i = none) (d : Nat) : itN h (m + d) i = none := by rw [itN_add, e]; rfl
section
attribute [local go_sem] Oper.semAt_some
set_option maxRecDepth 100000 in
set_option maxHeartbeats 8000000 in
theorem refCyclic10_any {w : World} {v1 : Value} {h : List Int} (hv : Rows 1 EInt w v1 h) (hl : h.length ≤ maxLen) (i : Nat) (hi : i < h.length) (hin : ∀ x ∈ h, x = -1 ∨ (0 ≤ x ∧ x < h.length)) :
    Calls Try.prog 33 #[v1, .int .i64 i] w fun e w' => e = .returned (.bool (cyc h i)) ∧ Below w.heap.size w w' := by
  obtain ⟨A, cap, rfl, hc⟩ := hv.form
  obtain ⟨n, hn⟩ : ∃ n, h.length = n := ⟨_, rfl⟩
  obtain ⟨q, hq⟩ : ∃ q, cyc h i = q := ⟨_, rfl⟩
  rw [hq]
  have hci := cyc_iff2 h i
  rw [hq] at hci
  have HV := Lib.hid (fun W (hb : Below w.heap.size w W) => hv.below stays_int hb)
  rw [hn] at hc hl hi HV hci hin ⊢
  unfold maxLen at hl
  have HN := Lib.hid hn
  have HIN := Lib.hid hin
  have HCI := Lib.hid hci
  clear hq hv hn hci hin
  have i0 : (0 : Int) ≤ (i : Int) := by omega
  have in0 : (i : Int) < (n : Int) := by omega
  go_enter Try.func33, Try.ntmps33
  go_wp2_with fail
  go_loopw [5, 9] (fun a m wr => ∃ (k t : Nat), k ≤ n ∧ a = .int .i64 t ∧ t < n ∧ m = .int .i64 k ∧ Hid (itN h k i = some t) ∧ Hid (∀ j, j < k → itN h (j + 1) i ≠ some i) ∧ Below w.heap.size w wr) (fun _ m _ => n - (Go.RowKit.intOf m).toNat)
  case atStart => exact ⟨0, i, Nat.zero_le _, rfl, hi, rfl, Lib.hid rfl, Lib.hid (fun j h => absurd h (by omega)), Below.refl _ _⟩
  case round =>
    obtain ⟨k, t, hk, rfl, ht, rfl, hit, hno, hb⟩ := hrel
    by_cases hlt : k < n
    · obtain ⟨x, hx⟩ : ∃ x, h[t]? = some x := ⟨_, List.getElem?_eq_getElem (by rw [HN.out]; exact ht)⟩
      obtain ⟨b1, o1, rfl, -, hj1⟩ := at_int (HV.out wr hb) (by rw [HN.out]; omega)
      have u0 := hj1 t x hx
      have HB := Lib.hid hb
      have t0 : (0 : Int) ≤ (t : Int) := by omega
      have t1 : (t : Int) < (n : Int) := by omega
      have hsn := itN_snoc hit.out
      have hxr := HIN.out x (List.mem_of_getElem? hx)
      by_cases hr : 0 ≤ x ∧ x < n
      · obtain ⟨y, rfl⟩ : ∃ y : Nat, x = (y : Int) := ⟨x.toNat, by omega⟩
        have y0 : ¬ (y : Int) < 0 := by omega
        have y1 : ¬ (n : Int) ≤ (y : Int) := by omega
        have hst : stN h t = some y := by
          unfold stN
          rw [hx]
          simp only
          rw [if_pos ⟨hr.1, by rw [HN.out]; exact hr.2⟩, Int.toNat_natCast]
        rw [hst] at hsn
        by_cases hy : y = i
        · subst hy
          have hqt : q = true := HCI.out.2 ⟨k, hlt, hsn⟩
          subst hqt
          clear hj1 hx hb hsn hst hr hxr
          go_wp2_with fail
          go_ret
          exact ⟨rfl, HB.out⟩
        · have hyb : ((y : Int) == (i : Int)) = false := by simp; omega
          have hyi : ¬ ((y : Int) = (i : Int)) := by omega
          have HSN := Lib.hid hsn
          have hno' : Hid (∀ j, j < k + 1 → itN h (j + 1) i ≠ some i) := Lib.hid fun j hj => by
            by_cases e : j = k
            · subst e
              rw [hsn]
              intro h
              exact hy (Option.some.inj h)
            · exact hno.out j (by omega)
          have hyn : y < n := by omega
          clear hj1 hx hb hsn hst hr hy hxr
          go_wp2_with fail
          exact ⟨⟨k + 1, y, by omega, rfl, hyn, by go_num, HSN, hno', HB.out⟩, by simp only [Go.RowKit.intOf]; omega⟩
      · have hst : stN h t = none := stN_none hx (by rw [HN.out]; exact hr)
        rw [hst] at hsn
        have hqf : q = false := by
          rw [← Bool.not_eq_true]
          intro hq
          obtain ⟨j, hj, e⟩ := HCI.out.1 hq
          by_cases hjk : j < k
          · exact hno.out j hjk e
          · have := itN_none2 hsn (j - k)
            rw [show k + 1 + (j - k) = j + 1 by omega, e] at this
            cases this
        subst hqf
        have x0 : x < 0 := by omega
        clear hj1 hx hb hsn hst hr hxr
        go_wp2_with fail
        go_ret
        exact ⟨rfl, HB.out⟩
    · obtain rfl : k = n := by omega
      have hqf : q = false := by
        rw [← Bool.not_eq_true]
        intro hq
        obtain ⟨j, hj, e⟩ := HCI.out.1 hq
        exact hno.out j hj e
      subst hqf
      have HB := Lib.hid hb
      clear hb
      go_wp2_with fail
      go_ret
      exact ⟨rfl, HB.out⟩


end
theorem checkH_big {h : List Int} (hn : 4096 < h.length) : checkH h = (0, 2) := by unfold checkH; rw [if_pos hn]
theorem checkH_out {h : List Int} (hn : h.length ≤ 4096) {k : Nat} {x : Int} (hx : h[k]? = some x) (ho : outH h.length x = true) (hb : ∀ (j : Nat) (y : Int), j < k → h[j]? = some y → outH h.length y = false) : checkH h = ((k : Int), 8) := by
  unfold checkH
  rw [if_neg (by omega), findZ_at hx ho hb, if_pos (by omega)]
theorem checkH_in {h : List Int} (hn : h.length ≤ 4096) (hb : ∀ (j : Nat) (y : Int), j < h.length → h[j]? = some y → outH h.length y = false) :
    (∀ x ∈ h, x = -1 ∨ (0 ≤ x ∧ x < h.length)) ∧ (∀ k, k < h.length → cyc h k = true → (∀ j, j < k → cyc h j = false) → checkH h = ((k : Int), 12)) ∧ ((∀ j, j < h.length → cyc h j = false) → checkH h = (0, 0)) := by
  have hz := findZ_miss (p := outH h.length) (xs := h) rfl hb
  refine ⟨fun x hx => ?_, fun k hk hc hj => ?_, fun hj => ?_⟩
  · obtain ⟨j, hj, e⟩ := List.getElem_of_mem hx
    exact outH_false.1 (hb j x hj (by rw [List.getElem?_eq_getElem hj, e]))
  · unfold checkH
    rw [if_neg (by omega), hz, if_neg (by omega), findZ_at (l := List.range h.length) (i := k) (x := k) (by rw [List.getElem?_range hk]) hc (fun j y hjk hy => by
      rw [List.getElem?_range (by omega)] at hy
      cases hy
      exact hj j hjk), if_pos (by omega)]
  · unfold checkH
    rw [if_neg (by omega), hz, if_neg (by omega), findZ_miss (p := cyc h) (xs := List.range h.length) (k := h.length) (by simp) (fun j y hjk hy => by
      rw [List.getElem?_range (by omega)] at hy
      cases hy
      exact hj j hjk), if_neg (by omega)]

/-- The reference's walk in memory. -/
structure RSt (B : Nat) (w W : World) (p bl n : Nat) (vp : Value) (s : LS) : Prop where
  below : Below B w W
  box : W.heap[p]? = some (.cells #[vp, .slice (some ⟨bl, 0, none⟩) n n, .int .i64 (s.2.1 : Int), .int .i64 (s.2.2 : Int)] 63 (0, 0))
  l : W.heap[bl]? = some (.cells (labRow s.1) 43 (0, 0))
/-- Where its blocks lie. -/
structure RC (B p bl : Nat) : Prop where
  hp : B ≤ p
  hl : B ≤ bl
  pl : bl ≠ p
theorem RSt.drew {B : Nat} {w W : World} {p bl n : Nat} {vp : Value} {s : LS} (h : RSt B w W p bl n vp s) : RSt B w W.drew p bl n vp s :=
  ⟨below_drewN h.below 1, h.box, h.l⟩
theorem RSt.pre {B : Nat} {w W : World} {p bl n : Nat} {vp : Value} {s : LS} (hC : RC B p bl) (h : RSt B w W p bl n vp s) : RSt B w (W.setCell ⟨p, 2, none⟩ (.int .i64 ((s.2.1 : Int) + 1))) p bl n vp (s.1, s.2.1 + 1, s.2.2) := by
  refine ⟨h.below.setCell (p := ⟨p, 2, none⟩) hC.hp _, ?_, (Below.heap_setCell W ⟨p, 2, none⟩ _ bl hC.pl).trans h.l⟩
  rw [set_of h.box]
  rfl
theorem RSt.post {B : Nat} {w W : World} {p bl n : Nat} {vp : Value} {s : LS} (hC : RC B p bl) (h : RSt B w W p bl n vp s) : RSt B w (W.setCell ⟨p, 3, none⟩ (.int .i64 ((s.2.2 : Int) + 1))) p bl n vp (s.1, s.2.1, s.2.2 + 1) := by
  refine ⟨h.below.setCell (p := ⟨p, 3, none⟩) hC.hp _, ?_, (Below.heap_setCell W ⟨p, 3, none⟩ _ bl hC.pl).trans h.l⟩
  rw [set_of h.box]
  rfl
theorem RSt.cell {B : Nat} {w W : World} {p bl n : Nat} {vp : Value} {s : LS} (hC : RC B p bl) (h : RSt B w W p bl n vp s) {i c : Nat} {x y : Lb} (hx : s.1[i]? = some x) (hc : c < 3) (v : Value) (hy : (lbV x).set c v = lbV y) :
    RSt B w (W.setCell ⟨bl, i * 3 + c, none⟩ v) p bl n vp (s.1.set i y, s.2) := by
  refine ⟨h.below.setCell (p := ⟨bl, i * 3 + c, none⟩) hC.hl _, (Below.heap_setCell W ⟨bl, i * 3 + c, none⟩ _ p (fun e => hC.pl e.symm)).trans h.box, ?_⟩
  rw [set_of h.l, labRow_set1 hx hc v hy]

set_option maxRecDepth 100000 in
set_option maxHeartbeats 8000000 in
theorem refWalk_step {h : List Int} (hO : Okh h) {n : Nat} (hn : h.length = n) (hn4 : n ≤ 4096) {B p bl : Nat} (hC : RC B p bl) {w : World} {A : Option Addr} {cap : Nat} (hv : ∀ W, Below B w W → Rows 1 EInt W (.slice A n cap) h) (f : Nat) (pz : Int) (d : Nat) (hf : f + (d + 1) = n + 1) (hp : AtD h pz d)
    (ih : ∀ k : Nat, h[k]? = some pz → ∀ (s : LS) (W : World), s.1.length = n → (wk h f k (d + 1) s).2.1 ≤ 4096 → (wk h f k (d + 1) s).2.2 ≤ 4096 → RSt B w W p bl n (.slice A n cap) s →
      Calls Try.prog 34 #[.pointer (some ⟨p, 0, none⟩), .int .i64 (k : Int), .int .i64 ((d : Int) + 1)] W fun e w' => e = .returned (.tuple #[]) ∧ RSt B w w' p bl n (.slice A n cap) (wk h f k (d + 1) s))
    (s : LS) (W : World) (hs : s.1.length = n) (hb1 : ((kids h pz).foldl (wkStep h f d) s).2.1 ≤ 4096) (hb2 : ((kids h pz).foldl (wkStep h f d) s).2.2 ≤ 4096) (hw : RSt B w W p bl n (.slice A n cap) s) :
    Calls Try.prog 34 #[.pointer (some ⟨p, 0, none⟩), .int .i64 pz, .int .i64 (d : Int)] W fun e w' => e = .returned (.tuple #[]) ∧ RSt B w w' p bl n (.slice A n cap) ((kids h pz).foldl (wkStep h f d) s) := by
  have b0 := cell_of (i := 0) hw.box rfl
  obtain ⟨fin, hfin⟩ : ∃ t, (kids h pz).foldl (wkStep h f d) s = t := ⟨_, rfl⟩
  rw [hfin] at hb1 hb2 ⊢
  have hd4 : d ≤ 4096 := by omega
  have hdw : IntKind.i64.wrap ((d : Int) + 1) = (d : Int) + 1 := by rw [IntKind.wrap_i64]; omega
  have hfin0 : (kidsF h pz 0).foldl (wkStep h f d) s = fin := by rw [kidsF_zero]; exact hfin
  have HN := Lib.hid hn
  have HC := Lib.hid hC
  have HIH := Lib.hid ih
  have HFIN := Lib.hid hfin0
  have HW := Lib.hid hw
  have HV := Lib.hid hv
  have HO := Lib.hid hO
  have HP := Lib.hid hp
  have HHF := Lib.hid hf
  clear hfin hfin0 hw ih hC hn hv hO hp hf
  go_enter Try.func34, Try.ntmps34
  go_wp2_with fail
  clear b0
  go_loopw [13] (fun iv wr => ∃ (j : Nat) (t : LS), j ≤ n ∧ iv = .int .i64 j ∧ t.1.length = n ∧ Hid ((kidsF h pz j).foldl (wkStep h f d) t = fin) ∧ Hid (RSt B w wr p bl n (.slice A n cap) t)) (fun iv _ => n - (Go.RowKit.intOf iv).toNat)
  case atStart => exact ⟨0, s, Nat.zero_le _, rfl, hs, HFIN, HW⟩
  case round =>
    clear HFIN HW hs
    obtain ⟨j, t, hj, rfl, htl, HF, HW⟩ := hrel
    by_cases hlt : j < n
    · have hji : (j : Int) < (n : Int) := by omega
      obtain ⟨x, hx⟩ : ∃ x, h[j]? = some x := ⟨_, List.getElem?_eq_getElem (by rw [HN.out]; exact hlt)⟩
      obtain ⟨bk, off, rfl, -, hcell⟩ := at_int (HV.out wr HW.out.below) (by rw [HN.out]; omega)
      have u0 := hcell j x hx
      clear hcell
      by_cases hxp : x = pz
      · subst hxp
        have hxb : (x != x) = false := by simp
        have hfl := HF.out
        rw [kidsF_cons hx, List.foldl_cons] at hfl
        obtain ⟨o, ho⟩ : ∃ o, t.1[j]? = some o := ⟨_, List.getElem?_eq_getElem (by rw [htl]; exact hlt)⟩
        have hkd := HP.out.kid HO.out hx
        obtain ⟨r, hr, hrl, hrk, hst⟩ := wk_ref HO.out (k := j) (f := f) (d := d) t o (by rw [HN.out]; exact HHF.out) (by rw [HN.out]; exact hlt) hkd (by rw [htl, HN.out])
        rw [HN.out] at hrl
        rw [hst] at hfl
        have hsm := fold_small (h := h) (f := f) (d := d) (kidsF h x (j + 1)) (r.1.set j ((t.2.1 : Int), (r.2.2 : Int), (d : Int)), r.2.1, r.2.2 + 1)
        rw [hfl] at hsm
        have hsm2 := wk_small (h := h) f j (d + 1) (t.1.set j ((t.2.1 : Int), o.2.1, (d : Int)), t.2.1 + 1, t.2.2)
        rw [hr] at hsm2
        simp only at hsm hsm2
        have hw := HW.out
        have b1 := cell_of (i := 1) hw.box rfl
        have b2 := cell_of (i := 2) hw.box rfl
        obtain ⟨l0, l1, l2⟩ := labRow_get ho
        have c0 := cell_of (i := j * 3) hw.l l0
        have c2 := cell_of (i := j * 3 + 2) hw.l l2
        have g0 : wr.frozen? ⟨bl, j * 3, none⟩ = false := frozen_of hw.l
        have g2 : wr.frozen? ⟨bl, j * 3 + 2, none⟩ = false := frozen_of hw.l
        have hs1 := hw.cell HC.out (i := j) (c := 0) (x := o) (y := ((t.2.1 : Int), o.2.1, o.2.2)) ho (by omega) (.int .i64 (t.2.1 : Int)) rfl
        have hs2 := hs1.cell HC.out (i := j) (c := 2) (x := ((t.2.1 : Int), o.2.1, o.2.2)) (y := ((t.2.1 : Int), o.2.1, (d : Int))) (by rw [List.getElem?_set_self (by rw [htl]; exact hlt)]) (by omega) (.int .i64 (d : Int)) rfl
        simp only [List.set_set, Nat.add_zero] at hs2
        have hw3 : IntKind.i64.wrap ((t.2.1 : Int) + 1) = (t.2.1 : Int) + 1 := by rw [IntKind.wrap_i64]; omega
        have hw4 : IntKind.i64.wrap ((r.2.2 : Int) + 1) = (r.2.2 : Int) + 1 := by rw [IntKind.wrap_i64]; omega
        have HFL := Lib.hid hfl
        have HR := Lib.hid hr
        have HRK := Lib.hid hrk
        have HX := Lib.hid hx
        have HS2 := Lib.hid hs2
        have HSM := Lib.hid (And.intro hsm.1 hsm.2)
        clear HF HW hx hfl hr hrk hst hs1 hs2 hw hsm2 hkd ho l0 l1 l2
        go_wp2_with fail
        go_region
        obtain ⟨X2, hX2⟩ : ∃ X, ((wr.setCell ⟨bl, j * 3, none⟩ (.int .i64 (t.2.1 : Int))).setCell ⟨bl, j * 3 + 2, none⟩ (.int .i64 (d : Int))).drew = X := ⟨_, rfl⟩
        rw [hX2]
        have hx2 := HS2.out.drew
        rw [hX2] at hx2
        clear hX2 b1 b2 c0 c2 g0 g2 u0
        have k2 := cell_of (i := 2) hx2.box rfl
        have kf2 : X2.frozen? ⟨p, 2, none⟩ = false := frozen_of hx2.box
        have hx3 := hx2.pre HC.out
        simp only at k2 hx3
        have HCALL := Lib.hid (HIH.out j HX.out _ _ (by simp only [List.length_set]; exact htl) (by rw [HR.out]; have := HSM.out.1; omega) (by rw [HR.out]; have := HSM.out.2; omega) hx3)
        rw [HR.out] at HCALL
        clear hx2 hx3
        go_wp2_with fail
        refine HCALL.out.mono ?_
        rintro e w2 ⟨rfl, hw2⟩
        have m1 := cell_of (i := 1) hw2.box rfl
        have m3 := cell_of (i := 3) hw2.box rfl
        obtain ⟨l0, l1, l2⟩ := labRow_get HRK.out
        have d1 := cell_of (i := j * 3 + 1) hw2.l l1
        have f1 : w2.frozen? ⟨bl, j * 3 + 1, none⟩ = false := frozen_of hw2.l
        have hw5 := hw2.cell HC.out (i := j) (c := 1) (x := ((t.2.1 : Int), o.2.1, (d : Int))) (y := ((t.2.1 : Int), (r.2.2 : Int), (d : Int))) HRK.out (by omega) (.int .i64 (r.2.2 : Int)) rfl
        have hw6 := hw5.post HC.out
        obtain ⟨post0, hpost0⟩ : ∃ z : Nat, r.2.2 = z := ⟨_, rfl⟩
        simp only at hw6
        have k3 := cell_of (i := 3) hw5.box rfl
        have kf3 : w2.frozen? ⟨p, 3, none⟩ = false := frozen_of hw2.box
        simp only at k3
        rw [hpost0] at m3 hw6 k3 hw4 HFL
        have HW6 := Lib.hid hw6.drew
        have HW2 := Lib.hid hw2
        clear hw2 hw5 hw6 hpost0 l0 l1 l2
        go_wp2_with fail
        go_still_tail 11, (by kernel_rfl)
        change wpList _ _ _ _ _ w2.drew
        go_wp2_with fail
        exact ⟨⟨j + 1, _, by omega, by go_num, by simp only [List.length_set]; exact hrl, HFL, HW6⟩, by simp only [Go.RowKit.intOf]; omega⟩
      · have hxb : (x != pz) = true := by simp [hxp]
        have HF2 := Lib.hid (show (kidsF h pz (j + 1)).foldl (wkStep h f d) t = fin by rw [← kidsF_skip (by rw [hx]; intro e; exact hxp (Option.some.inj e))]; exact HF.out)
        clear HF hx hxp
        go_wp2_with fail
        exact ⟨⟨j + 1, t, by omega, by go_num, htl, HF2, HW⟩, by simp only [Go.RowKit.intOf]; omega⟩
    · obtain rfl : j = n := by omega
      have hfe := HF.out
      rw [kidsF_end h pz (by rw [HN.out]; exact Nat.le_refl _)] at hfe
      have hfe : t = fin := hfe
      subst hfe
      go_wp2_with fail
      go_end0
      exact ⟨rfl, HW.out⟩
theorem refWalk_any {h : List Int} (hO : Okh h) {n : Nat} (hn : h.length = n) {B p bl : Nat} (hC : RC B p bl) {w : World} {A : Option Addr} {cap : Nat} (hv : ∀ W, Below B w W → Rows 1 EInt W (.slice A n cap) h) : ∀ (f : Nat) (pz : Int) (d : Nat), f + d = n + 1 → AtD h pz d →
    ∀ (s : LS) (W : World), s.1.length = n → (wk h f pz d s).2.1 ≤ 4096 → (wk h f pz d s).2.2 ≤ 4096 → RSt B w W p bl n (.slice A n cap) s →
    Calls Try.prog 34 #[.pointer (some ⟨p, 0, none⟩), .int .i64 pz, .int .i64 (d : Int)] W fun e w' => e = .returned (.tuple #[]) ∧ RSt B w w' p bl n (.slice A n cap) (wk h f pz d s) := by
  have hn4 : n ≤ 4096 := by have := hO.len; omega
  intro f
  induction f with
  | zero =>
    intro pz d hf hp s W hs hb1 hb2 hw
    exfalso
    rcases hp with ⟨rfl, rfl⟩ | ⟨q, rfl, hq, hd⟩
    · omega
    · have := way_len hO hq
      omega
  | succ f ih =>
    intro pz d hf hp s W hs hb1 hb2 hw
    rw [wk_succ] at hb1 hb2 ⊢
    refine refWalk_step hO hn hn4 hC hv f pz d (by omega) hp (fun k e s' W' hs' h1 h2 hw' => ?_) s W hs hb1 hb2 hw
    have := ih k (d + 1) (by omega) (.inr ⟨k, rfl, (List.getElem?_eq_some_iff.1 e).1, hp.kid hO e⟩) s' W' hs' h1 h2 hw'
    exact this
end Go.Proofs.Ytjialelklnjcfaa
