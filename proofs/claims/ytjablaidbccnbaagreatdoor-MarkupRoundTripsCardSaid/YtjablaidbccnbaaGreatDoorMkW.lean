/-
  WALKS over package markup, thirteenth part: tag.
-/
import Derived.Test.YtjablaidbccnbaaGreatDoorMkV
namespace Go.Proofs.YtjablaidbccnbaaGreatDoor
open Go.RowKit Go.Shelf Go.Lib

/-- A step in the reading of a tag: its variable. -/
structure TS (w : World) (b : Nat) (s : ByteArray) (W : World) (i : Nat) (c n k : Value) : Prop where
  at' : At W b s i
  but : But b w W
  res : W.heap[w.heap.size]? = some (.cells #[.bool false, .string ⟨#[]⟩, .slice none 0 0] 24 (0, 0))
  tag : W.heap[w.heap.size + 1]? = some (.cells #[c, n, k] 24 (0, 0))
theorem TS.call {w : World} {b : Nat} {s : ByteArray} {W W' : World} {i j : Nat} {c n k : Value} (h : TS w b s W i c n k) (hb : But b W W') (ha : At W' b s j) (hlt : b < w.heap.size) : TS w b s W' j c n k :=
  ⟨ha, but_trans h.but hb, (hb.block _ (Array.getElem?_eq_some_iff.1 h.res).1 (fun e => by cases e; omega)).trans h.res, (hb.block _ (Array.getElem?_eq_some_iff.1 h.tag).1 (fun e => by cases e; omega)).trans h.tag⟩
theorem TS.drew {w : World} {b : Nat} {s : ByteArray} {W : World} {i : Nat} {c n k : Value} (h : TS w b s W i c n k) (m : Nat) : TS w b s (W.drewN m) i c n k :=
  ⟨h.at'.below (below_drewN (Below.refl _ _) m), but_trans h.but (grown_drew' b W m), h.res, h.tag⟩
theorem TS.set {w : World} {b : Nat} {s : ByteArray} {W : World} {i : Nat} {c n k : Value} (h : TS w b s W i c n k) (h0 : At w b s 0) (q : Nat) (v : Value) {c' n' k' : Value} (he : (#[c, n, k] : Array Value).setIfInBounds q v = #[c', n', k']) : TS w b s (W.setCell ⟨w.heap.size + 1, q, none⟩ v) i c' n' k' := by
  have hlt := h0.scan.lt
  have hg := grownBy_setCell W (w.heap.size + 1) q v
  have hbut : But b w (W.setCell ⟨w.heap.size + 1, q, none⟩ v) := but_row h.but hg (fun r e => by cases e; omega)
  refine ⟨h0.to (h.at'.scan.keep (hg.block b h.at'.scan.lt (fun e => by cases e; omega))) hbut h.at'.le, hbut, (hg.block _ (Array.getElem?_eq_some_iff.1 h.res).1 (fun e => by have := Option.some.inj e; omega)).trans h.res, ?_⟩
  rw [set_of h.tag, he]
theorem TS.cells {w : World} {b : Nat} {s : ByteArray} {W : World} {i : Nat} {c n k : Value} (h : TS w b s W i c n k) :
    W.cell? ⟨w.heap.size + 1, 0, none⟩ = some c ∧ W.cell? ⟨w.heap.size + 1, 1, none⟩ = some n ∧ W.cell? ⟨w.heap.size + 1, 2, none⟩ = some k ∧ (∀ q, W.frozen? ⟨w.heap.size + 1, q, none⟩ = false) :=
  ⟨cell_of h.tag rfl, cell_of h.tag rfl, cell_of h.tag rfl, fun _ => frozen_of h.tag⟩
theorem keys_far {W W' : World} {v : Value} {ks : List Pr} {B : Nat} (h : Keys W v ks) (hB : ∀ q x y, W.cell? ⟨B, q, none⟩ = some (.string x) → W.cell? ⟨B, q + 1, none⟩ = some (.string y) → False) (hg : W.grownBy W' (some B)) : Keys W' v ks := by
  obtain ⟨A', cap, hv, hc, hr⟩ := h
  refine ⟨A', cap, hv, hc, fun h0 => ?_⟩
  obtain ⟨b, off, hA, hb, hj⟩ := hr h0
  have hne : b ≠ B := by
    intro e
    subst e
    obtain ⟨c0, c1⟩ := hj 0 _ (List.getElem?_eq_getElem h0)
    exact hB _ _ _ c0 c1
  have hk : ∀ i, W'.cell? ⟨b, i, none⟩ = W.cell? ⟨b, i, none⟩ := fun i => hg.cell_far ⟨b, i, none⟩ hb (fun e => hne (Option.some.inj e))
  exact ⟨b, off, hA, Nat.lt_of_lt_of_le hb hg.size, fun j p hp => ⟨(hk _).trans (hj j p hp).1, (hk _).trans (hj j p hp).2⟩⟩
theorem not_tag {W : World} {B : Nat} {c : Bool} {n : Value} {A : Option Addr} {l p : Nat} {t : TypeId} {f : Nat × Nat} (hB : W.heap[B]? = some (.cells #[.bool c, n, .slice A l p] t f)) :
    ∀ q x y, W.cell? ⟨B, q, none⟩ = some (.string x) → W.cell? ⟨B, q + 1, none⟩ = some (.string y) → False := by
  intro q x y c0 c1
  have hcell : ∀ i, W.cell? ⟨B, i, none⟩ = (#[Value.bool c, n, Value.slice A l p] : Array Value)[i]? := by
    intro i
    simp [World.cell?, hB]
  rw [hcell] at c0 c1
  rcases (by omega : q = 0 ∨ q = 1 ∨ q = 2 ∨ 3 ≤ q) with rfl | rfl | rfl | e
  · simp at c0
  · simp at c1
  · simp at c0
  · rw [Array.getElem?_eq_none (by simpa using e)] at c0
    simp at c0
theorem not_scan {W : World} {b i : Nat} {s : ByteArray} (hB : Scan W b s i) : ∀ q x y, W.cell? ⟨b, q, none⟩ = some (.string x) → W.cell? ⟨b, q + 1, none⟩ = some (.string y) → False := by
  intro q x y c0 c1
  have hcell : ∀ j, W.cell? ⟨b, j, none⟩ = (#[Value.string s, Value.int .i64 (i : Int)] : Array Value)[j]? := by
    intro j
    simp [World.cell?, show W.heap[b]? = _ from hB]
  rw [hcell] at c0 c1
  rcases (by omega : q = 0 ∨ q = 1 ∨ 2 ≤ q) with rfl | rfl | e
  · simp at c1
  · simp at c0
  · rw [Array.getElem?_eq_none (by simpa using e)] at c0
    simp at c0
theorem TS.fin {w : World} {b : Nat} {s : ByteArray} {W : World} {i : Nat} {c : Bool} {n : Value} {A : Option Addr} {l p : Nat} (h : TS w b s W i (.bool c) n (.slice A l p)) (m : Nat) :
    ((((W.drewN m).setCell ⟨w.heap.size, 0, none⟩ (.bool c)).setCell ⟨w.heap.size, 1, none⟩ n).setCell ⟨w.heap.size, 2, none⟩ (.slice A l p)).heap[w.heap.size]? = some (.cells #[.bool c, n, .slice A l p] 24 (0, 0)) ∧
    But b w ((((W.drewN m).setCell ⟨w.heap.size, 0, none⟩ (.bool c)).setCell ⟨w.heap.size, 1, none⟩ n).setCell ⟨w.heap.size, 2, none⟩ (.slice A l p)) ∧
    ∀ v ks, Keys W v ks → Keys ((((W.drewN m).setCell ⟨w.heap.size, 0, none⟩ (.bool c)).setCell ⟨w.heap.size, 1, none⟩ n).setCell ⟨w.heap.size, 2, none⟩ (.slice A l p)) v ks := by
  have hg : W.grownBy ((((W.drewN m).setCell ⟨w.heap.size, 0, none⟩ (.bool c)).setCell ⟨w.heap.size, 1, none⟩ n).setCell ⟨w.heap.size, 2, none⟩ (.slice A l p)) (some w.heap.size) :=
    but_trans (but_trans (but_trans (grown_drew' _ W m) (grownBy_setCell _ _ _ _)) (grownBy_setCell _ _ _ _)) (grownBy_setCell _ _ _ _)
  refine ⟨?_, but_row h.but hg (fun r e => by cases e; exact Nat.le_refl _), fun v ks hk => keys_far hk (not_tag h.res) hg⟩
  have h1 : (W.drewN m).heap[w.heap.size]? = some (.cells #[.bool false, .string ⟨#[]⟩, .slice none 0 0] 24 (0, 0)) := h.res
  rw [set_of (set_of (set_of h1 _) _) _]
  rfl
theorem Tryz.sizeTag : (Tryz.prog.info? 24).map (·.size) = some 3 := by kernel_rfl
/-- What tag hands back. -/
def DoesT (b : Nat) (w : World) (r : PR TagL) (e : Ending) (w' : World) : Prop :=
  But b w w' ∧ match r with
  | .ok t _ => ∃ v', e = .returned (.agg #[.bool t.close, .string ⟨t.name.toArray⟩, v']) ∧ Keys w' v' (sortP t.keys)
  | .err a er => e = failE a er

set_option maxRecDepth 100000 in
set_option maxHeartbeats 2000000 in
theorem tag_any {w : World} {b : Nat} {s : ByteArray} (h : At w b s 0) :
    Calls Tryz.prog 16 #[.pointer (some ⟨b, 0, none⟩)] w fun e w' => DoesT b w (pTag s.data.toList) e w' := by
  have hbw := h.scan.lt
  have HA := Lib.hid h
  have hst : TS w b s ((w.alloc (.cells #[.bool false, .string ⟨#[]⟩, .slice none 0 0] 24)).alloc (.cells #[.bool false, .string ⟨#[]⟩, .slice none 0 0] 24)) 0 (.bool false) (.string ⟨#[]⟩) (.slice none 0 0) := by
    have hb : Below w.heap.size w ((w.alloc (.cells #[.bool false, .string ⟨#[]⟩, .slice none 0 0] 24)).alloc (.cells #[.bool false, .string ⟨#[]⟩, .slice none 0 0] 24)) := ((Below.refl _ w).alloc (Nat.le_refl _) _).alloc (by simp) _
    refine ⟨h.below hb, but_below hb, block_alloc _ (block_new w _), ?_⟩
    have := block_new (w.alloc (.cells #[.bool false, .string ⟨#[]⟩, .slice none 0 0] 24)) (.cells #[.bool false, .string ⟨#[]⟩, .slice none 0 0] 24)
    rw [World.size_alloc] at this
    exact this
  have HST := Lib.hid hst
  clear hst h
  unfold pTag
  by_cases hq : s.data.toList[0]? = some 60
  · have he : pExpect s.data.toList 0 60 = .ok () 1 := by unfold pExpect; rw [if_pos hq]
    rw [he]
    simp only
    have HE := Lib.hid (fun (W : World) (hW : At W b s 0) => expect_ok hW.small hW.scan hW.le 60 hq)
    have hl1 : 1 ≤ s.size := by
      have := (List.getElem?_eq_some_iff.1 hq).1
      rw [← Lib.size_eq] at this
      omega
    clear hq he
    by_cases hc : s.data.toList[1]? = some 47
    · rw [if_pos hc]
      have HK : Hid (∀ W, At W b s 1 → Calls Tryz.prog 31 #[.pointer (some ⟨b, 0, none⟩), .string ⟨#[47]⟩] W fun e w' => e = .returned (.bool true) ∧ Scan w' b s 2 ∧ But b W w') := Lib.hid (fun W hW => by
        have := skip_any hW.small hW.scan hW.le 47
        rw [decide_eq_true hc, if_pos hc] at this
        exact this)
      have hl2 : 2 ≤ s.size := by
        have := (List.getElem?_eq_some_iff.1 hc).1
        rw [← Lib.size_eq] at this
        omega
      clear hc
      cases hn : pName s.data.toList (1 + 1) with
      | err a er =>
        have HN : Hid (∀ W, At W b s 2 → Calls Tryz.prog 32 #[.pointer (some ⟨b, 0, none⟩)] W fun e w' => Does b s W (.err a er) e w') := Lib.hid (fun W hW => by rw [← hn]; exact name_any hW)
        clear hn
        go_enter Tryz.func16, Tryz.ntmps16
        go_wp2_with fail
        refine (HE.out _ HST.out.at').mono ?_
        rintro en w1 ⟨rfl, hs1, hb1⟩
        have H1 := Lib.hid (HST.out.call hb1 (HST.out.at'.to hs1 hb1 hl1) hbw)
        clear hs1 hb1
        go_wp2_with fail
        refine (HK.out _ H1.out.at').mono ?_
        rintro en w2 ⟨rfl, hs2, hb2⟩
        have H2 := Lib.hid (H1.out.call hb2 (H1.out.at'.to hs2 hb2 hl2) hbw)
        obtain ⟨d0, d1, d2, d3⟩ := H2.out.cells
        have H3 := Lib.hid (H2.out.set HA.out 0 (.bool true) rfl)
        clear hs2 hb2
        go_wp2_with fail
        refine (HN.out _ H3.out.at').mono ?_
        rintro en w3 ⟨hb3, rfl⟩
        have H4 := Lib.hid (but_trans H3.out.but hb3)
        clear d0 d1 d2 d3 hb3
        unfold failE
        go_wp2_with fail
        exact ⟨rfl, H4.out, rfl⟩
      | ok nm j =>
        have HN : Hid (∀ W, At W b s 2 → Calls Tryz.prog 32 #[.pointer (some ⟨b, 0, none⟩)] W fun e w' => Does b s W (.ok nm j) e w') := Lib.hid (fun W hW => by rw [← hn]; exact name_any hW)
        clear hn
        simp only
        unfold pEnd
        by_cases hx : s.data.toList[j]? = some 62
        · have he : pExpect s.data.toList j 62 = .ok () (j + 1) := by unfold pExpect; rw [if_pos hx]
          rw [he]
          simp only
          have HX := Lib.hid (fun (W : World) (hW : At W b s j) => expect_ok hW.small hW.scan hW.le 62 hx)
          have hl6 : j + 1 ≤ s.size := by
            have := (List.getElem?_eq_some_iff.1 hx).1
            rw [← Lib.size_eq] at this
            omega
          rw [← Lib.size_eq]
          clear hx he
          by_cases hj : j + 1 < s.size
          · rw [if_pos hj]
            go_enter Tryz.func16, Tryz.ntmps16
            go_wp2_with fail
            refine (HE.out _ HST.out.at').mono ?_
            rintro en w1 ⟨rfl, hs1, hb1⟩
            have H1 := Lib.hid (HST.out.call hb1 (HST.out.at'.to hs1 hb1 hl1) hbw)
            clear hs1 hb1
            go_wp2_with fail
            refine (HK.out _ H1.out.at').mono ?_
            rintro en w2 ⟨rfl, hs2, hb2⟩
            have H2 := Lib.hid (H1.out.call hb2 (H1.out.at'.to hs2 hb2 hl2) hbw)
            obtain ⟨d0, d1, d2, d3⟩ := H2.out.cells
            have H3 := Lib.hid (H2.out.set HA.out 0 (.bool true) rfl)
            clear hs2 hb2
            go_wp2_with fail
            refine (HN.out _ H3.out.at').mono ?_
            rintro en w3 ⟨hb3, rfl, ha3⟩
            clear d0 d1 d2 d3
            have H4 := Lib.hid (H3.out.call hb3 ha3 hbw)
            obtain ⟨d0, d1, d2, d3⟩ := H4.out.cells
            have H5 := Lib.hid (H4.out.set HA.out 1 (.string ⟨nm.toArray⟩) rfl)
            clear hb3 ha3
            go_wp2_with fail
            refine (HX.out _ H5.out.at').mono ?_
            rintro en w6 ⟨rfl, hs6, hb6⟩
            clear d0 d1 d2 d3
            have H8 := Lib.hid (H5.out.call hb6 (H5.out.at'.to hs6 hb6 hl6) hbw)
            obtain ⟨d0, d1, d2, d3⟩ := H8.out.cells
            obtain ⟨c0, c1, f1⟩ := H8.out.at'.scan.cells
            have c3 := cell_of (i := 0) H8.out.res rfl
            have c4 := cell_of (i := 1) H8.out.res rfl
            have c5 := cell_of (i := 2) H8.out.res rfl
            have c6 : ∀ q, w6.frozen? ⟨w.heap.size, q, none⟩ = false := fun _ => frozen_of H8.out.res
            clear hs6 hb6
            go_wp2_with fail
            go_quiet (fail)
            go_wp2_with fail
            refine (fail_int b _ _ _).mono ?_
            rintro en w7 ⟨rfl, rfl⟩
            unfold failI
            go_wp2_with fail
            exact ⟨rfl, but_trans H8.out.but (grown_drew' b w6 nq), failI_eq (by omega) rfl⟩
          · rw [if_neg hj]
            go_enter Tryz.func16, Tryz.ntmps16
            go_wp2_with fail
            refine (HE.out _ HST.out.at').mono ?_
            rintro en w1 ⟨rfl, hs1, hb1⟩
            have H1 := Lib.hid (HST.out.call hb1 (HST.out.at'.to hs1 hb1 hl1) hbw)
            clear hs1 hb1
            go_wp2_with fail
            refine (HK.out _ H1.out.at').mono ?_
            rintro en w2 ⟨rfl, hs2, hb2⟩
            have H2 := Lib.hid (H1.out.call hb2 (H1.out.at'.to hs2 hb2 hl2) hbw)
            obtain ⟨d0, d1, d2, d3⟩ := H2.out.cells
            have H3 := Lib.hid (H2.out.set HA.out 0 (.bool true) rfl)
            clear hs2 hb2
            go_wp2_with fail
            refine (HN.out _ H3.out.at').mono ?_
            rintro en w3 ⟨hb3, rfl, ha3⟩
            clear d0 d1 d2 d3
            have H4 := Lib.hid (H3.out.call hb3 ha3 hbw)
            obtain ⟨d0, d1, d2, d3⟩ := H4.out.cells
            have H5 := Lib.hid (H4.out.set HA.out 1 (.string ⟨nm.toArray⟩) rfl)
            clear hb3 ha3
            go_wp2_with fail
            refine (HX.out _ H5.out.at').mono ?_
            rintro en w6 ⟨rfl, hs6, hb6⟩
            clear d0 d1 d2 d3
            have H8 := Lib.hid (H5.out.call hb6 (H5.out.at'.to hs6 hb6 hl6) hbw)
            obtain ⟨d0, d1, d2, d3⟩ := H8.out.cells
            obtain ⟨c0, c1, f1⟩ := H8.out.at'.scan.cells
            have c3 := cell_of (i := 0) H8.out.res rfl
            have c4 := cell_of (i := 1) H8.out.res rfl
            have c5 := cell_of (i := 2) H8.out.res rfl
            have c6 : ∀ q, w6.frozen? ⟨w.heap.size, q, none⟩ = false := fun _ => frozen_of H8.out.res
            clear hs6 hb6
            go_wp2_with fail
            go_quiet (fail)
            go_wp2_with fail
            obtain ⟨g1, g2, g3⟩ := H8.out.fin nq
            exact bodyPost_ret (v := .agg #[.bool true, .string ⟨nm.toArray⟩, .slice none 0 0]) (results_cell_row Tryz.results16 _ _ w.heap.size _ _ _ _ rfl g1 Tryz.underlying24 rfl Tryz.sizeTag) rfl ⟨g2, _, rfl, g3 _ _ (keys_nil _)⟩
        · have he : pExpect s.data.toList j 62 = .err j 3 := by unfold pExpect; rw [if_neg hx]
          rw [he]
          have HX := Lib.hid (fun (W : World) (hW : At W b s j) => expect_no hW.small hW.scan hW.le 62 hx)
          clear hx he
          go_enter Tryz.func16, Tryz.ntmps16
          go_wp2_with fail
          refine (HE.out _ HST.out.at').mono ?_
          rintro en w1 ⟨rfl, hs1, hb1⟩
          have H1 := Lib.hid (HST.out.call hb1 (HST.out.at'.to hs1 hb1 hl1) hbw)
          clear hs1 hb1
          go_wp2_with fail
          refine (HK.out _ H1.out.at').mono ?_
          rintro en w2 ⟨rfl, hs2, hb2⟩
          have H2 := Lib.hid (H1.out.call hb2 (H1.out.at'.to hs2 hb2 hl2) hbw)
          obtain ⟨d0, d1, d2, d3⟩ := H2.out.cells
          have H3 := Lib.hid (H2.out.set HA.out 0 (.bool true) rfl)
          clear hs2 hb2
          go_wp2_with fail
          refine (HN.out _ H3.out.at').mono ?_
          rintro en w3 ⟨hb3, rfl, ha3⟩
          clear d0 d1 d2 d3
          have H4 := Lib.hid (H3.out.call hb3 ha3 hbw)
          obtain ⟨d0, d1, d2, d3⟩ := H4.out.cells
          have H5 := Lib.hid (H4.out.set HA.out 1 (.string ⟨nm.toArray⟩) rfl)
          clear hb3 ha3
          go_wp2_with fail
          refine (HX.out _ H5.out.at').mono ?_
          rintro en w6 ⟨rfl, hb6⟩
          have H8 := Lib.hid (but_trans H5.out.but hb6)
          clear d0 d1 d2 d3 hb6
          unfold failE
          go_wp2_with fail
          exact ⟨rfl, H8.out, rfl⟩
    · rw [if_neg hc]
      have HK : Hid (∀ W, At W b s 1 → Calls Tryz.prog 31 #[.pointer (some ⟨b, 0, none⟩), .string ⟨#[47]⟩] W fun e w' => e = .returned (.bool false) ∧ Scan w' b s 1 ∧ But b W w') := Lib.hid (fun W hW => by
        have := skip_any hW.small hW.scan hW.le 47
        rw [decide_eq_false hc, if_neg hc] at this
        exact this)
      have hl2 : 1 ≤ s.size := hl1
      clear hc
      cases hn : pName s.data.toList 1 with
      | err a er =>
        have HN : Hid (∀ W, At W b s 1 → Calls Tryz.prog 32 #[.pointer (some ⟨b, 0, none⟩)] W fun e w' => Does b s W (.err a er) e w') := Lib.hid (fun W hW => by rw [← hn]; exact name_any hW)
        clear hn
        go_enter Tryz.func16, Tryz.ntmps16
        go_wp2_with fail
        refine (HE.out _ HST.out.at').mono ?_
        rintro en w1 ⟨rfl, hs1, hb1⟩
        have H1 := Lib.hid (HST.out.call hb1 (HST.out.at'.to hs1 hb1 hl1) hbw)
        clear hs1 hb1
        go_wp2_with fail
        refine (HK.out _ H1.out.at').mono ?_
        rintro en w2 ⟨rfl, hs2, hb2⟩
        have H2 := Lib.hid (H1.out.call hb2 (H1.out.at'.to hs2 hb2 hl2) hbw)
        obtain ⟨d0, d1, d2, d3⟩ := H2.out.cells
        have H3 := Lib.hid (H2.out.set HA.out 0 (.bool false) rfl)
        clear hs2 hb2
        go_wp2_with fail
        refine (HN.out _ H3.out.at').mono ?_
        rintro en w3 ⟨hb3, rfl⟩
        have H4 := Lib.hid (but_trans H3.out.but hb3)
        clear d0 d1 d2 d3 hb3
        unfold failE
        go_wp2_with fail
        exact ⟨rfl, H4.out, rfl⟩
      | ok nm j0 =>
        have HN : Hid (∀ W, At W b s 1 → Calls Tryz.prog 32 #[.pointer (some ⟨b, 0, none⟩)] W fun e w' => Does b s W (.ok nm j0) e w') := Lib.hid (fun W hW => by rw [← hn]; exact name_any hW)
        clear hn
        simp only
        cases hy : pKeys (s.data.toList.length + 1) s.data.toList j0 [] with
        | err a er =>
          have HY : Hid (∀ W, At W b s j0 → Calls Tryz.prog 33 #[.pointer (some ⟨b, 0, none⟩)] W fun e w' => DoesK b s W (.err a er) e w') := Lib.hid (fun W hW => by rw [← hy]; exact keys_any hW)
          clear hy
          go_enter Tryz.func16, Tryz.ntmps16
          go_wp2_with fail
          refine (HE.out _ HST.out.at').mono ?_
          rintro en w1 ⟨rfl, hs1, hb1⟩
          have H1 := Lib.hid (HST.out.call hb1 (HST.out.at'.to hs1 hb1 hl1) hbw)
          clear hs1 hb1
          go_wp2_with fail
          refine (HK.out _ H1.out.at').mono ?_
          rintro en w2 ⟨rfl, hs2, hb2⟩
          have H2 := Lib.hid (H1.out.call hb2 (H1.out.at'.to hs2 hb2 hl2) hbw)
          obtain ⟨d0, d1, d2, d3⟩ := H2.out.cells
          have H3 := Lib.hid (H2.out.set HA.out 0 (.bool false) rfl)
          clear hs2 hb2
          go_wp2_with fail
          refine (HN.out _ H3.out.at').mono ?_
          rintro en w3 ⟨hb3, rfl, ha3⟩
          clear d0 d1 d2 d3
          have H4 := Lib.hid (H3.out.call hb3 ha3 hbw)
          obtain ⟨d0, d1, d2, d3⟩ := H4.out.cells
          have H5 := Lib.hid (H4.out.set HA.out 1 (.string ⟨nm.toArray⟩) rfl)
          clear hb3 ha3
          go_wp2_with fail
          refine (HY.out _ H5.out.at').mono ?_
          rintro en w4 ⟨hb4, rfl⟩
          have H6 := Lib.hid (but_trans H5.out.but hb4)
          clear d0 d1 d2 d3 hb4
          unfold failE
          go_wp2_with fail
          exact ⟨rfl, H6.out, rfl⟩
        | ok ks j =>
          have HY : Hid (∀ W, At W b s j0 → Calls Tryz.prog 33 #[.pointer (some ⟨b, 0, none⟩)] W fun e w' => DoesK b s W (.ok ks j) e w') := Lib.hid (fun W hW => by rw [← hy]; exact keys_any hW)
          clear hy
          simp only
          unfold pEnd
          by_cases hx : s.data.toList[j]? = some 62
          · have he : pExpect s.data.toList j 62 = .ok () (j + 1) := by unfold pExpect; rw [if_pos hx]
            rw [he]
            simp only
            have HX := Lib.hid (fun (W : World) (hW : At W b s j) => expect_ok hW.small hW.scan hW.le 62 hx)
            have hl6 : j + 1 ≤ s.size := by
              have := (List.getElem?_eq_some_iff.1 hx).1
              rw [← Lib.size_eq] at this
              omega
            rw [← Lib.size_eq]
            clear hx he
            by_cases hj : j + 1 < s.size
            · rw [if_pos hj]
              go_enter Tryz.func16, Tryz.ntmps16
              go_wp2_with fail
              refine (HE.out _ HST.out.at').mono ?_
              rintro en w1 ⟨rfl, hs1, hb1⟩
              have H1 := Lib.hid (HST.out.call hb1 (HST.out.at'.to hs1 hb1 hl1) hbw)
              clear hs1 hb1
              go_wp2_with fail
              refine (HK.out _ H1.out.at').mono ?_
              rintro en w2 ⟨rfl, hs2, hb2⟩
              have H2 := Lib.hid (H1.out.call hb2 (H1.out.at'.to hs2 hb2 hl2) hbw)
              obtain ⟨d0, d1, d2, d3⟩ := H2.out.cells
              have H3 := Lib.hid (H2.out.set HA.out 0 (.bool false) rfl)
              clear hs2 hb2
              go_wp2_with fail
              refine (HN.out _ H3.out.at').mono ?_
              rintro en w3 ⟨hb3, rfl, ha3⟩
              clear d0 d1 d2 d3
              have H4 := Lib.hid (H3.out.call hb3 ha3 hbw)
              obtain ⟨d0, d1, d2, d3⟩ := H4.out.cells
              have H5 := Lib.hid (H4.out.set HA.out 1 (.string ⟨nm.toArray⟩) rfl)
              clear hb3 ha3
              go_wp2_with fail
              refine (HY.out _ H5.out.at').mono ?_
              rintro en w4 ⟨hb4, ⟨v4, rfl, hK4⟩, ha4⟩
              clear d0 d1 d2 d3
              have H6 := Lib.hid (H5.out.call hb4 ha4 hbw)
              obtain ⟨d0, d1, d2, d3⟩ := H6.out.cells
              have hK5 := keys_far hK4 (not_tag H6.out.tag) (grownBy_setCell w4 (w.heap.size + 1) 2 v4)
              obtain ⟨A4, p4, hv4, _⟩ := hK4
              obtain ⟨l4, hl4⟩ : ∃ l, (sortP ks).length = l := ⟨_, rfl⟩
              rw [hl4] at hv4
              subst hv4
              have H7 := Lib.hid (H6.out.set HA.out 2 (.slice A4 l4 p4) rfl)
              have HK5 := Lib.hid hK5
              clear hb4 ha4 hK5 hl4
              go_wp2_with fail
              refine (HX.out _ H7.out.at').mono ?_
              rintro en w6 ⟨rfl, hs6, hb6⟩
              clear d0 d1 d2 d3
              have H8 := Lib.hid (H7.out.call hb6 (H7.out.at'.to hs6 hb6 hl6) hbw)
              have HK6 := Lib.hid (keys_far HK5.out (not_scan H7.out.at'.scan) hb6)
              obtain ⟨d0, d1, d2, d3⟩ := H8.out.cells
              obtain ⟨c0, c1, f1⟩ := H8.out.at'.scan.cells
              have c3 := cell_of (i := 0) H8.out.res rfl
              have c4 := cell_of (i := 1) H8.out.res rfl
              have c5 := cell_of (i := 2) H8.out.res rfl
              have c6 : ∀ q, w6.frozen? ⟨w.heap.size, q, none⟩ = false := fun _ => frozen_of H8.out.res
              clear hs6 hb6
              go_wp2_with fail
              go_quiet (fail)
              go_wp2_with fail
              refine (fail_int b _ _ _).mono ?_
              rintro en w7 ⟨rfl, rfl⟩
              unfold failI
              go_wp2_with fail
              exact ⟨rfl, but_trans H8.out.but (grown_drew' b w6 nq), failI_eq (by omega) rfl⟩
            · rw [if_neg hj]
              go_enter Tryz.func16, Tryz.ntmps16
              go_wp2_with fail
              refine (HE.out _ HST.out.at').mono ?_
              rintro en w1 ⟨rfl, hs1, hb1⟩
              have H1 := Lib.hid (HST.out.call hb1 (HST.out.at'.to hs1 hb1 hl1) hbw)
              clear hs1 hb1
              go_wp2_with fail
              refine (HK.out _ H1.out.at').mono ?_
              rintro en w2 ⟨rfl, hs2, hb2⟩
              have H2 := Lib.hid (H1.out.call hb2 (H1.out.at'.to hs2 hb2 hl2) hbw)
              obtain ⟨d0, d1, d2, d3⟩ := H2.out.cells
              have H3 := Lib.hid (H2.out.set HA.out 0 (.bool false) rfl)
              clear hs2 hb2
              go_wp2_with fail
              refine (HN.out _ H3.out.at').mono ?_
              rintro en w3 ⟨hb3, rfl, ha3⟩
              clear d0 d1 d2 d3
              have H4 := Lib.hid (H3.out.call hb3 ha3 hbw)
              obtain ⟨d0, d1, d2, d3⟩ := H4.out.cells
              have H5 := Lib.hid (H4.out.set HA.out 1 (.string ⟨nm.toArray⟩) rfl)
              clear hb3 ha3
              go_wp2_with fail
              refine (HY.out _ H5.out.at').mono ?_
              rintro en w4 ⟨hb4, ⟨v4, rfl, hK4⟩, ha4⟩
              clear d0 d1 d2 d3
              have H6 := Lib.hid (H5.out.call hb4 ha4 hbw)
              obtain ⟨d0, d1, d2, d3⟩ := H6.out.cells
              have hK5 := keys_far hK4 (not_tag H6.out.tag) (grownBy_setCell w4 (w.heap.size + 1) 2 v4)
              obtain ⟨A4, p4, hv4, _⟩ := hK4
              obtain ⟨l4, hl4⟩ : ∃ l, (sortP ks).length = l := ⟨_, rfl⟩
              rw [hl4] at hv4
              subst hv4
              have H7 := Lib.hid (H6.out.set HA.out 2 (.slice A4 l4 p4) rfl)
              have HK5 := Lib.hid hK5
              clear hb4 ha4 hK5 hl4
              go_wp2_with fail
              refine (HX.out _ H7.out.at').mono ?_
              rintro en w6 ⟨rfl, hs6, hb6⟩
              clear d0 d1 d2 d3
              have H8 := Lib.hid (H7.out.call hb6 (H7.out.at'.to hs6 hb6 hl6) hbw)
              have HK6 := Lib.hid (keys_far HK5.out (not_scan H7.out.at'.scan) hb6)
              obtain ⟨d0, d1, d2, d3⟩ := H8.out.cells
              obtain ⟨c0, c1, f1⟩ := H8.out.at'.scan.cells
              have c3 := cell_of (i := 0) H8.out.res rfl
              have c4 := cell_of (i := 1) H8.out.res rfl
              have c5 := cell_of (i := 2) H8.out.res rfl
              have c6 : ∀ q, w6.frozen? ⟨w.heap.size, q, none⟩ = false := fun _ => frozen_of H8.out.res
              clear hs6 hb6
              go_wp2_with fail
              go_quiet (fail)
              go_wp2_with fail
              obtain ⟨g1, g2, g3⟩ := H8.out.fin nq
              exact bodyPost_ret (v := .agg #[.bool false, .string ⟨nm.toArray⟩, .slice A4 l4 p4]) (results_cell_row Tryz.results16 _ _ w.heap.size _ _ _ _ rfl g1 Tryz.underlying24 rfl Tryz.sizeTag) rfl ⟨g2, _, rfl, g3 _ _ HK6.out⟩
          · have he : pExpect s.data.toList j 62 = .err j 3 := by unfold pExpect; rw [if_neg hx]
            rw [he]
            have HX := Lib.hid (fun (W : World) (hW : At W b s j) => expect_no hW.small hW.scan hW.le 62 hx)
            clear hx he
            go_enter Tryz.func16, Tryz.ntmps16
            go_wp2_with fail
            refine (HE.out _ HST.out.at').mono ?_
            rintro en w1 ⟨rfl, hs1, hb1⟩
            have H1 := Lib.hid (HST.out.call hb1 (HST.out.at'.to hs1 hb1 hl1) hbw)
            clear hs1 hb1
            go_wp2_with fail
            refine (HK.out _ H1.out.at').mono ?_
            rintro en w2 ⟨rfl, hs2, hb2⟩
            have H2 := Lib.hid (H1.out.call hb2 (H1.out.at'.to hs2 hb2 hl2) hbw)
            obtain ⟨d0, d1, d2, d3⟩ := H2.out.cells
            have H3 := Lib.hid (H2.out.set HA.out 0 (.bool false) rfl)
            clear hs2 hb2
            go_wp2_with fail
            refine (HN.out _ H3.out.at').mono ?_
            rintro en w3 ⟨hb3, rfl, ha3⟩
            clear d0 d1 d2 d3
            have H4 := Lib.hid (H3.out.call hb3 ha3 hbw)
            obtain ⟨d0, d1, d2, d3⟩ := H4.out.cells
            have H5 := Lib.hid (H4.out.set HA.out 1 (.string ⟨nm.toArray⟩) rfl)
            clear hb3 ha3
            go_wp2_with fail
            refine (HY.out _ H5.out.at').mono ?_
            rintro en w4 ⟨hb4, ⟨v4, rfl, hK4⟩, ha4⟩
            clear d0 d1 d2 d3
            have H6 := Lib.hid (H5.out.call hb4 ha4 hbw)
            obtain ⟨d0, d1, d2, d3⟩ := H6.out.cells
            have hK5 := keys_far hK4 (not_tag H6.out.tag) (grownBy_setCell w4 (w.heap.size + 1) 2 v4)
            obtain ⟨A4, p4, hv4, _⟩ := hK4
            obtain ⟨l4, hl4⟩ : ∃ l, (sortP ks).length = l := ⟨_, rfl⟩
            rw [hl4] at hv4
            subst hv4
            have H7 := Lib.hid (H6.out.set HA.out 2 (.slice A4 l4 p4) rfl)
            have HK5 := Lib.hid hK5
            clear hb4 ha4 hK5 hl4
            go_wp2_with fail
            refine (HX.out _ H7.out.at').mono ?_
            rintro en w6 ⟨rfl, hb6⟩
            have H8 := Lib.hid (but_trans H7.out.but hb6)
            clear d0 d1 d2 d3 hb6
            unfold failE
            go_wp2_with fail
            exact ⟨rfl, H8.out, rfl⟩
  · have he : pExpect s.data.toList 0 60 = .err 0 3 := by unfold pExpect; rw [if_neg hq]
    rw [he]
    have HE := Lib.hid (fun (W : World) (hW : At W b s 0) => expect_no hW.small hW.scan hW.le 60 hq)
    clear hq he
    go_enter Tryz.func16, Tryz.ntmps16
    go_wp2_with fail
    refine (HE.out _ HST.out.at').mono ?_
    rintro en w1 ⟨rfl, hb1⟩
    have H1 := Lib.hid (but_trans HST.out.but hb1)
    clear hb1
    unfold failE
    go_wp2_with fail
    exact ⟨rfl, H1.out, rfl⟩
end Go.Proofs.YtjablaidbccnbaaGreatDoor
