/-
  WALKS over package interval: upTo.
-/
import Derived.Test.YtpkkebojiengpaaIbJ
namespace Go.Proofs.Ytpkkebojiengpaa
open Go.RowKit Go.Shelf Go.Lib Go.Sort
set_option linter.unusedVariables false
set_option linter.unusedSimpArgs false

def pastB (ts : List Sp) (p : Int) (i : Nat) : Bool := decide (p < (ts.getD i (0, 0)).1)
theorem past_count (p : Int) : ∀ ts : List Sp, (List.range ts.length).countP (fun i => !pastB ts p i) = ts.countP (fun x => decide (x.1 ≤ p))
  | [] => rfl
  | y :: r => by
    rw [List.length_cons, List.range_succ_eq_map, List.countP_cons, List.countP_map, List.countP_cons, ← past_count p r]
    have e : (!pastB (y :: r) p 0) = decide (y.1 ≤ p) := by unfold pastB; simp; rw [Bool.eq_iff_iff]; simp
    rw [e]
    rfl
/-- A rise in memory: its block. -/
structure RiseAt (w : World) (N n : Nat) (ts : List Sp) : Prop where
  len : ts.length = n
  small : n ≤ 4096
  blk : w.heap[N]? = some (.cells (spRow (riseL ts)) 57 (0, 0))
  sorted : ts.Pairwise (fun a b => a.1 ≤ b.1)
theorem RiseAt.below {w W : World} {N n B : Nat} {ts : List Sp} (h : RiseAt w N n ts) (hN : N < B) (hb : Below B w W) : RiseAt W N n ts := ⟨h.len, h.small, block_below h.blk hb hN, h.sorted⟩
theorem RiseAt.cell {w : World} {N n : Nat} {ts : List Sp} (h : RiseAt w N n ts) {i : Nat} {x : Sp} (hx : (riseL ts)[i]? = some x) : w.cell? ⟨N, i * 2, none⟩ = some (.int .i64 x.1) ∧ w.cell? ⟨N, i * 2 + 1, none⟩ = some (.int .i64 x.2) :=
  ⟨cell_of h.blk (spRow_get hx).1, cell_of h.blk (spRow_get hx).2⟩

set_option maxRecDepth 100000 in
set_option maxHeartbeats 1000000 in
theorem upTo1_any {w : World} {N n : Nat} {ts : List Sp} (h : RiseAt w N n ts) (p : Int) (R Q : Nat) (hR : w.cell? ⟨R, 0, none⟩ = some (.slice (some ⟨N, 0, none⟩) n n)) (hQ : w.cell? ⟨Q, 0, none⟩ = some (.int .i64 p)) (i : Nat) (hi : i < n) :
    Calls Try.prog 54 (#[.int .i64 i] ++ #[.pointer (some ⟨R, 0, none⟩), .pointer (some ⟨Q, 0, none⟩)]) w fun e w' => e = .returned (.bool (pastB ts p i)) ∧ ∃ q os, w' = grow (w.drewN q) os := by
  have hx : ts[i]? = some (ts[i]'(by rw [h.len]; exact hi)) := List.getElem?_eq_getElem (by rw [h.len]; exact hi)
  have hr := riseU_get (i := ts.length) hx
  have hc := (h.cell hr).1
  have hp : pastB ts p i = decide (p < (ts[i]'(by rw [h.len]; exact hi)).1) := by unfold pastB; rw [List.getD_eq_getElem?_getD, hx]; rfl
  rw [hp]
  obtain ⟨z, hz⟩ : ∃ z, (ts[i]'(by rw [h.len]; exact hi)).1 = z := ⟨_, rfl⟩
  simp only at hc
  rw [hz] at hc ⊢
  have hii : (i : Int) < (n : Int) := by omega
  clear hx hr hp hz h
  go_enter Try.func54, Try.ntmps54
  go_wp2_with fail
  go_quiet (fail)
  go_wp2_with fail
  go_ret
  exact ⟨rfl, nq, #[], by rw [grow_empty]⟩

set_option maxRecDepth 100000 in
set_option maxHeartbeats 1000000 in
theorem upTo_any {w : World} {N n : Nat} {ts : List Sp} (h : RiseAt w N n ts) (p : Int) :
    Calls Try.prog 37 #[.slice (some ⟨N, 0, none⟩) n n, .int .i64 p] w (IntV w (topF ts p)) := by
  obtain ⟨B, hB⟩ : ∃ B, w.heap.size = B := ⟨_, rfl⟩
  obtain ⟨X, hX⟩ : ∃ X, (w.alloc (.cells #[.slice (some ⟨N, 0, none⟩) n n] 48)).alloc (.cells #[.int .i64 p] 3) = X := ⟨_, rfl⟩
  have hNB : N < B := by rw [← hB]; exact (Array.getElem?_eq_some_iff.1 h.blk).1
  have hbX : Below B w X := by rw [← hX, ← hB]; exact below_box2 w _ _
  have hXs : X.heap.size = B + 2 := by rw [← hX, ← hB]; simp
  have e1 : X.heap[B]? = some (.cells #[.slice (some ⟨N, 0, none⟩) n n] 48 (0, 0)) := by rw [← hX, ← hB]; exact block_alloc _ (block_new w _)
  have e2 : X.heap[B + 1]? = some (.cells #[.int .i64 p] 3 (0, 0)) := by
    have := block_new (w.alloc (.cells #[.slice (some ⟨N, 0, none⟩) n n] 48)) (.cells #[.int .i64 p] 3)
    rw [alloc_sz, hB, hX] at this
    exact this
  have hkeep : ∀ W, Below X.heap.size X W → RiseAt W N n ts ∧ W.cell? ⟨B, 0, none⟩ = some (.slice (some ⟨N, 0, none⟩) n n) ∧ W.cell? ⟨B + 1, 0, none⟩ = some (.int .i64 p) := fun W hW => by
    refine ⟨h.below hNB (hbX.trans (hW.mono (by omega))), ?_, ?_⟩
    · exact cell_of (block_below e1 hW (by omega)) rfl
    · exact cell_of (block_below e2 hW (by omega)) rfl
  have hsr := Any.sort_Search Try.laysSearchF 54 #[.pointer (some ⟨B, 0, none⟩), .pointer (some ⟨B + 1, 0, none⟩)] n (pastB ts p) X
    (enters_of Try.func54 (by kernel_rfl) rfl) (by have := h.small; omega)
    (fun m os i hi => by
      obtain ⟨k1, k2, k3⟩ := hkeep _ (below_grown_sl X.heap.size X m os (Nat.le_refl _))
      exact upTo1_any k1 p B (B + 1) k2 k3 i hi)
    (fun a b hab hb ha => by
      unfold pastB at *
      have hbx : ts[b]? = some (ts[b]'(by rw [h.len]; exact hb)) := List.getElem?_eq_getElem (by rw [h.len]; exact hb)
      have hax : ts[a]? = some (ts[a]'(by rw [h.len]; omega)) := List.getElem?_eq_getElem (by rw [h.len]; omega)
      have := rise_mono h.sorted hab hax hbx
      rw [List.getD_eq_getElem?_getD, hax] at ha
      rw [List.getD_eq_getElem?_getD, hbx]
      simp only [Option.getD_some, decide_eq_true_eq] at *
      omega)
  change Calls Try.prog 53 _ _ _ at hsr
  rw [← h.len, past_count, h.len] at hsr
  obtain ⟨ht0, ht1⟩ := topF_rise h.sorted p
  have hle : ts.countP (fun x => decide (x.1 ≤ p)) ≤ n := by rw [← h.len]; exact List.countP_le_length
  have hsm := h.small
  obtain ⟨c, hc⟩ : ∃ c, ts.countP (fun x => decide (x.1 ≤ p)) = c := ⟨_, rfl⟩
  rw [hc] at hsr ht0 ht1 hle
  have HS := Lib.hid hsr
  have HX := Lib.hid hX
  have HB := Lib.hid hB
  have HK := Lib.hid hkeep
  have HBX := Lib.hid (And.intro hbX (show B ≤ X.heap.size by omega))
  obtain ⟨d0, d1⟩ := (hkeep X (Below.refl _ _)).2
  unfold IntV
  rw [hB]
  clear hsr hX hB hkeep hbX hXs e1 e2 hc hNB h
  go_enter Try.func37, Try.ntmps37
  cases c with
  | zero =>
    have HT := Lib.hid (ht0 rfl)
    clear ht0 ht1
    go_wp2_with fail
    rw [HX.out, HB.out]
    go_wp2_with fail
    refine HS.out.mono ?_
    rintro e w2 ⟨rfl, q, os, rfl⟩
    have hb2 := below_grown_sl X.heap.size X q os (Nat.le_refl _)
    have HB2 := Lib.hid (HBX.out.1.trans (hb2.mono HBX.out.2))
    clear hb2
    go_wp2_with fail
    go_ret
    exact ⟨by rw [HT.out]; rfl, HB2.out⟩
  | succ c =>
    obtain ⟨x, hx⟩ := ht1 c rfl
    have HXX := Lib.hid hx
    obtain ⟨r, hr⟩ : ∃ r, topF ts p = r := ⟨_, rfl⟩
    rw [hr] at HXX ⊢
    clear ht0 ht1 hx hr
    have hc1 : ((c + 1 : Nat) : Int) - 1 = (c : Int) := by omega
    have hci : (c : Int) < (n : Int) := by omega
    have hcz : (((c + 1 : Nat) : Int) == 0) = false := beq_eq_false_iff_ne.2 (by omega)
    obtain ⟨c2, hc2⟩ : ∃ c2, c + 1 = c2 := ⟨_, rfl⟩
    rw [hc2] at HS hc1 hcz
    clear hc2
    go_wp2_with fail
    rw [HX.out, HB.out]
    go_wp2_with fail
    refine HS.out.mono ?_
    rintro e w2 ⟨rfl, q, os, hw2⟩
    have hb2 := below_grown_sl X.heap.size X q os (Nat.le_refl _)
    rw [← hw2] at hb2
    obtain ⟨k1, k2, k3⟩ := HK.out w2 hb2
    have k4 := (k1.cell HXX.out).2
    simp only at k4
    have HB2 := Lib.hid (HBX.out.1.trans (hb2.mono HBX.out.2))
    have hwc : IntKind.i64.wrap (c : Int) = (c : Int) := by rw [IntKind.wrap_i64]; omega
    clear hb2 hw2 k1 d0 d1 k3
    go_wp2_with fail
    go_ret
    exact ⟨rfl, HB2.out⟩
end Go.Proofs.Ytpkkebojiengpaa
