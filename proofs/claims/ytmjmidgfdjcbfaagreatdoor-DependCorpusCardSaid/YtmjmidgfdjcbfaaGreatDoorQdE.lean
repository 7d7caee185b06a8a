/-
  WALKS over package corpus: the validator: nodes.
-/
import Derived.Test.YtmjmidgfdjcbfaaGreatDoorQcZ
import Derived.Test.YtmjmidgfdjcbfaaGreatDoorQbM
import Derived.Deep.RegionHeld3
import Derived.Deep.DrawnRows
namespace Go.Proofs.YtmjmidgfdjcbfaaGreatDoor
open Go.RowKit Go.Shelf Go.Lib
set_option linter.unusedVariables false

set_option maxRecDepth 100000 in
set_option maxHeartbeats 1000000 in
theorem vNodes {c : Cor} {s : Sv} {o p y : Value} {B : Nat} {W : World} (hV : VAt W B s o p y) (h : CorAt W s c) :
    Calls Tryz.prog 27 #[.pointer (some ⟨B, 0, none⟩)] W fun r w' => r = .returned (.int .i64 (nodesE c : Nat)) ∧ w' = W := by
  obtain ⟨-, -, -, -, c4, -⟩ := hV.c
  obtain ⟨A, cap, hva, -⟩ := h.n.form
  rw [hva] at c4
  unfold nodesE
  obtain ⟨n, hn⟩ : ∃ n, c.nodes.length = n := ⟨_, rfl⟩
  rw [hn] at c4 ⊢
  have HL := Lib.hid (limited_node A n cap 2048 W)
  obtain ⟨z, hz⟩ : ∃ z : Nat, (if 2048 < n then 2 else 0) = z := ⟨_, rfl⟩
  rw [hz] at HL ⊢
  clear hz
  clear hn hva h hV
  go_enter Tryz.func27, Tryz.ntmps27
  go_wp2_with fail
  refine HL.out.mono ?_
  rintro r w1 ⟨rfl, rfl⟩
  go_wp2_with fail
  go_ret
  exact ⟨rfl, rfl⟩
theorem idxFrom_find (x : Int) : ∀ (l : List Int) (n : Nat), Lib.idxFrom l x n = match l.findIdx? (fun k => decide (k = x)) with | none => -1 | some i => ((n + i : Nat) : Int)
  | [], n => rfl
  | a :: l, n => by
    have ih := idxFrom_find x l (n + 1)
    rw [List.findIdx?_cons]
    by_cases h : a = x
    · simp [Lib.idxFrom, h]
    · simp only [Lib.idxFrom, h, decide_false, Bool.false_eq_true, if_false]
      rw [ih]
      cases hf : l.findIdx? (fun k => decide (k = x)) with
      | none => rfl
      | some i => simp only [Option.map_some]; congr 1; omega
theorem idx_above (l : List Int) (x : Int) : Lib.idxOf l x + 1 = (aboveN l x : Int) := by
  unfold Lib.idxOf aboveN
  rw [idxFrom_find]
  cases l.findIdx? (fun k => decide (k = x)) with
  | none => rfl
  | some i => simp
theorem pathAt_range (l : List Nd) : ∀ i, (∀ k ∈ pathAt l i, 0 ≤ k ∧ k < (i : Int)) ∧ (pathAt l i).length ≤ i
  | 0 => ⟨fun k h => by simp [pathAt] at h, Nat.le_refl _⟩
  | i + 1 => by
    obtain ⟨h1, h2⟩ := pathAt_range l i
    unfold pathAt
    cases hx : l[i]? with
    | none => exact ⟨fun k h => by have := h1 k h; omega, by simp only; omega⟩
    | some x =>
      simp only
      refine ⟨fun k h => ?_, ?_⟩
      · rcases List.mem_append.1 h with h | h
        · have := h1 k (List.mem_of_mem_take h); omega
        · simp at h; omega
      · rw [List.length_append, List.length_take]
        simp only [List.length_singleton]
        omega
theorem above_le (P : List Int) (p : Int) : aboveN P p ≤ P.length := by
  unfold aboveN
  cases h : P.findIdx? (fun k => decide (k = p)) with
  | none => exact Nat.zero_le _
  | some i => exact (List.findIdx?_eq_some_iff_getElem.1 h).1
theorem above_mem {P : List Int} {p : Int} (h : 0 < aboveN P p) : p ∈ P := by
  unfold aboveN at h
  cases hf : P.findIdx? (fun k => decide (k = p)) with
  | none => rw [hf] at h; cases h
  | some i =>
    obtain ⟨h1, h2, _⟩ := List.findIdx?_eq_some_iff_getElem.1 hf
    have : P[i] = p := by simpa using h2
    rw [← this]
    exact List.getElem_mem h1

set_option maxRecDepth 100000 in
set_option maxHeartbeats 1000000 in
theorem inside_any {c : Cor} {s : Sv} {o p y : Value} {B : Nat} {W : World} (hV : VAt W B s o p y) (hx : Rows 4 ENd W s.vn c.nodes) (hl : c.nodes.length ≤ maxLen) (x z : Nd) (k : Nat) (hk : c.nodes[k]? = some z) :
    Calls Tryz.prog 65 #[.pointer (some ⟨B, 0, none⟩), .agg #[.string ⟨x.label.toArray⟩, .int .i64 x.b, .int .i64 x.e, .int .i64 x.parent], .int .i64 (k : Int)] W fun r w' => r = .returned (.bool (decide (z.b ≤ x.b) && decide (x.e ≤ z.e))) ∧ Below W.heap.size W w' := by
  obtain ⟨-, -, -, -, c4, -⟩ := hV.c
  have hBl := hV.lt
  obtain ⟨A, cap, hva, hc⟩ := hx.form
  rw [hva] at c4 hx
  have hkl := (List.getElem?_eq_some_iff.1 hk).1
  obtain ⟨bk, off, rfl, hbl, hj⟩ := at_nd hx (by omega)
  obtain ⟨k0, k1, k2, k3⟩ := hj k z hk
  obtain ⟨xl, xb, xe, xp⟩ := x
  obtain ⟨zl, zb, ze, zp⟩ := z
  simp only at k0 k1 k2 k3 ⊢
  obtain ⟨n, hn⟩ : ∃ n, c.nodes.length = n := ⟨_, rfl⟩
  rw [hn] at c4 hl hkl hc
  have hlt : (k : Int) < (n : Int) := by omega
  unfold maxLen at hl
  obtain ⟨P, hP⟩ : ∃ s : ByteArray, (⟨xl.toArray⟩ : ByteArray) = s := ⟨_, rfl⟩
  obtain ⟨Q, hQ⟩ : ∃ s : ByteArray, (⟨zl.toArray⟩ : ByteArray) = s := ⟨_, rfl⟩
  rw [hP]
  rw [hQ] at k0
  have c4' : (W.alloc (.cells #[.string P, .int .i64 xb, .int .i64 xe, .int .i64 xp] 109)).cell? ⟨B, 4, none⟩ = some (.slice (some ⟨bk, off, none⟩) n cap) := Lib.cell?_alloc_some _ c4
  have k0' : (W.alloc (.cells #[.string P, .int .i64 xb, .int .i64 xe, .int .i64 xp] 109)).cell? ⟨bk, off + k * 4, none⟩ = some (.string Q) := Lib.cell?_alloc_some _ k0
  have k1' : (W.alloc (.cells #[.string P, .int .i64 xb, .int .i64 xe, .int .i64 xp] 109)).cell? ⟨bk, off + k * 4 + 1, none⟩ = some (.int .i64 zb) := Lib.cell?_alloc_some _ k1
  have k2' : (W.alloc (.cells #[.string P, .int .i64 xb, .int .i64 xe, .int .i64 xp] 109)).cell? ⟨bk, off + k * 4 + 2, none⟩ = some (.int .i64 ze) := Lib.cell?_alloc_some _ k2
  have k3' : (W.alloc (.cells #[.string P, .int .i64 xb, .int .i64 xe, .int .i64 xp] 109)).cell? ⟨bk, off + k * 4 + 3, none⟩ = some (.int .i64 zp) := Lib.cell?_alloc_some _ k3
  obtain ⟨X, hX⟩ : ∃ X, (W.alloc (.cells #[.string P, .int .i64 xb, .int .i64 xe, .int .i64 xp] 109)).alloc (.cells #[.string Q, .int .i64 zb, .int .i64 ze, .int .i64 zp] 109) = X := ⟨_, rfl⟩
  have hbX : Below W.heap.size W X := by rw [← hX]; exact (below_box W _).trans ((below_box _ _).mono (by simp))
  obtain ⟨N0, hN0⟩ : ∃ N0, W.heap.size = N0 := ⟨_, rfl⟩
  have e1 : X.heap[N0]? = some (.cells #[.string P, .int .i64 xb, .int .i64 xe, .int .i64 xp] 109 (0, 0)) := by rw [← hX, ← hN0]; exact block_alloc _ (block_new W _)
  have e2 : X.heap[N0 + 1]? = some (.cells #[.string Q, .int .i64 zb, .int .i64 ze, .int .i64 zp] 109 (0, 0)) := by
    have := block_new (W.alloc (.cells #[.string P, .int .i64 xb, .int .i64 xe, .int .i64 xp] 109)) (.cells #[.string Q, .int .i64 zb, .int .i64 ze, .int .i64 zp] 109)
    rw [← hX, ← hN0]
    simpa using this
  have g1 : X.cell? ⟨N0, 1, none⟩ = some (.int .i64 xb) := cell_of e1 rfl
  have g2 : X.cell? ⟨N0, 2, none⟩ = some (.int .i64 xe) := cell_of e1 rfl
  have g3 : X.cell? ⟨N0 + 1, 1, none⟩ = some (.int .i64 zb) := cell_of e2 rfl
  have g4 : X.cell? ⟨N0 + 1, 2, none⟩ = some (.int .i64 ze) := cell_of e2 rfl
  have HX := Lib.hid hX
  have HN0 := Lib.hid hN0
  have HBX := Lib.hid hbX
  clear hX hN0 hbX e1 e2 k0 k1 k2 k3 c4 hj hbl hP hQ hk hn hx hva hV hc
  by_cases h1 : zb ≤ xb
  · have hd : decide (zb ≤ xb) = true := by simp [h1]
    rw [hd, Bool.true_and]
    go_enter Tryz.func65, Tryz.ntmps65
    go_wp2_with fail
    rw [HX.out, HN0.out]
    clear k0' k1' k2' k3' c4'
    go_wp2_with fail
    go_ret
    exact ⟨rfl, HN0.out ▸ HBX.out⟩
  · have hd : decide (zb ≤ xb) = false := by simp; omega
    rw [hd, Bool.false_and]
    go_enter Tryz.func65, Tryz.ntmps65
    go_wp2_with fail
    rw [HX.out, HN0.out]
    clear k0' k1' k2' k3' c4'
    go_wp2_with fail
    go_ret
    exact ⟨rfl, HN0.out ▸ HBX.out⟩
end Go.Proofs.YtmjmidgfdjcbfaaGreatDoor
