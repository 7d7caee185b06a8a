/-
  WALKS over package huffman: tally.
-/
import Derived.Test.YtbfnkmibbieijaaHuG
namespace Go.Proofs.Ytbfnkmibbieijaa
open Go.RowKit Go.Shelf Go.Lib Go.Sort
set_option linter.unusedVariables false
set_option linter.unusedSimpArgs false

/-- The occurrences of symbols are added. -/
def addT : PT → List Int → List Int
  | .leaf s, L => L.set s (L.getD s 0 + 1)
  | .node a b, L => addT b (addT a L)
def PT.size : PT → Nat
  | .leaf _ => 1
  | .node a b => a.size + b.size
theorem addT_len : ∀ (t : PT) (L : List Int), (addT t L).length = L.length
  | .leaf s, L => by simp [addT]
  | .node a b, L => by unfold addT; rw [addT_len b, addT_len a]
theorem addT_at : ∀ (t : PT) (L : List Int) (s : Nat) (x : Int), L[s]? = some x → (addT t L)[s]? = some (x + (t.occ s : Nat))
  | .leaf u, L, s, x, h => by
    have hs := (List.getElem?_eq_some_iff.1 h).1
    unfold addT PT.occ
    by_cases e : u = s
    · subst e
      rw [List.getElem?_set_self hs, if_pos rfl, List.getD_eq_getElem?_getD, h]; rfl
    · rw [List.getElem?_set_ne e, if_neg e, h]; simp
  | .node a b, L, s, x, h => by
    unfold addT PT.occ
    rw [addT_at b _ s _ (addT_at a L s x h)]
    congr 1
    omega
def FitT (t : PT) (L : List Int) : Prop := (∀ s, 0 < t.occ s → s < L.length) ∧ ∀ x ∈ L, 0 ≤ x ∧ x + (t.size : Nat) ≤ 1000000000000
theorem occ_size (s : Nat) : ∀ t : PT, t.occ s ≤ t.size
  | .leaf u => by unfold PT.occ PT.size; split <;> omega
  | .node a b => by unfold PT.occ PT.size; have := occ_size s a; have := occ_size s b; omega
theorem addT_mem {t : PT} {L : List Int} {y : Int} (h : y ∈ addT t L) : ∃ x ∈ L, x ≤ y ∧ y ≤ x + (t.size : Nat) := by
  obtain ⟨s, hs, rfl⟩ := List.getElem_of_mem h
  rw [addT_len] at hs
  have h1 := addT_at t L s L[s] (List.getElem?_eq_getElem hs)
  have h2 := List.getElem?_eq_some_iff.1 h1
  obtain ⟨_, h3⟩ := h2
  refine ⟨L[s], List.getElem_mem _, ?_, ?_⟩
  · rw [h3]; omega
  · rw [h3]; have := occ_size s t; omega
theorem FitT.left {a b : PT} {L : List Int} (h : FitT (.node a b) L) : FitT a L :=
  ⟨fun s hs => h.1 s (by unfold PT.occ; omega), fun x hx => by have := h.2 x hx; unfold PT.size at this; omega⟩
theorem FitT.right {a b : PT} {L : List Int} (h : FitT (.node a b) L) : FitT b (addT a L) := by
  refine ⟨fun s hs => by rw [addT_len]; exact h.1 s (by unfold PT.occ; omega), fun y hy => ?_⟩
  obtain ⟨x, hx, h1, h2⟩ := addT_mem hy
  have := h.2 x hx
  unfold PT.size at this
  omega
def TallyV (w : World) (D : Nat) (L : List Int) (e : Ending) (w' : World) : Prop := e = .returned (.tuple #[]) ∧ w'.heap[D]? = some (.cells (intRow L) 3 (0, 0)) ∧ w.grownBy w' (some D)
def TalC (F D : Nat) (its : List It) (n : Nat) (t : PT) : Prop :=
  ∀ (w : World) (B : Nat) (vi vl : Value) (L : List Int), FAt w B F vi vl its → w.heap[D]? = some (.cells (intRow L) 3 (0, 0)) → FitT t L →
    Calls Try.prog 52 #[.pointer (some ⟨F, 0, none⟩), .int .i64 (n : Int), .slice (some ⟨D, 0, none⟩) L.length L.length] w (TallyV w D (addT t L))
theorem FAt.grownInt {w W : World} {B F D : Nat} {vi vl : Value} {its : List It} {cs : Array Value} (h : FAt w B F vi vl its) (hD : w.heap[D]? = some (.cells cs 3 (0, 0))) (hg : w.grownBy W (some D)) : FAt W B F vi vl its := by
  have h1 : F ≠ D := fun e => by
    subst e
    have h2 := h.box
    rw [hD] at h2
    injection h2 with h2
    injection h2 with _ ht
    exact absurd ht (by decide)
  refine ⟨h.hB, by rw [hg.block F h.lt (fun e => by cases e; exact h1 rfl)]; exact h.box, own_below h.own fun k hk => hg.block k (own_low h.own k hk).2 (fun e => ?_)⟩
  cases e
  exact own_other h.own hD (by decide) hk
theorem grown_setZ (w : World) (D i : Nat) (u : Value) : w.grownBy (w.setCell ⟨D, i, none⟩ u) (some D) := ⟨rfl, rfl, rfl, by simp [World.setCell], fun k hk hne => Below.heap_setCell _ _ _ _ (fun e => hne (by have e' : k = D := e; rw [e']))⟩

set_option maxRecDepth 100000 in
set_option maxHeartbeats 4000000 in
theorem tally_leaf {F D : Nat} {its : List It} {n s : Nat} {x : Int} (hit : its[n]? = some (x, (s : Int), -1)) : TalC F D its n (.leaf s) := by
  intro w B vi vl L hf hD hfit
  have hro := hf.rows
  have c0 := cell_of (i := 0) hf.box rfl
  obtain ⟨A, cap, rfl, hc⟩ := hro.form
  have hn := (List.getElem?_eq_some_iff.1 hit).1
  obtain ⟨bi, oi, rfl, -, hcel⟩ := at_it hro (by omega)
  obtain ⟨p0, p1, p2⟩ := hcel n _ hit
  simp only at p0 p1 p2
  obtain ⟨m, hm⟩ : ∃ m, its.length = m := ⟨_, rfl⟩
  rw [hm] at c0 hn
  have hn2 : (n : Int) < (m : Int) := by omega
  have hs : s < L.length := hfit.1 s (by unfold PT.occ; rw [if_pos rfl]; omega)
  obtain ⟨z, hz⟩ : ∃ z, L[s]? = some z := ⟨_, List.getElem?_eq_getElem hs⟩
  have hzb := hfit.2 z (List.mem_of_getElem? hz)
  have hgd : L.getD s 0 = z := by rw [List.getD_eq_getElem?_getD, hz]; rfl
  obtain ⟨N, hN⟩ : ∃ N, w.heap.size = N := ⟨_, rfl⟩
  obtain ⟨X, hX⟩ : ∃ X, w.alloc (.cells #[.int .i64 x, .int .i64 (s : Int), .int .i64 (-1)] 139) = X := ⟨_, rfl⟩
  have hbN : X.heap[N]? = some (.cells #[.int .i64 x, .int .i64 (s : Int), .int .i64 (-1)] 139 (0, 0)) := by rw [← hX, ← hN]; exact block_new _ _
  have hDX : X.heap[D]? = some (.cells (intRow L) 3 (0, 0)) := by rw [← hX, Below.heap_alloc _ _ _ (heap_lt hD)]; exact hD
  have q1 := cell_of (i := 1) hbN rfl
  have q2 := cell_of (i := 2) hbN rfl
  have d0 : X.cell? ⟨D, s, none⟩ = some (.int .i64 z) := cell_of hDX (by rw [intRow_get hs, hgd])
  have f0 : X.frozen? ⟨D, s, none⟩ = false := frozen_of hDX
  have hw1 : wrap64 (z + 1) = z + 1 := by unfold wrap64; unfold PT.size at hzb; omega
  have HE : Hid (TallyV w D (addT (.leaf s) L) (.returned (.tuple #[])) (X.setCell ⟨D, s, none⟩ (.int .i64 (z + 1)))) := Lib.hid (by
    refine ⟨rfl, ?_, ?_⟩
    · unfold addT
      rw [hgd, ← intRow_set]; exact set_of hDX _
    · rw [← hX]; exact grown_transZ (World.grownBy_alloc w _ _) (grown_setZ _ _ _ _))
  obtain ⟨ln, hln⟩ : ∃ ln, L.length = ln := ⟨_, rfl⟩
  rw [hln] at hs ⊢
  have hsi : (s : Int) < (ln : Int) := by omega
  have HX := Lib.hid hX
  have HN := Lib.hid hN
  clear hf hD hfit hro hit hcel hm hz hzb hgd hN hX hbN hDX hc hln
  go_enter Try.func52, Try.ntmps52
  go_upto_region 1 with fail
  rw [HX.out, HN.out]
  go_wp2_with fail
  go_end0
  exact HE.out

set_option maxRecDepth 100000 in
set_option maxHeartbeats 4000000 in
theorem tally_node {F D : Nat} {its : List It} {n a b : Nat} {ta tb : PT} {x : Int} (hit : its[n]? = some (x, (a : Int), (b : Int))) (ha : TalC F D its a ta) (hb : TalC F D its b tb) : TalC F D its n (.node ta tb) := by
  intro w B vi vl L hf hD hfit
  have hro := hf.rows
  have c0 := cell_of (i := 0) hf.box rfl
  obtain ⟨A, cap, rfl, hc⟩ := hro.form
  have hn := (List.getElem?_eq_some_iff.1 hit).1
  obtain ⟨bi, oi, rfl, -, hcel⟩ := at_it hro (by omega)
  obtain ⟨p0, p1, p2⟩ := hcel n _ hit
  simp only at p0 p1 p2
  obtain ⟨m, hm⟩ : ∃ m, its.length = m := ⟨_, rfl⟩
  rw [hm] at c0 hn
  have hn2 : (n : Int) < (m : Int) := by omega
  obtain ⟨N, hN⟩ : ∃ N, w.heap.size = N := ⟨_, rfl⟩
  obtain ⟨X, hX⟩ : ∃ X, w.alloc (.cells #[.int .i64 x, .int .i64 (a : Int), .int .i64 (b : Int)] 139) = X := ⟨_, rfl⟩
  have hbN : X.heap[N]? = some (.cells #[.int .i64 x, .int .i64 (a : Int), .int .i64 (b : Int)] 139 (0, 0)) := by rw [← hX, ← hN]; exact block_new _ _
  have hDX : X.heap[D]? = some (.cells (intRow L) 3 (0, 0)) := by rw [← hX, Below.heap_alloc _ _ _ (heap_lt hD)]; exact hD
  have hfX := hf.alloc (.cells #[.int .i64 x, .int .i64 (a : Int), .int .i64 (b : Int)] 139)
  rw [hX] at hfX
  have q1 := cell_of (i := 1) hbN rfl
  have q2 := cell_of (i := 2) hbN rfl
  have hb1 : ((b : Int) == -1) = false := by simp
  have HA := Lib.hid (ha X B _ vl L hfX hDX hfit.left)
  have hND : N ≠ D := by have := heap_lt hD; omega
  have hgX : w.grownBy X (some D) := by rw [← hX]; exact World.grownBy_alloc w _ _
  have HB := Lib.hid (show ∀ W, W.heap[D]? = some (.cells (intRow (addT ta L)) 3 (0, 0)) → X.grownBy W (some D) → W.cell? ⟨N, 2, none⟩ = some (.int .i64 (b : Int)) ∧ Calls Try.prog 52 #[.pointer (some ⟨F, 0, none⟩), .int .i64 (b : Int), .slice (some ⟨D, 0, none⟩) L.length L.length] W (TallyV w D (addT (.node ta tb) L)) from fun W hW hg => by
    refine ⟨?_, ?_⟩
    · have : W.heap[N]? = X.heap[N]? := hg.block N (heap_lt hbN) (fun e => by cases e; exact hND rfl)
      exact cell_of (i := 2) (this.trans hbN) rfl
    · have h1 := hb W B _ vl (addT ta L) (hfX.grownInt hDX hg) hW hfit.right
      rw [addT_len] at h1
      refine h1.mono ?_
      rintro e w' ⟨h2, h3, h4⟩
      exact ⟨h2, h3, grown_transZ (grown_transZ hgX hg) h4⟩)
  have HX := Lib.hid hX
  have HN := Lib.hid hN
  clear hf hD hfit hro hit hcel hm hN hX hbN hDX hc ha hb hfX hND hgX
  go_enter Try.func52, Try.ntmps52
  go_upto_region 1 with fail
  rw [HX.out, HN.out]
  go_wp2_with fail
  refine HA.out.mono ?_
  rintro e w2 ⟨rfl, hD2, hg2⟩
  obtain ⟨q3, hcb⟩ := HB.out w2 hD2 hg2
  have HCB := Lib.hid hcb
  clear hD2 hg2 hcb HA HB
  go_wp2_with fail
  refine HCB.out.mono ?_
  rintro e w3 ⟨rfl, hD3, hg3⟩
  have HE : Hid (TallyV w D (addT (.node ta tb) L) (.returned (.tuple #[])) w3) := Lib.hid ⟨rfl, hD3, hg3⟩
  clear hD3 hg3 HCB
  go_wp2_with fail
  go_end0
  exact HE.out
theorem tally_any {F D : Nat} {c : Nat → Nat} {its : List It} {n : Nat} {t : PT} (h : RepI c its n t) : TalC F D its n t := by
  induction h with
  | leaf h => exact tally_leaf h
  | node h _ _ ia ib => exact tally_node h ia ib
end Go.Proofs.Ytbfnkmibbieijaa
