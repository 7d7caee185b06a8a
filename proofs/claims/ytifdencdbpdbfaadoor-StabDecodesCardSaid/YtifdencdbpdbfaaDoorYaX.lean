/-
  WALKS over package stab: slices.Sort at numbers; the iterator of the nodes that end behind a token.
-/
import Derived.Test.YtifdencdbpdbfaaDoorYaW
namespace Go.Proofs.YtifdencdbpdbfaaDoor
open Go Go.RowKit Go.Shelf Go.Lib Go.Sort
set_option linter.unusedVariables false
set_option linter.unusedSimpArgs false

theorem grown_sort1 {α : Type} [Inhabited α] (enc : α → Value) {w : World} {g m : Nat} {os : Array Obj} (d : Array α) : w.grownBy (grow (putRow enc (Sort.ahead w m) g 0 d) os) (some g) := by
  refine ⟨rfl, rfl, rfl, by simp [putRow, mapBlock, Sort.ahead], fun k hk hne => ?_⟩
  rw [heap_grow_old _ _ (by simpa [putRow, mapBlock, Sort.ahead] using hk)]
  have : g ≠ k := fun e => hne (by rw [e])
  simp [putRow, mapBlock, Sort.ahead, Array.getElem?_modify, this]
theorem flat_one : ∀ xs : List Int, (xs.flatMap fun x => [Value.int .i64 x]) = xs.map fun x => Value.int .i64 x
  | [] => rfl
  | a :: l => by rw [List.flatMap_cons, flat_one l]; rfl
theorem own_rows {w : World} {base : Nat} {v : Value} {xs : List Int} (h : w.ownsRow base 3 1 v xs.length (xs.map fun x => Value.int .i64 x)) : Rows 1 EInt w v xs := by
  exact rows_of_own (enc := fun x => [Value.int .i64 x]) (fun _ => rfl) (by rw [flat_one]; exact h)
def SortV (w : World) (v : Value) (xs : List Int) (e : Ending) (w' : World) : Prop :=
  e = .returned (.tuple #[]) ∧ Rows 1 EInt w' v (xs.mergeSort fun x y => decide (x ≤ y)) ∧ w.grownBy w' v.ownBlock
theorem sortInt_any {w : World} {base : Nat} {v : Value} {xs : List Int} (h : w.ownsRow base 3 1 v xs.length (xs.map fun x => Value.int .i64 x)) (hl : xs.length ≤ 1000000) :
    Calls Tryd.prog 42 #[v] w (SortV w v xs) := by
  have hml : (xs.mergeSort fun x y => decide (x ≤ y)).length = xs.length := (List.mergeSort_perm xs _).length_eq
  rcases h.2 with ⟨rfl, h0⟩ | ⟨g, cap, cur, rfl, hb, hh, hc, hm, hs, ht⟩
  · have hx : xs = [] := List.length_eq_zero_iff.1 h0
    subst hx
    refine (Tryd.slices_Sort_int_none none 0 w).mono ?_
    rintro e w' ⟨rfl, rfl⟩
    refine ⟨rfl, ?_, World.grownBy.refl _ _⟩
    have : ([] : List Int).mergeSort (fun x y => decide (x ≤ y)) = [] := List.length_eq_zero_iff.1 hml
    rw [this]
    exact Rows.nil _
  · have hgl := (Array.getElem?_eq_some_iff.1 hh).1
    have hcs : xs.length ≤ cur.size := by omega
    have hH : Holds (Value.int .i64) w g 0 xs.toArray := fun j hj => by
      have hj' : j < xs.length := by simpa using hj
      refine ⟨?_, frozen_of hh⟩
      rw [Nat.zero_add, h.cellAt j (by omega), getElem!_pos xs.toArray j hj]
      simp [hj']
    refine (Tryd.slices_Sort_int g 0 cap xs w hH hgl (by omega)).mono ?_
    rintro e w' ⟨rfl, m, os, rfl⟩
    have hgr := grown_sort1 (w := w) (g := g) (m := m) (os := os) (Value.int .i64) (xs.mergeSort fun x y => decide (x ≤ y)).toArray
    refine ⟨rfl, ?_, hgr⟩
    have hblk : (grow (putRow (Value.int .i64) (Sort.ahead w m) g 0 (xs.mergeSort fun x y => decide (x ≤ y)).toArray) os).heap[g]? = some (.cells (putCells (Value.int .i64) 0 (xs.mergeSort fun x y => decide (x ≤ y)).toArray cur) 3 (0, 0)) := by
      rw [heap_grow_old _ _ (by simpa [putRow, mapBlock, Sort.ahead] using hgl)]
      simp [putRow, mapBlock, Sort.ahead, Array.getElem?_modify, hh, onCells]
    refine ⟨_, cap, by rw [hml], by rw [hml]; exact hc, fun h0 => ⟨g, 0, rfl, (Array.getElem?_eq_some_iff.1 hblk).1, fun j x hx => ⟨[.int .i64 x], rfl, rfl, fun i u hu => ?_⟩⟩⟩
    have hjl : j < (xs.mergeSort fun x y => decide (x ≤ y)).length := (List.getElem?_eq_some_iff.1 hx).1
    match i, hu with
    | 0, hu =>
      cases hu
      refine cell_of hblk ?_
      have hjc : j < cur.size := by omega
      have hge : (xs.mergeSort fun x y => decide (x ≤ y))[j] = x := (List.getElem?_eq_some_iff.1 hx).2
      simp [putCells, hjc]
      rw [if_pos (by omega), hx]
      rfl
theorem ending_fn (A : Option Addr) (n cap : Nat) (tok : Int) (w : World) :
    Calls Tryd.prog 41 #[.slice A n cap, .int .i64 tok] w fun e w' => e = .returned (.func (.func 53) #[] #[.pointer (some ⟨w.heap.size, 0, none⟩), .pointer (some ⟨w.heap.size + 1, 0, none⟩)]) ∧ w' = (w.alloc (.cells #[.slice A n cap] 51)).alloc (.cells #[.int .i64 tok] 3) := by
  go_enter Tryd.func41, Tryd.ntmps41
  go_wp2_with fail
  go_ret
  exact ⟨rfl, rfl⟩
theorem keep_drewN {β : Type} {B : Nat} {J : β → World → Prop} (h : AbidesFrom B J) (s : β) (W : World) (q : Nat) (hs : J s W) : J s (W.drewN q) := h s W _ none hs (grown_drewN W q none) (fun r e => by cases e)

set_option maxRecDepth 100000 in
set_option maxHeartbeats 2000000 in
theorem ending_stops (m : Nat) (hm : 1 ≤ m) {w : World} {g n0 n : Nat} {L : List Nd} {tok : Int} (B1 B2 : Nat) (hn : L.length = n) (hN : NdAt w g L) (hg : g < n0) (hn0 : n0 ≤ w.heap.size) (hmax : n ≤ 1000000) (hmsr : Msr L n 0 n)
    (hB1 : B1 < w.heap.size) (hB2 : B2 < w.heap.size) (h1 : w.cell? ⟨B1, 0, none⟩ = some (.slice (some ⟨g, 0, none⟩) n n)) (h2 : w.cell? ⟨B2, 0, none⟩ = some (.int .i64 tok)) :
    SeqStopsK Fence.wide m Tryd.prog 53 #[.pointer (some ⟨B1, 0, none⟩), .pointer (some ⟨B2, 0, none⟩)] ndA (Below n0) (fun ys => ys = L.filter fun x => decide (tok < x.1.2)) (fun pre => pre <+: L.filter fun x => decide (tok < x.1.2)) n w := fun l J Jx W hW hJa _ hY h0 => by
  have c1 := (hW.cell (p := ⟨B1, 0, none⟩) hB1).trans h1
  have c2 := (hW.cell (p := ⟨B2, 0, none⟩) hB2).trans h2
  have hNW := hN.below hW hN.lt
  have hseg : Seg g 0 n (.slice (some ⟨g, 0, none⟩) n n) := ⟨_, n, rfl, by omega, fun _ => by rw [Nat.zero_mul]⟩
  have hv := visit_any (g := g) (n0 := n0) (N := n) (l := l) (m0 := m - 1) (L := L) (tok := tok) (J := J) (Jx := Jx) hg (by omega) (fun pre W q h => keep_drewN hJa pre W q h) (fun pre x W1 h hl => hY pre x W1 h hl)
    n 0 n _ [] W (by omega) (by omega) (by omega) hmsr hseg hNW (by simp) h0
  rw [show segF L tok 0 n = L.filter fun x => decide (tok < x.1.2) by rw [← hn]; exact segF_all L tok] at hv
  have HV := Lib.hid hv
  obtain ⟨F, hF⟩ : ∃ F, (L.filter fun x => decide (tok < x.1.2)) = F := ⟨_, rfl⟩
  rw [hF] at HV ⊢
  clear hv hY h0 hNW hseg hmsr hN h1 h2 hF hJa hW
  refine callsIn_of_wp Tryd.func53 rfl trivial ?_ rfl
  simp only [Tryd.ntmps53, List.size_toArray, List.length_cons, List.length_nil, Nat.reduceAdd, Nat.reduceSub, Array.replicate_succ, Array.replicate_zero, List.push_toArray, List.append_toArray, List.nil_append, List.cons_append]
  gi_wp2
  refine ⟨trivial, (callsIn_wide.2 HV.out).mono ?_⟩
  rintro e w3 (⟨rfl, hJ3, hb3⟩ | ⟨rfl, pre', hp', hJx⟩)
  · gi_wp2
    go_end0
    exact ⟨⟨_, rfl⟩, .inl ⟨_, rfl, hJ3⟩⟩
  · gi_wp2
    go_end0
    exact ⟨⟨_, rfl⟩, .inr ⟨_, hp', hJx⟩⟩
end Go.Proofs.YtifdencdbpdbfaaDoor
