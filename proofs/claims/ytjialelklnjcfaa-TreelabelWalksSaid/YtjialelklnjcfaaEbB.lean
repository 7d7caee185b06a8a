/-
  WALKS over package treelabel, second part: slices.Backward; arrange.
-/
import Derived.Test.YtjialelklnjcfaaEbR
import Derived.RangeFuncNested
import Derived.RangeFuncBound
import Derived.RangeFuncCalls
import Derived.RangeFuncLeaves
import Derived.OwnWalkIn
import Derived.TacticsInMore
import Derived.LoopNIn
import Derived.LoopIn
import Derived.Test.YtjialelklnjcfaaRnd
namespace Go.Proofs.Ytjialelklnjcfaa
open Go Go.RowKit Go.Shelf Go.Lib
set_option linter.unusedVariables false
set_option linter.unusedSimpArgs false
attribute [local go_sem] Oper.semAt_some

/-! ### slices.Backward at numbers -/
set_option maxHeartbeats 1000000 in
theorem backward_fn (A : Option Addr) (n cap : Nat) (w : World) :
    Calls Try.prog 49 #[.slice A n cap] w fun e w' => e = .returned (.func (.func 58) #[] #[.pointer (some ⟨w.heap.size, 0, none⟩)]) ∧ w' = w.alloc (.cells #[.slice A n cap] 22) := by
  go_enter Try.func49, Try.ntmps49
  go_wp2_with fail
  go_ret
  exact ⟨rfl, rfl⟩
/-- What a round leaves: what lay below n0, and the box. -/
def KpB (n0 Bs : Nat) (W W' : World) : Prop := Below n0 W W' ∧ W'.heap[Bs]? = W.heap[Bs]?
theorem kpB_t {n0 Bs : Nat} {A B C : World} (h : KpB n0 Bs A B) (k : KpB n0 Bs B C) : KpB n0 Bs A C := ⟨h.1.trans k.1, k.2.trans h.2⟩
theorem kpB_b {n0 Bs : Nat} {w : World} (hn : n0 ≤ w.heap.size) (hB : Bs < w.heap.size) (W : World) (l : Nat) (o o' : Obj) (hl : w.heap.size ≤ l) (h : W.heap[l]? = some o) (h1 : o.isCells = false) (h2 : o.isWalk = false) : KpB n0 Bs W (W.putObj l o') :=
  ⟨belowK_b hn W l o o' hl h h1 h2, World.putObj_heap_other (by omega)⟩
theorem kpB_r {n0 Bs : Nat} (W : World) : KpB n0 Bs W W := ⟨Below.refl _ _, rfl⟩
/-- A node of the list: its index. -/
abbrev Nd1 (h : List Int) := { i : Nat // i < h.length }
def ndV (h : List Int) (x : Nd1 h) : Array Value := #[.int .i64 (x.1 : Int), .int .i64 (h[x.1]'x.2)]
/-- The last k nodes, from behind. -/
def backL (h : List Int) (k : Nat) : List Nat := (List.range k).map fun j => h.length - 1 - j
theorem backL_succ (h : List Int) (k : Nat) : backL h (k + 1) = backL h k ++ [h.length - 1 - k] := by simp [backL, List.range_succ]
theorem backL_len (h : List Int) (k : Nat) : (backL h k).length = k := by simp [backL]

set_option maxRecDepth 100000 in
set_option maxHeartbeats 2000000 in
theorem backward_stops (m : Nat) (hm : 1 ≤ m) {w : World} {h : List Int} {n : Nat} (hn : h.length = n) (Bs n0 : Nat) (A : Option Addr) (cap : Nat) (hv : Rows 1 EInt w (.slice A n cap) h) (hA : ∀ b off, A = some ⟨b, off, none⟩ → 0 < n → b < n0) (hl : n ≤ 1000000) (hB : Bs < w.heap.size) (hn0 : n0 ≤ w.heap.size) (hc : w.cell? ⟨Bs, 0, none⟩ = some (.slice A n cap)) :
    SeqStopsK Fence.wide m Try.prog 58 #[.pointer (some ⟨Bs, 0, none⟩)] (ndV h) (KpB n0 Bs) (fun ys => ys.map (·.1) = backL h n) (fun _ => True) n w := fun l J Jx W hW _ _ hY h0 => by
  have hW0 := hW.mono hn0
  have hc' := (hW.cell hB).trans hc
  have hcell : ∀ (X : World), Below n0 W X → 0 < n → ∃ bk off, A = some ⟨bk, off, none⟩ ∧ ∀ (j : Nat) (x : Int), h[j]? = some x → X.cell? ⟨bk, off + j, none⟩ = some (.int .i64 x) := fun X hb h0 => by
    obtain ⟨bk, off, h1, h3, h2⟩ := at_int hv (by rw [hn]; exact h0)
    have hlt := hA bk off h1 h0
    exact ⟨bk, off, h1, fun j x hx => ((hW0.trans hb).cell (p := ⟨bk, off + j, none⟩) hlt).trans (h2 j x hx)⟩
  have HCELL := Lib.hid hcell
  have HN := Lib.hid hn
  have hw1 : IntKind.i64.wrap ((n : Int) - 1) = (n : Int) - 1 := by rw [IntKind.wrap_i64]; omega
  clear hcell hn hv hc hA hW0 hW
  refine callsIn_of_wp Try.func58 rfl trivial ?_ rfl
  simp only [Try.ntmps58, List.size_toArray, List.length_cons, List.length_nil, Nat.reduceAdd, Nat.reduceSub, Array.replicate_succ, Array.replicate_zero, List.push_toArray, List.append_toArray, List.nil_append, List.cons_append]
  gi_wp2
  gi_loopw [3] (fun i wr => ∃ (k : Nat) (pre : List (Nd1 h)), k ≤ n ∧ i = .int .i64 ((n : Int) - 1 - k) ∧ pre.map (·.1) = backL h k ∧ J pre wr ∧ KpB n0 Bs W wr)
    (fun i _ => (Go.RowKit.intOf i + 1).toNat)
  case atStart => exact ⟨0, [], Nat.zero_le _, by simp, rfl, h0, kpB_r _⟩
  case round =>
    obtain ⟨k, pre, hk, rfl, hpre, hJs, hnx⟩ := hrel
    have hpl : pre.length = k := by
      have := congrArg List.length hpre
      rw [List.length_map, backL_len] at this
      exact this
    by_cases hlt : k < n
    · obtain ⟨i, hi⟩ : ∃ i : Nat, n - 1 - k = i := ⟨_, rfl⟩
      have hin : i < h.length := by rw [HN.out]; omega
      obtain ⟨fn, tmps, assign, body, hy, hR⟩ := hY pre ⟨i, hin⟩ wr hJs (by rw [hpl]; exact hlt)
      unfold ndV at hy
      have hii : (n : Int) - 1 - k = (i : Int) := by omega
      rw [hii]
      obtain ⟨x, hx⟩ : ∃ x, h[i]'hin = x := ⟨_, rfl⟩
      simp only [hx] at hy
      have hc1 := (World.cell?_of_block (a := ⟨Bs, 0, none⟩) hnx.2).trans hc'
      obtain ⟨bk, off, rfl, hcj⟩ := HCELL.out wr hnx.1 (by omega)
      have hcx := hcj i x (by rw [List.getElem?_eq_getElem hin, hx])
      have hi0 : (i : Int) ≥ 0 := by omega
      have hin' : (i : Int) < (n : Int) := by have := HN.out; omega
      have hi1 : IntKind.i64.wrap ((i : Int) - 1) = (i : Int) - 1 := by rw [IntKind.wrap_i64]; omega
      have hrel2 : (pre ++ [(⟨i, hin⟩ : Nd1 h)]).map (·.1) = backL h (k + 1) := by
        rw [List.map_append, hpre, backL_succ]
        show backL h k ++ [i] = backL h k ++ [h.length - 1 - k]
        rw [HN.out, hi]
      have HREL := Lib.hid hrel2
      have HI := Lib.hid hi
      clear hcj hii hx hrel2 hi
      gi_wp2
      refine hR.mono ?_
      rintro e W3 (⟨rfl, hJ3, hk3⟩ | ⟨rfl, hJx3⟩)
      · gi_wp2
        go_roundw
        case rel => exact ⟨k + 1, _, by omega, by congr 1; have := HI.out; omega, HREL.out, hJ3, kpB_t hnx hk3⟩
        case measure => simp only [Go.RowKit.intOf]; omega
      · gi_wp2
        refine bodyPost_ret (results_none rfl _ _ _) rfl ?_
        exact ⟨⟨_, rfl⟩, .inr ⟨_, trivial, hJx3⟩⟩
    · obtain rfl : k = n := by omega
      have hz : (k : Int) - 1 - k = -1 := by omega
      rw [hz]
      gi_wp2
      go_end0
      exact ⟨⟨_, rfl⟩, .inl ⟨pre, hpre, hJs⟩⟩
end Go.Proofs.Ytjialelklnjcfaa
