/-
  WALKS over package stab: slices.Chunk at pairs of numbers; spansOf.
-/
import Derived.Test.YtifdencdbpdbfaaDoorZdB
import Derived.Test.YtifdencdbpdbfaaDoorRnd
namespace Go.Proofs.YtifdencdbpdbfaaDoor
open Go Go.RowKit Go.Shelf Go.Lib
set_option linter.unusedVariables false
set_option linter.unusedSimpArgs false
attribute [local go_sem] Oper.semAt_some

set_option maxHeartbeats 1000000 in
theorem chunk_fn (A : Option Addr) (m cap : Nat) (w : World) :
    Calls Tryd.prog 37 #[.slice A m cap, .int .i64 2] w fun e w' => e = .returned (.func (.func 49) #[] #[.pointer (some ⟨w.heap.size, 0, none⟩), .pointer (some ⟨w.heap.size + 1, 0, none⟩)]) ∧ w' = (w.alloc (.cells #[.slice A m cap] 37)).alloc (.cells #[.int .i64 2] 3) := by
  go_enter Tryd.func37, Tryd.ntmps37
  go_wp2_with fail
  go_ret
  exact ⟨rfl, rfl⟩
/-- What a round leaves: what lay below n0, and the two boxes. -/
def KpC (n0 B1 B2 : Nat) (W W' : World) : Prop := Below n0 W W' ∧ W'.heap[B1]? = W.heap[B1]? ∧ W'.heap[B2]? = W.heap[B2]?
theorem kpC_t {n0 B1 B2 : Nat} {A B C : World} (h : KpC n0 B1 B2 A B) (k : KpC n0 B1 B2 B C) : KpC n0 B1 B2 A C := ⟨h.1.trans k.1, k.2.1.trans h.2.1, k.2.2.trans h.2.2⟩
theorem kpC_b {n0 B1 B2 : Nat} {w : World} (hn : n0 ≤ w.heap.size) (h1 : B1 < w.heap.size) (h2 : B2 < w.heap.size) (W : World) (l : Nat) (o o' : Obj) (hl : w.heap.size ≤ l) (h : W.heap[l]? = some o) (hc : o.isCells = false) (hw : o.isWalk = false) : KpC n0 B1 B2 W (W.putObj l o') :=
  ⟨belowK_b hn W l o o' hl h hc hw, World.putObj_heap_other (by omega), World.putObj_heap_other (by omega)⟩
theorem kpC_r {n0 B1 B2 : Nat} (W : World) : KpC n0 B1 B2 W W := ⟨Below.refl _ _, rfl, rfl⟩
theorem kpC_d {n0 B1 B2 : Nat} (W : World) (q : Nat) : KpC n0 B1 B2 W (W.drewN q) := ⟨below_drewN (Below.refl _ _) q, rfl, rfl⟩
abbrev Ix (q : Nat) := { i : Nat // i < q }
def chV (b off : Nat) {q : Nat} (i : Ix q) : Array Value := #[.slice (some ⟨b, off + 2 * i.1, none⟩) 2 2]

set_option maxRecDepth 100000 in
set_option maxHeartbeats 4000000 in
theorem chunk_stops (d : Nat) (hd : 1 ≤ d) {w : World} {q m cap b off : Nat} {A : Option Addr} (B1 B2 n0 : Nat) (hm : 2 * q = m) (hmax : m ≤ 1000000) (hcap : m ≤ cap) (hA : 0 < m → A = some ⟨b, off, none⟩) (hn0 : n0 ≤ w.heap.size)
    (hB1 : B1 < w.heap.size) (hB2 : B2 < w.heap.size) (h1 : w.cell? ⟨B1, 0, none⟩ = some (.slice A m cap)) (h2 : w.cell? ⟨B2, 0, none⟩ = some (.int .i64 2)) :
    SeqStopsK Fence.wide d Tryd.prog 49 #[.pointer (some ⟨B1, 0, none⟩), .pointer (some ⟨B2, 0, none⟩)] (chV b off (q := q)) (KpC n0 B1 B2) (fun ys => ys.map (·.1) = List.range q) (fun _ => True) q w := fun l J Jx W hW hJa _ hY h0 => by
  have c1 := (hW.cell (p := ⟨B1, 0, none⟩) hB1).trans h1
  have c2 := (hW.cell (p := ⟨B2, 0, none⟩) hB2).trans h2
  have HC1 := Lib.hid c1
  have HC2 := Lib.hid c2
  have HM := Lib.hid hm
  have HA := Lib.hid hA
  have HJD := Lib.hid (fun pre (W : World) (q : Nat) (h : J pre W) => keep_drewN hJa pre W q h)
  clear h1 h2 c1 c2 hm hA hJa hW
  refine callsIn_of_wp Tryd.func49 rfl trivial ?_ rfl
  simp only [Tryd.ntmps49, List.size_toArray, List.length_cons, List.length_nil, Nat.reduceAdd, Nat.reduceSub, Array.replicate_succ, Array.replicate_zero, List.push_toArray, List.append_toArray, List.nil_append, List.cons_append]
  gi_wp2
  gi_loopw [4] (fun i wr => ∃ (k j : Nat) (pre : List (Ix q)), i = .int .i64 j ∧ Hid (2 * k = j) ∧ k ≤ q ∧ Hid (pre.map (·.1) = List.range k) ∧ J pre wr ∧ KpC n0 B1 B2 W wr)
    (fun i _ => m - (Go.RowKit.intOf i).toNat)
  case atStart => exact ⟨0, 0, [], rfl, Lib.hid rfl, Nat.zero_le _, Lib.hid rfl, h0, kpC_r _⟩
  case round =>
    obtain ⟨k, j, pre, rfl, HJ, hk, HPRE, hJs, hnx⟩ := hrel
    have hpl : pre.length = k := by have := congrArg List.length HPRE.out; simpa using this
    have d1 := (World.cell?_of_block (a := ⟨B1, 0, none⟩) hnx.2.1).trans HC1.out
    have d2 := (World.cell?_of_block (a := ⟨B2, 0, none⟩) hnx.2.2).trans HC2.out
    by_cases hlt : k < q
    · have hjm : j + 2 ≤ m := by have := HJ.out; have := HM.out; omega
      have HY := Lib.hid (fun x => hY pre ⟨k, hlt⟩ (wr.drewN x) (HJD.out _ _ x hJs) (by rw [hpl]; exact hlt))
      have hj2 : off + 2 * k = off + j := by have := HJ.out; omega
      have HJ2 := Lib.hid hj2
      obtain rfl := HA.out (by omega)
      have g1 : (j : Int) < (m : Int) := by omega
      have g2 : ¬ cap = j := by omega
      have g3 : min (2 : Int) ((m - j : Nat) : Int) = 2 := by omega
      have g4 : IntKind.i64.wrap ((j : Int) + 2) = (j : Int) + 2 := by rw [IntKind.wrap_i64]; omega
      have g5 : j ≤ m := by omega
      have g6 : j + 2 ≤ cap := by omega
      have g7 : ((j : Int) + 2).toNat - j = 2 := by omega
      have HNX := Lib.hid (fun x => kpC_t hnx (kpC_d (n0 := n0) (B1 := B1) (B2 := B2) wr x))
      have HLT := Lib.hid hlt
      have HJM := Lib.hid hjm
      have HRR := Lib.hid (show (pre ++ [(⟨k, hlt⟩ : Ix q)]).map (·.1) = List.range (k + 1) by rw [List.map_append, HPRE.out, List.range_succ]; rfl)
      clear hj2 hJs hnx hY hjm hpl
      gi_wp2
      refine wpIn_wide.2 ?_
      go_quiet (fail)
      obtain ⟨fn, tmps, assign, body, hy, hR⟩ := HY.out nq
      unfold chV at hy
      simp only [HJ2.out] at hy
      have HR := Lib.hid hR
      obtain ⟨w2, hw2⟩ : ∃ X, wr.drewN nq = X := ⟨_, rfl⟩
      have HN2 := HNX.out nq
      rw [hw2] at hy HR HN2
      have HNX2 := Lib.hid HN2
      have d1' : w2.cell? ⟨B1, 0, none⟩ = some (.slice (some ⟨b, off, none⟩) m cap) := by rw [← hw2]; exact d1
      have d2' : w2.cell? ⟨B2, 0, none⟩ = some (.int .i64 2) := by rw [← hw2]; exact d2
      rw [hw2]
      clear hw2 hR HN2 HY HNX d1 d2
      go_wp2_with fail
      gi_wp2
      refine HR.out.mono ?_
      rintro e W3 (⟨rfl, hJ3, hk3⟩ | ⟨rfl, hJx3⟩)
      · have hk4 := kpC_t HNX2.out hk3
        have e2 := (World.cell?_of_block (a := ⟨B2, 0, none⟩) hk3.2.2).trans d2'
        have HK4 := Lib.hid hk4
        have HJ3 := Lib.hid hJ3
        clear hk3 hk4 hJ3 d1' d2' hy HR
        gi_wp2
        go_roundw
        case rel => exact ⟨k + 1, j + 2, _, by go_num, Lib.hid (by have := HJ.out; omega), HLT.out, HRR, HJ3.out, HK4.out⟩
        case measure => have := HJM.out; simp only [Go.RowKit.intOf]; omega
      · clear hy HR
        gi_wp2
        refine bodyPost_ret (results_none rfl _ _ _) rfl ?_
        exact ⟨⟨_, rfl⟩, .inr ⟨_, trivial, hJx3⟩⟩
    · obtain rfl : k = q := by omega
      have hjm : ¬ (j : Int) < (m : Int) := by have := HJ.out; have := HM.out; omega
      clear hlt
      gi_wp2
      go_end0
      exact ⟨⟨_, rfl⟩, .inl ⟨pre, HPRE.out, hJs⟩⟩
end Go.Proofs.YtifdencdbpdbfaaDoor
