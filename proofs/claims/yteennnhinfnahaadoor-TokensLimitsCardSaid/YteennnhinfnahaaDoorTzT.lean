/-
  WALKS over package tokens: slices.Chunk at 64 numbers.
  WALKS over package tokens, third part: pack.
  WALKS over package tokens, fourth part: code.
-/
import Derived.Test.YteennnhinfnahaaDoorTzR
import Derived.Test.YteennnhinfnahaaDoorRnd
import Derived.RangeFuncNested
import Derived.RangeFuncBound
import Derived.RangeFuncCalls
import Derived.RangeFuncLeaves
import Derived.RangeFuncBox
import Derived.OwnWalkIn
import Derived.TacticsInMore
import Derived.LoopNIn
import Derived.LoopIn
import Derived.Test.YteennnhinfnahaaDoorTzS
import Derived.Deep.RegionHeld3
namespace Go.Proofs.YteennnhinfnahaaDoor
open Go Go.RowKit Go.Shelf Go.Lib
set_option linter.unusedVariables false
set_option linter.unusedSimpArgs false
attribute [local go_sem] Oper.semAt_some

theorem grown_drewN (w : World) (q : Nat) (r : Option Nat) : w.grownBy (w.drewN q) r := grown_below (below_drewN (Below.refl _ _) q) r
theorem keep_drewN {β : Type} {B : Nat} {J : β → World → Prop} (h : AbidesFrom B J) (s : β) (W : World) (q : Nat) (hs : J s W) : J s (W.drewN q) := h s W _ none hs (grown_drewN W q none) (fun r e => by cases e)
set_option maxHeartbeats 1000000 in
theorem chunkT_fn (A : Option Addr) (m cap : Nat) (w : World) :
    Calls Tryd.prog 23 #[.slice A m cap, .int .i64 64] w fun e w' => e = .returned (.func (.func 32) #[] #[.pointer (some ⟨w.heap.size, 0, none⟩), .pointer (some ⟨w.heap.size + 1, 0, none⟩)]) ∧ w' = (w.alloc (.cells #[.slice A m cap] 22)).alloc (.cells #[.int .i64 64] 3) := by
  go_enter Tryd.func23, Tryd.ntmps23
  go_wp2_with fail
  go_ret
  exact ⟨rfl, rfl⟩
/-- What a round leaves: what lay below n0, and the two boxes. -/
def KpC (n0 B1 B2 : Nat) (W W' : World) : Prop := Below n0 W W' ∧ W'.heap[B1]? = W.heap[B1]? ∧ W'.heap[B2]? = W.heap[B2]?
theorem kpC_t {n0 B1 B2 : Nat} {A B C : World} (h : KpC n0 B1 B2 A B) (k : KpC n0 B1 B2 B C) : KpC n0 B1 B2 A C := ⟨h.1.trans k.1, k.2.1.trans h.2.1, k.2.2.trans h.2.2⟩
theorem kpC_b {n0 B1 B2 : Nat} {w : World} (hn : n0 ≤ w.heap.size) (h1 : B1 < w.heap.size) (h2 : B2 < w.heap.size) (W : World) (l : Nat) (o o' : Obj) (hl : w.heap.size ≤ l) (h : W.heap[l]? = some o) (hc : o.isCells = false) (hw : o.isWalk = false) : KpC n0 B1 B2 W (W.putObj l o') :=
  ⟨belowK_b hn W l o o' hl h hc hw, World.putObj_heap_other (by omega), World.putObj_heap_other (by omega)⟩
theorem kpC_r {n0 B1 B2 : Nat} (W : World) : KpC n0 B1 B2 W W := ⟨Below.refl _ _, rfl, rfl⟩
theorem kpC_d {n0 B1 B2 : Nat} (W : World) (q : Nat) : KpC n0 B1 B2 W (W.drewN q) := ⟨below_drewN (Below.refl _ _) q, rfl, rfl⟩
abbrev Ix (q : Nat) := { i : Nat // i < q }
def chT (b off m : Nat) {q : Nat} (i : Ix q) : Array Value := #[.slice (some ⟨b, off + 64 * i.1, none⟩) (min 64 (m - 64 * i.1)) (min 64 (m - 64 * i.1))]

set_option maxRecDepth 100000 in
set_option maxHeartbeats 4000000 in
theorem chunkT_stops (d : Nat) (hd : 1 ≤ d) {w : World} {q m cap b off : Nat} {A : Option Addr} (B1 B2 n0 : Nat) (hm : nbT m = q) (hmax : m ≤ 1000000) (hcap : m ≤ cap) (hA : 0 < m → A = some ⟨b, off, none⟩) (hn0 : n0 ≤ w.heap.size)
    (hB1 : B1 < w.heap.size) (hB2 : B2 < w.heap.size) (h1 : w.cell? ⟨B1, 0, none⟩ = some (.slice A m cap)) (h2 : w.cell? ⟨B2, 0, none⟩ = some (.int .i64 64)) :
    SeqStopsK Fence.wide d Tryd.prog 32 #[.pointer (some ⟨B1, 0, none⟩), .pointer (some ⟨B2, 0, none⟩)] (chT b off m (q := q)) (KpC n0 B1 B2) (fun ys => ys.map (·.1) = List.range q) (fun _ => True) q w := fun l J Jx W hW hJa _ hY h0 => by
  have c1 := (hW.cell (p := ⟨B1, 0, none⟩) hB1).trans h1
  have c2 := (hW.cell (p := ⟨B2, 0, none⟩) hB2).trans h2
  have HC1 := Lib.hid c1
  have HC2 := Lib.hid c2
  have HM := Lib.hid hm
  have HA := Lib.hid hA
  have HJD := Lib.hid (fun pre (W : World) (q : Nat) (h : J pre W) => keep_drewN hJa pre W q h)
  clear h1 h2 c1 c2 hm hA hJa hW
  refine callsIn_of_wp Tryd.func32 rfl trivial ?_ rfl
  simp only [Tryd.ntmps32, List.size_toArray, List.length_cons, List.length_nil, Nat.reduceAdd, Nat.reduceSub, Array.replicate_succ, Array.replicate_zero, List.push_toArray, List.append_toArray, List.nil_append, List.cons_append]
  gi_wp2
  gi_loopw [4] (fun i wr => ∃ (k j : Nat) (pre : List (Ix q)), i = .int .i64 j ∧ Hid (64 * k = j) ∧ k ≤ q ∧ Hid (pre.map (·.1) = List.range k) ∧ J pre wr ∧ KpC n0 B1 B2 W wr)
    (fun i _ => m - (Go.RowKit.intOf i).toNat)
  case atStart => exact ⟨0, 0, [], rfl, Lib.hid rfl, Nat.zero_le _, Lib.hid rfl, h0, kpC_r _⟩
  case round =>
    obtain ⟨k, j, pre, rfl, HJ, hk, HPRE, hJs, hnx⟩ := hrel
    have hpl : pre.length = k := by have := congrArg List.length HPRE.out; simpa using this
    have d1 := (World.cell?_of_block (a := ⟨B1, 0, none⟩) hnx.2.1).trans HC1.out
    have d2 := (World.cell?_of_block (a := ⟨B2, 0, none⟩) hnx.2.2).trans HC2.out
    by_cases hlt : k < q
    · have hjm : j < m := by have := HJ.out; have := HM.out; unfold nbT at this; omega
      have HY := Lib.hid (fun x => hY pre ⟨k, hlt⟩ (wr.drewN x) (HJD.out _ _ x hJs) (by rw [hpl]; exact hlt))
      have hj2 : 64 * k = j := HJ.out
      have HJ2 := Lib.hid hj2
      obtain rfl := HA.out (by omega)
      have g1 : (j : Int) < (m : Int) := by omega
      have g2 : ¬ cap = j := by omega
      obtain ⟨E, hE⟩ : ∃ E, min 64 (m - j) = E := ⟨_, rfl⟩
      have g3 : min (64 : Int) ((m - j : Nat) : Int) = (E : Int) := by omega
      obtain ⟨t, ht⟩ : ∃ t, j + E = t := ⟨_, rfl⟩
      have g4 : (j : Int) + (E : Int) = (t : Int) := by omega
      have g4' : IntKind.i64.wrap (t : Int) = (t : Int) := by rw [IntKind.wrap_i64]; omega
      have g5 : j ≤ m := by omega
      have g6 : t ≤ cap := by omega
      have g6' : j ≤ t := by omega
      have g7 : t - j = E := by omega
      have HE := Lib.hid hE
      have HNX := Lib.hid (fun x => kpC_t hnx (kpC_d (n0 := n0) (B1 := B1) (B2 := B2) wr x))
      have HLT := Lib.hid hlt
      have HJM := Lib.hid hjm
      have HRR := Lib.hid (show (pre ++ [(⟨k, hlt⟩ : Ix q)]).map (·.1) = List.range (k + 1) by rw [List.map_append, HPRE.out, List.range_succ]; rfl)
      clear hj2 hJs hnx hY hjm hpl hE ht
      gi_wp2
      refine wpIn_wide.2 ?_
      go_quiet (fail)
      obtain ⟨fn, tmps, assign, body, hy, hR⟩ := HY.out nq
      unfold chT at hy
      simp only [HJ2.out, HE.out] at hy
      have HR := Lib.hid hR
      obtain ⟨w2, hw2⟩ : ∃ X, wr.drewN nq = X := ⟨_, rfl⟩
      have HN2 := HNX.out nq
      rw [hw2] at hy HR HN2
      have HNX2 := Lib.hid HN2
      have d1' : w2.cell? ⟨B1, 0, none⟩ = some (.slice (some ⟨b, off, none⟩) m cap) := by rw [← hw2]; exact d1
      have d2' : w2.cell? ⟨B2, 0, none⟩ = some (.int .i64 64) := by rw [← hw2]; exact d2
      rw [hw2]
      clear hw2 hR HN2 HY HNX d1 d2
      go_wp2_with fail
      gi_wp2
      refine HR.out.mono ?_
      rintro e W3 (⟨rfl, hJ3, hk3⟩ | ⟨rfl, hJx3⟩)
      · have hk4 := kpC_t HNX2.out hk3
        have e2 := (World.cell?_of_block (a := ⟨B2, 0, none⟩) hk3.2.2).trans d2'
        have HK4 := Lib.hid hk4
        have HJ3 := Lib.hid hJ3
        clear hk3 hk4 hJ3 d1' d2' hy HR
        gi_wp2
        go_roundw
        case rel => exact ⟨k + 1, j + 64, _, by go_num, Lib.hid (by have := HJ.out; omega), HLT.out, HRR, HJ3.out, HK4.out⟩
        case measure => have := HJM.out; simp only [Go.RowKit.intOf]; omega
      · clear hy HR
        gi_wp2
        refine bodyPost_ret (results_none rfl _ _ _) rfl ?_
        exact ⟨⟨_, rfl⟩, .inr ⟨_, trivial, hJx3⟩⟩
    · obtain rfl : k = q := by omega
      have hjm : ¬ (j : Int) < (m : Int) := by have := HJ.out; have := HM.out; unfold nbT at this; omega
      clear hlt
      gi_wp2
      go_end0
      exact ⟨⟨_, rfl⟩, .inl ⟨pre, HPRE.out, hJs⟩⟩
end Go.Proofs.YteennnhinfnahaaDoor
namespace Go.Proofs.YteennnhinfnahaaDoor
open Go Go.RowKit Go.Shelf Go.Lib
set_option linter.unusedVariables false
set_option linter.unusedSimpArgs false
attribute [local go_sem] Oper.semAt_some

theorem packT_ok {w : World} {v : Value} {cs : List Int} (hv : Rows 1 EInt w v cs) (hlen : cs.length ≤ maxLen) (hz : chkB cs = 0) {P : List UInt8} (hp : packB cs = P) :
    Calls Tryd.prog 24 #[v] w fun e w' => ∃ v', e = .returned (.tuple #[v', .int .i64 0]) ∧ w'.ownsRow w.heap.size 5 1 v' P.length (Lib.byteCells P) ∧ Below w.heap.size w w' := by
  refine (packB_any hv hlen).mono ?_
  rintro e w' (⟨h, _⟩ | ⟨_, v', rfl, h1, h2⟩)
  · exact absurd hz h
  · rw [hp] at h1
    exact ⟨v', rfl, h1, h2⟩
/-- A part of the numbers. -/
theorem rowsT_part {w : World} {A : Option Addr} {b off n cap : Nat} {ns : List Nat} (h : Rows 1 EInt w (.slice A n cap) (castN' ns)) (hA : A = some ⟨b, off, none⟩) (i : Nat) (hi : 64 * i ≤ n) :
    Rows 1 EInt w (.slice (some ⟨b, off + 64 * i, none⟩) (min 64 (n - 64 * i)) (min 64 (n - 64 * i))) (castN' (blkT ns i)) := by
  have hl := h.len.1
  rw [castN'_len] at hl
  have e1 : 64 * i + min 64 (n - 64 * i) - 64 * i = min 64 (n - 64 * i) := by omega
  have h1 := h.part (lo := 64 * i) (hi := 64 * i + min 64 (n - 64 * i)) (c' := min 64 (n - 64 * i)) (by omega) (by rw [castN'_len]; omega) (by omega) (some ⟨b, off + 64 * i, none⟩) (fun _ b' off' e => by
    rw [hA] at e
    cases e
    rw [Nat.mul_one])
  rw [e1] at h1
  have e2 : ((castN' ns).take (64 * i + min 64 (n - 64 * i))).drop (64 * i) = castN' (blkT ns i) := by
    unfold castN' blkT
    rw [List.drop_take, e1, ← List.map_drop, ← List.map_take]
    congr 1
    rw [List.take_eq_take_min (i := 64), List.length_drop, ← hl]
  rw [e2] at h1
  exact h1
theorem below_others {W W' : World} (h : Below W.heap.size W W') : KeepsOthers W W' := ⟨h.size, fun k _ hk _ => (h.block k (Array.getElem?_eq_some_iff.1 hk).1).trans hk⟩
theorem push_others {W w1 : World} {base size k : Nat} {e : TypeId} {vb : Value} {xs : List Value} {tmp : Obj} (h2 : W.ownsRow base e size vb k xs) (hg : (W.alloc tmp).grownBy w1 vb.ownBlock) (p : Addr) (v : Value) : KeepsOthers W (w1.setCell p v) := by
  refine ((KeepsOthers.alloc W tmp).trans (KeepsOthers.of_grownBy hg fun j o ej hj => ?_)).trans (KeepsOthers.setCell _ _ _)
  obtain ⟨cur, hc⟩ := own_type (h2.alloc tmp) ej
  rw [hc] at hj
  cases hj
  rfl
def pkL (f : Nat → Nat × List UInt8) {q : Nat} (pre : List (Ix q)) : List (Nat × List UInt8) := pre.map fun x => f x.1
theorem pkL_all (f : Nat → Nat × List UInt8) {q : Nat} {pre : List (Ix q)} (h : pre.map (·.1) = List.range q) : pkL f pre = (List.range q).map f := by
  unfold pkL
  rw [← h, List.map_map]
  rfl
/-- Between two blocks. -/
def PkI (w : World) (N Bs D : Nat) (cs : Array Value) (t : TypeId) (sz kd : Nat) (vl : Value) (f : Nat → Nat × List UInt8) {q : Nat} (pre : List (Ix q)) (W : World) : Prop :=
  ((SbAt Bs N sz kd vl (pkL f pre) W ∧ (W.heap[N + 1]? = some (.cells #[.pointer (some ⟨N, 0, none⟩)] 23 (0, 0)) ∧ W.heap[D]? = some (.cells cs t (0, 0)))) ∧ Bs ≤ W.heap.size) ∧ Below N w W
theorem block_own {β : Type} (g : Nat) (cs : Array Value) (t : TypeId) : Own (fun (_ : β) W => W.heap[g]? = some (.cells cs t (0, 0))) := by
  intro s X Y row h hg hrow
  refine (hg.block g (Array.getElem?_eq_some_iff.1 h).1 fun e => ?_).trans h
  obtain ⟨o, ho, hc⟩ := hrow g e.symm
  rw [h] at ho; cases ho; cases hc
theorem own_and {β : Type} {I J : β → World → Prop} (h : Own I) (k : Own J) : Own (fun s W => I s W ∧ J s W) := fun s X Y row hs hg hr => ⟨h s X Y row hs.1 hg hr, k s X Y row hs.2 hg hr⟩
theorem sizeT_own {β : Type} (B m : Nat) : OwnFrom B (fun (_ : β) W => m ≤ W.heap.size) := fun _ _ _ _ hs hg _ => Nat.le_trans hs hg.size
theorem pkI_own (w : World) (N Bs D : Nat) (cs : Array Value) (t : TypeId) (sz kd : Nat) (vl : Value) (f : Nat → Nat × List UInt8) {q : Nat} (B : Nat) (hN : N ≤ w.heap.size) (hB : N ≤ B) : OwnFrom B (PkI w N Bs D cs t sz kd vl f (q := q)) :=
  OwnFrom.and (OwnFrom.and (Own.from (own_and (sbAt_own _ _ _ _ _ (fun pre => pkL f pre)) (own_and (block_own _ _ _) (block_own _ _ _))) _) (sizeT_own _ _)) (ownFrom_below hN hB)
/-- What pack answers. -/
def StrV (w : World) (S : Stm) (e : Ending) (w' : World) : Prop := ∃ g, e = .returned (.pointer (some ⟨g, 0, none⟩)) ∧ SAt w' g S ∧ Below w.heap.size w w'

set_option maxRecDepth 100000 in
set_option maxHeartbeats 8000000 in
theorem packS_any {w : World} {v : Value} {ns : List Nat} (hv : Rows 1 EInt w v (castN' ns)) (hok : okT ns) : Calls Tryd.prog 18 #[v] w (StrV w (pkS ns)) := by
  have HV := Lib.hid (fun W (h : Below w.heap.size w W) => hv.below stays_int h)
  obtain ⟨A, cap, rfl, hc⟩ := hv.form
  obtain ⟨n, hn⟩ : ∃ n, ns.length = n := ⟨_, rfl⟩
  obtain ⟨b, off, hA⟩ : ∃ b off, 0 < n → A = some ⟨b, off, none⟩ := by
    rcases Nat.eq_zero_or_pos n with h0 | h0
    · exact ⟨0, 0, fun h => by omega⟩
    · obtain ⟨b, off, hA, -, -⟩ := at_int hv (by rw [castN'_len, hn]; exact h0)
      exact ⟨b, off, fun _ => hA⟩
  rw [castN'_len, hn] at hc HV ⊢
  have hn4 : n ≤ 4096 := by rw [← hn]; exact hok.1
  have HN := Lib.hid hn
  have HOK := Lib.hid hok
  have HA := Lib.hid hA
  obtain ⟨q, hq⟩ : ∃ q, nbT n = q := ⟨_, rfl⟩
  have hq64 : q ≤ 64 := by rw [← hq]; exact nbT_le hn4
  have HQ := Lib.hid hq
  obtain ⟨N0, hN0⟩ : ∃ N, w.heap.size = N := ⟨_, rfl⟩
  have HN0 := Lib.hid hN0
  rw [hN0] at HV
  have HPS := Lib.hid (show pkS ns = ⟨n, 0, [], (List.range q).map (pkB ns)⟩ by unfold pkS; rw [hn, hq])
  clear hv hn hok hN0 hA
  refine (callsIn_wide (n := 6)).1 ?_
  refine callsIn_of_wp_marks Tryd.func18 rfl trivial ?_ rfl
  simp only [Tryd.ntmps18, List.size_toArray, List.length_cons, List.length_nil, Nat.reduceAdd, Nat.reduceSub, Array.replicate_succ, Array.replicate_zero, List.push_toArray, List.append_toArray, List.nil_append, List.cons_append]
  gi_wp2
  refine ⟨trivial, (callsIn_wide.2 (chunkT_fn A n cap _)).mono ?_⟩
  rintro e w' ⟨rfl, rfl⟩
  simp only [World.size_alloc]
  rw [HN0.out]
  rw [show N0 + 1 + 1 = N0 + 2 by omega]
  obtain ⟨W0, hW0⟩ : ∃ W0, (((w.alloc (.cells #[.int .i64 (n : Nat), .int .i64 0, .slice none 0 0, .slice none 0 0] 43)).alloc (.cells #[.pointer (some ⟨N0, 0, none⟩)] 23)).alloc (.cells #[.slice A n cap] 22)).alloc (.cells #[.int .i64 64] 3) = W0 := ⟨_, rfl⟩
  have b0 : SbAt (N0 + 4) N0 n 0 (.slice none 0 0) [] W0 := by
    have h := sbAt_new (N0 + 4) w n 0 (.slice none 0 0)
    rw [HN0.out] at h
    rw [← hW0]
    exact ((h.below (below_box _ _)).below (below_box _ _)).below (below_box _ _)
  have b1 : W0.heap[N0 + 1]? = some (.cells #[.pointer (some ⟨N0, 0, none⟩)] 23 (0, 0)) := by
    have h := block_new (w.alloc (.cells #[.int .i64 (n : Nat), .int .i64 0, .slice none 0 0, .slice none 0 0] 43)) (.cells #[.pointer (some ⟨N0, 0, none⟩)] 23)
    rw [World.size_alloc, HN0.out] at h
    rw [← hW0]
    exact block_alloc _ (block_alloc _ h)
  have b2 : Boxed W0 (N0 + 2) 22 (.slice A n cap) := by
    have h := Boxed.new ((w.alloc (.cells #[.int .i64 (n : Nat), .int .i64 0, .slice none 0 0, .slice none 0 0] 43)).alloc (.cells #[.pointer (some ⟨N0, 0, none⟩)] 23)) 22 (.slice A n cap)
    rw [World.size_alloc, World.size_alloc, HN0.out] at h
    rw [← hW0]
    exact h.alloc _
  have b3 : Boxed W0 (N0 + 3) 3 (.int .i64 64) := by
    have h := Boxed.new (((w.alloc (.cells #[.int .i64 (n : Nat), .int .i64 0, .slice none 0 0, .slice none 0 0] 43)).alloc (.cells #[.pointer (some ⟨N0, 0, none⟩)] 23)).alloc (.cells #[.slice A n cap] 22)) 3 (.int .i64 64)
    rw [World.size_alloc, World.size_alloc, World.size_alloc, HN0.out] at h
    rw [← hW0]
    exact h
  have hB0 : Below N0 w W0 := by
    rw [← hW0, ← HN0.out]
    exact ((((Below.refl _ w).alloc (Nat.le_refl _) _).alloc (by simp) _).alloc (by simp; omega) _).alloc (by simp; omega) _
  have hsz : W0.heap.size = N0 + 4 := by rw [← hW0]; simp; have := HN0.out; omega
  have HSZ := Lib.hid hsz
  rw [hW0]
  clear hW0
  obtain ⟨BS, hBS⟩ : ∃ B, N0 + 4 = B := ⟨_, rfl⟩
  rw [hBS] at b0 hsz
  have HBS := Lib.hid (show N0 + 2 < BS ∧ N0 + 1 < BS ∧ N0 + 1 ≠ N0 ∧ (N0 + 2 < BS ∧ N0 + 3 < BS) from ⟨by omega, by omega, by omega, by omega, by omega⟩)
  gi_wp2
  refine wpIn_rangeFunc_ownG (n := 6) rfl (by omega) (gf := 32) (lb := #[.pointer (some ⟨N0 + 2, 0, none⟩), .pointer (some ⟨N0 + 3, 0, none⟩)]) rfl trivial (enters_of Tryd.func32 (by kernel_rfl) rfl)
    (chunkT_stops 5 (by omega) (q := q) (m := n) (cap := cap) (b := b) (off := off) (A := A) (N0 + 2) (N0 + 3) N0 HQ.out (by omega) hc HA.out (by omega) (by omega) (by omega) b2.cell b3.cell) kpC_t (kpC_b (by omega) (by omega) (by omega)) (Below.refl _ _) (fun _ => by rfl)
    (PkI w N0 BS (N0 + 1) #[.pointer (some ⟨N0, 0, none⟩)] 23 n 0 (.slice none 0 0) (pkB ns)) (fun _ _ _ => False) (pkI_own _ _ _ _ _ _ _ _ _ _ _ (by have := HN0.out; omega) (by omega)) (fun _ _ _ _ _ hs _ _ => hs)
    ⟨⟨⟨b0, b1, b1⟩, by omega⟩, hB0⟩
    (fun (x : Ix q) => { tmps := #[.slice A n cap, undef, .pointer none, .pointer (some ⟨N0 + 1, 0, none⟩), .slice (some ⟨b, off + 64 * x.1, none⟩) (min 64 (n - 64 * x.1)) (min 64 (n - 64 * x.1)), undef, undef, .slice A n cap, .int .i64 (n : Nat), .agg #[.int .i64 (n : Nat), .int .i64 0, .slice none 0 0, .slice none 0 0], .pointer (some ⟨N0, 0, none⟩), .slice A n cap, .func (.func 32) #[] #[.pointer (some ⟨N0 + 2, 0, none⟩), .pointer (some ⟨N0 + 3, 0, none⟩)], .slice (some ⟨b, off + 64 * x.1, none⟩) (min 64 (n - 64 * x.1)) (min 64 (n - 64 * x.1)), undef, undef, undef, undef, undef, undef, undef, undef, undef, undef, undef, undef, undef, undef, undef, undef, undef, undef, undef], defers := [] }) ?assign ?body ?done ?stop
  case assign =>
    intro l x W K hK
    unfold chT
    gi_wp2
    exact hK
  case body =>
    rintro l pre x W ⟨⟨⟨hsb, hpt, hdt⟩, hz⟩, hB⟩ hlt
    obtain ⟨i, hi⟩ := x
    simp only
    have hin : 64 * i < n := by have := HQ.out; unfold nbT at this; omega
    have hrow := rowsT_part (HV.out W hB) (HA.out (by omega)) i (by omega)
    have hbl := blkT_len ns i
    rw [HN.out] at hbl
    obtain ⟨E, hE⟩ : ∃ E, min 64 (n - 64 * i) = E := ⟨_, rfl⟩
    obtain ⟨of2, hof2⟩ : ∃ o, off + 64 * i = o := ⟨_, rfl⟩
    rw [hE, hof2] at hrow
    have hpk := packT_ok hrow (by rw [castN'_len, hbl]; unfold maxLen; omega) (show chkB (castN' (blkT ns i)) = 0 from chkB_blk HOK.out i) rfl
    obtain ⟨pN, hpN⟩ : ∃ p, pkB ns i = p := ⟨_, rfl⟩
    have hp2 : packB (castN' (blkT ns i)) = pN.2 := by rw [← hpN]; rfl
    have hp1 : pN.2.length = pN.1 := by rw [← hpN]; rfl
    rw [hp2] at hpk
    have HPK := Lib.hid hpk
    obtain ⟨pl, hpl⟩ : ∃ z, pN.1 = z := ⟨_, rfl⟩
    have HPN := Lib.hid (show pl = pN.1 ∧ pkB ns i = pN from ⟨hpl.symm, hpN⟩)
    rw [hp1, hpl] at HPK
    have HP1 := Lib.hid (hp1.trans hpl)
    simp only [hE, hof2]
    clear hrow hbl hE hof2 hpk hpN hp2 hp1 hpl
    gi_wp2
    refine ⟨trivial, (callsIn_wide.2 HPK.out).mono ?_⟩
    rintro e w2 ⟨v2, rfl, ho2, hb2⟩
    obtain ⟨A2, c2, rfl, -⟩ := own_form ho2
    have HB2 := Lib.hid hb2
    have HO2 := Lib.hid (show w2.ownsRow W.heap.size 5 1 (.slice A2 pl c2) pN.2.length (Lib.byteCells pN.2) by rw [HP1.out]; exact ho2)
    clear ho2 hb2 HPK
    gi_wp2
    obtain ⟨X1, hX1⟩ : ∃ X, w2.drew = X := ⟨_, rfl⟩
    have HX1 := Lib.hid hX1
    clear hX1
    have HKD : Hid (KeepsOthers W X1) := Lib.hid (by rw [← HX1.out]; exact (below_others HB2.out).trans (KeepsOthers.drew _))
    have HWX := Lib.hid (show Below N0 W X1 by rw [← HX1.out]; exact (HB2.out.mono (by have := HBS.out.1; omega)).drew)
    have HHE := Lib.hid (show ∀ m : Nat, m < BS → X1.heap[m]? = W.heap[m]? from fun m hm => by rw [← HX1.out]; exact HB2.out.block m (Nat.lt_of_lt_of_le hm hz))
    have HND := Lib.hid (show BS ≤ X1.heap.size by rw [← HX1.out]; exact Nat.le_trans hz HB2.out.size)
    have HCO := Lib.hid (show X1.ownsRow W.heap.size 5 1 (.slice A2 pl c2) pN.2.length (Lib.byteCells pN.2) by rw [← HX1.out]; exact HO2.out)
    obtain ⟨vb, us, hu1, hur, hu3, hu4⟩ : SbAt BS N0 n 0 (.slice none 0 0) (pkL (pkB ns) pre) X1 := by rw [← HX1.out]; exact hsb.below HB2.out.drew
    have HU1 := Lib.hid hu1
    have HUR := Lib.hid hur
    have HU3 := Lib.hid hu3
    have HU4 := Lib.hid hu4
    have HUL := Lib.hid (show us.length ≤ 1000000 by rw [hu3]; unfold pkL; rw [List.length_map]; omega)
    have HPT := Lib.hid hpt
    have HDT := Lib.hid hdt
    have HK0 := Lib.hid (show X1.cell? ⟨N0 + 1, 0, none⟩ = some (.pointer (some ⟨N0, 0, none⟩)) from (World.cell?_of_block (a := ⟨N0 + 1, 0, none⟩) (HHE.out (N0 + 1) (by have := HBS.out.1; omega))).trans (cell_of hpt rfl))
    have HK1 := Lib.hid (show (X1.alloc (.cells #[.int .i64 (pl : Nat), .slice A2 pl c2] 55)).cell? ⟨N0 + 1, 0, none⟩ = some (.pointer (some ⟨N0, 0, none⟩)) from ((below_box X1 _).cell (p := ⟨N0 + 1, 0, none⟩) (by have := HND.out; have := HBS.out.1; show N0 + 1 < _; omega)).trans HK0.out)
    have cB : X1.cell? ⟨N0, 3, none⟩ = some vb := cell_of hu1 rfl
    have cB1 : (X1.alloc (.cells #[.int .i64 (pl : Nat), .slice A2 pl c2] 55)).cell? ⟨N0, 3, none⟩ = some vb := ((below_box X1 _).cell (p := ⟨N0, 3, none⟩) (by have := HND.out; have := HBS.out.1; show N0 < _; omega)).trans cB
    have HZ := Lib.hid hz
    have HBW := Lib.hid hB
    have HSL := Lib.hid (show pkL (pkB ns) (pre ++ [(⟨i, hi⟩ : Ix q)]) = pkL (pkB ns) pre ++ [pN] by rw [← HPN.out.2]; unfold pkL; rw [List.map_append]; rfl)
    clear hu1 hur hu3 hu4 hpt hdt hz hB hsb
    refine wpIn_round_held (fun w' => w'.cell? ⟨N0 + 1, 0, none⟩ = some (.pointer (some ⟨N0, 0, none⟩))) (by kernel_rfl) (by kernel_rfl) (by rintro ⟨a, w, h⟩; exact h) ?_
    have hHeld : (fun w' => w'.cell? ⟨N0 + 1, 0, none⟩ = some (.pointer (some ⟨N0, 0, none⟩))) (World.drew w2) := (by rw [HX1.out]; exact HK0.out)
    rw [HX1.out] at hHeld ⊢
    refine wpAnyH_take (i := 0) (oi := ?oi1) (v := ?v1) ?hi1 (by kernel_rfl) (by kernel_rfl) (by kernel_rfl) ?hq1 ?hy1 (by assumption) ?hr1
    case hi1 => (simp only [List.getElem?_toArray, List.getElem?_cons_zero]; rfl)
    case hq1 => exact fun _ _ _ h => h
    case hy1 => exact Or.inl ⟨by rfl, by intro whSw hSw'; (try dsimp only at hSw'); (first | (go_simp; done) | (go_simp; with_reducible rfl))⟩
    try simp only [Act.put, List.setIfInBounds_toArray, List.set_cons_zero, List.set_cons_succ]
    refine wpAnyH_take (i := 1) (oi := ?oi2) (v := ?v2) ?hi2 (by kernel_rfl) (by kernel_rfl) (by kernel_rfl) ?hq2 ?hy2 (by assumption) ?hr2
    case hi2 => (simp only [List.getElem?_toArray, List.getElem?_cons_succ, List.getElem?_cons_zero]; rfl)
    case hq2 => exact fun _ _ _ h => h
    case hy2 => exact Or.inl ⟨by rfl, by intro whSw hSw'; (try dsimp only at hSw'); (first | (go_simp; done) | (go_simp; with_reducible rfl))⟩
    try simp only [Act.put, List.setIfInBounds_toArray, List.set_cons_zero, List.set_cons_succ]
    refine wpAnyH_take (i := 2) (oi := ?oi3) (v := ?v3) ?hi3 (by kernel_rfl) (by kernel_rfl) (by kernel_rfl) ?hq3 ?hy3 (by assumption) ?hr3
    case hi3 => (simp only [List.getElem?_toArray, List.getElem?_cons_succ, List.getElem?_cons_zero]; rfl)
    case hq3 => exact fun _ _ _ h => h
    case hy3 => exact Or.inl ⟨by rfl, by intro whSw hSw'; (try dsimp only at hSw'); (first | (go_simp; done) | (go_simp; with_reducible rfl))⟩
    try simp only [Act.put, List.setIfInBounds_toArray, List.set_cons_zero, List.set_cons_succ]
    refine wpAnyH_take (i := 3) (oi := ?oi4) (v := ?v4) ?hi4 (by kernel_rfl) (by kernel_rfl) (by kernel_rfl) ?hq4 ?hy4 (by assumption) ?hr4
    case hi4 => (simp only [List.getElem?_toArray, List.getElem?_cons_succ, List.getElem?_cons_zero]; rfl)
    case hq4 => exact fun _ _ _ h => h
    case hy4 => exact Or.inl ⟨by rfl, by intro whSw hSw'; (try dsimp only at hSw'); (first | (go_simp; done) | (go_simp; with_reducible rfl))⟩
    try simp only [Act.put, List.setIfInBounds_toArray, List.set_cons_zero, List.set_cons_succ]
    refine wpAnyH_take (i := 5) (oi := ?oi5) (v := ?v5) ?hi5 (by kernel_rfl) (by kernel_rfl) (by kernel_rfl) ?hq5 ?hy5 (by assumption) ?hr5
    case hi5 => (simp only [List.getElem?_toArray, List.getElem?_cons_succ, List.getElem?_cons_zero]; rfl)
    case hq5 => exact fun _ _ _ h => h
    case hy5 => exact Or.inl ⟨by rfl, by intro whSw hSw'; (try dsimp only at hSw'); (first | (go_simp; done) | (go_simp; with_reducible rfl))⟩
    try simp only [Act.put, List.setIfInBounds_toArray, List.set_cons_zero, List.set_cons_succ]
    refine wpAnyH_take (i := 6) (oi := ?oi6) (v := ?v6) ?hi6 (by kernel_rfl) (by kernel_rfl) (by kernel_rfl) ?hq6 ?hy6 (by assumption) ?hr6
    case hi6 => (simp only [List.getElem?_toArray, List.getElem?_cons_succ, List.getElem?_cons_zero]; rfl)
    case hq6 => exact fun _ _ _ h => h
    case hy6 => exact Or.inl ⟨by rfl, by intro whSw hSw'; (try dsimp only at hSw'); (first | (go_simp; done) | (go_simp; with_reducible rfl))⟩
    try simp only [Act.put, List.setIfInBounds_toArray, List.set_cons_zero, List.set_cons_succ]
    refine wpAnyH_take (i := 7) (oi := ?oi7) (v := ?v7) ?hi7 (by kernel_rfl) (by kernel_rfl) (by kernel_rfl) ?hq7 ?hy7 (by assumption) ?hr7
    case hi7 => (simp only [List.getElem?_toArray, List.getElem?_cons_succ, List.getElem?_cons_zero]; rfl)
    case hq7 => exact fun _ _ _ h => h
    case hy7 => exact Or.inl ⟨by rfl, by intro whSw hSw'; (try dsimp only at hSw'); (first | (go_simp; done) | (go_simp; with_reducible rfl))⟩
    try simp only [Act.put, List.setIfInBounds_toArray, List.set_cons_zero, List.set_cons_succ]
    refine wpAnyH_take (i := 8) (oi := ?oi8) (v := ?v8) ?hi8 (by kernel_rfl) (by kernel_rfl) (by kernel_rfl) ?hq8 ?hy8 (by assumption) ?hr8
    case hi8 => (simp only [List.getElem?_toArray, List.getElem?_cons_succ, List.getElem?_cons_zero]; rfl)
    case hq8 => exact fun _ _ _ h => h
    case hy8 => exact Or.inl ⟨by rfl, by intro whSw hSw'; (try dsimp only at hSw'); (first | (go_simp; done) | (go_simp; with_reducible rfl))⟩
    try simp only [Act.put, List.setIfInBounds_toArray, List.set_cons_zero, List.set_cons_succ]
    refine wpAnyH_ready (rs := [4, 9]) (by kernel_rfl) (by simp) ?_
    refine AllReadyH.cons (o := ?oo9) ?hi9 (fun K hK => ?hs9) ?hm9
    case hi9 => (simp only [List.getElem?_toArray, List.getElem?_cons_succ, List.getElem?_cons_zero]; rfl)
    go_simp
    refine hK.out _ _ ?_ (fun hHeld => ?_)
    · (try dsimp only); (first | (with_reducible exact HK3.out) | (with_reducible exact HK2.out) | (with_reducible exact HK1.out) | (with_reducible exact HK0.out) | go_keep | fail)
    clear hK K
    try simp only [Act.put, List.setIfInBounds_toArray, List.set_cons_zero, List.set_cons_succ]
    refine wpAnyH_ready (rs := [9]) (by kernel_rfl) (by simp) ?_
    refine AllReadyH.cons (o := ?oo10) ?hi10 (fun K hK => ?hs10) ?hm10
    case hi10 => (simp only [List.getElem?_toArray, List.getElem?_cons_succ, List.getElem?_cons_zero]; rfl)
    go_simp
    refine hK.out _ _ ?_ (fun hHeld => ?_)
    · (try dsimp only); (first | (with_reducible exact HK3.out) | (with_reducible exact HK2.out) | (with_reducible exact HK1.out) | (with_reducible exact HK0.out) | go_keep | fail)
    clear hK K
    try simp only [Act.put, List.setIfInBounds_toArray, List.set_cons_zero, List.set_cons_succ]
    refine wpAnyH_ready (rs := [10]) (by kernel_rfl) (by simp) ?_
    refine AllReadyH.cons (o := ?oo11) ?hi11 (fun K hK => ?hs11) ?hm11
    case hi11 => (simp only [List.getElem?_toArray, List.getElem?_cons_succ, List.getElem?_cons_zero]; rfl)
    refine step_pushPc rfl (.tmp 23) (.tmp 28) rfl BS _ us pl (.slice A2 pl c2) rfl rfl HUR.out HUL.out HND.out rfl ?_
    intro v3 w3 HO3 HG3
    obtain ⟨g', cap', rfl⟩ := ownsRow_succ (by have h := HO3.out; rw [List.length_append, List.length_singleton] at h; exact h)
    have HPU := Lib.hid (SbAt.push (p := pN) (u := (pl, .slice A2 pl c2)) HU1.out HUR.out HU3.out HU4.out HPN.out.1 HCO.out HO3.out HG3.out)
    have hc1 : w3.cell? ⟨N0, 3, none⟩ = some vb := cell_of HPU.out.1 rfl
    have hf1 : w3.frozen? ⟨N0, 3, none⟩ = false := frozen_of HPU.out.1
    have HB3 := Lib.hid (show Below BS X1 w3 from below_of_grown (grown_trans (World.grownBy_alloc X1 _ _) HG3.out) HND.out (fun k hk => (own_low HUR.out k hk).1))
    have HK2 := Lib.hid (show w3.cell? ⟨N0 + 1, 0, none⟩ = some (.pointer (some ⟨N0, 0, none⟩)) from (HB3.out.cell (p := ⟨N0 + 1, 0, none⟩) (by have := HBS.out.1; show N0 + 1 < BS; omega)).trans HK0.out)
    have HK3 := Lib.hid (show (w3.setCell ⟨N0, 3, none⟩ (.slice (some ⟨g', 0, none⟩) (us.length + 1) cap')).cell? ⟨N0 + 1, 0, none⟩ = some (.pointer (some ⟨N0, 0, none⟩)) from (World.cell?_of_block (a := ⟨N0 + 1, 0, none⟩) (Below.heap_setCell w3 ⟨N0, 3, none⟩ _ (N0 + 1) (by show N0 + 1 ≠ N0; omega))).trans HK2.out)
    refine hK.out _ _ ?_ (fun hHeld => ?_)
    · (try dsimp only); (first | (with_reducible exact HK3.out) | (with_reducible exact HK2.out) | (with_reducible exact HK1.out) | (with_reducible exact HK0.out) | go_keep | fail)
    clear hK K
    try simp only [Act.put, List.setIfInBounds_toArray, List.set_cons_zero, List.set_cons_succ]
    refine wpAnyH_take (i := 11) (oi := ?oi12) (v := ?v12) ?hi12 (by kernel_rfl) (by kernel_rfl) (by kernel_rfl) ?hq12 ?hy12 (by assumption) ?hr12
    case hi12 => (simp only [List.getElem?_toArray, List.getElem?_cons_succ, List.getElem?_cons_zero]; rfl)
    case hq12 => exact fun _ _ _ h => h
    case hy12 => exact Or.inl ⟨by rfl, by intro whSw hSw'; (try dsimp only at hSw'); (first | (go_simp; done) | (go_simp; with_reducible rfl))⟩
    try simp only [Act.put, List.setIfInBounds_toArray, List.set_cons_zero, List.set_cons_succ]
    refine wpAnyH_take (i := 12) (oi := ?oi13) (v := ?v13) ?hi13 (by kernel_rfl) (by kernel_rfl) (by kernel_rfl) ?hq13 ?hy13 (by assumption) ?hr13
    case hi13 => (simp only [List.getElem?_toArray, List.getElem?_cons_succ, List.getElem?_cons_zero]; rfl)
    case hq13 => exact fun _ _ _ h => h
    case hy13 => exact Or.inl ⟨by rfl, by intro whSw hSw'; (try dsimp only at hSw'); (first | (go_simp; done) | (go_simp; with_reducible rfl))⟩
    try simp only [Act.put, List.setIfInBounds_toArray, List.set_cons_zero, List.set_cons_succ]
    refine wpAnyH_ready (rs := [13]) (by kernel_rfl) (by simp) ?_
    refine AllReadyH.cons (o := ?oo14) ?hi14 (fun K hK => ?hs14) ?hm14
    case hi14 => (simp only [List.getElem?_toArray, List.getElem?_cons_succ, List.getElem?_cons_zero]; rfl)
    go_simp
    refine hK.out _ _ ?_ (fun hHeld => ?_)
    · (try dsimp only); (first | (with_reducible exact HK3.out) | (with_reducible exact HK2.out) | (with_reducible exact HK1.out) | (with_reducible exact HK0.out) | go_keep | fail)
    clear hK K
    try simp only [Act.put, List.setIfInBounds_toArray, List.set_cons_zero, List.set_cons_succ]
    refine wpAnyH_done (by kernel_rfl) ?_ _
    rotate_left
    exact AllReadyH.nil
    exact AllReadyH.nil
    exact AllReadyH.nil
    refine AllReadyH.cons (o := ?oo15) ?hi15 (fun K hK => ?hs15) ?hm15
    case hi15 => (simp only [List.getElem?_toArray, List.getElem?_cons_succ, List.getElem?_cons_zero]; rfl)
    go_simp
    refine hK.out _ _ ?_ (fun hHeld => ?_)
    · (try dsimp only); (first | (with_reducible exact HK3.out) | (with_reducible exact HK2.out) | (with_reducible exact HK1.out) | (with_reducible exact HK0.out) | go_keep | fail)
    clear hK K
    try simp only [Act.put, List.setIfInBounds_toArray, List.set_cons_zero, List.set_cons_succ]
    refine wpAnyH_ready (rs := [4]) (by kernel_rfl) (by simp) ?_
    refine AllReadyH.cons (o := ?oo16) ?hi16 (fun K hK => ?hs16) ?hm16
    case hi16 => (simp only [List.getElem?_toArray, List.getElem?_cons_succ, List.getElem?_cons_zero]; rfl)
    go_simp
    refine hK.out _ _ ?_ (fun hHeld => ?_)
    · (try dsimp only); (first | (with_reducible exact HK3.out) | (with_reducible exact HK2.out) | (with_reducible exact HK1.out) | (with_reducible exact HK0.out) | go_keep | fail)
    clear hK K
    try simp only [Act.put, List.setIfInBounds_toArray, List.set_cons_zero, List.set_cons_succ]
    refine wpAnyH_ready (rs := [10]) (by kernel_rfl) (by simp) ?_
    refine AllReadyH.cons (o := ?oo17) ?hi17 (fun K hK => ?hs17) ?hm17
    case hi17 => (simp only [List.getElem?_toArray, List.getElem?_cons_succ, List.getElem?_cons_zero]; rfl)
    refine step_pushPc rfl (.tmp 23) (.tmp 28) rfl BS _ us pl (.slice A2 pl c2) rfl rfl HUR.out HUL.out HND.out rfl ?_
    intro v3 w3 HO3 HG3
    obtain ⟨g', cap', rfl⟩ := ownsRow_succ (by have h := HO3.out; rw [List.length_append, List.length_singleton] at h; exact h)
    have HPU := Lib.hid (SbAt.push (p := pN) (u := (pl, .slice A2 pl c2)) HU1.out HUR.out HU3.out HU4.out HPN.out.1 HCO.out HO3.out HG3.out)
    have hc1 : w3.cell? ⟨N0, 3, none⟩ = some vb := cell_of HPU.out.1 rfl
    have hf1 : w3.frozen? ⟨N0, 3, none⟩ = false := frozen_of HPU.out.1
    have HB3 := Lib.hid (show Below BS X1 w3 from below_of_grown (grown_trans (World.grownBy_alloc X1 _ _) HG3.out) HND.out (fun k hk => (own_low HUR.out k hk).1))
    have HK2 := Lib.hid (show w3.cell? ⟨N0 + 1, 0, none⟩ = some (.pointer (some ⟨N0, 0, none⟩)) from (HB3.out.cell (p := ⟨N0 + 1, 0, none⟩) (by have := HBS.out.1; show N0 + 1 < BS; omega)).trans HK0.out)
    have HK3 := Lib.hid (show (w3.setCell ⟨N0, 3, none⟩ (.slice (some ⟨g', 0, none⟩) (us.length + 1) cap')).cell? ⟨N0 + 1, 0, none⟩ = some (.pointer (some ⟨N0, 0, none⟩)) from (World.cell?_of_block (a := ⟨N0 + 1, 0, none⟩) (Below.heap_setCell w3 ⟨N0, 3, none⟩ _ (N0 + 1) (by show N0 + 1 ≠ N0; omega))).trans HK2.out)
    refine hK.out _ _ ?_ (fun hHeld => ?_)
    · (try dsimp only); (first | (with_reducible exact HK3.out) | (with_reducible exact HK2.out) | (with_reducible exact HK1.out) | (with_reducible exact HK0.out) | go_keep | fail)
    clear hK K
    try simp only [Act.put, List.setIfInBounds_toArray, List.set_cons_zero, List.set_cons_succ]
    refine wpAnyH_take (i := 11) (oi := ?oi18) (v := ?v18) ?hi18 (by kernel_rfl) (by kernel_rfl) (by kernel_rfl) ?hq18 ?hy18 (by assumption) ?hr18
    case hi18 => (simp only [List.getElem?_toArray, List.getElem?_cons_succ, List.getElem?_cons_zero]; rfl)
    case hq18 => exact fun _ _ _ h => h
    case hy18 => exact Or.inl ⟨by rfl, by intro whSw hSw'; (try dsimp only at hSw'); (first | (go_simp; done) | (go_simp; with_reducible rfl))⟩
    try simp only [Act.put, List.setIfInBounds_toArray, List.set_cons_zero, List.set_cons_succ]
    refine wpAnyH_take (i := 12) (oi := ?oi19) (v := ?v19) ?hi19 (by kernel_rfl) (by kernel_rfl) (by kernel_rfl) ?hq19 ?hy19 (by assumption) ?hr19
    case hi19 => (simp only [List.getElem?_toArray, List.getElem?_cons_succ, List.getElem?_cons_zero]; rfl)
    case hq19 => exact fun _ _ _ h => h
    case hy19 => exact Or.inl ⟨by rfl, by intro whSw hSw'; (try dsimp only at hSw'); (first | (go_simp; done) | (go_simp; with_reducible rfl))⟩
    try simp only [Act.put, List.setIfInBounds_toArray, List.set_cons_zero, List.set_cons_succ]
    refine wpAnyH_ready (rs := [13]) (by kernel_rfl) (by simp) ?_
    refine AllReadyH.cons (o := ?oo20) ?hi20 (fun K hK => ?hs20) ?hm20
    case hi20 => (simp only [List.getElem?_toArray, List.getElem?_cons_succ, List.getElem?_cons_zero]; rfl)
    go_simp
    refine hK.out _ _ ?_ (fun hHeld => ?_)
    · (try dsimp only); (first | (with_reducible exact HK3.out) | (with_reducible exact HK2.out) | (with_reducible exact HK1.out) | (with_reducible exact HK0.out) | go_keep | fail)
    clear hK K
    try simp only [Act.put, List.setIfInBounds_toArray, List.set_cons_zero, List.set_cons_succ]
    refine wpAnyH_done (by kernel_rfl) ?_ _
    rotate_left
    exact AllReadyH.nil
    exact AllReadyH.nil
    exact AllReadyH.nil
    exact AllReadyH.nil
    all_goals
      gi_wp2
      have hhp : ∀ m : Nat, m < BS → m ≠ N0 → (w3.setCell ⟨N0, 3, none⟩ (.slice (some ⟨g', 0, none⟩) (us.length + 1) cap')).heap[m]? = W.heap[m]? := fun m hm hm2 => by
        rw [Below.heap_setCell w3 ⟨N0, 3, none⟩ _ m hm2]
        exact (HB3.out.block m hm).trans (HHE.out m hm)
      have hbW : Below N0 W (w3.setCell ⟨N0, 3, none⟩ (.slice (some ⟨g', 0, none⟩) (us.length + 1) cap')) := (HWX.out.trans (HB3.out.mono (by have := HBS.out.1; omega))).setCell (p := ⟨N0, 3, none⟩) (Nat.le_refl _) _
      have hdt : (w3.setCell ⟨N0, 3, none⟩ (.slice (some ⟨g', 0, none⟩) (us.length + 1) cap')).heap[(N0 + 1)]? = some (.cells #[.pointer (some ⟨N0, 0, none⟩)] 23 (0, 0)) := (hhp (N0 + 1) HBS.out.2.1 HBS.out.2.2.1).trans HDT.out
      have hpt : (w3.setCell ⟨N0, 3, none⟩ (.slice (some ⟨g', 0, none⟩) (us.length + 1) cap')).heap[N0 + 1]? = some (.cells #[.pointer (some ⟨N0, 0, none⟩)] 23 (0, 0)) := (hhp (N0 + 1) (by have := HBS.out.1; omega) (by omega)).trans HPT.out
      refine ⟨(HKD.out.trans (push_others HUR.out HG3.out _ _)).from _, ⟨hbW, hhp _ (by have := HBS.out.2.2.2; omega) (by have := HBS.out.2.2.2; omega), hhp _ (by have := HBS.out.2.2.2; omega) (by have := HBS.out.2.2.2; omega)⟩, ⟨⟨⟨?_, hpt, hdt⟩, Nat.le_trans HZ.out hbW.size⟩, HBW.out.trans hbW⟩⟩
      rw [HSL.out]
      exact HPU.out.2
  case done =>
    rintro D ys W hD hys ⟨⟨⟨hsb, hpt, hdt⟩, hz⟩, hB⟩ hK
    have cP : W.cell? ⟨N0 + 1, 0, none⟩ = some (.pointer (some ⟨N0, 0, none⟩)) := cell_of hpt rfl
    have hbe := belowK_b (w := W0) (n₀ := N0) (by omega) W D _ (.deferred none) hD hK rfl rfl
    have hsb2 : SbAt BS N0 n 0 (.slice none 0 0) ((List.range q).map (pkB ns)) (W.putObj D (.deferred none)) := by
      rw [pkL_all _ hys] at hsb
      refine hsb.keep (World.putObj_heap_other (by omega)) fun b e s k v xs h => ownsRow_putObj h (.deferred none) hK rfl
    have HE : Hid (StrV w (pkS ns) (.returned (.pointer (some ⟨N0, 0, none⟩))) (W.putObj D (.deferred none))) := Lib.hid ⟨N0, rfl, by rw [HPS.out]; exact SbAt.done (S := ⟨n, 0, [], (List.range q).map (pkB ns)⟩) hsb2 (Rows.nil _), by rw [HN0.out]; exact hB.trans hbe⟩
    have HK := Lib.hid hK
    clear hsb hsb2 hpt hdt hz hB hys hbe
    gi_wp2
    refine ⟨by simp, .inl ⟨_, _, rfl, run_takeDeferred HK.out, ?_⟩⟩
    exact ⟨_, (results_tmp (t := 2) rfl _ _ _ : _), HE.out⟩
  case stop =>
    rintro D c pre W _ _ hx _
    exact hx.elim
end Go.Proofs.YteennnhinfnahaaDoor
namespace Go.Proofs.YteennnhinfnahaaDoor
open Go Go.RowKit Go.Shelf Go.Lib
set_option linter.unusedVariables false
set_option linter.unusedSimpArgs false
attribute [local go_sem] Oper.semAt_some

def LenD (w : World) (ns : List Nat) (e : Ending) (w' : World) : Prop := ∃ D, e = .returned (.tuple #[.slice (some ⟨D, 0, none⟩) (topT ns) (topT ns), .int .i64 0]) ∧ w'.heap[D]? = some (.cells (intRow (castN' (lnT ns))) 3 (0, 0)) ∧ Below w.heap.size w w'
theorem lenT_ok {w : World} {v : Value} {ns : List Nat} (hv : Rows 1 EInt w v (cntT (topT ns) ns)) (hok : okT ns) :
    Calls Tryd.prog 25 #[v, .int .i64 15] w (LenD w ns) := by
  have ht := topT_le hok.2
  refine (lengths_own hv (by rw [cntT_len]; unfold maxLen; omega) 15 (by omega) (by omega)).mono ?_
  rintro e w' ⟨hb, ⟨h, _⟩ | ⟨h0, D, rfl, hD⟩⟩
  · exact absurd (chkH_cnt hok) h
  · refine ⟨D, by rw [cntT_len], ?_, hb⟩
    rw [cast_lnT hok]
    exact hD
theorem encT_ok {w : World} {vc vs : Value} {ns : List Nat} {i : Nat} (hv : Rows 1 EInt w vc (castN' (lnT ns))) (hs : Rows 1 EInt w vs (castN' (blkT ns i))) (hok : okT ns) :
    Calls Tryd.prog 27 #[vc, vs] w fun e w' => ∃ v b, e = .returned (.tuple #[v, .int .i64 ((cdB ns i).1 : Nat), .int .i64 0]) ∧ w'.ownsRow b 5 1 v (cdB ns i).2.length (Lib.byteCells (cdB ns i).2) ∧ Below w.heap.size w w' := by
  have ht := topT_le hok.2
  have hl := blkT_le ns i
  refine (encode_own hv (by rw [castN'_len, lnT_len]; unfold maxLen; omega) hs (by rw [castN'_len]; unfold maxLen; omega)).mono ?_
  have hz := encE_blk hok i
  rw [← cast_lnT hok] at hz
  rintro e w' ⟨hb, ⟨h, _⟩ | ⟨_, v, b, rfl, ho⟩⟩
  · exact absurd hz h
  · rw [natLs_cast, natLs_cast] at ho ⊢
    exact ⟨v, b, rfl, ho, hb⟩

set_option maxRecDepth 100000 in
set_option maxHeartbeats 8000000 in
theorem codeS_any {w : World} {v : Value} {ns : List Nat} (hv : Rows 1 EInt w v (castN' ns)) (hok : okT ns) : Calls Tryd.prog 19 #[v] w (StrV w (cdS ns)) := by
  have HV := Lib.hid (fun W (h : Below w.heap.size w W) => hv.below stays_int h)
  obtain ⟨A, cap, rfl, hc⟩ := hv.form
  obtain ⟨n, hn⟩ : ∃ n, ns.length = n := ⟨_, rfl⟩
  obtain ⟨b, off, hA⟩ : ∃ b off, 0 < n → A = some ⟨b, off, none⟩ := by
    rcases Nat.eq_zero_or_pos n with h0 | h0
    · exact ⟨0, 0, fun h => by omega⟩
    · obtain ⟨b, off, hA, -, -⟩ := at_int hv (by rw [castN'_len, hn]; exact h0)
      exact ⟨b, off, fun _ => hA⟩
  rw [castN'_len, hn] at hc HV ⊢
  have hn4 : n ≤ 4096 := by rw [← hn]; exact hok.1
  have HN := Lib.hid hn
  have HOK := Lib.hid hok
  have HA := Lib.hid hA
  obtain ⟨q, hq⟩ : ∃ q, nbT n = q := ⟨_, rfl⟩
  have hq64 : q ≤ 64 := by rw [← hq]; exact nbT_le hn4
  have HQ := Lib.hid hq
  obtain ⟨N0, hN0⟩ : ∃ N, w.heap.size = N := ⟨_, rfl⟩
  have HN0 := Lib.hid hN0
  rw [hN0] at HV
  have HPS := Lib.hid (show cdS ns = ⟨n, 1, lnT ns, (List.range q).map (cdB ns)⟩ by unfold cdS; rw [hn, hq])
  clear hv hn hok hN0 hA
  refine (callsIn_wide (n := 6)).1 ?_
  refine callsIn_of_wp_marks Tryd.func19 rfl trivial ?_ rfl
  simp only [Tryd.ntmps19, List.size_toArray, List.length_cons, List.length_nil, Nat.reduceAdd, Nat.reduceSub, Array.replicate_succ, Array.replicate_zero, List.push_toArray, List.append_toArray, List.nil_append, List.cons_append]
  gi_wp2
  rw [HN0.out]
  obtain ⟨X1, hX1⟩ : ∃ X, (w.alloc (.cells #[.int .i64 (n : Nat), .int .i64 1, .slice none 0 0, .slice none 0 0] 43)).alloc (.cells #[.pointer (some ⟨N0, 0, none⟩)] 23) = X := ⟨_, rfl⟩
  have hg1 : X1.heap[N0]? = some (.cells #[.int .i64 (n : Nat), .int .i64 1, .slice none 0 0, .slice none 0 0] 43 (0, 0)) := by
    have h := block_new w (.cells #[.int .i64 (n : Nat), .int .i64 1, .slice none 0 0, .slice none 0 0] 43)
    rw [HN0.out] at h
    rw [← hX1]
    exact block_alloc _ h
  have hp1 : X1.heap[N0 + 1]? = some (.cells #[.pointer (some ⟨N0, 0, none⟩)] 23 (0, 0)) := by
    have h := block_new (w.alloc (.cells #[.int .i64 (n : Nat), .int .i64 1, .slice none 0 0, .slice none 0 0] 43)) (.cells #[.pointer (some ⟨N0, 0, none⟩)] 23)
    rw [World.size_alloc, HN0.out] at h
    rw [← hX1]
    exact h
  have hB1 : Below N0 w X1 := by
    rw [← hX1, ← HN0.out]
    exact ((Below.refl _ w).alloc (Nat.le_refl _) _).alloc (by simp) _
  have hs1 : X1.heap.size = N0 + 2 := by rw [← hX1]; simp; have := HN0.out; omega
  have HG1 := Lib.hid hg1
  have HP1 := Lib.hid hp1
  have HB1 := Lib.hid hB1
  have HS1 := Lib.hid hs1
  have HCT := Lib.hid (countsT_any (w := X1.drew) (HV.out X1.drew hB1.drew) HOK.out)
  have cP : X1.cell? ⟨N0 + 1, 0, none⟩ = some (.pointer (some ⟨N0, 0, none⟩)) := cell_of hp1 rfl
  rw [hX1]
  clear hX1 hg1 hp1 hB1 hs1
  refine wpIn_wide.2 ?_
  go_region_held3 (fun w' => w'.cell? ⟨N0 + 1, 0, none⟩ = some (.pointer (some ⟨N0, 0, none⟩)))
    (first
      | go_keep
      | (with_reducible exact HC6.out)
      | (with_reducible exact HC4.out)
      | (with_reducible exact HC3.out)
      | fail)
    ((first
      | (go_at_call 25; (with_reducible refine (lenT_ok HR3.out HOK.out).mono ?_); rintro e w4 ⟨D, rfl, hD4, hb4⟩; have HB4 := Lib.hid (show Below (N0 + 2) X1 w4 from HB3.out.trans (hb4.mono (by rw [← HS1.out]; exact HB3.out.size))); have HD4 := Lib.hid hD4; have HG4 := Lib.hid ((HB4.out.block N0 (by omega)).trans HG1.out); have HC4 := Lib.hid (show w4.cell? ⟨N0 + 1, 0, none⟩ = some (.pointer (some ⟨N0, 0, none⟩)) from (HB4.out.cell (p := ⟨N0 + 1, 0, none⟩) (by show N0 + 1 < N0 + 2; omega)).trans cP); have HC6 := Lib.hid (show (w4.setCell ⟨N0, 2, none⟩ (.slice (some ⟨D, 0, none⟩) (topT ns) (topT ns))).cell? ⟨N0 + 1, 0, none⟩ = some (.pointer (some ⟨N0, 0, none⟩)) from (World.cell?_of_block (a := ⟨N0 + 1, 0, none⟩) (Below.heap_setCell w4 ⟨N0, 2, none⟩ _ (N0 + 1) (by show N0 + 1 ≠ N0; omega))).trans HC4.out); have hc2 : w4.cell? ⟨N0, 2, none⟩ = some (.slice none 0 0) := cell_of HG4.out rfl; have hf2 : w4.frozen? ⟨N0, 2, none⟩ = false := frozen_of HG4.out; clear hD4 hb4)
      | (go_at_call 26; (with_reducible refine HCT.out.mono ?_); rintro e w3 ⟨v3, rfl, hr3, hb3⟩; have HR3 := Lib.hid hr3; have HB3 := Lib.hid (show Below (N0 + 2) X1 w3 by have h := (Below.refl (N0 + 2) X1).drew.trans (hb3.mono (Nat.le_of_eq HS1.out.symm)); exact h); have HC3 := Lib.hid (show w3.cell? ⟨N0 + 1, 0, none⟩ = some (.pointer (some ⟨N0, 0, none⟩)) from (HB3.out.cell (p := ⟨N0 + 1, 0, none⟩) (by show N0 + 1 < N0 + 2; omega)).trans cP); clear hr3 hb3)
      | fail))
  obtain ⟨T, hT⟩ : ∃ T, topT ns = T := ⟨_, rfl⟩
  have HT := Lib.hid hT
  simp only [hT]
  obtain ⟨X2, hX2⟩ : ∃ X, w4.setCell ⟨N0, 2, none⟩ (.slice (some ⟨D, 0, none⟩) T T) = X := ⟨_, rfl⟩
  have hDN : D ≠ N0 := fun e => by
    have h := HD4.out
    rw [e, HG4.out] at h
    injection h with h
    injection h with _ h _
    exact absurd h (by decide)
  have hD2 : X2.heap[D]? = some (.cells (intRow (castN' (lnT ns))) 3 (0, 0)) := by
    rw [← hX2]
    exact (Below.heap_setCell w4 ⟨N0, 2, none⟩ _ D hDN).trans HD4.out
  have hg2 : X2.heap[N0]? = some (.cells #[.int .i64 (n : Nat), .int .i64 1, .slice (some ⟨D, 0, none⟩) T T, .slice none 0 0] 43 (0, 0)) := by
    rw [← hX2, set_of HG4.out]
    rfl
  have hp2 : X2.heap[N0 + 1]? = some (.cells #[.pointer (some ⟨N0, 0, none⟩)] 23 (0, 0)) := by
    rw [← hX2]
    exact (Below.heap_setCell w4 ⟨N0, 2, none⟩ _ (N0 + 1) (by show N0 + 1 ≠ N0; omega)).trans ((HB4.out.block (N0 + 1) (by omega)).trans HP1.out)
  have hB2 : Below N0 w X2 := by
    rw [← hX2]
    exact (HB1.out.trans (HB4.out.mono (by omega))).setCell (p := ⟨N0, 2, none⟩) (Nat.le_refl _) _
  have hM : N0 + 2 ≤ X2.heap.size := by
    have h := HB4.out.size
    rw [HS1.out] at h
    rw [← hX2]
    simpa [World.setCell] using h
  have hDl : D < X2.heap.size := (Array.getElem?_eq_some_iff.1 hD2).1
  rw [hX2]
  clear hX2 HD4 HG4 HC4 HC6 HC3 HB3 HB4 HR3 hc2 hf2 HG1 HP1 HB1 HS1 HCT cP
  obtain ⟨M, hMM⟩ : ∃ M, X2.heap.size = M := ⟨_, rfl⟩
  have HMM := Lib.hid hMM
  rw [hMM] at hM hDl
  clear hMM hT
  gi_wp2
  refine ⟨trivial, (callsIn_wide.2 (chunkT_fn A n cap _)).mono ?_⟩
  rintro e w' ⟨rfl, rfl⟩
  rw [HMM.out]
  obtain ⟨W0, hW0⟩ : ∃ W0, (X2.alloc (.cells #[.slice A n cap] 22)).alloc (.cells #[.int .i64 64] 3) = W0 := ⟨_, rfl⟩
  have b0 : SbAt (M + 2) N0 n 1 (.slice (some ⟨D, 0, none⟩) T T) [] W0 := by
    have h : SbAt (M + 2) N0 n 1 (.slice (some ⟨D, 0, none⟩) T T) [] X2 := ⟨.slice none 0 0, [], hg2, World.ownsRow_nil _ _ _ _, rfl, fun j u hu => by simp at hu⟩
    rw [← hW0]
    exact (h.below (below_box _ _)).below (below_box _ _)
  have b1 : W0.heap[N0 + 1]? = some (.cells #[.pointer (some ⟨N0, 0, none⟩)] 23 (0, 0)) := by rw [← hW0]; exact block_alloc _ (block_alloc _ hp2)
  have b4 : W0.heap[D]? = some (.cells (intRow (castN' (lnT ns))) 3 (0, 0)) := by rw [← hW0]; exact block_alloc _ (block_alloc _ hD2)
  have b2 : Boxed W0 M 22 (.slice A n cap) := by
    have h := Boxed.new X2 22 (.slice A n cap)
    rw [HMM.out] at h
    rw [← hW0]
    exact h.alloc _
  have b3 : Boxed W0 (M + 1) 3 (.int .i64 64) := by
    have h := Boxed.new (X2.alloc (.cells #[.slice A n cap] 22)) 3 (.int .i64 64)
    rw [World.size_alloc, HMM.out] at h
    rw [← hW0]
    exact h
  have hB0 : Below N0 w W0 := by
    rw [← hW0]
    exact (hB2.alloc (by rw [HMM.out]; omega) _).alloc (by rw [World.size_alloc, HMM.out]; omega) _
  have hsz : W0.heap.size = M + 2 := by rw [← hW0]; simp; have := HMM.out; omega
  have HSZ := Lib.hid hsz
  simp only [World.size_alloc, HMM.out]
  rw [hW0]
  have HTL := Lib.hid (show (castN' (lnT ns)).length = T by rw [castN'_len, lnT_len]; exact HT.out)
  clear hW0 hD2 hg2 hp2 hB2
  obtain ⟨BS, hBS⟩ : ∃ B, M + 2 = B := ⟨_, rfl⟩
  rw [hBS] at b0 hsz
  have HBS := Lib.hid (show N0 + 2 < BS ∧ D < BS ∧ D ≠ N0 ∧ (M < BS ∧ M + 1 < BS ∧ N0 < M) from ⟨by omega, by omega, hDN, by omega, by omega, by omega⟩)
  gi_wp2
  refine wpIn_rangeFunc_ownG (n := 6) rfl (by omega) (gf := 32) (lb := #[.pointer (some ⟨M, 0, none⟩), .pointer (some ⟨M + 1, 0, none⟩)]) rfl trivial (enters_of Tryd.func32 (by kernel_rfl) rfl)
    (chunkT_stops 5 (by omega) (q := q) (m := n) (cap := cap) (b := b) (off := off) (A := A) M (M + 1) N0 HQ.out (by omega) hc HA.out (by omega) (by omega) (by omega) b2.cell b3.cell) kpC_t (kpC_b (by omega) (by omega) (by omega)) (Below.refl _ _) (fun _ => by rfl)
    (PkI w N0 BS D (intRow (castN' (lnT ns))) 3 n 1 (.slice (some ⟨D, 0, none⟩) T T) (cdB ns)) (fun _ _ _ => False) (pkI_own _ _ _ _ _ _ _ _ _ _ _ (by have := HN0.out; omega) (by omega)) (fun _ _ _ _ _ hs _ _ => hs)
    ⟨⟨⟨b0, b1, b4⟩, by omega⟩, hB0⟩
    (fun (x : Ix q) => { tmps := #[.slice A n cap, undef, .pointer none, .pointer (some ⟨N0 + 1, 0, none⟩), .slice (some ⟨b, off + 64 * x.1, none⟩) (min 64 (n - 64 * x.1)) (min 64 (n - 64 * x.1)), undef, undef, undef, .slice A n cap, .int .i64 (n : Nat), .agg #[.int .i64 (n : Nat), .int .i64 1, .slice none 0 0, .slice none 0 0], .pointer (some ⟨N0, 0, none⟩), .tuple #[.slice (some ⟨D, 0, none⟩) T T, .int .i64 0], .pointer (some ⟨N0, 0, none⟩), .slice A n cap, v3, .tuple #[.slice (some ⟨D, 0, none⟩) T T, .int .i64 0], .slice (some ⟨D, 0, none⟩) T T, .int .i64 0, .pointer (some ⟨N0, 0, none⟩), .pointer (some ⟨N0, 2, none⟩), .slice A n cap, .func (.func 32) #[] #[.pointer (some ⟨M, 0, none⟩), .pointer (some ⟨M + 1, 0, none⟩)], .slice (some ⟨b, off + 64 * x.1, none⟩) (min 64 (n - 64 * x.1)) (min 64 (n - 64 * x.1)), undef, undef, undef, undef, undef, undef, undef, undef, undef, undef, undef, undef, undef, undef, undef, undef, undef, undef, undef, undef, undef, undef, undef], defers := [] }) ?assign ?body ?done ?stop
  case assign =>
    intro l x W K hK
    unfold chT
    gi_wp2
    exact hK
  case body =>
    rintro l pre x W ⟨⟨⟨hsb, hpt, hdt⟩, hz⟩, hB⟩ hlt
    obtain ⟨i, hi⟩ := x
    simp only
    have hin : 64 * i < n := by have := HQ.out; unfold nbT at this; omega
    have hrow := rowsT_part (HV.out W hB) (HA.out (by omega)) i (by omega)
    have hbl := blkT_len ns i
    rw [HN.out] at hbl
    obtain ⟨E, hE⟩ : ∃ E, min 64 (n - 64 * i) = E := ⟨_, rfl⟩
    obtain ⟨of2, hof2⟩ : ∃ o, off + 64 * i = o := ⟨_, rfl⟩
    rw [hE, hof2] at hrow
    have hvc : Rows 1 EInt W (.slice (some ⟨D, 0, none⟩) T T) (castN' (lnT ns)) := rows_int HTL.out (Nat.le_refl _) hdt
    have hpk := encT_ok hvc hrow HOK.out
    obtain ⟨pN, hpN⟩ : ∃ p, cdB ns i = p := ⟨_, rfl⟩
    rw [hpN] at hpk
    obtain ⟨pl, hpl⟩ : ∃ z, pN.1 = z := ⟨_, rfl⟩
    obtain ⟨cn, hcn⟩ : ∃ z, pN.2.length = z := ⟨_, rfl⟩
    rw [hpl, hcn] at hpk
    have HPK := Lib.hid hpk
    have HPN := Lib.hid (show pl = pN.1 ∧ cdB ns i = pN from ⟨hpl.symm, hpN⟩)
    have HP1 := Lib.hid hcn
    have e0 : W.cell? ⟨N0 + 1, 0, none⟩ = some (.pointer (some ⟨N0, 0, none⟩)) := cell_of hpt rfl
    have e1 : W.cell? ⟨N0, 2, none⟩ = some (.slice (some ⟨D, 0, none⟩) T T) := by
      obtain ⟨vb, us, h1, -⟩ := hsb
      exact cell_of h1 rfl
    simp only [hE, hof2]
    clear hrow hbl hE hof2 hpk hpN hpl hcn hvc
    gi_wp2
    refine ⟨trivial, (callsIn_wide.2 HPK.out).mono ?_⟩
    rintro e w2 ⟨v2, b2, rfl, ho2, hb2⟩
    obtain ⟨A2, c2, rfl, -⟩ := own_form ho2
    have HB2 := Lib.hid hb2
    have HO2 := Lib.hid (show w2.ownsRow b2 5 1 (.slice A2 cn c2) pN.2.length (Lib.byteCells pN.2) by rw [HP1.out]; exact ho2)
    clear ho2 hb2 HPK e0 e1
    gi_wp2
    obtain ⟨X1, hX1⟩ : ∃ X, w2.drew = X := ⟨_, rfl⟩
    have HX1 := Lib.hid hX1
    clear hX1
    have HKD : Hid (KeepsOthers W X1) := Lib.hid (by rw [← HX1.out]; exact (below_others HB2.out).trans (KeepsOthers.drew _))
    have HWX := Lib.hid (show Below N0 W X1 by rw [← HX1.out]; exact (HB2.out.mono (by have := HBS.out.1; omega)).drew)
    have HHE := Lib.hid (show ∀ m : Nat, m < BS → X1.heap[m]? = W.heap[m]? from fun m hm => by rw [← HX1.out]; exact HB2.out.block m (Nat.lt_of_lt_of_le hm hz))
    have HND := Lib.hid (show BS ≤ X1.heap.size by rw [← HX1.out]; exact Nat.le_trans hz HB2.out.size)
    have HCO := Lib.hid (show X1.ownsRow b2 5 1 (.slice A2 cn c2) pN.2.length (Lib.byteCells pN.2) by rw [← HX1.out]; exact HO2.out)
    obtain ⟨vb, us, hu1, hur, hu3, hu4⟩ : SbAt BS N0 n 1 (.slice (some ⟨D, 0, none⟩) T T) (pkL (cdB ns) pre) X1 := by rw [← HX1.out]; exact hsb.below HB2.out.drew
    have HU1 := Lib.hid hu1
    have HUR := Lib.hid hur
    have HU3 := Lib.hid hu3
    have HU4 := Lib.hid hu4
    have HUL := Lib.hid (show us.length ≤ 1000000 by rw [hu3]; unfold pkL; rw [List.length_map]; omega)
    have HPT := Lib.hid hpt
    have HDT := Lib.hid hdt
    have HK0 := Lib.hid (show X1.cell? ⟨N0 + 1, 0, none⟩ = some (.pointer (some ⟨N0, 0, none⟩)) from (World.cell?_of_block (a := ⟨N0 + 1, 0, none⟩) (HHE.out (N0 + 1) (by have := HBS.out.1; omega))).trans (cell_of hpt rfl))
    have HK1 := Lib.hid (show (X1.alloc (.cells #[.int .i64 (pl : Nat), .slice A2 cn c2] 55)).cell? ⟨N0 + 1, 0, none⟩ = some (.pointer (some ⟨N0, 0, none⟩)) from ((below_box X1 _).cell (p := ⟨N0 + 1, 0, none⟩) (by have := HND.out; have := HBS.out.1; show N0 + 1 < _; omega)).trans HK0.out)
    have cB : X1.cell? ⟨N0, 3, none⟩ = some vb := cell_of hu1 rfl
    have cB1 : (X1.alloc (.cells #[.int .i64 (pl : Nat), .slice A2 cn c2] 55)).cell? ⟨N0, 3, none⟩ = some vb := ((below_box X1 _).cell (p := ⟨N0, 3, none⟩) (by have := HND.out; have := HBS.out.1; show N0 < _; omega)).trans cB
    have HZ := Lib.hid hz
    have HBW := Lib.hid hB
    have HSL := Lib.hid (show pkL (cdB ns) (pre ++ [(⟨i, hi⟩ : Ix q)]) = pkL (cdB ns) pre ++ [pN] by rw [← HPN.out.2]; unfold pkL; rw [List.map_append]; rfl)
    clear hu1 hur hu3 hu4 hpt hdt hz hB hsb
    refine wpIn_round_held (fun w' => w'.cell? ⟨N0 + 1, 0, none⟩ = some (.pointer (some ⟨N0, 0, none⟩))) (by kernel_rfl) (by kernel_rfl) (by rintro ⟨a, w, h⟩; exact h) ?_
    have hHeld : (fun w' => w'.cell? ⟨N0 + 1, 0, none⟩ = some (.pointer (some ⟨N0, 0, none⟩))) (World.drew w2) := (by rw [HX1.out]; exact HK0.out)
    rw [HX1.out] at hHeld ⊢
    refine wpAnyH_take (i := 0) (oi := ?oi1) (v := ?v1) ?hi1 (by kernel_rfl) (by kernel_rfl) (by kernel_rfl) ?hq1 ?hy1 (by assumption) ?hr1
    case hi1 => (simp only [List.getElem?_toArray, List.getElem?_cons_zero]; rfl)
    case hq1 => exact fun _ _ _ h => h
    case hy1 => exact Or.inl ⟨by rfl, by intro whSw hSw'; (try dsimp only at hSw'); (first | (go_simp; done) | (go_simp; with_reducible rfl))⟩
    try simp only [Act.put, List.setIfInBounds_toArray, List.set_cons_zero, List.set_cons_succ]
    refine wpAnyH_take (i := 1) (oi := ?oi2) (v := ?v2) ?hi2 (by kernel_rfl) (by kernel_rfl) (by kernel_rfl) ?hq2 ?hy2 (by assumption) ?hr2
    case hi2 => (simp only [List.getElem?_toArray, List.getElem?_cons_succ, List.getElem?_cons_zero]; rfl)
    case hq2 => exact fun _ _ _ h => h
    case hy2 => exact Or.inl ⟨by rfl, by intro whSw hSw'; (try dsimp only at hSw'); (first | (go_simp; done) | (go_simp; with_reducible rfl))⟩
    try simp only [Act.put, List.setIfInBounds_toArray, List.set_cons_zero, List.set_cons_succ]
    refine wpAnyH_take (i := 2) (oi := ?oi3) (v := ?v3) ?hi3 (by kernel_rfl) (by kernel_rfl) (by kernel_rfl) ?hq3 ?hy3 (by assumption) ?hr3
    case hi3 => (simp only [List.getElem?_toArray, List.getElem?_cons_succ, List.getElem?_cons_zero]; rfl)
    case hq3 => exact fun _ _ _ h => h
    case hy3 => exact Or.inl ⟨by rfl, by intro whSw hSw'; (try dsimp only at hSw'); (first | (go_simp; done) | (go_simp; with_reducible rfl))⟩
    try simp only [Act.put, List.setIfInBounds_toArray, List.set_cons_zero, List.set_cons_succ]
    refine wpAnyH_take (i := 3) (oi := ?oi4) (v := ?v4) ?hi4 (by kernel_rfl) (by kernel_rfl) (by kernel_rfl) ?hq4 ?hy4 (by assumption) ?hr4
    case hi4 => (simp only [List.getElem?_toArray, List.getElem?_cons_succ, List.getElem?_cons_zero]; rfl)
    case hq4 => exact fun _ _ _ h => h
    case hy4 => exact Or.inl ⟨by rfl, by intro whSw hSw'; (try dsimp only at hSw'); (first | (go_simp; done) | (go_simp; with_reducible rfl))⟩
    try simp only [Act.put, List.setIfInBounds_toArray, List.set_cons_zero, List.set_cons_succ]
    refine wpAnyH_take (i := 5) (oi := ?oi5) (v := ?v5) ?hi5 (by kernel_rfl) (by kernel_rfl) (by kernel_rfl) ?hq5 ?hy5 (by assumption) ?hr5
    case hi5 => (simp only [List.getElem?_toArray, List.getElem?_cons_succ, List.getElem?_cons_zero]; rfl)
    case hq5 => exact fun _ _ _ h => h
    case hy5 => exact Or.inl ⟨by rfl, by intro whSw hSw'; (try dsimp only at hSw'); (first | (go_simp; done) | (go_simp; with_reducible rfl))⟩
    try simp only [Act.put, List.setIfInBounds_toArray, List.set_cons_zero, List.set_cons_succ]
    refine wpAnyH_take (i := 6) (oi := ?oi6) (v := ?v6) ?hi6 (by kernel_rfl) (by kernel_rfl) (by kernel_rfl) ?hq6 ?hy6 (by assumption) ?hr6
    case hi6 => (simp only [List.getElem?_toArray, List.getElem?_cons_succ, List.getElem?_cons_zero]; rfl)
    case hq6 => exact fun _ _ _ h => h
    case hy6 => exact Or.inl ⟨by rfl, by intro whSw hSw'; (try dsimp only at hSw'); (first | (go_simp; done) | (go_simp; with_reducible rfl))⟩
    try simp only [Act.put, List.setIfInBounds_toArray, List.set_cons_zero, List.set_cons_succ]
    refine wpAnyH_take (i := 7) (oi := ?oi7) (v := ?v7) ?hi7 (by kernel_rfl) (by kernel_rfl) (by kernel_rfl) ?hq7 ?hy7 (by assumption) ?hr7
    case hi7 => (simp only [List.getElem?_toArray, List.getElem?_cons_succ, List.getElem?_cons_zero]; rfl)
    case hq7 => exact fun _ _ _ h => h
    case hy7 => exact Or.inl ⟨by rfl, by intro whSw hSw'; (try dsimp only at hSw'); (first | (go_simp; done) | (go_simp; with_reducible rfl))⟩
    try simp only [Act.put, List.setIfInBounds_toArray, List.set_cons_zero, List.set_cons_succ]
    refine wpAnyH_ready (rs := [4, 8]) (by kernel_rfl) (by simp) ?_
    refine AllReadyH.cons (o := ?oo8) ?hi8 (fun K hK => ?hs8) ?hm8
    case hi8 => (simp only [List.getElem?_toArray, List.getElem?_cons_succ, List.getElem?_cons_zero]; rfl)
    go_simp
    refine hK.out _ _ ?_ (fun hHeld => ?_)
    · (try dsimp only); (first | (with_reducible exact HK3.out) | (with_reducible exact HK2.out) | (with_reducible exact HK1.out) | (with_reducible exact HK0.out) | go_keep | fail)
    clear hK K
    try simp only [Act.put, List.setIfInBounds_toArray, List.set_cons_zero, List.set_cons_succ]
    refine wpAnyH_ready (rs := [8]) (by kernel_rfl) (by simp) ?_
    refine AllReadyH.cons (o := ?oo9) ?hi9 (fun K hK => ?hs9) ?hm9
    case hi9 => (simp only [List.getElem?_toArray, List.getElem?_cons_succ, List.getElem?_cons_zero]; rfl)
    go_simp
    refine hK.out _ _ ?_ (fun hHeld => ?_)
    · (try dsimp only); (first | (with_reducible exact HK3.out) | (with_reducible exact HK2.out) | (with_reducible exact HK1.out) | (with_reducible exact HK0.out) | go_keep | fail)
    clear hK K
    try simp only [Act.put, List.setIfInBounds_toArray, List.set_cons_zero, List.set_cons_succ]
    refine wpAnyH_ready (rs := [9]) (by kernel_rfl) (by simp) ?_
    refine AllReadyH.cons (o := ?oo10) ?hi10 (fun K hK => ?hs10) ?hm10
    case hi10 => (simp only [List.getElem?_toArray, List.getElem?_cons_succ, List.getElem?_cons_zero]; rfl)
    refine step_pushPc rfl (.tmp 38) (.tmp 42) rfl BS _ us pl (.slice A2 cn c2) rfl rfl HUR.out HUL.out HND.out rfl ?_
    intro v3 w3 HO3 HG3
    obtain ⟨g', cap', rfl⟩ := ownsRow_succ (by have h := HO3.out; rw [List.length_append, List.length_singleton] at h; exact h)
    have HPU := Lib.hid (SbAt.push (p := pN) (u := (pl, .slice A2 cn c2)) HU1.out HUR.out HU3.out HU4.out HPN.out.1 HCO.out HO3.out HG3.out)
    have hc1 : w3.cell? ⟨N0, 3, none⟩ = some vb := cell_of HPU.out.1 rfl
    have hf1 : w3.frozen? ⟨N0, 3, none⟩ = false := frozen_of HPU.out.1
    have HB3 := Lib.hid (show Below BS X1 w3 from below_of_grown (grown_trans (World.grownBy_alloc X1 _ _) HG3.out) HND.out (fun k hk => (own_low HUR.out k hk).1))
    have HK2 := Lib.hid (show w3.cell? ⟨N0 + 1, 0, none⟩ = some (.pointer (some ⟨N0, 0, none⟩)) from (HB3.out.cell (p := ⟨N0 + 1, 0, none⟩) (by have := HBS.out.1; show N0 + 1 < BS; omega)).trans HK0.out)
    have HK3 := Lib.hid (show (w3.setCell ⟨N0, 3, none⟩ (.slice (some ⟨g', 0, none⟩) (us.length + 1) cap')).cell? ⟨N0 + 1, 0, none⟩ = some (.pointer (some ⟨N0, 0, none⟩)) from (World.cell?_of_block (a := ⟨N0 + 1, 0, none⟩) (Below.heap_setCell w3 ⟨N0, 3, none⟩ _ (N0 + 1) (by show N0 + 1 ≠ N0; omega))).trans HK2.out)
    refine hK.out _ _ ?_ (fun hHeld => ?_)
    · (try dsimp only); (first | (with_reducible exact HK3.out) | (with_reducible exact HK2.out) | (with_reducible exact HK1.out) | (with_reducible exact HK0.out) | go_keep | fail)
    clear hK K
    try simp only [Act.put, List.setIfInBounds_toArray, List.set_cons_zero, List.set_cons_succ]
    refine wpAnyH_take (i := 10) (oi := ?oi11) (v := ?v11) ?hi11 (by kernel_rfl) (by kernel_rfl) (by kernel_rfl) ?hq11 ?hy11 (by assumption) ?hr11
    case hi11 => (simp only [List.getElem?_toArray, List.getElem?_cons_succ, List.getElem?_cons_zero]; rfl)
    case hq11 => exact fun _ _ _ h => h
    case hy11 => exact Or.inl ⟨by rfl, by intro whSw hSw'; (try dsimp only at hSw'); (first | (go_simp; done) | (go_simp; with_reducible rfl))⟩
    try simp only [Act.put, List.setIfInBounds_toArray, List.set_cons_zero, List.set_cons_succ]
    refine wpAnyH_take (i := 11) (oi := ?oi12) (v := ?v12) ?hi12 (by kernel_rfl) (by kernel_rfl) (by kernel_rfl) ?hq12 ?hy12 (by assumption) ?hr12
    case hi12 => (simp only [List.getElem?_toArray, List.getElem?_cons_succ, List.getElem?_cons_zero]; rfl)
    case hq12 => exact fun _ _ _ h => h
    case hy12 => exact Or.inl ⟨by rfl, by intro whSw hSw'; (try dsimp only at hSw'); (first | (go_simp; done) | (go_simp; with_reducible rfl))⟩
    try simp only [Act.put, List.setIfInBounds_toArray, List.set_cons_zero, List.set_cons_succ]
    refine wpAnyH_ready (rs := [12]) (by kernel_rfl) (by simp) ?_
    refine AllReadyH.cons (o := ?oo13) ?hi13 (fun K hK => ?hs13) ?hm13
    case hi13 => (simp only [List.getElem?_toArray, List.getElem?_cons_succ, List.getElem?_cons_zero]; rfl)
    go_simp
    refine hK.out _ _ ?_ (fun hHeld => ?_)
    · (try dsimp only); (first | (with_reducible exact HK3.out) | (with_reducible exact HK2.out) | (with_reducible exact HK1.out) | (with_reducible exact HK0.out) | go_keep | fail)
    clear hK K
    try simp only [Act.put, List.setIfInBounds_toArray, List.set_cons_zero, List.set_cons_succ]
    refine wpAnyH_done (by kernel_rfl) ?_ _
    rotate_left
    exact AllReadyH.nil
    exact AllReadyH.nil
    exact AllReadyH.nil
    refine AllReadyH.cons (o := ?oo14) ?hi14 (fun K hK => ?hs14) ?hm14
    case hi14 => (simp only [List.getElem?_toArray, List.getElem?_cons_succ, List.getElem?_cons_zero]; rfl)
    go_simp
    refine hK.out _ _ ?_ (fun hHeld => ?_)
    · (try dsimp only); (first | (with_reducible exact HK3.out) | (with_reducible exact HK2.out) | (with_reducible exact HK1.out) | (with_reducible exact HK0.out) | go_keep | fail)
    clear hK K
    try simp only [Act.put, List.setIfInBounds_toArray, List.set_cons_zero, List.set_cons_succ]
    refine wpAnyH_ready (rs := [4]) (by kernel_rfl) (by simp) ?_
    refine AllReadyH.cons (o := ?oo15) ?hi15 (fun K hK => ?hs15) ?hm15
    case hi15 => (simp only [List.getElem?_toArray, List.getElem?_cons_succ, List.getElem?_cons_zero]; rfl)
    go_simp
    refine hK.out _ _ ?_ (fun hHeld => ?_)
    · (try dsimp only); (first | (with_reducible exact HK3.out) | (with_reducible exact HK2.out) | (with_reducible exact HK1.out) | (with_reducible exact HK0.out) | go_keep | fail)
    clear hK K
    try simp only [Act.put, List.setIfInBounds_toArray, List.set_cons_zero, List.set_cons_succ]
    refine wpAnyH_ready (rs := [9]) (by kernel_rfl) (by simp) ?_
    refine AllReadyH.cons (o := ?oo16) ?hi16 (fun K hK => ?hs16) ?hm16
    case hi16 => (simp only [List.getElem?_toArray, List.getElem?_cons_succ, List.getElem?_cons_zero]; rfl)
    refine step_pushPc rfl (.tmp 38) (.tmp 42) rfl BS _ us pl (.slice A2 cn c2) rfl rfl HUR.out HUL.out HND.out rfl ?_
    intro v3 w3 HO3 HG3
    obtain ⟨g', cap', rfl⟩ := ownsRow_succ (by have h := HO3.out; rw [List.length_append, List.length_singleton] at h; exact h)
    have HPU := Lib.hid (SbAt.push (p := pN) (u := (pl, .slice A2 cn c2)) HU1.out HUR.out HU3.out HU4.out HPN.out.1 HCO.out HO3.out HG3.out)
    have hc1 : w3.cell? ⟨N0, 3, none⟩ = some vb := cell_of HPU.out.1 rfl
    have hf1 : w3.frozen? ⟨N0, 3, none⟩ = false := frozen_of HPU.out.1
    have HB3 := Lib.hid (show Below BS X1 w3 from below_of_grown (grown_trans (World.grownBy_alloc X1 _ _) HG3.out) HND.out (fun k hk => (own_low HUR.out k hk).1))
    have HK2 := Lib.hid (show w3.cell? ⟨N0 + 1, 0, none⟩ = some (.pointer (some ⟨N0, 0, none⟩)) from (HB3.out.cell (p := ⟨N0 + 1, 0, none⟩) (by have := HBS.out.1; show N0 + 1 < BS; omega)).trans HK0.out)
    have HK3 := Lib.hid (show (w3.setCell ⟨N0, 3, none⟩ (.slice (some ⟨g', 0, none⟩) (us.length + 1) cap')).cell? ⟨N0 + 1, 0, none⟩ = some (.pointer (some ⟨N0, 0, none⟩)) from (World.cell?_of_block (a := ⟨N0 + 1, 0, none⟩) (Below.heap_setCell w3 ⟨N0, 3, none⟩ _ (N0 + 1) (by show N0 + 1 ≠ N0; omega))).trans HK2.out)
    refine hK.out _ _ ?_ (fun hHeld => ?_)
    · (try dsimp only); (first | (with_reducible exact HK3.out) | (with_reducible exact HK2.out) | (with_reducible exact HK1.out) | (with_reducible exact HK0.out) | go_keep | fail)
    clear hK K
    try simp only [Act.put, List.setIfInBounds_toArray, List.set_cons_zero, List.set_cons_succ]
    refine wpAnyH_take (i := 10) (oi := ?oi17) (v := ?v17) ?hi17 (by kernel_rfl) (by kernel_rfl) (by kernel_rfl) ?hq17 ?hy17 (by assumption) ?hr17
    case hi17 => (simp only [List.getElem?_toArray, List.getElem?_cons_succ, List.getElem?_cons_zero]; rfl)
    case hq17 => exact fun _ _ _ h => h
    case hy17 => exact Or.inl ⟨by rfl, by intro whSw hSw'; (try dsimp only at hSw'); (first | (go_simp; done) | (go_simp; with_reducible rfl))⟩
    try simp only [Act.put, List.setIfInBounds_toArray, List.set_cons_zero, List.set_cons_succ]
    refine wpAnyH_take (i := 11) (oi := ?oi18) (v := ?v18) ?hi18 (by kernel_rfl) (by kernel_rfl) (by kernel_rfl) ?hq18 ?hy18 (by assumption) ?hr18
    case hi18 => (simp only [List.getElem?_toArray, List.getElem?_cons_succ, List.getElem?_cons_zero]; rfl)
    case hq18 => exact fun _ _ _ h => h
    case hy18 => exact Or.inl ⟨by rfl, by intro whSw hSw'; (try dsimp only at hSw'); (first | (go_simp; done) | (go_simp; with_reducible rfl))⟩
    try simp only [Act.put, List.setIfInBounds_toArray, List.set_cons_zero, List.set_cons_succ]
    refine wpAnyH_ready (rs := [12]) (by kernel_rfl) (by simp) ?_
    refine AllReadyH.cons (o := ?oo19) ?hi19 (fun K hK => ?hs19) ?hm19
    case hi19 => (simp only [List.getElem?_toArray, List.getElem?_cons_succ, List.getElem?_cons_zero]; rfl)
    go_simp
    refine hK.out _ _ ?_ (fun hHeld => ?_)
    · (try dsimp only); (first | (with_reducible exact HK3.out) | (with_reducible exact HK2.out) | (with_reducible exact HK1.out) | (with_reducible exact HK0.out) | go_keep | fail)
    clear hK K
    try simp only [Act.put, List.setIfInBounds_toArray, List.set_cons_zero, List.set_cons_succ]
    refine wpAnyH_done (by kernel_rfl) ?_ _
    rotate_left
    exact AllReadyH.nil
    exact AllReadyH.nil
    exact AllReadyH.nil
    exact AllReadyH.nil
    all_goals
      gi_wp2
      have hhp : ∀ m : Nat, m < BS → m ≠ N0 → (w3.setCell ⟨N0, 3, none⟩ (.slice (some ⟨g', 0, none⟩) (us.length + 1) cap')).heap[m]? = W.heap[m]? := fun m hm hm2 => by
        rw [Below.heap_setCell w3 ⟨N0, 3, none⟩ _ m hm2]
        exact (HB3.out.block m hm).trans (HHE.out m hm)
      have hbW : Below N0 W (w3.setCell ⟨N0, 3, none⟩ (.slice (some ⟨g', 0, none⟩) (us.length + 1) cap')) := (HWX.out.trans (HB3.out.mono (by have := HBS.out.1; omega))).setCell (p := ⟨N0, 3, none⟩) (Nat.le_refl _) _
      have hdt : (w3.setCell ⟨N0, 3, none⟩ (.slice (some ⟨g', 0, none⟩) (us.length + 1) cap')).heap[D]? = some (.cells (intRow (castN' (lnT ns))) 3 (0, 0)) := (hhp D HBS.out.2.1 HBS.out.2.2.1).trans HDT.out
      have hpt : (w3.setCell ⟨N0, 3, none⟩ (.slice (some ⟨g', 0, none⟩) (us.length + 1) cap')).heap[N0 + 1]? = some (.cells #[.pointer (some ⟨N0, 0, none⟩)] 23 (0, 0)) := (hhp (N0 + 1) (by have := HBS.out.1; omega) (by omega)).trans HPT.out
      refine ⟨(HKD.out.trans (push_others HUR.out HG3.out _ _)).from _, ⟨hbW, hhp _ (by have := HBS.out.2.2.2; omega) (by have := HBS.out.2.2.2; omega), hhp _ (by have := HBS.out.2.2.2; omega) (by have := HBS.out.2.2.2; omega)⟩, ⟨⟨⟨?_, hpt, hdt⟩, Nat.le_trans HZ.out hbW.size⟩, HBW.out.trans hbW⟩⟩
      rw [HSL.out]
      exact HPU.out.2
  case done =>
    rintro DW ys W hD hys ⟨⟨⟨hsb, hpt, hdt⟩, hz⟩, hB⟩ hK
    have cP : W.cell? ⟨N0 + 1, 0, none⟩ = some (.pointer (some ⟨N0, 0, none⟩)) := cell_of hpt rfl
    have hbe := belowK_b (w := W0) (n₀ := N0) (by omega) W DW _ (.deferred none) hD hK rfl rfl
    have hsb2 : SbAt BS N0 n 1 (.slice (some ⟨D, 0, none⟩) T T) ((List.range q).map (cdB ns)) (W.putObj DW (.deferred none)) := by
      rw [pkL_all _ hys] at hsb
      refine hsb.keep (World.putObj_heap_other (by omega)) fun b e s k v xs h => ownsRow_putObj h (.deferred none) hK rfl
    have HE : Hid (StrV w (cdS ns) (.returned (.pointer (some ⟨N0, 0, none⟩))) (W.putObj DW (.deferred none))) := Lib.hid ⟨N0, rfl, by rw [HPS.out]; exact SbAt.done (S := ⟨n, 1, lnT ns, (List.range q).map (cdB ns)⟩) hsb2 (rows_int HTL.out (Nat.le_refl _) ((World.putObj_heap_other (by have := HBS.out.2.1; omega)).trans hdt)), by rw [HN0.out]; exact hB.trans hbe⟩
    have HK := Lib.hid hK
    clear hsb hsb2 hpt hdt hz hB hys hbe
    gi_wp2
    refine ⟨by simp, .inl ⟨_, _, rfl, run_takeDeferred HK.out, ?_⟩⟩
    exact ⟨_, (results_tmp (t := 2) rfl _ _ _ : _), HE.out⟩
  case stop =>
    rintro D c pre W _ _ hx _
    exact hx.elim
end Go.Proofs.YteennnhinfnahaaDoor
