/-
  MEMORY AND MATHEMATICS for loops 3 to 7 of the reference's Lengths of package huffman.
-/
import Derived.Test.YteennnhinfnahaaHwBq
import Derived.Test.YteennnhinfnahaaTzJ
namespace Go.Proofs.Yteennnhinfnahaa
open Go.RowKit Go.Shelf Go.Lib
set_option linter.unusedVariables false
set_option linter.unusedSimpArgs false

/-- Loop 3: the list i of package-merge beside the leaves; len is what lies in the block of the lengths. -/
structure PkAt (w : World) (cs : List Int) (D i : Nat) (len : List Int) (P Q : List IP) (lv pv : Value) (wr : World) : Prop where
  bl : Below w.heap.size w wr
  lg : wr.heap[D]? = some (.cells (intRow len) 3 (0, 0))
  lf : Rows 3 EItR wr lv (P.map Prod.fst)
  ls : Rows 3 EItR wr pv (Q.map Prod.fst)
  gp : ∀ p ∈ P, GoodP (cN cs) cs.length D wr p
  gq : ∀ p ∈ Q, GoodP (cN cs) cs.length D wr p
  tp : P.map Prod.snd = leavesP (srt (cN cs) (preS cs 0))
  tr : Q.map Prod.snd = lev (cN cs) (leavesP (preS cs 0)) i
theorem goodP_below {c : Nat → Nat} {n D : Nat} {w w' : World} {p : IP} (h : GoodP c n D w p) (hb : Below w.heap.size w w') : GoodP c n D w' p := h.keep fun k hk _ _ => hb.block k hk
theorem PkAt.below {w wr W : World} {cs len : List Int} {D i : Nat} {P Q : List IP} {lv pv : Value} (h : PkAt w cs D i len P Q lv pv wr) (hw : w.heap.size ≤ wr.heap.size) (hb : Below wr.heap.size wr W) : PkAt w cs D i len P Q lv pv W :=
  ⟨h.bl.trans (hb.mono hw), (hb.block D (Array.getElem?_eq_some_iff.1 h.lg).1).trans h.lg, h.lf.below stays_itR hb, h.ls.below stays_itR hb, fun p hp => goodP_below (h.gp p hp) hb, fun p hp => goodP_below (h.gq p hp) hb, h.tp, h.tr⟩
/-- What the items of a list weigh, and how often a symbol occurs in one. -/
theorem lev_small {cs : List Int} (h4 : ∀ c ∈ cs, 0 ≤ c ∧ c ≤ 4096) {i : Nat} (hi : i ≤ 15) {t : PT} (ht : t ∈ lev (cN cs) (leavesP (preS cs 0)) i) : t.wt (cN cs) ≤ 134217728 ∧ ∀ s, t.occ s ≤ 32768 := by
  have hp : 2 ^ i ≤ 2 ^ 15 := Nat.pow_le_pow_right (by omega) hi
  have h15 : (2 : Nat) ^ 15 = 32768 := by decide
  refine ⟨?_, fun s => ?_⟩
  · have h := lev_f (c := cN cs) (S := preS cs 0) (M := 4096) (PT.wt (cN cs)) (fun _ _ => rfl) (fun s hs => by
      show cN cs s ≤ 4096
      unfold cN
      rw [List.getD_eq_getElem?_getD]
      cases hc : cs[s]? with
      | none => simp
      | some c => have := h4 c (List.mem_of_getElem? hc); simp; omega) i t ht
    have h2 : 4096 * 2 ^ i ≤ 4096 * 32768 := Nat.mul_le_mul_left _ (by omega)
    omega
  · have h := lev_f (c := cN cs) (S := preS cs 0) (M := 1) (PT.occ s) (fun _ _ => rfl) (fun t _ => by
      show (if t = s then 1 else 0) ≤ 1
      split <;> omega) i t ht
    omega
theorem pairs_next : ∀ (l : List PT) (k : Nat) (a b : PT), l[2 * k]? = some a → l[2 * k + 1]? = some b → (pairs l)[k]? = some (.node a b)
  | x :: y :: l, 0, a, b, h1, h2 => by
    simp only [Nat.mul_zero, List.getElem?_cons_zero, Option.some.injEq] at h1
    simp only [Nat.mul_zero, Nat.zero_add, List.getElem?_cons_succ, List.getElem?_cons_zero, Option.some.injEq] at h2
    rw [pairs, h1, h2]; rfl
  | x :: y :: l, k + 1, a, b, h1, h2 => by
    rw [pairs, List.getElem?_cons_succ]
    refine pairs_next l k a b ?_ ?_
    · rw [show 2 * (k + 1) = 2 * k + 1 + 1 by omega, List.getElem?_cons_succ, List.getElem?_cons_succ] at h1
      exact h1
    · rw [show 2 * (k + 1) + 1 = 2 * k + 1 + 1 + 1 by omega, List.getElem?_cons_succ, List.getElem?_cons_succ] at h2
      exact h2
  | [x], k, a, b, h1, h2 => by
    rw [List.getElem?_eq_none (by simp)] at h2
    cases h2
  | [], k, a, b, h1, h2 => by simp at h1
theorem pairs_step {l : List PT} {k : Nat} {a b : PT} (h1 : l[2 * k]? = some a) (h2 : l[2 * k + 1]? = some b) : (pairs l).take (k + 1) = (pairs l).take k ++ [.node a b] := by
  rw [List.take_add_one, pairs_next l k a b h1 h2]; rfl
/-- Between two symbols of loop 5: the sums of the first s. -/
def sumO (n : Nat) (x y : PT) (s : Nat) : List Int := (List.range n).map fun j => if j < s then ((x.occ j + y.occ j : Nat) : Int) else 0
theorem sumO_len (n : Nat) (x y : PT) (s : Nat) : (sumO n x y s).length = n := by simp [sumO]
theorem sumO_at {n j : Nat} (x y : PT) (s : Nat) (h : j < n) : (sumO n x y s)[j]? = some (if j < s then ((x.occ j + y.occ j : Nat) : Int) else 0) := by
  unfold sumO
  rw [List.getElem?_map, List.getElem?_range h]; rfl
theorem sumO_zero (n : Nat) (x y : PT) : sumO n x y 0 = List.replicate n 0 := by
  refine List.ext_getElem? fun j => ?_
  rcases Nat.lt_or_ge j n with h | h
  · rw [sumO_at x y 0 h, if_neg (by omega), List.getElem?_replicate, if_pos h]
  · rw [List.getElem?_eq_none (by rw [sumO_len]; exact h), List.getElem?_eq_none (by rw [List.length_replicate]; exact h)]
theorem sumO_step {n s : Nat} (x y : PT) (h : s < n) : (sumO n x y s).set s ((x.occ s + y.occ s : Nat) : Int) = sumO n x y (s + 1) := by
  refine List.ext_getElem? fun j => ?_
  rw [List.getElem?_set, sumO_len]
  rcases Nat.lt_or_ge j n with hj | hj
  · rw [sumO_at x y (s + 1) hj, sumO_at x y s hj]
    by_cases e : s = j
    · subst e
      rw [if_pos rfl, if_pos h, if_pos (by omega)]
    · rw [if_neg e]
      by_cases e2 : j < s
      · rw [if_pos e2, if_pos (by omega)]
      · rw [if_neg e2, if_neg (by omega)]
  · rw [if_neg (by omega), List.getElem?_eq_none (by rw [sumO_len]; exact hj), List.getElem?_eq_none (by rw [sumO_len]; exact hj)]
theorem sumO_all (n : Nat) (x y : PT) : sumO n x y n = (occR n (.node x y)).map fun (j : Nat) => (j : Int) := by
  unfold sumO occR
  rw [List.map_map]
  refine List.map_congr_left fun j hj => ?_
  rw [if_pos (List.mem_range.1 hj)]
  rfl
/-- A new item whose block of numbers is O, in box B. -/
structure NewIt (wr : World) (n wt O B : Nat) (X : World) : Prop where
  bl : Below wr.heap.size wr X
  o : X.heap[O]? = some (.cells (intRow (List.replicate n (0 : Int))) 3 (0, 0))
  b : X.heap[B]? = some (.cells #[.int .i64 (wt : Nat), .bool false, .slice (some ⟨O, 0, none⟩) n n] 52 (0, 0))
  lo : wr.heap.size ≤ O
  lb : wr.heap.size ≤ B
theorem newIt_a (w : World) (n wt : Nat) : NewIt w n wt w.heap.size (w.heap.size + 1) ((w.alloc (.cells (intRow (List.replicate n 0)) 3)).alloc (.cells #[.int .i64 (wt : Nat), .bool false, .slice (some ⟨w.heap.size, 0, none⟩) n n] 52)).drew := by
  refine ⟨(((Below.refl _ w).alloc (Nat.le_refl _) _).alloc (by simp) _).drew, block_alloc _ (block_new w _), ?_, Nat.le_refl _, by omega⟩
  have h := block_new (w.alloc (.cells (intRow (List.replicate n 0)) 3)) (.cells #[.int .i64 (wt : Nat), .bool false, .slice (some ⟨w.heap.size, 0, none⟩) n n] 52)
  rw [World.size_alloc] at h
  exact h
theorem newIt_b (w : World) (n wt : Nat) : NewIt w n wt (w.heap.size + 1) w.heap.size ((w.alloc (.cells #[.int .i64 (wt : Nat), .bool false, .slice (some ⟨w.heap.size + 1, 0, none⟩) n n] 52)).alloc (.cells (intRow (List.replicate n 0)) 3)).drew := by
  refine ⟨(((Below.refl _ w).alloc (Nat.le_refl _) _).alloc (by simp) _).drew, ?_, block_alloc _ (block_new w _), by omega, Nat.le_refl _⟩
  have h := block_new (w.alloc (.cells #[.int .i64 (wt : Nat), .bool false, .slice (some ⟨w.heap.size + 1, 0, none⟩) n n] 52)) (.cells (intRow (List.replicate n 0)) 3)
  rw [World.size_alloc] at h
  exact h
theorem NewIt.ne {wr X : World} {n wt O B : Nat} (h : NewIt wr n wt O B X) : B ≠ O := fun e => by
  have h1 := h.b
  rw [e, h.o] at h1
  injection h1 with h1
  injection h1 with _ h1 _
  exact absurd h1 (by decide)
theorem grown_set1 {X W : World} {O i : Nat} {v : Value} (h : X.grownBy W (some O)) : X.grownBy (W.setCell ⟨O, i, none⟩ v) (some O) := grown_trans h (grown_set W O i v)
/-- Between two pairs of loop 4. -/
structure KpAt (w3 : World) (cs : List Int) (D : Nat) (R : List IP) (bv : Value) (wr : World) : Prop where
  bl : Below w3.heap.size w3 wr
  own : wr.ownsRow w3.heap.size 52 3 bv (R.map Prod.fst).length ((R.map Prod.fst).flatMap itVR)
  gr : ∀ p ∈ R, GoodP (cN cs) cs.length D wr p
theorem bool_ne {w : World} {D b o : Nat} {len : List Int} {t : TypeId} {f : Nat × Nat} {x : Bool} (hD : w.heap[D]? = some (.cells (intRow len) t f)) (h : w.cell? ⟨b, o, none⟩ = some (.bool x)) : b ≠ D := by
  rintro rfl
  unfold World.cell? at h
  simp only [hD] at h
  unfold intRow at h
  rw [List.getElem?_toArray, List.getElem?_map] at h
  cases hc : len[o]? with
  | none => rw [hc] at h; cases h
  | some z => rw [hc] at h; cases h
/-- The lengths while loop 6 adds up: done below s. -/
def mixL (f : Nat → Nat) (n s : Nat) (g : List Int) : List Int := (List.range n).map fun j => if j < s then ((f j : Nat) : Int) else g.getD j 0
theorem mixL_len (f : Nat → Nat) (n s : Nat) (g : List Int) : (mixL f n s g).length = n := by simp [mixL]
theorem mixL_at (f : Nat → Nat) {n j : Nat} (s : Nat) (g : List Int) (h : j < n) : (mixL f n s g)[j]? = some (if j < s then ((f j : Nat) : Int) else g.getD j 0) := by
  unfold mixL
  rw [List.getElem?_map, List.getElem?_range h]; rfl
theorem mixL_zero (f : Nat → Nat) {n : Nat} {g : List Int} (h : g.length = n) : mixL f n 0 g = g := by
  refine List.ext_getElem? fun j => ?_
  rcases Nat.lt_or_ge j n with hj | hj
  · rw [mixL_at f 0 g hj, if_neg (by omega), List.getD_eq_getElem?_getD, List.getElem?_eq_getElem (by omega)]; rfl
  · rw [List.getElem?_eq_none (by rw [mixL_len]; exact hj), List.getElem?_eq_none (by omega)]
theorem mixL_step (f : Nat → Nat) {n s : Nat} (g : List Int) (h : s < n) : (mixL f n s g).set s ((f s : Nat) : Int) = mixL f n (s + 1) g := by
  refine List.ext_getElem? fun j => ?_
  rw [List.getElem?_set, mixL_len]
  rcases Nat.lt_or_ge j n with hj | hj
  · rw [mixL_at f (s + 1) g hj, mixL_at f s g hj]
    by_cases e : s = j
    · subst e
      rw [if_pos rfl, if_pos h, if_pos (by omega)]
    · rw [if_neg e]
      by_cases e2 : j < s
      · rw [if_pos e2, if_pos (by omega)]
      · rw [if_neg e2, if_neg (by omega)]
  · rw [if_neg (by omega), List.getElem?_eq_none (by rw [mixL_len]; exact hj), List.getElem?_eq_none (by rw [mixL_len]; exact hj)]
theorem mixL_all (f : Nat → Nat) (n : Nat) (g : List Int) : mixL f n n g = (List.range n).map fun j => ((f j : Nat) : Int) := by
  unfold mixL
  refine List.map_congr_left fun j hj => ?_
  rw [if_pos (List.mem_range.1 hj)]
/-- One pair more. -/
theorem KpAt.push {w3 w5 X Y W : World} {cs : List Int} {D O B n wt : Nat} {R : List IP} {T : PT} {bv v' : Value} (h : KpAt w3 cs D R bv w5) (hN : NewIt w5 n wt O B X) (hg : X.grownBy Y (some O)) (hn : cs.length = n) (hD : D < w5.heap.size)
    (hO : Y.heap[O]? = some (.cells (intRow ((occR n T).map fun (j : Nat) => (j : Int))) 3 (0, 0))) (hw : wt = T.wt (cN cs))
    (ho : W.ownsRow w3.heap.size 52 3 v' (R.map Prod.fst ++ [(⟨wt, false, O, n⟩ : ItH)]).length ((R.map Prod.fst ++ [(⟨wt, false, O, n⟩ : ItH)]).flatMap itVR)) (hg2 : Y.grownBy W bv.ownBlock) (hY : Y.ownsRow w3.heap.size 52 3 bv (R.map Prod.fst).length ((R.map Prod.fst).flatMap itVR)) :
    KpAt w3 cs D (R ++ [((⟨wt, false, O, n⟩ : ItH), T)]) v' W := by
  have h3 := h.bl.size
  have hb1 : Below w3.heap.size w3 X := h.bl.trans (hN.bl.mono h3)
  have hb2 : Below w3.heap.size w3 Y := hb1.grown hg hb1.size (fun k e => by cases e; exact Nat.le_trans h3 hN.lo)
  have hb3 : Below w3.heap.size w3 W := hb2.grown hg2 hb2.size (fun k e => (own_low hY k e).1)
  have hkeep : ∀ {k : Nat} {cur : Array Value}, Y.heap[k]? = some (.cells cur 3 (0, 0)) → W.heap[k]? = some (.cells cur 3 (0, 0)) := fun {k cur} hk => by
    refine (hg2.block k (Array.getElem?_eq_some_iff.1 hk).1 fun e => ?_).trans hk
    rcases hY.2 with ⟨rfl, _⟩ | ⟨g, cap, cu, rfl, _, hgb, _⟩
    · simp [Value.ownBlock] at e
    · simp only [Value.ownBlock, Option.some.injEq] at e
      subst e
      rw [hgb] at hk
      injection hk with hk
      injection hk with _ hk _
      exact absurd hk (by decide)
  refine ⟨hb3, ?_, fun p hp => ?_⟩
  · rw [List.map_append]
    exact ho
  · rw [hn]
    rcases List.mem_append.1 hp with hp | hp
    · have hq := h.gr p hp
      rw [hn] at hq
      have hlt := (Array.getElem?_eq_some_iff.1 hq.oc).1
      refine ⟨hq.wt, hq.ln, hq.ne, hkeep ?_⟩
      have hne : p.1.b ≠ O := fun e => by have := hN.lo; omega
      exact (hg.block _ (Nat.lt_of_lt_of_le hlt hN.bl.size) (fun e => hne (by injection e))).trans ((hN.bl.block _ hlt).trans hq.oc)
    · have : p = ((⟨wt, false, O, n⟩ : ItH), T) := by simpa using hp
      subst this
      exact ⟨hw, rfl, fun e => by have := hN.lo; simp only at e; omega, hkeep hO⟩
end Go.Proofs.Yteennnhinfnahaa
