/-
  WALKS over corporaref13: Merge.
-/
import Derived.Test.YteennnhinfnahaaLmD
import Derived.Test.YteennnhinfnahaaLzT
namespace Go.Proofs.Yteennnhinfnahaa
open Go.RowKit Go.Shelf Go.Lib
set_option linter.unusedVariables false
set_option linter.unusedSimpArgs false
namespace Lm
set_option maxRecDepth 100000

theorem refM_results {tmps : Array Value} {W : World} {B : Nat} {A1 A2 : Option Addr} {n1 c1 n2 c2 : Nat} {v5 v6 v7 : Value} (h4 : tmps[4]? = some (.pointer (some ⟨B, 0, none⟩))) (h5 : tmps[5]? = some v5) (h6 : tmps[6]? = some v6) (h7 : tmps[7]? = some v7) (hB : W.heap[B]? = some (.cells #[.slice A1 n1 c1, .slice A2 n2 c2] 33 (0, 0))) :
    (results Try.f13 tmps).run Try.prog W = .ok (.tuple #[.agg #[.slice A1 n1 c1, .slice A2 n2 c2], v5, v6, v7]) W := by
  have q1 := cell_of (i := 0) hB rfl
  have q2 := cell_of (i := 1) hB rfl
  simp [results, Try.f13, go_sem, h4, h5, h6, h7, q1, q2]
/-- What the reference's Merge answers. -/
def RefMV (w : World) (ws1 ws2 vs : List Wd) (e : Ending) (w' : World) : Prop :=
  Below w.heap.size w w' ∧ ((buildE vs ≠ 0 ∧ e = .returned (.tuple #[.agg #[.slice none 0 0, .slice none 0 0], .slice none 0 0, .slice none 0 0, .int .i64 (buildE vs)])) ∨
    (buildE vs = 0 ∧ ∃ vW vC u1 u2, e = .returned (.tuple #[.agg #[vW, vC], u1, u2, .int .i64 0]) ∧ Rows 1 EStr w' vW (lexW vs) ∧ Rows 1 EInt w' vC (intsN (cntW vs (lexW vs))) ∧
      Rows 1 EInt w' u1 (intsN (ws1.map (fnd (lexW vs)))) ∧ Rows 1 EInt w' u2 (intsN (ws2.map (fnd (lexW vs))))))
/-- A value that reads as these cells, or as none of them. -/
def SeesR (w : World) (B : Nat) (v : Value) (xs : List Value) : Prop := SeesC w B v xs ∨ (xs = [] ∧ ∃ c, v = .slice none 0 c)
theorem SeesR.below {w w' : World} {B : Nat} {v : Value} {xs : List Value} (h : SeesR w B v xs) (hb : Below B w w') : SeesR w' B v xs := h.imp (fun h => SeesC.below h hb) id
theorem sees_rowsI {w : World} {v : Value} {cs : List Nat} (h : Rows 1 EInt w v (intsN cs)) : SeesR w w.heap.size v (iv cs) := by
  obtain ⟨A, cap, hv, hc⟩ := h.form
  subst hv
  have hlen : (intsN cs).length = (iv cs).length := by rw [List.length_map, iv_len]
  cases A with
  | none =>
    right
    by_cases h0 : 0 < (intsN cs).length
    · obtain ⟨b, o, hA, _⟩ := at_int h h0
      cases hA
    · have h1 : (intsN cs).length = 0 := by omega
      exact ⟨List.length_eq_zero_iff.1 (hlen.symm.trans h1), cap, by rw [h1]⟩
  | some ad =>
    left
    refine .inr ⟨ad, cap, by rw [hlen], by rw [← hlen]; exact hc, fun h0 => ?_, fun j u hu => ?_⟩
    · obtain ⟨b, o, hA, hb, _⟩ := at_int h (by rw [hlen]; exact h0)
      cases hA
      exact hb
    · have hj := (List.getElem?_eq_some_iff.1 hu).1
      obtain ⟨b, o, hA, hb, hr⟩ := at_int h (by rw [hlen]; omega)
      cases hA
      unfold iv at hu
      rw [List.getElem?_map] at hu
      cases hx : cs[j]? with
      | none => rw [hx] at hu; cases hu
      | some x =>
        rw [hx] at hu
        cases hu
        rw [add_plain]
        exact hr j (x : Int) (by rw [List.getElem?_map, hx]; rfl)
theorem run_append_none' {P : Program} {w : World} (base : Nat) (t ty e : TypeId) (i : TypeInfo) (size : Nat) (ht : P.underlying t = some (.slice e)) (hi : P.info? e = some i)
    (v : Value) (n c : Nat) (xs : List Value) (hown : w.ownsRow base e size v n xs) :
    (Builtin.append_ #[t, t] ty #[v, .slice none 0 c]).run P w = .ok v w := by
  rcases hown.2 with ⟨rfl, rfl⟩ | ⟨g, cap, cur, rfl, _, _, hnc, _⟩
  · simp [Builtin.append_, run_underlying ht, sizeOf, typeInfo, hi, Builtin.lenOf, Builtin.firstCells]
  · simp [Builtin.append_, run_underlying ht, sizeOf, typeInfo, hi, Builtin.lenOf, Builtin.firstCells, hnc, storeCells]
theorem step_append_R {P : Program} {w : World} {ops : Array Oper} {o : Oper} {a : Act} {K : Act → World → Prop} {Q : Exit → Act → World → Prop} {E : Prop} (hgd : o.guard = none) (s x : Operand) (t : TypeId)
    (ho : o.op = .call { callee := .builtin .append, args := #[s, x], argTypes := #[t, t] })
    (base : Nat) (e : TypeId) (i : TypeInfo) (z : Value) (bytes : Nat) (ht : P.underlying t = some (.slice e)) (hi : P.info? e = some i) (hz : i.zero = some z)
    (hsize : i.size = 1) (hby : i.bytes = bytes) (hzs : z.cells.size = 1)
    (v : Value) (n : Nat) (xs : List Value) (hs : a.eval s = v) (hown : w.ownsRow base e 1 v n xs)
    (vx : Value) (B : Nat) (news : List Value) (hx : a.eval x = vx) (hn : SeesR w B vx news) (h1 : ∀ u ∈ news, u.oneCell' = true)
    (h63 : n + news.length ≤ maxLen) (hbytes : (n + news.length) * bytes ≤ 140737488355328) (hbase : base ≤ w.heap.size)
    (h : ∀ v' w', w'.ownsRow base e 1 v' (n + news.length) (xs ++ news) → w.grownBy w' v.ownBlock → w'.ownsRow base e 1 v n xs → K (a.put o.dst v') w') :
    if Region.wanted o (yielded ops a.tmps) = true then Oper.wp P o a w K Q else E := by
  rcases hn with hn | ⟨rfl, c, rfl⟩
  · exact step_append_any hgd s x t ho base e i z bytes ht hi hz hsize hby hzs v n xs hs hown vx B news hx hn h1 h63 hbytes hbase h
  · have hw : Region.wanted o (yielded ops a.tmps) = true := by simp [Region.wanted, hgd]
    rw [if_pos hw]
    have hrun := run_append_none' (P := P) (w := w) base t o.type e i 1 ht hi v n c xs hown
    have h' := h v w (by rw [List.length_nil, Nat.add_zero, List.append_nil]; exact hown) (World.grownBy.refl w _) hown
    unfold Oper.wp
    simp [execOp, ho, resolve, invoke, builtin, hs, hx, hrun, Result.andThen]
    exact h'
/-- append of one cell to a row of the call's own: a box of the law's struct stays. -/
theorem wpList_pushB {w : World} {ops : Array Oper} {rest : List Oper} {o : Oper} {a : Act} {Q : Exit → Act → World → Prop} (hgd : o.guard = none) (s x : Operand)
    (ho : o.op = .call { callee := .builtin .append, args := #[s, x], argTypes := #[29, 29] })
    (base : Nat) (v : Value) (n : Nat) (l : List Value) (p : ByteArray) (hs : a.eval s = v) (hx : a.eval x = .slice (some ⟨w.heap.size, 0, none⟩) 1 1)
    (hown : w.ownsRow base 9 1 v n l) (hn : n ≤ 1000000) (hbase : base ≤ w.heap.size)
    (h : ∀ v' w', Hid (w'.ownsRow base 9 1 v' (n + 1) (l ++ [.string p])) → Hid (∀ B W, Below B W w → B ≤ base → Below B W w') → Hid (∀ (M : Nat) (cs : Array Value), w.heap[M]? = some (.cells cs 33 (0, 0)) → w'.heap[M]? = some (.cells cs 33 (0, 0))) → wpList Try.prog ops Q rest (a.put o.dst v') w') :
    wpList Try.prog ops Q (o :: rest) a (w.alloc (.cells #[.string p] 9)) := by
  obtain ⟨i0, hi, hz0, hz1, hz2⟩ := info_parts' Try.infoStr
  refine wpList_append_own _ hgd s x 29 ho base 9 i0 _ 1 16 Try.underlying29 hi hz0 hz1 hz2 rfl (by decide) v n _ hs (hown.alloc _) _ 1 1 [.string p] hx rfl (news_at w [.string p] 9) (by simp [Value.oneCell']) (by unfold maxLen; omega) (by omega) (by simp; omega) ?_
  intro v' w' h1 h2 _
  have hlow := own_low hown
  refine h v' w' (Lib.hid h1) (Lib.hid fun B W hb hB => ?_) (Lib.hid fun M cs hM => ?_)
  · exact (hb.alloc (Nat.le_trans hB hbase) _).grown h2 (by simp; omega) (fun k e => Nat.le_trans hB (hlow k e).1)
  · have hlt := (Array.getElem?_eq_some_iff.1 hM).1
    have hM2 : (w.alloc (.cells #[.string p] 9)).heap[M]? = some (.cells cs 33 (0, 0)) := block_alloc _ hM
    rw [h2.block M (by rw [alloc_sz]; omega) ?_]
    · exact hM2
    · intro e
      rcases hown.2 with ⟨rfl, _⟩ | ⟨g, cap, cur, rfl, _, hgb, _⟩
      · simp [Value.ownBlock] at e
      · obtain rfl : M = g := by simpa [Value.ownBlock] using e
        rw [hgb] at hM
        injection hM with hM
        injection hM with _ hM _
        exact absurd hM (by decide)
/-- append of one number to a row of the call's own. -/
theorem wpList_pushK {w : World} {ops : Array Oper} {rest : List Oper} {o : Oper} {a : Act} {Q : Exit → Act → World → Prop} (hgd : o.guard = none) (s x : Operand)
    (ho : o.op = .call { callee := .builtin .append, args := #[s, x], argTypes := #[22, 22] })
    (base : Nat) (v : Value) (n : Nat) (l : List Value) (p : Int) (hs : a.eval s = v) (hx : a.eval x = .slice (some ⟨w.heap.size, 0, none⟩) 1 1)
    (hown : w.ownsRow base 3 1 v n l) (hn : n ≤ 1000000) (hbase : base ≤ w.heap.size)
    (h : ∀ v' w', Hid (w'.ownsRow base 3 1 v' (n + 1) (l ++ [.int .i64 p])) → Hid (∀ B W, Below B W w → B ≤ base → Below B W w') → wpList Try.prog ops Q rest (a.put o.dst v') w') :
    wpList Try.prog ops Q (o :: rest) a (w.alloc (.cells #[.int .i64 p] 3)) := by
  obtain ⟨i0, hi, hz0, hz1, hz2⟩ := info_parts' Try.infoInt2
  refine wpList_append_own _ hgd s x 22 ho base 3 i0 _ 1 8 Try.underlying22 hi hz0 hz1 hz2 rfl (by decide) v n _ hs (hown.alloc _) _ 1 1 [.int .i64 p] hx rfl (news_at w [.int .i64 p] 3) (by simp [Value.oneCell']) (by unfold maxLen; omega) (by omega) (by simp; omega) ?_
  intro v' w' h1 h2 _
  have hlow := own_low hown
  refine h v' w' (Lib.hid h1) (Lib.hid fun B W hb hB => ?_)
  exact (hb.alloc (Nat.le_trans hB hbase) _).grown h2 (by simp; omega) (fun k e => Nat.le_trans hB (hlow k e).1)
/-- The list's values behind none, one or both of the lexicons. -/
def cutL (l vs : List Wd) : Nat → List Wd
  | 0 => []
  | 1 => l
  | _ => vs
/-- The numbers under way. -/
structure NumI (w wr : World) (v : Value) (l : List Nat) : Prop where
  own : wr.ownsRow w.heap.size 3 1 v l.length (iv l)
  below : Below w.heap.size w wr
set_option maxHeartbeats 16000000 in
theorem refMerge_any {w : World} {vW1 vC1 vW2 vC2 : Value} {ws1 ws2 : List Wd} {cs1 cs2 : List Nat} (o1 : LexOk ws1 cs1) (o2 : LexOk ws2 cs2) (rW1 : Rows 1 EStr w vW1 ws1) (rC1 : Rows 1 EInt w vC1 (intsN cs1)) (rW2 : Rows 1 EStr w vW2 ws2) (rC2 : Rows 1 EInt w vC2 (intsN cs2)) :
    Calls Try.prog 13 #[.agg #[vW1, vC1], .agg #[vW2, vC2]] w (RefMV w ws1 ws2 (bothL ws1 cs1 ws2 cs2)) := by
  have hlen := both_len o1 o2
  have hsh := both_short o1 o2
  have hs1 := o1.sum
  have hs2 := o2.sum
  have hf1 := o1.few
  have hf2 := o2.few
  have hl1 : (intsN cs1).length = ws1.length := by rw [List.length_map, o1.len]
  have hl2 : (intsN cs2).length = ws2.length := by rw [List.length_map, o2.len]
  obtain ⟨A1, c1, rfl, -⟩ := rW1.form
  obtain ⟨A2, c2, rfl, -⟩ := rC1.form
  obtain ⟨B1, d1, rfl, -⟩ := rW2.form
  obtain ⟨B2, d2, rfl, -⟩ := rC2.form
  rw [hl1] at rC1 ⊢
  rw [hl2] at rC2 ⊢
  have hq1 := o1.len
  have hq2 := o2.len
  obtain ⟨m1, hm1⟩ : ∃ m, ws1.length = m := ⟨_, rfl⟩
  obtain ⟨m2, hm2⟩ : ∃ m, ws2.length = m := ⟨_, rfl⟩
  rw [hm1] at rW1 rC1 hf1 hq1 ⊢
  rw [hm2] at rW2 rC2 hf2 hq2 ⊢
  obtain ⟨vs, hvs⟩ : ∃ vs, bothL ws1 cs1 ws2 cs2 = vs := ⟨_, rfl⟩
  rw [hvs] at hlen hsh ⊢
  have HVS := Lib.hid hvs
  have HLEN := Lib.hid hlen
  have HSH := Lib.hid hsh
  have HM1 := Lib.hid hm1
  have HM2 := Lib.hid hm2
  have HQ1 := Lib.hid hq1
  have HQ2 := Lib.hid hq2
  have HS := Lib.hid (And.intro hs1 hs2)
  have HOK := Lib.hid (And.intro o1 o2)
  obtain ⟨N, hN⟩ : ∃ N, w.heap.size = N := ⟨_, rfl⟩
  obtain ⟨W1, hW1⟩ : ∃ W1, ((w.alloc (.cells #[.slice A1 m1 c1, .slice A2 m1 c2] 33)).alloc (.cells #[.slice B1 m2 d1, .slice B2 m2 d2] 33)).alloc (.cells #[.slice none 0 0, .slice none 0 0] 33) = W1 := ⟨_, rfl⟩
  have hbw : Below w.heap.size w W1 := by
    rw [← hW1]
    exact ((below_box w _).alloc (by simp) _).alloc (by simp; omega) _
  have hx : W1.heap[N]? = some (.cells #[.slice A1 m1 c1, .slice A2 m1 c2] 33 (0, 0)) := by
    rw [← hW1, ← hN]
    exact block_alloc _ (block_alloc _ (block_new w _))
  have hy : W1.heap[N + 1]? = some (.cells #[.slice B1 m2 d1, .slice B2 m2 d2] 33 (0, 0)) := by
    rw [← hW1, ← hN]
    have := block_alloc (.cells #[.slice none 0 0, .slice none 0 0] 33) (block_new (w.alloc (.cells #[.slice A1 m1 c1, .slice A2 m1 c2] 33)) (.cells #[.slice B1 m2 d1, .slice B2 m2 d2] 33))
    rw [alloc_sz w] at this
    exact this
  have hz : W1.heap[N + 2]? = some (.cells #[.slice none 0 0, .slice none 0 0] 33 (0, 0)) := by
    rw [← hW1, ← hN]
    have := block_new ((w.alloc (.cells #[.slice A1 m1 c1, .slice A2 m1 c2] 33)).alloc (.cells #[.slice B1 m2 d1, .slice B2 m2 d2] 33)) (.cells #[.slice none 0 0, .slice none 0 0] 33)
    rw [alloc_sz, alloc_sz] at this
    exact this
  have hsz : W1.heap.size = N + 3 := by rw [← hW1, ← hN]; simp
  have HSZ := Lib.hid hsz
  have HN := Lib.hid hN
  have HW1 := Lib.hid hW1
  have HBW := Lib.hid hbw
  have HX := Lib.hid (fun W (hb : Below W1.heap.size W1 W) => block_below hx hb (by omega))
  have HY := Lib.hid (fun W (hb : Below W1.heap.size W1 W) => block_below hy hb (by omega))
  have HZ := Lib.hid (fun W (hb : Below W1.heap.size W1 W) => block_below hz hb (by omega))
  have HRW1 := Lib.hid (fun W (hb : Below W1.heap.size W1 W) => rW1.below stays_str (hbw.trans (hb.mono hbw.size)))
  have HRC1 := Lib.hid (fun W (hb : Below W1.heap.size W1 W) => rC1.below stays_int (hbw.trans (hb.mono hbw.size)))
  have HRW2 := Lib.hid (fun W (hb : Below W1.heap.size W1 W) => rW2.below stays_str (hbw.trans (hb.mono hbw.size)))
  have HRC2 := Lib.hid (fun W (hb : Below W1.heap.size W1 W) => rC2.below stays_int (hbw.trans (hb.mono hbw.size)))
  have HC1 : Hid (∀ W, Below W1.heap.size W1 W → SeesR W W1.heap.size (.slice A2 m1 c2) (iv cs1)) := Lib.hid (fun W hb => (sees_rowsI (HRC1.out W1 (Below.refl _ _))).below hb)
  have HC2 : Hid (∀ W, Below W1.heap.size W1 W → SeesR W W1.heap.size (.slice B2 m2 d2) (iv cs2)) := Lib.hid (fun W hb => (sees_rowsI (HRC2.out W1 (Below.refl _ _))).below hb)
  have HSK : Hid (∀ W, Below W1.heap.size W1 W → W.cell? ⟨N, 1, none⟩ = some (Value.slice A2 m1 c2) ∧ W.cell? ⟨N + 1, 1, none⟩ = some (Value.slice B2 m2 d2)) :=
    Lib.hid (fun W hb => ⟨cell_of (HX.out W hb) rfl, cell_of (HY.out W hb) rfl⟩)
  obtain ⟨j0, hj, hy0, hy1, hy2⟩ := info_parts' Try.infoInt2
  clear hlen hsh hs1 hs2 hl1 hl2 hq1 hq2 hm1 hm2 hvs hN hW1 hbw hx hy hz hsz rW1 rC1 rW2 rC2 o1 o2
  go_enter Try.func13, Try.ntmps13
  go_upto_region 1 with fail
  rw [HW1.out, HN.out]
  go_wp2_with fail
  refine wp_region_held_drew (S := (fun w' => w'.cell? ⟨N, 1, none⟩ = some (Value.slice A2 m1 c2) ∧ w'.cell? ⟨N + 1, 1, none⟩ = some (Value.slice B2 m2 d2))) (by kernel_rfl) ?_ (fun hHeld => ?_)
  · (try dsimp only); exact HSK.out _ (Below.refl _ _).drew
  refine wpAnyH_take (i := 0) (oi := ?oi1) (v := ?v1) ?hi1 (by kernel_rfl) (by kernel_rfl) (by kernel_rfl) ?hq1 ?hy1 (by assumption) ?hr1
  case hi1 => (simp only [List.getElem?_toArray, List.getElem?_cons_zero]; rfl)
  case hq1 => exact fun _ _ _ h => h
  case hy1 => exact Or.inl ⟨by rfl, by intro whSw hSw'; (try dsimp only at hSw'); (first | (go_simp; done) | (go_simp; with_reducible rfl))⟩
  try simp only [Act.put, List.setIfInBounds_toArray, List.set_cons_zero, List.set_cons_succ]
  refine wpAnyH_take (i := 1) (oi := ?oi2) (v := ?v2) ?hi2 (by kernel_rfl) (by kernel_rfl) (by kernel_rfl) ?hq2 ?hy2 (by assumption) ?hr2
  case hi2 => (simp only [List.getElem?_toArray, List.getElem?_cons_succ, List.getElem?_cons_zero]; rfl)
  case hq2 => exact fun _ _ _ h => h
  case hy2 => exact Or.inl ⟨by rfl, by intro whSw hSw'; (try dsimp only at hSw'); (first | (go_simp; done) | (go_simp; with_reducible rfl))⟩
  try simp only [Act.put, List.setIfInBounds_toArray, List.set_cons_zero, List.set_cons_succ]
  refine wpAnyH_take (i := 3) (oi := ?oi3) (v := ?v3) ?hi3 (by kernel_rfl) (by kernel_rfl) (by kernel_rfl) ?hq3 ?hy3 (by assumption) ?hr3
  case hi3 => (simp only [List.getElem?_toArray, List.getElem?_cons_succ, List.getElem?_cons_zero]; rfl)
  case hq3 => exact fun _ _ _ h => h
  case hy3 => exact Or.inl ⟨by rfl, by intro whSw hSw'; (try dsimp only at hSw'); (first | (go_simp; done) | (go_simp; with_reducible rfl))⟩
  try simp only [Act.put, List.setIfInBounds_toArray, List.set_cons_zero, List.set_cons_succ]
  refine wpAnyH_take (i := 4) (oi := ?oi4) (v := ?v4) ?hi4 (by kernel_rfl) (by kernel_rfl) (by kernel_rfl) ?hq4 ?hy4 (by assumption) ?hr4
  case hi4 => (simp only [List.getElem?_toArray, List.getElem?_cons_succ, List.getElem?_cons_zero]; rfl)
  case hq4 => exact fun _ _ _ h => h
  case hy4 => exact Or.inl ⟨by rfl, by intro whSw hSw'; (try dsimp only at hSw'); (first | (go_simp; done) | (go_simp; with_reducible rfl))⟩
  try simp only [Act.put, List.setIfInBounds_toArray, List.set_cons_zero, List.set_cons_succ]
  refine wpAnyH_take (i := 7) (oi := ?oi5) (v := ?v5) ?hi5 (by kernel_rfl) (by kernel_rfl) (by kernel_rfl) ?hq5 ?hy5 (by assumption) ?hr5
  case hi5 => (simp only [List.getElem?_toArray, List.getElem?_cons_succ, List.getElem?_cons_zero]; rfl)
  case hq5 => exact fun _ _ _ h => h
  case hy5 => exact Or.inl ⟨by rfl, by intro whSw hSw'; (try dsimp only at hSw'); (first | (go_simp; done) | (go_simp; with_reducible rfl))⟩
  try simp only [Act.put, List.setIfInBounds_toArray, List.set_cons_zero, List.set_cons_succ]
  refine wpAnyH_ready (rs := [2]) (by kernel_rfl) (by simp) ?_
  refine AllReadyH.cons (o := ?oo6) ?hi6 (fun K hK => ?hs6) ?hm6
  case hi6 => (simp only [List.getElem?_toArray, List.getElem?_cons_succ, List.getElem?_cons_zero]; rfl)
  · refine step_append_R rfl (.const (.slice none 0 0)) (.tmp 31) 22 rfl W1.heap.size 3 j0 _ 8 Try.underlying22 hj hy0 hy1 hy2 rfl _ 0 [] rfl (World.ownsRow_nil _ _ _ _) _ W1.heap.size (iv cs1) rfl (HC1.out _ (Below.refl _ _).drew) (iv_one _) (by rw [iv_len, HQ1.out]; unfold maxLen; omega) (by rw [iv_len, HQ1.out]; omega) (Nat.le_refl _) ?_
    intro v1 w1 hown1 hg1 _
    rw [iv_len, HQ1.out] at hown1
    have HO1 := Lib.hid hown1
    have HZ1 : Hid (Below W1.heap.size W1 w1) := Lib.hid ((Below.refl _ _).drew.grown hg1 (Nat.le_refl _) (fun k e => nomatch (show (none : Option Nat) = some k from e)))
    clear hown1 hg1
    refine hK.out _ _ ?_ (fun hHeld => ?_)
    · (try dsimp only); first | exact HSK.out _ HZ2.out | exact HSK.out _ HZ1.out | exact HSK.out _ (Below.refl _ _).drew
    clear hK K
    try simp only [Act.put, List.setIfInBounds_toArray, List.set_cons_zero, List.set_cons_succ]
    refine wpAnyH_ready (rs := [5]) (by kernel_rfl) (by simp) ?_
    refine AllReadyH.cons (o := ?oo7) ?hi7 (fun K hK => ?hs7) ?hm7
    case hi7 => (simp only [List.getElem?_toArray, List.getElem?_cons_succ, List.getElem?_cons_zero]; rfl)
    · refine step_append_R rfl (.tmp 32) (.tmp 34) 22 rfl W1.heap.size 3 j0 _ 8 Try.underlying22 hj hy0 hy1 hy2 rfl _ (0 + m1) _ rfl HO1.out _ W1.heap.size (iv cs2) rfl (HC2.out _ HZ1.out) (iv_one _) (by rw [iv_len, HQ2.out]; unfold maxLen; omega) (by rw [iv_len, HQ2.out]; omega) HZ1.out.size ?_
      intro v2 w2 hown2 hg2 _
      rw [iv_len, HQ2.out] at hown2
      obtain ⟨M, h9⟩ : ∃ y, 0 + m1 + m2 = y := ⟨_, rfl⟩
      rw [h9] at hown2
      obtain ⟨AJ, cJ, e9, -, -⟩ := own_form' hown2
      subst e9
      have H9 := Lib.hid h9
      have HO2 := Lib.hid hown2
      have HZ2 : Hid (Below W1.heap.size W1 w2) := Lib.hid (HZ1.out.grown hg2 HZ1.out.size (fun k e => (own_low HO1.out k e).1))
      clear hown2 hg2 h9 HO1
      refine hK.out _ _ ?_ (fun hHeld => ?_)
      · (try dsimp only); first | exact HSK.out _ HZ2.out | exact HSK.out _ HZ1.out | exact HSK.out _ (Below.refl _ _).drew
      clear hK K
      try simp only [Act.put, List.setIfInBounds_toArray, List.set_cons_zero, List.set_cons_succ]
      refine wpAnyH_take (i := 6) (oi := ?oi8) (v := ?v8) ?hi8 (by kernel_rfl) (by kernel_rfl) (by kernel_rfl) ?hq8 ?hy8 (by assumption) ?hr8
      case hi8 => (simp only [List.getElem?_toArray, List.getElem?_cons_succ, List.getElem?_cons_zero]; rfl)
      case hq8 => exact fun _ _ _ h => h
      case hy8 => exact Or.inl ⟨by rfl, by intro whSw hSw'; (try dsimp only at hSw'); (first | (go_simp; done) | (go_simp; with_reducible rfl))⟩
      try simp only [Act.put, List.setIfInBounds_toArray, List.set_cons_zero, List.set_cons_succ]
      refine wpAnyH_done (by kernel_rfl) ?_ _
      clear HC1 HC2 HSK
      have hro := rows_iv (l := cs1 ++ cs2) (own_eq HO2.out (by rw [List.length_append, HQ1.out, HQ2.out, ← H9.out]; omega) (by simp [iv]))
      have hML : (cs1 ++ cs2).length = M := by rw [List.length_append, HQ1.out, HQ2.out, ← H9.out]; omega
      have hT : (cs1 ++ cs2).sum = vs.length := by rw [HLEN.out, List.sum_append]
      obtain ⟨cs, hcs⟩ : ∃ cs, cs1 ++ cs2 = cs := ⟨_, rfl⟩
      obtain ⟨T, hTT⟩ : ∃ T, vs.length = T := ⟨_, rfl⟩
      rw [hcs] at hro hML hT
      rw [hTT] at hT
      have HLEN2 := Lib.hid hTT
      have HTS := Lib.hid hT
      have hTB : T ≤ 8192 := by rw [← hTT, HLEN.out]; have := HS.out; omega
      have HSUM := Lib.hid (fun k => show (cs.take k).sum ≤ T from by rw [← hT]; exact sum_take_le cs k)
      have HRO := Lib.hid (fun W (hb : Below w2.heap.size w2 W) => hro.below stays_int hb)
      have HML := Lib.hid hML
      have hMB : M ≤ 2048 := by rw [← H9.out]; omega
      have HB2 := Lib.hid (HBW.out.trans (HZ2.out.mono HBW.out.size))
      clear hro hML hT hcs hTT HO2 H9
      go_wp2_with fail
      go_loopw [8, 37] (fun zv iv wr => ∃ k : Nat, k ≤ M ∧ iv = .int .i64 k ∧ zv = .int .i64 ((cs.take k).sum : Nat) ∧ Hid (Below w2.heap.size w2 wr)) (fun _ i _ => M - (Go.RowKit.intOf i).toNat)
      case atStart => exact ⟨0, Nat.zero_le _, rfl, rfl, Lib.hid (Below.refl _ _)⟩
      case round =>
        obtain ⟨k, hk, rfl, rfl, HB⟩ := hrel
        by_cases hlt : k < M
        · have hlti : (k : Int) < (M : Int) := by omega
          obtain ⟨c, hc⟩ : ∃ c, cs[k]? = some c := ⟨_, List.getElem?_eq_getElem (by rw [HML.out]; exact hlt)⟩
          obtain ⟨bk, off, rfl, -, hj⟩ := at_int (HRO.out wr HB.out) (by rw [List.length_map, HML.out]; omega)
          have u0 := hj k (c : Int) (by rw [List.getElem?_map, hc]; rfl)
          have hnx : (cs.take (k + 1)).sum = (cs.take k).sum + c := by rw [List.take_add_one, hc]; simp
          have hle := HSUM.out (k + 1)
          rw [hnx] at hle
          obtain ⟨z, hz⟩ : ∃ z, (cs.take k).sum = z := ⟨_, rfl⟩
          rw [hz] at hnx hle ⊢
          have HX' := Lib.hid hnx
          have hww : IntKind.i64.wrap ((z : Int) + (c : Int)) = (z : Int) + (c : Int) := by rw [IntKind.wrap_i64]; omega
          clear hnx hj hc hz
          go_wp2_with fail
          exact ⟨⟨k + 1, by omega, by go_num, by rw [HX'.out]; rfl, HB⟩, by simp only [Go.RowKit.intOf]; omega⟩
        · obtain rfl : k = M := by omega
          have hlti : ¬ (k : Int) < (k : Int) := by omega
          have hall : (cs.take k).sum = T := by rw [List.take_of_length_le (by rw [HML.out]; exact Nat.le_refl _)]; exact HTS.out
          rw [hall]
          clear hall HRO HSUM
          have HB1 := Lib.hid (HZ2.out.trans (HB.out.mono HZ2.out.size))
          have HBR := Lib.hid (HB2.out.trans (HB.out.mono HB2.out.size))
          clear HB HB2 HZ2
          by_cases hbig : 4096 < T
          · have hbigI : (4096 : Int) < (T : Int) := by omega
            have hE : buildE vs = 2 := by unfold buildE; rw [if_pos (by rw [HLEN2.out]; omega)]
            have HE := Lib.hid hE
            have hbz := HZ.out wr HB1.out
            have HBZ := Lib.hid hbz
            have r0 : wr.cell? ⟨N + 2, 0, none⟩ = some (.slice none 0 0) := cell_of hbz rfl
            have r1 : wr.cell? ⟨N + 2, 1, none⟩ = some (.slice none 0 0) := cell_of hbz rfl
            have f0 : wr.frozen? ⟨N + 2, 0, none⟩ = false := frozen_of hbz
            have f1 : wr.frozen? ⟨N + 2, 1, none⟩ = false := frozen_of hbz
            clear hE hbz
            go_wp2_with fail
            refine bodyPost_ret (refM_results rfl rfl rfl rfl (by have := set_of (set_of HBZ.out (i := 0) (.slice none 0 0)) (i := 1) (.slice none 0 0); exact this)) rfl ?_
            exact ⟨(HBR.out.setCell (p := ⟨N + 2, 0, none⟩) (by rw [HN.out]; show N ≤ N + 2; omega) _).setCell (p := ⟨N + 2, 1, none⟩) (by rw [HN.out]; show N ≤ N + 2; omega) _, .inl ⟨by rw [HE.out]; decide, by rw [HE.out]; rfl⟩⟩
          · have hbigI : ¬ (4096 : Int) < (T : Int) := by omega
            have hbx := HX.out wr HB1.out
            have hby := HY.out wr HB1.out
            have x0 : wr.cell? ⟨N, 0, none⟩ = some (.slice A1 m1 c1) := cell_of hbx rfl
            have x1 : wr.cell? ⟨N, 1, none⟩ = some (.slice A2 m1 c2) := cell_of hbx rfl
            have y0 : wr.cell? ⟨N + 1, 0, none⟩ = some (.slice B1 m2 d1) := cell_of hby rfl
            have y1 : wr.cell? ⟨N + 1, 1, none⟩ = some (.slice B2 m2 d2) := cell_of hby rfl
            obtain ⟨W3, hW3⟩ : ∃ W3, wr.alloc (.cells #[.slice A1 m1 c1, .slice A2 m1 c2, .slice B1 m2 d1, .slice B2 m2 d2] 33) = W3 := ⟨_, rfl⟩
            obtain ⟨NB, hNB⟩ : ∃ NB, wr.heap.size = NB := ⟨_, rfl⟩
            have HW3 := Lib.hid hW3
            have HNB := Lib.hid hNB
            clear hbx hby hW3 hNB
            have hb3 : Below wr.heap.size wr W3 := by rw [← HW3.out]; exact below_box _ _
            have hB3 : W3.heap[NB]? = some (.cells #[.slice A1 m1 c1, .slice A2 m1 c2, .slice B1 m2 d1, .slice B2 m2 d2] 33 (0, 0)) := by rw [← HW3.out, ← HNB.out]; exact block_new _ _
            have h13 : Below W1.heap.size W1 W3 := HB1.out.trans (hb3.mono HB1.out.size)
            have H13 := Lib.hid h13
            have HP := Lib.hid (show ∀ k, k < 2 → ∃ (E1 : Option Addr) (n e1 : Nat) (E2 : Option Addr) (e2 : Nat) (ws : List Wd) (cs : List Nat), LexOk ws cs ∧ ws.length = n ∧ (∀ W, Below W3.heap.size W3 W → W.cell? ⟨NB, k * 2, none⟩ = some (.slice E1 n e1) ∧ W.cell? ⟨NB, k * 2 + 1, none⟩ = some (.slice E2 n e2)) ∧
                (∀ W, Below W3.heap.size W3 W → Rows 1 EStr W (.slice E1 n e1) ws) ∧ (∀ W, Below W3.heap.size W3 W → Rows 1 EInt W (.slice E2 n e2) (intsN cs)) ∧ cutL (valsL ws1 cs1) vs (k + 1) = cutL (valsL ws1 cs1) vs k ++ valsL ws cs ∧ (cutL (valsL ws1 cs1) vs k).length ≤ 8192 from fun k hk => by
              have hlt := (Array.getElem?_eq_some_iff.1 hB3).1
              match k, hk with
              | 0, _ => exact ⟨A1, m1, c1, A2, c2, ws1, cs1, HOK.out.1, HM1.out, fun W hb => ⟨cell_of (block_below hB3 hb hlt) rfl, cell_of (block_below hB3 hb hlt) rfl⟩, fun W hb => HRW1.out W (h13.trans (hb.mono h13.size)), fun W hb => HRC1.out W (h13.trans (hb.mono h13.size)), rfl, Nat.zero_le _⟩
              | 1, _ => exact ⟨B1, m2, d1, B2, d2, ws2, cs2, HOK.out.2, HM2.out, fun W hb => ⟨cell_of (block_below hB3 hb hlt) rfl, cell_of (block_below hB3 hb hlt) rfl⟩, fun W hb => HRW2.out W (h13.trans (hb.mono h13.size)), fun W hb => HRC2.out W (h13.trans (hb.mono h13.size)), HVS.out.symm, by
                show (valsL ws1 cs1).length ≤ 8192
                rw [valsL_len HOK.out.1.len]
                have := HS.out.1
                omega⟩)
            have HB3 := Lib.hid (HBR.out.trans (hb3.mono HBR.out.size))
            have HST0 := Lib.hid (show ValsI W3 W3 (.slice none 0 0) (cutL (valsL ws1 cs1) vs 0) from ⟨World.ownsRow_nil _ _ _ _, Below.refl _ _⟩)
            obtain ⟨L, hL⟩ : ∃ L : Nat → List Wd, cutL (valsL ws1 cs1) vs = L := ⟨_, rfl⟩
            have HL2 := Lib.hid (show L 2 = vs from by rw [← hL]; rfl)
            rw [hL] at HP HST0
            clear hb3 hB3 h13 hL HBR
            go_wp2_with fail
            rw [HW3.out, HNB.out]
            clear x0 x1 y0 y1 HW3
            go_loopw [11, 52] (fun av iv wr => ∃ (k : Nat) (lv : Value), k ≤ 2 ∧ iv = .int .i64 k ∧ lv = av ∧ Hid (ValsI W3 wr lv (L k))) (fun _ i _ => 2 - (Go.RowKit.intOf i).toNat)
            case atStart => exact ⟨0, _, Nat.zero_le _, rfl, rfl, HST0⟩
            case round =>
              clear HST0
              obtain ⟨q, lv, hq, rfl, rfl, HI⟩ := hrel
              by_cases hq2 : q < 2
              · have hqi : (q : Int) < 2 := by omega
                obtain ⟨E1, n, e1, E2, e2, ws, ks, hok, hwl, hcl, hrW, hrC, hst, hcap⟩ := HP.out q hq2
                have hnl := hok.len
                have hnf := hok.few
                have hns := hok.sum
                rw [hwl] at hnl hnf
                have HALL := Lib.hid (valsT_all hok.len)
                rw [hwl] at HALL
                have HVT := Lib.hid (fun i => show (valsT ws ks i).length ≤ 4096 from Nat.le_trans (valsT_len hok.len i) hns)
                have HSC := Lib.hid (fun (i : Nat) (x : Wd) (c : Nat) (h1 : ws[i]? = some x) (h2 : ks[i]? = some c) => valsT_succ h1 h2)
                have HKS := Lib.hid (fun (c : Nat) (h2 : c ∈ ks) => Nat.le_trans (mem_sum_le ks c h2) hns)
                have HWL := Lib.hid hwl
                have HNL := Lib.hid hnl
                have HST := Lib.hid hst
                have HRW := Lib.hid hrW
                have HRC := Lib.hid hrC
                obtain ⟨z0, z1⟩ := hcl wr HI.out.below
                obtain ⟨W4, hW4⟩ : ∃ W4, wr.alloc (.cells #[.slice E1 n e1, .slice E2 n e2] 33) = W4 := ⟨_, rfl⟩
                obtain ⟨NX, hNX⟩ : ∃ NX, wr.heap.size = NX := ⟨_, rfl⟩
                have HI4 := Lib.hid (show ValsI W3 W4 lv (L q ++ valsT ws ks 0) ∧ W4.heap[NX]? = some (.cells #[.slice E1 n e1, .slice E2 n e2] 33 (0, 0)) from by
                  rw [valsT_zero, List.append_nil, ← hW4, ← hNX]
                  exact ⟨⟨HI.out.own.alloc _, HI.out.below.alloc HI.out.below.size _⟩, block_new _ _⟩)
                have HW4 := Lib.hid hW4
                have HNX := Lib.hid hNX
                clear hok hwl hnl hns hst hrW hrC hcl hW4 hNX HI
                go_wp2_with fail
                rw [HW4.out, HNX.out]
                clear HW4 HNX z0 z1
                go_loopw [11, 59] (fun av iv wr => ∃ (i : Nat) (lv : Value), i ≤ n ∧ iv = .int .i64 i ∧ lv = av ∧ Hid (ValsI W3 wr lv (L q ++ valsT ws ks i) ∧ wr.heap[NX]? = some (.cells #[.slice E1 n e1, .slice E2 n e2] 33 (0, 0)))) (fun _ i _ => n - (Go.RowKit.intOf i).toNat)
                case atStart => exact ⟨0, _, Nat.zero_le _, rfl, rfl, HI4⟩
                case round =>
                  clear HI4
                  obtain ⟨i, lv, hi, rfl, rfl, HI⟩ := hrel
                  by_cases hlt2 : i < n
                  · have hli : (i : Int) < (n : Int) := by omega
                    obtain ⟨x, hx⟩ : ∃ x, ws[i]? = some x := ⟨_, List.getElem?_eq_getElem (by rw [HWL.out]; exact hlt2)⟩
                    obtain ⟨c, hc⟩ : ∃ c, ks[i]? = some c := ⟨_, List.getElem?_eq_getElem (by rw [HNL.out]; exact hlt2)⟩
                    obtain ⟨b1, g1, rfl, -, hj1⟩ := at_str (HRW.out wr HI.out.1.below) (by rw [HWL.out]; omega)
                    have u1 := hj1 i x hx
                    have hc4 := HKS.out c (List.mem_of_getElem? hc)
                    have HCC := Lib.hid hc
                    have HSCC := Lib.hid (HSC.out i x c hx hc)
                    obtain ⟨T', hT'⟩ : ∃ T' : ByteArray, (⟨x.toArray⟩ : ByteArray) = T' := ⟨_, rfl⟩
                    have HTX := Lib.hid hT'
                    rw [hT'] at u1
                    have HI0 := Lib.hid (show ValsI W3 wr lv ((L q ++ valsT ws ks i) ++ List.replicate 0 x) ∧ wr.heap[NX]? = some (.cells #[.slice (some ⟨b1, g1, none⟩) n e1, .slice E2 n e2] 33 (0, 0)) from by
                      rw [List.replicate_zero, List.append_nil]
                      exact HI.out)
                    have HCAP := Lib.hid (show (L q ++ valsT ws ks i).length ≤ 12288 from by
                      rw [List.length_append]
                      have := HVT.out i
                      omega)
                    obtain ⟨Z, hZ⟩ : ∃ Z, L q ++ valsT ws ks i = Z := ⟨_, rfl⟩
                    rw [hZ] at HI0 HCAP
                    have HZ' := Lib.hid hZ
                    clear hj1 hx hc hT' HI hZ
                    go_wp2_with fail
                    go_loopw [11, 16] (fun av jv wr => ∃ (j : Nat) (lv : Value), j ≤ c ∧ jv = .int .i64 j ∧ lv = av ∧ Hid (ValsI W3 wr lv (Z ++ List.replicate j x) ∧ wr.heap[NX]? = some (.cells #[.slice (some ⟨b1, g1, none⟩) n e1, .slice E2 n e2] 33 (0, 0)))) (fun _ j _ => c - (Go.RowKit.intOf j).toNat)
                    case atStart => exact ⟨0, _, Nat.zero_le _, rfl, rfl, HI0⟩
                    case round =>
                      clear HI0 u1
                      obtain ⟨j, lv, hjc, rfl, rfl, HJ⟩ := hrel
                      obtain ⟨b2, g2, rfl, -, hj2⟩ := at_int (HRC.out wr HJ.out.1.below) (by rw [List.length_map, HNL.out]; omega)
                      have u2 := hj2 i (c : Int) (by rw [List.getElem?_map, HCC.out]; rfl)
                      have k1 : wr.cell? ⟨NX, 1, none⟩ = some (.slice (some ⟨b2, g2, none⟩) n e2) := cell_of HJ.out.2 rfl
                      clear hj2
                      by_cases hlt3 : j < c
                      · have hlj : (j : Int) < (c : Int) := by omega
                        have hown := HJ.out.1.own
                        have HNB3 := Lib.hid HJ.out.1.below.size
                        obtain ⟨Y, hY⟩ : ∃ Y, (Z ++ List.replicate j x).length = Y := ⟨_, rfl⟩
                        rw [hY] at hown
                        have hYB : Y ≤ 1000000 := by
                          rw [← hY, List.length_append, List.length_replicate]
                          have := HCAP.out
                          omega
                        have HOWN := Lib.hid hown
                        have HY' := Lib.hid hY
                        clear hown hY
                        go_wp2_with (at_builtin; refine wpList_pushB rfl (.tmp 73) (.tmp 75) rfl W3.heap.size _ Y _ T' rfl rfl HOWN.out hYB HNB3.out ?_; intro v' w5 ho hg hk)
                        have HNX2 := Lib.hid (show ValsI W3 w5 v' (Z ++ List.replicate (j + 1) x) ∧ w5.heap[NX]? = some (.cells #[.slice (some ⟨b1, g1, none⟩) n e1, .slice (some ⟨b2, g2, none⟩) n e2] 33 (0, 0)) from ⟨⟨by
                          have h := ho.out
                          have e : (Z ++ List.replicate (j + 1) x).length = Y + 1 := by
                            have := HY'.out
                            rw [List.length_append, List.length_replicate] at this ⊢
                            omega
                          rw [e, List.replicate_succ', ← List.append_assoc, sv_app]
                          rw [show sv [x] = [Value.string T'] from by rw [← HTX.out]; rfl]
                          exact h, hg.out _ _ HJ.out.1.below (Nat.le_refl _)⟩, hk.out _ _ HJ.out.2⟩)
                        clear ho hg hk HOWN HY' u2 k1 HJ
                        go_wp2_with fail
                        exact ⟨⟨j + 1, _, by omega, by go_num, rfl, HNX2⟩, by simp only [Go.RowKit.intOf]; omega⟩
                      · obtain rfl : j = c := by omega
                        have hlj : ¬ (j : Int) < (j : Int) := by omega
                        have HNX2 := Lib.hid (show ValsI W3 wr lv (L q ++ valsT ws ks (i + 1)) ∧ wr.heap[NX]? = some (.cells #[.slice (some ⟨b1, g1, none⟩) n e1, .slice (some ⟨b2, g2, none⟩) n e2] 33 (0, 0)) from by
                          rw [HSCC.out, ← List.append_assoc, HZ'.out]
                          exact HJ.out)
                        clear HJ
                        go_wp2_with fail
                        exact ⟨⟨i + 1, _, by omega, by go_num, rfl, HNX2⟩, by simp only [Go.RowKit.intOf]; omega⟩
                  · obtain rfl : i = n := by omega
                    have hli : ¬ (i : Int) < (i : Int) := by omega
                    have HNX2 := Lib.hid (show ValsI W3 wr lv (L (q + 1)) from by
                      rw [HST.out, ← HALL.out]
                      exact HI.out.1)
                    clear HI
                    go_wp2_with fail
                    exact ⟨⟨q + 1, _, by omega, by go_num, rfl, HNX2⟩, by simp only [Go.RowKit.intOf]; omega⟩
              · obtain rfl : q = 2 := by omega
                rw [HL2.out] at HI
                have hqi : ¬ (2 : Int) < 2 := by omega
                have hrv := rows_sv HI.out.own
                have HBB := Lib.hid (refBuild_any hrv (by rw [HLEN2.out]; unfold maxLen; omega) HSH.out)
                obtain ⟨lA, lc, rfl, -, -⟩ := own_form' HI.out.own
                have HBI := Lib.hid HI.out.below
                clear hrv HI HP HL2
                go_wp2_with fail
                refine HBB.out.mono ?_
                rintro e w6 ⟨hb6, hans⟩
                have H16 := Lib.hid (show Below W1.heap.size W1 w6 from H13.out.trans ((HBI.out.trans (hb6.mono HBI.out.size)).mono H13.out.size))
                have HW6 := Lib.hid (show Below w.heap.size w w6 from HB3.out.trans ((HBI.out.trans (hb6.mono HBI.out.size)).mono HB3.out.size))
                rcases hans with ⟨hne, rfl⟩ | ⟨h0, vW, vC, vl, rfl, hrW, hrC, hrl⟩
                · obtain ⟨z, hz⟩ : ∃ z, buildE vs = z := ⟨_, rfl⟩
                  have HZZ := Lib.hid hz
                  rw [hz] at hne ⊢
                  have hne2 : (z != 0) = true := by simpa using hne
                  have HNE := Lib.hid hne
                  obtain ⟨W7, hW7⟩ : ∃ W7, w6.alloc (.cells #[.slice none 0 0, .slice none 0 0] 33) = W7 := ⟨_, rfl⟩
                  have hb7 : Below w6.heap.size w6 W7 := by rw [← hW7]; exact below_box _ _
                  have HW7 := Lib.hid hW7
                  have hbz := HZ.out W7 (H16.out.trans (hb7.mono H16.out.size))
                  have HW8 := Lib.hid (show Below w.heap.size w W7 from HW6.out.trans (hb7.mono HW6.out.size))
                  have HBZ := Lib.hid hbz
                  have r0 : W7.cell? ⟨N + 2, 0, none⟩ = some (.slice none 0 0) := cell_of hbz rfl
                  have r1 : W7.cell? ⟨N + 2, 1, none⟩ = some (.slice none 0 0) := cell_of hbz rfl
                  have f0 : W7.frozen? ⟨N + 2, 0, none⟩ = false := frozen_of hbz
                  have f1 : W7.frozen? ⟨N + 2, 1, none⟩ = false := frozen_of hbz
                  clear hb6 hz hne hb7 hbz hW7 HBB
                  go_upto_region 23 with fail
                  rw [HW7.out]
                  go_wp2_with fail
                  refine bodyPost_ret (refM_results rfl rfl rfl rfl (by have := set_of (set_of HBZ.out (i := 0) (.slice none 0 0)) (i := 1) (.slice none 0 0); exact this)) rfl ?_
                  exact ⟨(HW8.out.setCell (p := ⟨N + 2, 0, none⟩) (by rw [HN.out]; show N ≤ N + 2; omega) _).setCell (p := ⟨N + 2, 1, none⟩) (by rw [HN.out]; show N ≤ N + 2; omega) _, .inl ⟨by rw [HZZ.out]; exact HNE.out, by rw [HZZ.out]; rfl⟩⟩
                · have hwl : (lexW vs).length ≤ maxLen := by
                    have h1 := (build_ok h0).2.2.few
                    unfold maxLen
                    omega
                  have hkl : (intsN (cntW vs (lexW vs))).length = (lexW vs).length := by simp [cntW]
                  obtain ⟨lw, hlw⟩ : ∃ lw, lexW vs = lw := ⟨_, rfl⟩
                  obtain ⟨kw, hkw⟩ : ∃ kw, cntW vs lw = kw := ⟨_, rfl⟩
                  rw [hlw] at hwl hkl hrW hrC
                  rw [hkw] at hkl hrC
                  have HWC := Lib.hid (And.intro hlw hkw)
                  obtain ⟨G1, h1, rfl, -⟩ := hrW.form
                  obtain ⟨G2, h2, rfl, -⟩ := hrC.form
                  obtain ⟨G3, h3, rfl, -⟩ := hrl.form
                  rw [hkl] at hrC ⊢
                  obtain ⟨mm, hmm⟩ : ∃ mm, lw.length = mm := ⟨_, rfl⟩
                  have HMM := Lib.hid hwl
                  rw [hmm] at hrW hrC ⊢
                  obtain ⟨ml, hml⟩ : ∃ ml, (intsN (numW vs)).length = ml := ⟨_, rfl⟩
                  rw [hml]
                  obtain ⟨W7, hW7⟩ : ∃ W7, w6.alloc (.cells #[.slice G1 mm h1, .slice G2 mm h2] 33) = W7 := ⟨_, rfl⟩
                  obtain ⟨NM, hNM⟩ : ∃ NM, w6.heap.size = NM := ⟨_, rfl⟩
                  have hb7 : Below w6.heap.size w6 W7 := by rw [← hW7]; exact below_box _ _
                  have hbm : W7.heap[NM]? = some (.cells #[.slice G1 mm h1, .slice G2 mm h2] 33 (0, 0)) := by rw [← hW7, ← hNM]; exact block_new _ _
                  have HW7 := Lib.hid hW7
                  have HNM := Lib.hid hNM
                  have HBM := Lib.hid (fun W (hb : Below W7.heap.size W7 W) => block_below hbm hb (Array.getElem?_eq_some_iff.1 hbm).1)
                  have HGW := Lib.hid (fun W (hb : Below W7.heap.size W7 W) => hrW.below stays_str (hb7.trans (hb.mono hb7.size)))
                  have HGC := Lib.hid (fun W (hb : Below W7.heap.size W7 W) => hrC.below stays_int (hb7.trans (hb.mono hb7.size)))
                  have H17 := Lib.hid (H16.out.trans (hb7.mono H16.out.size))
                  have HW8 := Lib.hid (show Below w.heap.size w W7 from HW6.out.trans (hb7.mono HW6.out.size))
                  have H0 := Lib.hid h0
                  have HFST := Lib.hid (show NumI W7 W7 (.slice none 0 0) ((ws1.take 0).map (fnd lw)) from ⟨World.ownsRow_nil _ _ _ _, Below.refl _ _⟩)
                  have hbx := HX.out W7 H17.out
                  have x0 : W7.cell? ⟨N, 0, none⟩ = some (.slice A1 m1 c1) := cell_of hbx rfl
                  clear hb6 hwl hkl hlw hkw hrW hrC hrl h0 hmm hml hW7 hNM hb7 hbm hbx HBB H16 HW6
                  go_upto_region 23 with fail
                  rw [HW7.out, HNM.out]
                  go_wp2_with fail
                  clear x0 HW7 HNM
                  go_loopw [20, 92] (fun av iv wr => ∃ (k : Nat) (lv : Value), k ≤ m1 ∧ iv = .int .i64 k ∧ lv = av ∧ Hid (NumI W7 wr lv ((ws1.take k).map (fnd lw)))) (fun _ i _ => m1 - (Go.RowKit.intOf i).toNat)
                  case atStart => exact ⟨0, _, Nat.zero_le _, rfl, rfl, HFST⟩
                  case round =>
                    clear HFST
                    obtain ⟨k, lv, hk, rfl, rfl, HI⟩ := hrel
                    by_cases hlt : k < m1
                    · have hli : (k : Int) < (m1 : Int) := by omega
                      obtain ⟨x, hx⟩ : ∃ x, ws1[k]? = some x := ⟨_, List.getElem?_eq_getElem (by rw [HM1.out]; exact hlt)⟩
                      have hbl := HI.out.below
                      obtain ⟨b1, g1, rfl, -, hj1⟩ := at_str (HRW1.out wr (H17.out.trans (hbl.mono H17.out.size))) (by rw [HM1.out]; omega)
                      have u1 := hj1 k x hx
                      have hbm := HBM.out wr hbl
                      have k0 : wr.cell? ⟨NM, 0, none⟩ = some (.slice G1 mm h1) := cell_of hbm rfl
                      have k1 : wr.cell? ⟨NM, 1, none⟩ = some (.slice G2 mm h2) := cell_of hbm rfl
                      have HF := Lib.hid (refFind_any (w := wr) (vc := .slice G2 mm h2) (HGW.out wr hbl) HMM.out x)
                      have HX' := Lib.hid hx
                      obtain ⟨T', hT'⟩ : ∃ T' : ByteArray, (⟨x.toArray⟩ : ByteArray) = T' := ⟨_, rfl⟩
                      rw [hT'] at u1 HF
                      unfold FindV at HF
                      obtain ⟨r, hr⟩ : ∃ r, fnd lw x = r := ⟨_, rfl⟩
                      rw [hr] at HF
                      have HR := Lib.hid hr
                      obtain ⟨bb, hbb⟩ : ∃ bb, decide (lw[r]? = some x) = bb := ⟨_, rfl⟩
                      rw [hbb] at HF
                      clear hj1 hx hbl hbm hT' hr hbb
                      go_wp2_with fail
                      refine HF.out.mono ?_
                      rintro e w8 ⟨rfl, hb8⟩
                      have hown := own_below' (N := 0) HI.out.own hb8
                      have hlen : ((ws1.take k).map (fnd lw)).length = k := by rw [List.length_map, List.length_take, HM1.out]; omega
                      rw [hlen] at hown
                      have HOWN := Lib.hid hown
                      have HB8 := Lib.hid (HI.out.below.trans (hb8.mono HI.out.below.size))
                      have HBS := Lib.hid HB8.out.size
                      have hkB : k ≤ 1000000 := by omega
                      clear hown hlen hb8 HF HI u1 k0 k1
                      go_wp2_with (at_builtin; refine wpList_pushK rfl (.tmp 102) (.tmp 104) rfl W7.heap.size _ k _ (r : Int) rfl rfl HOWN.out hkB HBS.out ?_; intro v' w9 ho hg)
                      have HNX2 := Lib.hid (show NumI W7 w9 v' ((ws1.take (k + 1)).map (fnd lw)) from ⟨by
                        have h := ho.out
                        have e : ((ws1.take (k + 1)).map (fnd lw)).length = k + 1 := by rw [List.length_map, List.length_take, HM1.out]; omega
                        rw [e, List.take_add_one, HX'.out]
                        rw [show (ws1.take k ++ (some x).toList).map (fnd lw) = (ws1.take k).map (fnd lw) ++ [r] from by rw [← HR.out]; simp]
                        rw [show iv ((ws1.take k).map (fnd lw) ++ [r]) = iv ((ws1.take k).map (fnd lw)) ++ [Value.int .i64 (r : Int)] from by simp [iv]]
                        exact h, hg.out _ _ HB8.out (Nat.le_refl _)⟩)
                      clear ho hg HOWN HB8 HBS
                      go_wp2_with fail
                      exact ⟨⟨k + 1, _, by omega, by go_num, rfl, HNX2⟩, by simp only [Go.RowKit.intOf]; omega⟩
                    · obtain rfl : k = m1 := by omega
                      have hli : ¬ (k : Int) < (k : Int) := by omega
                      have hr1 := rows_iv HI.out.own
                      rw [List.take_of_length_le (by rw [HM1.out]; exact Nat.le_refl _)] at hr1
                      obtain ⟨F1, f1, rfl, -⟩ := hr1.form
                      have hL1 : (intsN (ws1.map (fnd lw))).length = k := by rw [List.length_map, List.length_map, HM1.out]
                      rw [hL1] at hr1 ⊢
                      have HR1 := Lib.hid (fun W (hb : Below wr.heap.size wr W) => hr1.below stays_int hb)
                      have H78 := Lib.hid HI.out.below
                      have hby := HY.out wr (H17.out.trans (HI.out.below.mono H17.out.size))
                      have y0 : wr.cell? ⟨N + 1, 0, none⟩ = some (.slice B1 m2 d1) := cell_of hby rfl
                      have HSND := Lib.hid (show NumI wr wr (.slice none 0 0) ((ws2.take 0).map (fnd lw)) from ⟨World.ownsRow_nil _ _ _ _, Below.refl _ _⟩)
                      obtain ⟨W8, hW8⟩ : ∃ W8, wr = W8 := ⟨_, rfl⟩
                      rw [hW8] at HSND HR1 H78 y0 ⊢
                      clear hr1 hL1 hby HI hW8
                      go_wp2_with fail
                      clear y0
                      go_loopw [21, 110] (fun av iv wr => ∃ (k : Nat) (lv : Value), k ≤ m2 ∧ iv = .int .i64 k ∧ lv = av ∧ Hid (NumI W8 wr lv ((ws2.take k).map (fnd lw)))) (fun _ i _ => m2 - (Go.RowKit.intOf i).toNat)
                      case atStart => exact ⟨0, _, Nat.zero_le _, rfl, rfl, HSND⟩
                      case round =>
                        clear HSND
                        obtain ⟨k, lv, hk, rfl, rfl, HI⟩ := hrel
                        by_cases hlt : k < m2
                        · have hli : (k : Int) < (m2 : Int) := by omega
                          obtain ⟨x, hx⟩ : ∃ x, ws2[k]? = some x := ⟨_, List.getElem?_eq_getElem (by rw [HM2.out]; exact hlt)⟩
                          have hbl := H78.out.trans (HI.out.below.mono H78.out.size)
                          obtain ⟨b1, g1, rfl, -, hj1⟩ := at_str (HRW2.out wr (H17.out.trans (hbl.mono H17.out.size))) (by rw [HM2.out]; omega)
                          have u1 := hj1 k x hx
                          have hbm := HBM.out wr hbl
                          have k0 : wr.cell? ⟨NM, 0, none⟩ = some (.slice G1 mm h1) := cell_of hbm rfl
                          have k1 : wr.cell? ⟨NM, 1, none⟩ = some (.slice G2 mm h2) := cell_of hbm rfl
                          have HF := Lib.hid (refFind_any (w := wr) (vc := .slice G2 mm h2) (HGW.out wr hbl) HMM.out x)
                          have HX' := Lib.hid hx
                          obtain ⟨T', hT'⟩ : ∃ T' : ByteArray, (⟨x.toArray⟩ : ByteArray) = T' := ⟨_, rfl⟩
                          rw [hT'] at u1 HF
                          unfold FindV at HF
                          obtain ⟨r, hr⟩ : ∃ r, fnd lw x = r := ⟨_, rfl⟩
                          rw [hr] at HF
                          have HR := Lib.hid hr
                          obtain ⟨bb, hbb⟩ : ∃ bb, decide (lw[r]? = some x) = bb := ⟨_, rfl⟩
                          rw [hbb] at HF
                          clear hj1 hx hbl hbm hT' hr hbb
                          go_wp2_with fail
                          refine HF.out.mono ?_
                          rintro e w8 ⟨rfl, hb8⟩
                          have hown := own_below' (N := 0) HI.out.own hb8
                          have hlen : ((ws2.take k).map (fnd lw)).length = k := by rw [List.length_map, List.length_take, HM2.out]; omega
                          rw [hlen] at hown
                          have HOWN := Lib.hid hown
                          have HB8 := Lib.hid (HI.out.below.trans (hb8.mono HI.out.below.size))
                          have HBS := Lib.hid HB8.out.size
                          have hkB : k ≤ 1000000 := by omega
                          clear hown hlen hb8 HF HI u1 k0 k1
                          go_wp2_with (at_builtin; refine wpList_pushK rfl (.tmp 120) (.tmp 122) rfl W8.heap.size _ k _ (r : Int) rfl rfl HOWN.out hkB HBS.out ?_; intro v' w9 ho hg)
                          have HNX2 := Lib.hid (show NumI W8 w9 v' ((ws2.take (k + 1)).map (fnd lw)) from ⟨by
                            have h := ho.out
                            have e : ((ws2.take (k + 1)).map (fnd lw)).length = k + 1 := by rw [List.length_map, List.length_take, HM2.out]; omega
                            rw [e, List.take_add_one, HX'.out]
                            rw [show (ws2.take k ++ (some x).toList).map (fnd lw) = (ws2.take k).map (fnd lw) ++ [r] from by rw [← HR.out]; simp]
                            rw [show iv ((ws2.take k).map (fnd lw) ++ [r]) = iv ((ws2.take k).map (fnd lw)) ++ [Value.int .i64 (r : Int)] from by simp [iv]]
                            exact h, hg.out _ _ HB8.out (Nat.le_refl _)⟩)
                          clear ho hg HOWN HB8 HBS
                          go_wp2_with fail
                          exact ⟨⟨k + 1, _, by omega, by go_num, rfl, HNX2⟩, by simp only [Go.RowKit.intOf]; omega⟩
                        · obtain rfl : k = m2 := by omega
                          have hli : ¬ (k : Int) < (k : Int) := by omega
                          have hr2 := rows_iv HI.out.own
                          rw [List.take_of_length_le (by rw [HM2.out]; exact Nat.le_refl _)] at hr2
                          obtain ⟨F2, f2, rfl, -⟩ := hr2.form
                          have hL2 : (intsN (ws2.map (fnd lw))).length = k := by rw [List.length_map, List.length_map, HM2.out]
                          rw [hL2] at hr2 ⊢
                          have H79 := Lib.hid (H78.out.trans (HI.out.below.mono H78.out.size))
                          have hbm := HBM.out wr H79.out
                          have k0 : wr.cell? ⟨NM, 0, none⟩ = some (.slice G1 mm h1) := cell_of hbm rfl
                          have k1 : wr.cell? ⟨NM, 1, none⟩ = some (.slice G2 mm h2) := cell_of hbm rfl
                          have hbz := HZ.out wr (H17.out.trans (H79.out.mono H17.out.size))
                          have HBZ := Lib.hid hbz
                          have r0 : wr.cell? ⟨N + 2, 0, none⟩ = some (.slice none 0 0) := cell_of hbz rfl
                          have r1 : wr.cell? ⟨N + 2, 1, none⟩ = some (.slice none 0 0) := cell_of hbz rfl
                          have f0 : wr.frozen? ⟨N + 2, 0, none⟩ = false := frozen_of hbz
                          have f1 : wr.frozen? ⟨N + 2, 1, none⟩ = false := frozen_of hbz
                          have HR2 := Lib.hid hr2
                          have HR1' := Lib.hid (HR1.out wr HI.out.below)
                          clear hr2 hL2 hbm hbz HI
                          go_wp2_with fail
                          refine bodyPost_ret (refM_results rfl rfl rfl rfl (by have := set_of (set_of HBZ.out (i := 0) (.slice G1 mm h1)) (i := 1) (.slice G2 mm h2); exact this)) rfl ?_
                          have ho := off_two wr (N + 2) (.slice G1 mm h1) (.slice G2 mm h2)
                          refine ⟨((HW8.out.trans (H79.out.mono HW8.out.size)).setCell (p := ⟨N + 2, 0, none⟩) (by rw [HN.out]; show N ≤ N + 2; omega) _).setCell (p := ⟨N + 2, 1, none⟩) (by rw [HN.out]; show N ≤ N + 2; omega) _, .inr ⟨H0.out, _, _, _, _, rfl, ?_, ?_, ?_, ?_⟩⟩
                          · rw [HWC.out.1]
                            exact str_off HBZ.out ho (HGW.out wr H79.out)
                          · rw [HWC.out.1, HWC.out.2]
                            exact int_off HBZ.out ho (HGC.out wr H79.out)
                          · rw [HWC.out.1]
                            exact int_off HBZ.out ho HR1'.out
                          · rw [HWC.out.1]
                            exact int_off HBZ.out ho HR2.out
    exact AllReadyH.nil
  exact AllReadyH.nil
end Lm
end Go.Proofs.Yteennnhinfnahaa
