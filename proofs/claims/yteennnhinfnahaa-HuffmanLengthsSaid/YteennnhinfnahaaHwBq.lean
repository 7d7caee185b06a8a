/-
  MEMORY for the reference's Lengths of package huffman: parts of rows of items, appended at a step of a region that draws its order; what the items point to.
-/
import Derived.Test.YteennnhinfnahaaHwMq
namespace Go.Proofs.Yteennnhinfnahaa
open Go.RowKit Go.Shelf Go.Lib
set_option linter.unusedVariables false
set_option linter.unusedSimpArgs false

/-- A value that reads as items. -/
def SeesT (w : World) (v : Value) (xs : List ItH) : Prop :=
  (xs = [] ∧ v = .slice none 0 0) ∨ ∃ ad c, v = .slice (some ad) xs.length c ∧ ∀ (j : Nat) (u : Value), (xs.flatMap itVR)[j]? = some u → w.cell? (ad.add j) = some u
theorem itVR_one (xs : List ItH) : ∀ u ∈ xs.flatMap itVR, u.oneCell' = true := fun u hu => by
  obtain ⟨x, _, hx⟩ := List.mem_flatMap.1 hu
  simp only [itVR, List.mem_cons, List.not_mem_nil, or_false] at hx
  rcases hx with rfl | rfl | rfl <;> rfl
/-- append of items that are read to a row of the call's own, at a step of a region that draws its order. -/
theorem step_append_T {w : World} {ops : Array Oper} {o : Oper} {a : Act} {K : Act → World → Prop} {Q : Exit → Act → World → Prop} {E : Prop} (hgd : o.guard = none) (s x : Operand)
    (ho : o.op = .call { callee := .builtin .append, args := #[s, x], argTypes := #[50, 50] })
    (base : Nat) (v : Value) (F : List ItH) (hs : a.eval s = v) (hown : w.ownsRow base 52 3 v F.length (F.flatMap itVR))
    (vx : Value) (G : List ItH) (hx : a.eval x = vx) (hn : SeesT w vx G) (h63 : F.length + G.length ≤ 100000) (hbase : base ≤ w.heap.size)
    (h : ∀ v' w', w'.ownsRow base 52 3 v' (F ++ G).length ((F ++ G).flatMap itVR) → w.grownBy w' v.ownBlock → (∀ k, v'.ownBlock = some k → v.ownBlock = some k ∨ w.heap.size ≤ k) → K (a.put o.dst v') w') :
    if Region.wanted o (yielded ops a.tmps) = true then Oper.wp Try.prog o a w K Q else E := by
  obtain ⟨i0, hi, hz0, hz1, hz2⟩ := info_parts' infoItR
  have hw : Region.wanted o (yielded ops a.tmps) = true := by simp [Region.wanted, hgd]
  rw [if_pos hw]
  rcases hn with ⟨rfl, rfl⟩ | ⟨ad, c, rfl, hj⟩
  · have hrun := run_append_owned_none (P := Try.prog) (w := w) base 50 o.type 52 i0 3 Try.underlying50 hi v F.length _ hown
    have h' := h v w (by rw [List.append_nil]; exact hown) (World.grownBy.refl w _) (fun k hk => .inl hk)
    unfold Oper.wp
    simp [execOp, ho, resolve, invoke, builtin, hs, hx, hrun, Result.andThen]
    exact h'
  · obtain ⟨v', w', hr, h2, h3, _, h5⟩ := run_append_own_at (P := Try.prog) (w := w) base 50 o.type 52 i0 _ 3 40 Try.underlying50 hi hz0 hz1 hz2 rfl (by decide) v F.length _ hown ad G.length c (G.flatMap itVR) (flatM_len itVR_len G) hj (itVR_one G) (by unfold maxLen; omega) (by omega) hbase
    unfold Oper.wp execOp
    simp only [ho, resolve, invoke, builtin, Sem.run_bind, Sem.run_pure, Result.andThen_ok, List.map_toArray, List.map_cons, List.map_nil, hs, hx, hr]
    refine h v' w' ?_ h3 fun k hk => ?_
    · rw [List.length_append, List.flatMap_append]
      exact h2
    · rcases h5 with h6 | h6
      · exact .inl (by rw [← h6]; exact hk)
      · rw [h6] at hk
        injection hk with hk
        exact .inr (by omega)
theorem SeesT.nil (w : World) : SeesT w (.slice none 0 0) [] := .inl ⟨rfl, rfl⟩
theorem SeesT.keep {w w' : World} {v : Value} {xs : List ItH} (h : SeesT w v xs) (hk : ∀ p : Addr, (∃ u, w.cell? p = some u) → w'.cell? p = w.cell? p) : SeesT w' v xs := by
  rcases h with h | ⟨ad, c, hv, hj⟩
  · exact .inl h
  · exact .inr ⟨ad, c, hv, fun j u hu => (hk _ ⟨u, hj j u hu⟩).trans (hj j u hu)⟩
/-- The cells that an item points to: how often each symbol occurs in its tree. -/
structure GoodP (c : Nat → Nat) (n D : Nat) (w : World) (p : IP) : Prop where
  wt : p.1.wt = p.2.wt c
  ln : p.1.n = n
  ne : p.1.b ≠ D
  oc : w.heap[p.1.b]? = some (.cells (intRow ((occR n p.2).map fun (j : Nat) => (j : Int))) 3 (0, 0))
theorem GoodP.keep {c : Nat → Nat} {n D : Nat} {w w' : World} {p : IP} (h : GoodP c n D w p) (hk : ∀ k, k < w.heap.size → k ≠ D → (∃ cur, w.heap[k]? = some (.cells cur 3 (0, 0))) → w'.heap[k]? = w.heap[k]?) : GoodP c n D w' p :=
  ⟨h.wt, h.ln, h.ne, (hk _ (Array.getElem?_eq_some_iff.1 h.oc).1 h.ne ⟨_, h.oc⟩).trans h.oc⟩
/-- How often symbol s occurs in the item's tree, as it is read. -/
theorem GoodP.cell {c : Nat → Nat} {n D s : Nat} {w : World} {p : IP} (h : GoodP c n D w p) (hs : s < n) : w.cell? ⟨p.1.b, s, none⟩ = some (.int .i64 (p.2.occ s : Nat)) := by
  refine cell_of h.oc ?_
  have hl : s < ((occR n p.2).map fun (j : Nat) => (j : Int)).length := by rw [List.length_map, occR_len]; exact hs
  rw [intRow_get hl, List.getD_eq_getElem?_getD, List.getElem?_map, occR_at _ hs]
  rfl
theorem slice_toT (A : Option Addr) (n cap k : Nat) (hk : k ≤ n) (hn : n ≤ cap) (w : World) : (Instr.slice 50 (.slice A n cap) none (some (.int .i64 (k : Int))) none).run Try.prog w = .ok (.slice A k cap) w := by
  rw [run_slice_h w 50 _ _ _ (by kernel_rfl) .i64 k (by omega) (by omega)]
  have hz1 : (sizeOf (Try.prog.elem 50)).run Try.prog w = .ok 3 w := by kernel_rfl
  rw [hz1]
  cases A with
  | none => simp [Result.andThen, sliced]
  | some ad =>
    have h0 : ad.add 0 = ad := by simp [Addr.add]
    simp [Result.andThen, sliced, h0]
theorem own_rowsT {w : World} {base : Nat} {v : Value} {xs : List ItH} (h : w.ownsRow base 52 3 v xs.length (xs.flatMap itVR)) : Rows 3 EItR w v xs := rows_of_own (enc := itVR) itVR_len h
theorem own_formT {w : World} {base : Nat} {v : Value} {xs : List ItH} (h : w.ownsRow base 52 3 v xs.length (xs.flatMap itVR)) : v = .slice none 0 0 ∨ ∃ ad n c, v = .slice (some ad) n c := by
  rcases h.2 with ⟨rfl, _⟩ | ⟨g, cap, cur, rfl, _⟩
  · exact .inl rfl
  · exact .inr ⟨_, _, _, rfl⟩
/-- The first k items of an own row, read. -/
theorem seesT_to {w : World} {base n cap k : Nat} {A : Option Addr} {xs : List ItH} (h : w.ownsRow base 52 3 (.slice A n cap) xs.length (xs.flatMap itVR)) (hk : k ≤ n) (hn : n = xs.length) : SeesT w (.slice A k cap) (xs.take k) := by
  rcases h.2 with ⟨hv, h0⟩ | ⟨g, cap', cur, hv, hb, hh, hc, hm, hs, ht⟩
  · cases hv
    have hk0 : k = 0 := by omega
    subst hk0
    exact .inl ⟨by simp, rfl⟩
  · cases hv
    refine .inr ⟨⟨g, 0, none⟩, cap, by rw [List.length_take]; congr 1; omega, fun j u hu => ?_⟩
    have hjl : j < (xs.take k).length * 3 := by
      have h1 := (List.getElem?_eq_some_iff.1 hu).1
      rw [flatM_len itVR_len] at h1
      exact h1
    have e1 : (xs.flatMap itVR)[j]? = some u := by
      have e2 : xs.flatMap itVR = (xs.take k).flatMap itVR ++ (xs.drop k).flatMap itVR := by rw [← List.flatMap_append, List.take_append_drop]
      rw [e2, List.getElem?_append_left (by rw [flatM_len itVR_len]; exact hjl)]
      exact hu
    have hj2 : j < xs.length * 3 := by rw [List.length_take] at hjl; omega
    have hcell := h.cellAt j hj2
    have ha : (⟨g, 0, none⟩ : Addr).add j = ⟨g, j, none⟩ := by unfold Addr.add; split <;> simp_all
    rw [ha, hcell]
    exact e1
/-- The items behind the first k of an own row, read. -/
theorem seesT_from {w : World} {base n cap k : Nat} {A : Option Addr} {xs : List ItH} (h : w.ownsRow base 52 3 (.slice A n cap) xs.length (xs.flatMap itVR)) (hk : k ≤ n) (hn : n = xs.length) : SeesT w (sliced A k n cap 3) (xs.drop k) := by
  have hz : A = none → cap = 0 := fun e => by
    rcases own_formT h with h1 | ⟨_, _, _, h1⟩
    · injection h1
    · rw [e] at h1; cases h1
  have hr := own_rowsT h
  have hl : (xs.drop k).length = n - k := by rw [List.length_drop, hn]
  rcases from_cells hr hk hz with ⟨hu, hnk⟩ | ⟨ad, c, hu, hc⟩
  · rw [hu]
    exact .inl ⟨List.drop_eq_nil_of_le (by omega), rfl⟩
  · rw [hu]
    exact .inr ⟨ad, c, by rw [hl], hc⟩
end Go.Proofs.Yteennnhinfnahaa
