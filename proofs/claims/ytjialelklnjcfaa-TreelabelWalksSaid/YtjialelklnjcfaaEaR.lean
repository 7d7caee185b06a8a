/-
  MEMORY for package treelabel: rows of labels that are read, blocks of numbers and of labels that are written.
-/
import Derived.Test.YtjialelklnjcfaaDaD
import Derived.Test.YtjialelklnjcfaaEaM
namespace Go.Proofs.Ytjialelklnjcfaa
set_option linter.unusedVariables false
open Go.RowKit Go.Shelf Go.Lib

def lbV (x : Lb) : List Value := [.int .i64 x.1, .int .i64 x.2.1, .int .i64 x.2.2]
def ELb (_ : World) (cs : List Value) (x : Lb) : Prop := cs = lbV x
theorem stays_lb : Stays ELb := fun _ _ _ _ _ h => h
theorem lbV_len (x : Lb) : (lbV x).length = 3 := rfl
theorem lbV_one (x : Lb) : ∀ v ∈ lbV x, v.oneCell' = true := by simp [lbV, Value.oneCell']
theorem at_lb {w : World} {A : Option Addr} {n cap : Nat} {xs : List Lb} (h : Rows 3 ELb w (.slice A n cap) xs) (h0 : 0 < xs.length) :
    ∃ b off, A = some ⟨b, off, none⟩ ∧ b < w.heap.size ∧ ∀ (j : Nat) (x : Lb), xs[j]? = some x → w.cell? ⟨b, off + j * 3, none⟩ = some (.int .i64 x.1) ∧ w.cell? ⟨b, off + j * 3 + 1, none⟩ = some (.int .i64 x.2.1) ∧ w.cell? ⟨b, off + j * 3 + 2, none⟩ = some (.int .i64 x.2.2) := by
  obtain ⟨b, off, hA, hb, hj⟩ := h.at' h0
  refine ⟨b, off, hA, hb, fun j x hx => ?_⟩
  obtain ⟨cs, _, rfl, h3⟩ := hj j x hx
  exact ⟨h3 0 _ rfl, h3 1 _ rfl, h3 2 _ rfl⟩
/-- A block that begins with these numbers. -/
def Blk (W : World) (b : Nat) (F : List Int) : Prop := ∃ (cs : Array Value) (t : TypeId), W.heap[b]? = some (.cells cs t (0, 0)) ∧ ∀ (j : Nat) (x : Int), F[j]? = some x → cs[j]? = some (.int .i64 x)
theorem Blk.of {W : World} {b : Nat} {l : List Int} {t : TypeId} (h : W.heap[b]? = some (.cells (intRow l) t (0, 0))) : Blk W b l :=
  ⟨_, t, h, fun j x hx => by simp [intRow, hx]⟩
theorem Blk.cell {W : World} {b : Nat} {F : List Int} (h : Blk W b F) {j : Nat} {x : Int} (hx : F[j]? = some x) : W.cell? ⟨b, j, none⟩ = some (.int .i64 x) := by
  obtain ⟨cs, t, hb, hc⟩ := h
  exact cell_of hb (hc j x hx)
theorem Blk.frozen {W : World} {b : Nat} {F : List Int} (h : Blk W b F) (j : Nat) : W.frozen? ⟨b, j, none⟩ = false := by
  obtain ⟨cs, t, hb, hc⟩ := h
  exact frozen_of hb
theorem Blk.lt {W : World} {b : Nat} {F : List Int} (h : Blk W b F) : b < W.heap.size := by
  obtain ⟨cs, t, hb, hc⟩ := h
  exact (Array.getElem?_eq_some_iff.1 hb).1
theorem Blk.keep {W W' : World} {b : Nat} {F : List Int} (h : Blk W b F) (hk : W'.heap[b]? = W.heap[b]?) : Blk W' b F := by
  obtain ⟨cs, t, hb, hc⟩ := h
  exact ⟨cs, t, hk.trans hb, hc⟩
theorem Blk.set {W : World} {b : Nat} {F : List Int} (h : Blk W b F) {i : Nat} (hi : i < F.length) (x : Int) : Blk (W.setCell ⟨b, i, none⟩ (.int .i64 x)) b (F.set i x) := by
  obtain ⟨cs, t, hb, hc⟩ := h
  refine ⟨_, t, set_of hb _, fun j y hy => ?_⟩
  have hic : i < cs.size := by
    have := hc i _ (List.getElem?_eq_getElem hi)
    exact (Array.getElem?_eq_some_iff.1 this).1
  rw [List.getElem?_set] at hy
  rw [Array.getElem?_setIfInBounds]
  by_cases e : i = j
  · subst e
    rw [if_pos rfl, if_pos hi] at hy
    cases hy
    rw [if_pos rfl, if_pos hic]
  · rw [if_neg e] at hy
    rw [if_neg e]
    exact hc j y hy
theorem Blk.other {W : World} {b g : Nat} {F : List Int} (h : Blk W b F) (hne : b ≠ g) (i : Nat) (v : Value) : Blk (W.setCell ⟨g, i, none⟩ v) b F := h.keep (Below.heap_setCell W ⟨g, i, none⟩ v b (by exact hne))
theorem Blk.rows {W : World} {b n cap : Nat} {l : List Int} (h : Blk W b l) (hn : l.length = n) (hc : n ≤ cap) : Rows 1 EInt W (.slice (some ⟨b, 0, none⟩) n cap) l := by
  subst hn
  refine ⟨_, cap, rfl, hc, fun h0 => ⟨b, 0, rfl, h.lt, fun j x hx => ⟨[.int .i64 x], rfl, rfl, fun i u hu => ?_⟩⟩⟩
  match i, hu with
  | 0, hu =>
    cases hu
    have := h.cell hx
    simpa using this
/-- A block of labels. -/
def labRow (l : List Lb) : Array Value := (l.flatMap lbV).toArray
theorem labRow_size (l : List Lb) : (labRow l).size = l.length * 3 := by
  unfold labRow
  rw [List.size_toArray, flatM_len lbV_len]
theorem labRow_get {l : List Lb} {i : Nat} {x : Lb} (h : l[i]? = some x) : (labRow l)[i * 3]? = some (.int .i64 x.1) ∧ (labRow l)[i * 3 + 1]? = some (.int .i64 x.2.1) ∧ (labRow l)[i * 3 + 2]? = some (.int .i64 x.2.2) := by
  unfold labRow
  rw [List.getElem?_toArray, List.getElem?_toArray, List.getElem?_toArray]
  exact ⟨flatM_get (enc := lbV) (sz := 3) lbV_len l i x 0 h (by omega), flatM_get (enc := lbV) (sz := 3) lbV_len l i x 1 h (by omega), flatM_get (enc := lbV) (sz := 3) lbV_len l i x 2 h (by omega)⟩
theorem flatM_set : ∀ (l : List Lb) (i : Nat) (x : Lb), i < l.length → (l.set i x).flatMap lbV = (l.flatMap lbV).take (i * 3) ++ lbV x ++ (l.flatMap lbV).drop (i * 3 + 3)
  | [], i, x, h => absurd h (by simp)
  | a :: l, 0, x, h => by simp [lbV]
  | a :: l, i + 1, x, h => by
    rw [List.set_cons_succ, List.flatMap_cons, List.flatMap_cons, flatM_set l i x (by simpa using h), show (i + 1) * 3 = (lbV a).length + i * 3 by rw [lbV_len]; omega, List.take_length_add_append, Nat.add_assoc, List.drop_length_add_append]
    simp
theorem labRow_set {l : List Lb} {i : Nat} (x : Lb) (h : i < l.length) : ((labRow l).toList.take (i * 3) ++ (lbV x).toArray.toList ++ (labRow l).toList.drop (i * 3 + (lbV x).toArray.size)).toArray = labRow (l.set i x) := by
  unfold labRow
  rw [flatM_set l i x h]
  simp [lbV_len]
theorem labRow_set1 {l : List Lb} {i c : Nat} {x y : Lb} (h : l[i]? = some x) (hc : c < 3) (v : Value) (hy : (lbV x).set c v = lbV y) : (labRow l).setIfInBounds (i * 3 + c) v = labRow (l.set i y) := by
  have hi : i < l.length := (List.getElem?_eq_some_iff.1 h).1
  unfold labRow
  rw [List.setIfInBounds_toArray]
  congr 1
  rw [flatM_set l i y hi, ← hy]
  have hx : l.flatMap lbV = (l.flatMap lbV).take (i * 3) ++ lbV x ++ (l.flatMap lbV).drop (i * 3 + 3) := by
    have := flatM_set l i x hi
    rw [show l.set i x = l by obtain ⟨h1, h2⟩ := List.getElem?_eq_some_iff.1 h; rw [← h2]; exact List.set_getElem_self h1] at this
    exact this
  have hlen : ((l.flatMap lbV).take (i * 3)).length = i * 3 := by
    rw [List.length_take, flatM_len lbV_len]
    omega
  generalize (l.flatMap lbV).take (i * 3) = T at hx hlen ⊢
  generalize (l.flatMap lbV).drop (i * 3 + 3) = D at hx ⊢
  rw [hx, List.append_assoc, List.set_append_right _ _ (by omega), hlen, show i * 3 + c - i * 3 = c by omega, List.set_append_left _ _ (by rw [lbV_len]; exact hc), List.append_assoc]
theorem rows_lab {W : World} {b n cap : Nat} {l : List Lb} {t : TypeId} {f : Nat × Nat} (hn : l.length = n) (hc : n ≤ cap) (h : W.heap[b]? = some (.cells (labRow l) t f)) : Rows 3 ELb W (.slice (some ⟨b, 0, none⟩) n cap) l := by
  subst hn
  refine ⟨_, cap, rfl, hc, fun h0 => ⟨b, 0, rfl, (Array.getElem?_eq_some_iff.1 h).1, fun j x hx => ⟨lbV x, rfl, rfl, fun i u hu => ?_⟩⟩⟩
  obtain ⟨c0, c1, c2⟩ := labRow_get hx
  match i, hu with
  | 0, hu => cases hu; refine cell_of h ?_; simpa using c0
  | 1, hu => cases hu; refine cell_of h ?_; simpa using c1
  | 2, hu => cases hu; refine cell_of h ?_; simpa using c2
theorem made_lab (n : Nat) : madeCells #[.int .i64 0, .int .i64 0, .int .i64 0] (n * 3) = labRow (lab0 n) := by
  apply Array.ext'
  simp only [madeCells, labRow, lab0]
  apply List.ext_getElem?
  intro i
  by_cases h : i < n * 3
  · have h1 := flatM_get (enc := lbV) (sz := 3) lbV_len (List.replicate n (0, 0, 0)) (i / 3) (0, 0, 0) (i % 3) (by rw [List.getElem?_replicate, if_pos (by omega)]) (Nat.mod_lt _ (by omega))
    rw [show i / 3 * 3 + i % 3 = i by omega] at h1
    rw [h1]
    have h3 : i % 3 = 0 ∨ i % 3 = 1 ∨ i % 3 = 2 := by omega
    rw [Array.getElem?_toList, Array.getElem?_map, Array.getElem?_range, if_pos h]
    rcases h3 with h3 | h3 | h3 <;> simp [h3, lbV]
  · rw [List.getElem?_eq_none (by simp; omega), List.getElem?_eq_none (by rw [flatM_len lbV_len]; simp; omega)]
end Go.Proofs.Ytjialelklnjcfaa
