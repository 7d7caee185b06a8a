/-
  WALKS over package codepoint, fifth part: Position: line and column of a byte offset; nothing that lay has turned. At any string and any offset.
-/
import Derived.Test.YteennnhinfnahaaCpD
namespace Go.Proofs.Yteennnhinfnahaa
open Go.RowKit Go.Shelf Go.Lib

attribute [local go_sem] Oper.semAt_some

theorem block_set {W : World} {B i : Nat} {cs : Array Value} {t : TypeId} {f : Nat × Nat} (v : Value) (h : W.heap[B]? = some (.cells cs t f)) :
    (W.setCell ⟨B, i, none⟩ v).heap[B]? = some (.cells (cs.setIfInBounds i v) t f) := by
  obtain ⟨hlt, hk⟩ := Array.getElem?_eq_some_iff.1 h
  show (W.heap.modify B _)[B]? = _
  rw [Array.getElem?_eq_getElem (by rw [Array.size_modify]; exact hlt), Array.getElem_modify_self, hk]
  rfl

/-- Line and column behind a unit. -/
def stepP (q : Nat × Nat) (u : U) : Nat × Nat := if u.c = 10 then (q.1 + 1, 1) else (q.1, q.2 + 1)
/-- Line and column behind some units. -/
def posP (us : List U) : Nat × Nat := us.foldl stepP (1, 1)
theorem posP_snoc (us : List U) (u : U) : posP (us ++ [u]) = stepP (posP us) u := by simp [posP]
theorem posP_le : ∀ us : List U, (posP us).1 ≤ us.length + 1 ∧ (posP us).2 ≤ us.length + 1 := by
  intro us
  have key : ∀ (us : List U) (q : Nat × Nat), 1 ≤ q.2 → (us.foldl stepP q).1 ≤ us.length + q.1 ∧ (us.foldl stepP q).2 ≤ us.length + q.2 := by
    intro us
    induction us with
    | nil => intro q _; simp
    | cons u us ih =>
      intro q h1
      have := ih (stepP q u) (by unfold stepP; split <;> simp)
      simp only [List.foldl_cons, List.length_cons]
      have e : (stepP q u).1 ≤ q.1 + 1 ∧ (stepP q u).2 ≤ q.2 + 1 := by
        unfold stepP
        split <;> simp
      omega
  exact key us (1, 1) (Nat.le_refl _)
/-- The units that begin before an offset. -/
def before (s : ByteArray) (at' : Int) : List U := (units s).takeWhile fun u => decide ((u.p : Int) < at')
/-- A position as a value. -/
def posV (q : Nat × Nat) : Array Value := #[.int .i64 (q.1 : Int), .int .i64 (q.2 : Int)]

theorem cells_ownF {β : Type} (B : Nat) (c : β → Array Value) (t : TypeId) (f : Nat × Nat) : Own (fun (b : β) W => W.heap[B]? = some (.cells (c b) t f)) := fun s X Y row hs hg hrow =>
  (hg.block B (Array.getElem?_eq_some_iff.1 hs).1 (fun e' => by obtain ⟨o, ho, hc⟩ := hrow B e'.symm; rw [hs] at ho; cases ho; cases hc)).trans hs
theorem block_alloc {W : World} {B : Nat} {o : Obj} (o' : Obj) (h : W.heap[B]? = some o) : (W.alloc o').heap[B]? = some o := (Below.heap_alloc W o' B (Array.getElem?_eq_some_iff.1 h).1).trans h
theorem block_other {W : World} {B B' i : Nat} {o : Obj} (v : Value) (h : W.heap[B]? = some o) (hne : B ≠ B') : (W.setCell ⟨B', i, none⟩ v).heap[B]? = some o := (Below.heap_setCell W ⟨B', i, none⟩ v B hne).trans h
theorem block_below {W W' : World} {B N : Nat} {o : Obj} (h : W.heap[B]? = some o) (hb : Below N W W') (hN : B < N) : W'.heap[B]? = some o := (hb.block B hN).trans h
theorem block_new (W : World) (o : Obj) : (W.alloc o).heap[W.heap.size]? = some o := World.alloc_heap_new W o
theorem cell_of {W : World} {B i : Nat} {cs : Array Value} {t : TypeId} {f : Nat × Nat} {v : Value} (h : W.heap[B]? = some (.cells cs t f)) (hi : cs[i]? = some v) : W.cell? ⟨B, i, none⟩ = some v := by
  simp [World.cell?, h, hi]
theorem frozen_of {W : World} {B i : Nat} {cs : Array Value} {t : TypeId} (h : W.heap[B]? = some (.cells cs t (0, 0))) : W.frozen? ⟨B, i, none⟩ = false := by
  simp [World.frozen?, h]

theorem takeWhile_all {α : Type} (f : α → Bool) : ∀ (l : List α), (∀ x ∈ l, f x = true) → l.takeWhile f = l
  | [], _ => rfl
  | a :: l, h => by
    rw [List.takeWhile_cons, if_pos (h a (by simp)), takeWhile_all f l (fun x hx => h x (by simp [hx]))]
theorem takeWhile_stop {α : Type} (f : α → Bool) (x : α) (r : List α) : ∀ (l : List α), (∀ x ∈ l, f x = true) → f x = false → (l ++ x :: r).takeWhile f = l
  | [], _, hx => by simp [hx]
  | a :: l, h, hx => by
    rw [List.cons_append, List.takeWhile_cons, if_pos (h a (by simp)), takeWhile_stop f x r l (fun x hx => h x (by simp [hx])) hx]

end Go.Proofs.Yteennnhinfnahaa
