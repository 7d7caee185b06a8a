/-
  WALKS over package codepoint, seventh part: At: code point, offset and size of a unit; nothing that lay has turned. At any string and any number.
-/
import Derived.Test.YteennnhinfnahaaCpF
namespace Go.Proofs.Yteennnhinfnahaa
open Go.RowKit Go.Shelf Go.Lib

attribute [local go_sem] Oper.semAt_some

/-- Unit number i, if there is one. -/
def atU (s : ByteArray) (i : Int) : Option U := if 0 ≤ i then (units s)[i.toNat]? else none
/-- What At answers. -/
def atV : Option U → Array Value
  | none => #[.int .i32 0, .int .i64 0, .int .i64 0, .bool false]
  | some u => #[.int .i32 (u.c : Int), .int .i64 (u.p : Int), .int .i64 (u.w : Int), .bool true]

/-- The six variables of a call of At. -/
def AtVars (i : Int) (w : World) (r : Array Value) (number : Int) (W : World) : Prop :=
  W.heap[w.heap.size]? = some (.cells #[.int .i64 i] 3 (0, 0)) ∧ W.heap[w.heap.size + 1]? = some (.cells #[r.getD 0 undef] 21 (0, 0)) ∧ W.heap[w.heap.size + 2]? = some (.cells #[r.getD 1 undef] 3 (0, 0)) ∧
    W.heap[w.heap.size + 3]? = some (.cells #[r.getD 2 undef] 3 (0, 0)) ∧ W.heap[w.heap.size + 4]? = some (.cells #[r.getD 3 undef] 4 (0, 0)) ∧ W.heap[w.heap.size + 5]? = some (.cells #[.int .i64 number] 3 (0, 0))
/-- Between two rounds of At's loop. -/
def AtI (s : ByteArray) (i : Int) (w : World) (pre : List (Un s)) (W : World) : Prop :=
  (AtVars i w (atV none) (pre.length : Nat) W ∧ (0 ≤ i → pre.length ≤ i.toNat) ∧ w.heap.size + 7 ≤ W.heap.size) ∧ Below w.heap.size w W
/-- At's loop has been left. -/
def AtX (s : ByteArray) (i : Int) (w : World) (c : Code) (pre : List (Un s)) (W : World) : Prop :=
  (∃ (l : List U) (x : U) (number : Int), AtVars i w (atV (some x)) number W ∧ c = .ret ∧ pre.map (·.1) = l ++ [x] ∧ 0 ≤ i ∧ l.length = i.toNat) ∧ Below w.heap.size w W
theorem atVars_kept {i : Int} {w : World} {r : Array Value} {number : Int} {X Y : World} {row : Option Nat} (h : AtVars i w r number X) (hg : X.grownBy Y row) (hr : ∀ r, row = some r → ∃ o : Obj, X.heap[r]? = some o ∧ o.isCells = false) : AtVars i w r number Y := by
  obtain ⟨a, b, c, d, e, f⟩ := h
  exact ⟨cells_own _ _ _ _ () X Y row a hg hr, cells_own _ _ _ _ () X Y row b hg hr, cells_own _ _ _ _ () X Y row c hg hr, cells_own _ _ _ _ () X Y row d hg hr, cells_own _ _ _ _ () X Y row e hg hr, cells_own _ _ _ _ () X Y row f hg hr⟩
theorem atI_own (s : ByteArray) (i : Int) (w : World) (B : Nat) (hB : w.heap.size ≤ B) : OwnFrom B (AtI s i w) :=
  fun _ X Y row h hg hr => ⟨⟨atVars_kept h.1.1 hg (fun r e => (hr r e).2), h.1.2.1, Nat.le_trans h.1.2.2 hg.size⟩, ownFrom_below (β := Unit) (Nat.le_refl _) hB () X Y row h.2 hg hr⟩
theorem atX_own (s : ByteArray) (i : Int) (w : World) (B : Nat) (hB : w.heap.size ≤ B) (c : Code) : OwnFrom B (AtX s i w c) :=
  fun _ X Y row h hg hr => by
    obtain ⟨⟨l, x, n, hv, h2⟩, hb⟩ := h
    exact ⟨⟨l, x, n, atVars_kept hv hg (fun r e => (hr r e).2), h2⟩, ownFrom_below (β := Unit) (Nat.le_refl _) hB () X Y row hb hg hr⟩
theorem atVars_alloc {i : Int} {w : World} {r : Array Value} {number : Int} {W : World} (h : AtVars i w r number W) (o : Obj) : AtVars i w r number (W.alloc o) := by
  obtain ⟨a, b, c, d, e, f⟩ := h
  exact ⟨block_alloc _ a, block_alloc _ b, block_alloc _ c, block_alloc _ d, block_alloc _ e, block_alloc _ f⟩

/-- The loop's variable holds a unit. -/
def HoldU (Bx c p : Nat) (t : ByteArray) (W : World) : Prop :=
  W.cell? ⟨Bx, 0, none⟩ = some (.int .i32 (c : Int)) ∧ W.cell? ⟨Bx, 1, none⟩ = some (.int .i64 (p : Int)) ∧ W.cell? ⟨Bx, 2, none⟩ = some (.string t)
theorem holdU_set {Bx c p : Nat} {t : ByteArray} {W : World} (h : HoldU Bx c p t W.drew) (b : Nat) (v : Value) (hne : b ≠ Bx) : HoldU Bx c p t (W.setCell ⟨b, 0, none⟩ v).drew :=
  ⟨(World.cell?_setCell_far W ⟨b, 0, none⟩ ⟨Bx, 0, none⟩ v hne).trans h.1, (World.cell?_setCell_far W ⟨b, 0, none⟩ ⟨Bx, 1, none⟩ v hne).trans h.2.1, (World.cell?_setCell_far W ⟨b, 0, none⟩ ⟨Bx, 2, none⟩ v hne).trans h.2.2⟩

end Go.Proofs.Yteennnhinfnahaa
