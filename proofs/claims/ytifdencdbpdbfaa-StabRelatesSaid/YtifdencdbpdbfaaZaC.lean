/-
  MEMORY: three rows of numbers of the call's own, side by side; append to one of them.
-/
import Derived.Test.YtifdencdbpdbfaaZaB
import Derived.Maps.AppendAt
namespace Go.Proofs.Ytifdencdbpdbfaa
open Go Go.RowKit Go.Shelf Go.Lib
set_option linter.unusedVariables false
set_option linter.unusedSimpArgs false

def intsV (xs : List Int) : List Value := xs.map fun x => Value.int .i64 x
/-- Three rows that lie apart. -/
structure T3 (W : World) (base : Nat) (v1 v2 v3 : Value) (xs ys zs : List Int) : Prop where
  o1 : W.ownsRow base 3 1 v1 xs.length (intsV xs)
  o2 : W.ownsRow base 3 1 v2 ys.length (intsV ys)
  o3 : W.ownsRow base 3 1 v3 zs.length (intsV zs)
  d12 : ∀ i, v1.ownBlock = some i → v2.ownBlock ≠ some i
  d13 : ∀ i, v1.ownBlock = some i → v3.ownBlock ≠ some i
  d23 : ∀ i, v2.ownBlock = some i → v3.ownBlock ≠ some i
theorem T3.rot {W : World} {base : Nat} {v1 v2 v3 : Value} {xs ys zs : List Int} (h : T3 W base v1 v2 v3 xs ys zs) : T3 W base v2 v3 v1 ys zs xs :=
  ⟨h.o2, h.o3, h.o1, h.d23, fun i e e2 => h.d12 i e2 e, fun i e e2 => h.d13 i e2 e⟩
theorem T3.below {W W' : World} {base : Nat} {v1 v2 v3 : Value} {xs ys zs : List Int} (h : T3 W base v1 v2 v3 xs ys zs) (hb : Below W.heap.size W W') : T3 W' base v1 v2 v3 xs ys zs :=
  ⟨own_below h.o1 fun k hk => hb.block k (own_low h.o1 k hk).2, own_below h.o2 fun k hk => hb.block k (own_low h.o2 k hk).2, own_below h.o3 fun k hk => hb.block k (own_low h.o3 k hk).2, h.d12, h.d13, h.d23⟩
theorem T3.nil (W : World) (base : Nat) : T3 W base (.slice none 0 0) (.slice none 0 0) (.slice none 0 0) [] [] [] :=
  ⟨World.ownsRow_nil _ _ _ _, World.ownsRow_nil _ _ _ _, World.ownsRow_nil _ _ _ _, fun i e => by simp [Value.ownBlock] at e, fun i e => by simp [Value.ownBlock] at e, fun i e => by simp [Value.ownBlock] at e⟩
theorem own_grown {w w' : World} {base : Nat} {e : TypeId} {size n : Nat} {v : Value} {xs : List Value} {row : Option Nat} (h : w.ownsRow base e size v n xs) (hg : w.grownBy w' row) (hr : ∀ k, v.ownBlock = some k → row ≠ some k) : w'.ownsRow base e size v n xs :=
  own_below h fun k hk => hg.block k (own_low h k hk).2 (fun e => hr k hk e.symm)
theorem T3.push1 {w w1 : World} {base : Nat} {v1 v2 v3 u : Value} {xs ys zs : List Int} {x : Int} (h : T3 w base v1 v2 v3 xs ys zs)
    (o : w1.ownsRow base 3 1 u (xs.length + 1) (intsV xs ++ [.int .i64 x])) (g : w.grownBy w1 v1.ownBlock) (l : u.ownBlock = v1.ownBlock ∨ ∃ j, u.ownBlock = some j ∧ w.heap.size ≤ j) :
    T3 w1 base u v2 v3 (xs ++ [x]) ys zs := by
  have hd : ∀ v : Value, ∀ (hl : ∀ k, v.ownBlock = some k → base ≤ k ∧ k < w.heap.size), (∀ i, v1.ownBlock = some i → v.ownBlock ≠ some i) → ∀ i, u.ownBlock = some i → v.ownBlock ≠ some i := fun v hl hdv i e e2 => by
    rcases l with l | ⟨j, l, hj⟩
    · rw [l] at e; exact hdv i e e2
    · rw [l] at e
      have := (hl i e2).2
      cases e
      omega
  refine ⟨?_, own_grown h.o2 g (fun k hk e => h.d12 k e hk), own_grown h.o3 g (fun k hk e => h.d13 k e hk), hd v2 (own_low h.o2) h.d12, hd v3 (own_low h.o3) h.d13, h.d23⟩
  unfold intsV at o ⊢
  rw [List.length_append, List.map_append]
  exact o
theorem T3.push2 {w w1 : World} {base : Nat} {v1 v2 v3 u : Value} {xs ys zs : List Int} {x : Int} (h : T3 w base v1 v2 v3 xs ys zs)
    (o : w1.ownsRow base 3 1 u (ys.length + 1) (intsV ys ++ [.int .i64 x])) (g : w.grownBy w1 v2.ownBlock) (l : u.ownBlock = v2.ownBlock ∨ ∃ j, u.ownBlock = some j ∧ w.heap.size ≤ j) :
    T3 w1 base v1 u v3 xs (ys ++ [x]) zs := (h.rot.push1 o g l).rot.rot
theorem T3.push3 {w w1 : World} {base : Nat} {v1 v2 v3 u : Value} {xs ys zs : List Int} {x : Int} (h : T3 w base v1 v2 v3 xs ys zs)
    (o : w1.ownsRow base 3 1 u (zs.length + 1) (intsV zs ++ [.int .i64 x])) (g : w.grownBy w1 v3.ownBlock) (l : u.ownBlock = v3.ownBlock ∨ ∃ j, u.ownBlock = some j ∧ w.heap.size ≤ j) :
    T3 w1 base v1 v2 u xs ys (zs ++ [x]) := (h.rot.rot.push1 o g l).rot
/-- append of one number, and where the new row lies. -/
theorem wpList_push1 {w : World} {ops : Array Oper} {rest : List Oper} {o : Oper} {a : Act} {Q : Exit → Act → World → Prop} (hgd : o.guard = none) (s x : Operand)
    (ho : o.op = .call { callee := .builtin .append, args := #[s, x], argTypes := #[30, 30] })
    (base : Nat) (v : Value) (n : Nat) (l : List Value) (p : Int) (hs : a.eval s = v) (hx : a.eval x = .slice (some ⟨w.heap.size, 0, none⟩) 1 1)
    (hown : w.ownsRow base 3 1 v n l) (hn : n ≤ 1000000) (hbase : base ≤ w.heap.size)
    (h : ∀ v' w', Hid (w'.ownsRow base 3 1 v' (n + 1) (l ++ [.int .i64 p])) → Hid (w.grownBy w' v.ownBlock) → Hid (v'.ownBlock = v.ownBlock ∨ ∃ k, v'.ownBlock = some k ∧ w.heap.size ≤ k) → wpList Try.prog ops Q rest (a.put o.dst v') w') :
    wpList Try.prog ops Q (o :: rest) a (w.alloc (.cells #[.int .i64 p] 3)) := by
  obtain ⟨i0, hi, hz0, hz1, hz2⟩ := info_parts' Try.infoInt2
  refine wpList_append_own_at _ hgd s x 30 ho base 3 i0 _ 1 8 Try.underlying30 hi hz0 hz1 hz2 rfl (by decide) v n _ hs (hown.alloc _) _ 1 1 [.int .i64 p] hx rfl (news_at w [.int .i64 p] 3) (by simp [Value.oneCell']) (by unfold maxLen; omega) (by omega) (by simp; omega) ?_
  intro v' w' h1 h2 _ h3
  refine h v' w' (Lib.hid h1) (Lib.hid (grown_trans ((World.grownBy_alloc w _ _)) h2)) (Lib.hid ?_)
  rcases h3 with h3 | h3
  · exact .inl h3
  · exact .inr ⟨_, h3, by simp⟩
theorem rel_same {s : Sp} : relZ s s = if okS s then 7 else 0 := by
  by_cases h : okS s = true
  · rw [if_pos h]
    unfold relZ dirZ
    simp [h]
    have := (okS_iff s).1 h
    omega
  · rw [if_neg h]
    exact rel_zero.2 (fun e => h e.1)
theorem rel_thirteen {t s : Sp} (ht : okS t = true) (hs : okS s = true) : 1 ≤ relZ t s ∧ relZ t s ≤ 13 := by
  rw [relZ_eq, if_pos ⟨ht, hs⟩]
  exact relC_range t s
theorem below_grown {B : Nat} {X w w' : World} {row : Option Nat} (h : Below B X w) (hB : B ≤ w.heap.size) (g : w.grownBy w' row) (hr : ∀ k, row = some k → B ≤ k) : Below B X w' := h.trans (below_of_grown g hB hr)
end Go.Proofs.Ytifdencdbpdbfaa
