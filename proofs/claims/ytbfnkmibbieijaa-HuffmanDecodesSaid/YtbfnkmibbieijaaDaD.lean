/-
  WALKS over package depend, second part: Check, valid, way, Depth, meeting.
-/
import Derived.Test.YtbfnkmibbieijaaDaC
namespace Go.Proofs.Ytbfnkmibbieijaa
open Go.RowKit Go.Shelf Go.Lib
set_option linter.unusedVariables false

theorem checkH_cases (h : List Int) : (4096 < h.length ∧ checkH h = (0, 2)) ∨ (h.length ≤ 4096 ∧ 0 ≤ findZ (outH h.length) h ∧ checkH h = (findZ (outH h.length) h, 8)) ∨
    (h.length ≤ 4096 ∧ findZ (outH h.length) h < 0 ∧ (∀ x ∈ h, x = -1 ∨ (0 ≤ x ∧ x < h.length)) ∧ ((0 ≤ findZ (cyc h) (List.range h.length) ∧ checkH h = (findZ (cyc h) (List.range h.length), 12)) ∨ (findZ (cyc h) (List.range h.length) < 0 ∧ checkH h = (0, 0)))) := by
  unfold checkH
  by_cases h1 : 4096 < h.length
  · rw [if_pos h1]; exact .inl ⟨h1, rfl⟩
  · rw [if_neg h1]
    by_cases h2 : 0 ≤ findZ (outH h.length) h
    · rw [if_pos h2]; exact .inr (.inl ⟨by omega, h2, rfl⟩)
    · rw [if_neg h2]
      refine .inr (.inr ⟨by omega, by omega, fun x hx => outH_false.1 (findZ_neg.1 (by omega) x hx), ?_⟩)
      by_cases h3 : 0 ≤ findZ (cyc h) (List.range h.length)
      · rw [if_pos h3]; exact .inl ⟨h3, rfl⟩
      · rw [if_neg h3]; exact .inr ⟨by omega, rfl⟩

def natV (l : List Nat) : List Value := l.map fun (n : Nat) => Value.int .i64 (n : Int)
theorem natV_app (a b : List Nat) : natV (a ++ b) = natV a ++ natV b := by simp [natV]
theorem natV_len (l : List Nat) : (natV l).length = l.length := by simp [natV]
def intsN (l : List Nat) : List Int := l.map fun (n : Nat) => (n : Int)
theorem intsN_len (l : List Nat) : (intsN l).length = l.length := by simp [intsN]
theorem intsN_get {l : List Nat} {k x : Nat} (h : l[k]? = some x) : (intsN l)[k]? = some (x : Int) := by simp [intsN, h]
/-- A row of the call's own, of tokens, read. -/
theorem own_rowsN {w : World} {base : Nat} {v : Value} {xs : List Nat} {n : Nat} (hn : xs.length = n) (h : w.ownsRow base 3 1 v n (natV xs)) : Rows 1 EInt w v (intsN xs) := by
  subst hn
  refine own_rows (base := base) ?_
  rw [intsN_len]
  have : (intsN xs).map (fun x => Value.int .i64 x) = natV xs := by simp [intsN, natV]
  rw [this]
  exact h
theorem own_after {w w' : World} {base : Nat} {e : TypeId} {size n : Nat} {v : Value} {xs : List Value} (h : w.ownsRow base e size v n xs) (hb : Below w.heap.size w w') : w'.ownsRow base e size v n xs :=
  own_below h fun k hk => hb.block k (own_low h k hk).2
/-- append of one number to a row of the call's own. -/
theorem wpList_pushI {w : World} {ops : Array Oper} {rest : List Oper} {o : Oper} {a : Act} {Q : Exit → Act → World → Prop} (hgd : o.guard = none) (s x : Operand)
    (ho : o.op = .call { callee := .builtin .append, args := #[s, x], argTypes := #[22, 22] })
    (base : Nat) (v : Value) (n : Nat) (l : List Value) (p : Int) (hs : a.eval s = v) (hx : a.eval x = .slice (some ⟨w.heap.size, 0, none⟩) 1 1)
    (hown : w.ownsRow base 3 1 v n l) (hn : n ≤ 1000000) (hbase : base ≤ w.heap.size)
    (h : ∀ v' w', Hid (w'.ownsRow base 3 1 v' (n + 1) (l ++ [.int .i64 p])) → Hid (∀ B W, Below B W w → B ≤ base → Below B W w') → Hid (∀ k, k < w.heap.size → v.ownBlock ≠ some k → w'.heap[k]? = w.heap[k]?) → wpList Try.prog ops Q rest (a.put o.dst v') w') :
    wpList Try.prog ops Q (o :: rest) a (w.alloc (.cells #[.int .i64 p] 3)) := by
  obtain ⟨i0, hi, hz0, hz1, hz2⟩ := info_parts' Try.infoInt2
  refine wpList_append_own _ hgd s x 22 ho base 3 i0 _ 1 8 Try.underlying22 hi hz0 hz1 hz2 rfl (by decide) v n _ hs (hown.alloc _) _ 1 1 [.int .i64 p] hx rfl (news_at w [.int .i64 p] 3) (by simp [Value.oneCell']) (by unfold maxLen; omega) (by omega) (by simp; omega) ?_
  intro v' w' h1 h2 _
  have hlow := own_low hown
  refine h v' w' (Lib.hid h1) (Lib.hid fun B W hb hB => ?_) (Lib.hid fun k hk hne => ?_)
  · exact (hb.alloc (Nat.le_trans hB hbase) _).grown h2 (by simp; omega) (fun k e => Nat.le_trans hB (hlow k e).1)
  · rw [h2.block k (by simp; omega) (fun e => hne e.symm)]
    exact heap_alloc_old w _ hk

/-- Where two rows come together: the first element of the one that stands in the other. -/
structure Mt (X Y : List Nat) (i k : Nat) : Prop where
  x : ∃ c, X[i]? = some c ∧ Y[k]? = some c
  low : ∀ (j y : Nat), j < i → X[j]? = some y → y ∉ Y
  lowY : ∀ (j y : Nat), j < k → Y[j]? = some y → X[i]? ≠ some y

end Go.Proofs.Ytbfnkmibbieijaa
