/-
  FOR THE LAWS of package huffman: sums over the present symbols, step by step; append of a number.
-/
import Derived.Test.YtbfnkmibbieijaaHuS
import Derived.Laws.OwnMore
namespace Go.Proofs.Ytbfnkmibbieijaa
open Go.RowKit Go.Shelf Go.Lib Go.Sort
set_option linter.unusedVariables false
set_option linter.unusedSimpArgs false

theorem preS_snoc : ∀ (l : List Int) (c : Int) (s : Nat), preS (l ++ [c]) s = if 0 < c then preS l s ++ [s + l.length] else preS l s
  | [], c, s => by
    by_cases h : 0 < c
    · simp [preS, h]
    · simp [preS, h]
  | a :: l, c, s => by
    have e : ∀ q : List Int, preS (a :: q) s = if 0 < a then s :: preS q (s + 1) else preS q (s + 1) := fun _ => rfl
    rw [List.cons_append, e, e, preS_snoc l c (s + 1), List.length_cons, show s + 1 + l.length = s + (l.length + 1) by omega]
    by_cases h : 0 < c
    · rw [if_pos h, if_pos h]; split <;> rfl
    · rw [if_neg h, if_neg h]
theorem preS_step {cs : List Int} {i : Nat} {c : Int} (h : cs[i]? = some c) : preS (cs.take (i + 1)) 0 = if 0 < c then preS (cs.take i) 0 ++ [i] else preS (cs.take i) 0 := by
  have hi : i ≤ cs.length := Nat.le_of_lt (List.getElem?_eq_some_iff.1 h).1
  rw [List.take_add_one, h, Option.toList_some, preS_snoc, List.length_take, Nat.min_eq_left hi, Nat.zero_add]
theorem sumS_snoc (S : List Nat) (s : Nat) (f : Nat → Nat) : sumS (S ++ [s]) f = sumS S f + f s := by simp [sumS]
theorem sumS_bound {S : List Nat} {f : Nat → Nat} {M : Nat} (h : ∀ s ∈ S, f s ≤ M) : sumS S f ≤ S.length * M := by
  have := sumS_le (g := fun _ => M) h
  rwa [sumS_const] at this
theorem preS_take_le (cs : List Int) (i : Nat) : (preS (cs.take i) 0).length ≤ i := by
  rw [preS_len]
  have := presN_le (cs.take i)
  rw [List.length_take] at this
  omega
/-- The sum over the present symbols of the first i. -/
def sumP (cs : List Int) (f : Nat → Nat) (i : Nat) : Nat := sumS (preS (cs.take i) 0) f
theorem sumP_zero (cs : List Int) (f : Nat → Nat) : sumP cs f 0 = 0 := by simp [sumP, preS, sumS]
theorem sumP_step {cs : List Int} {f : Nat → Nat} {i : Nat} {c : Int} (h : cs[i]? = some c) : sumP cs f (i + 1) = sumP cs f i + (if 0 < c then f i else 0) := by
  unfold sumP
  rw [preS_step h]
  by_cases hc : 0 < c
  · rw [if_pos hc, if_pos hc, sumS_snoc]
  · rw [if_neg hc, if_neg hc]; rfl
theorem sumP_all (cs : List Int) (f : Nat → Nat) : sumP cs f cs.length = sumS (preS cs 0) f := by unfold sumP; rw [List.take_length]
theorem pre_take_mem {cs : List Int} {i s : Nat} (h : s ∈ preS (cs.take i) 0) : s < i ∧ s ∈ preS cs 0 := by
  obtain ⟨_, c, h1, h2⟩ := preS_ge (cs.take i) 0 s h
  rw [Nat.sub_zero] at h1
  rw [List.getElem?_take] at h1
  split at h1
  · refine ⟨by assumption, ?_⟩
    have := preS_mem cs 0 s c h1 h2
    rwa [Nat.zero_add] at this
  · cases h1
theorem sumP_bound {cs : List Int} {f : Nat → Nat} {M : Nat} (h : ∀ s ∈ preS cs 0, f s ≤ M) (i : Nat) : sumP cs f i ≤ i * M := by
  unfold sumP
  exact Nat.le_trans (sumS_bound fun s hs => h s (pre_take_mem hs).2) (Nat.mul_le_mul_right _ (preS_take_le cs i))
theorem hufLs_at {cs : List Int} {lim i : Nat} (h : i < cs.length) : (hufLs cs lim)[i]? = some ((hufL (cN cs) (preS cs 0) lim i : Nat) : Int) := by
  unfold hufLs
  rw [List.getElem?_map, List.getElem?_range h]; rfl
theorem cN_at {cs : List Int} {i : Nat} {c : Int} (h : cs[i]? = some c) (hc : 0 ≤ c) : ((cN cs i : Nat) : Int) = c := by
  unfold cN
  rw [List.getD_eq_getElem?_getD, h, Option.getD_some]
  omega
theorem pre_at {cs : List Int} {i : Nat} {c : Int} (h : cs[i]? = some c) (hc : 0 < c) : i ∈ preS cs 0 := by
  have := preS_mem cs 0 i c h hc
  rwa [Nat.zero_add] at this
theorem pre_not {cs : List Int} {i : Nat} {c : Int} (h : cs[i]? = some c) (hc : ¬ 0 < c) : i ∉ preS cs 0 := fun hm => by
  obtain ⟨_, c', h1, h2⟩ := preS_ge cs 0 i hm
  rw [Nat.sub_zero, h] at h1
  cases h1
  exact hc h2
/-- append of one number to a row of the call's own. -/
theorem wpList_pushZ {w : World} {ops : Array Oper} {rest : List Oper} {o : Oper} {a : Act} {Q : Exit → Act → World → Prop} (hgd : o.guard = none) (s x : Operand)
    (ho : o.op = .call { callee := .builtin .append, args := #[s, x], argTypes := #[22, 22] })
    (base : Nat) (v : Value) (n : Nat) (l : List Value) (p : Int) (hs : a.eval s = v) (hx : a.eval x = .slice (some ⟨w.heap.size, 0, none⟩) 1 1)
    (hown : w.ownsRow base 3 1 v n l) (hn : n ≤ 1000000) (hbase : base ≤ w.heap.size)
    (h : ∀ v' w', Hid (w'.ownsRow base 3 1 v' (n + 1) (l ++ [.int .i64 p])) → Hid ((w.alloc (.cells #[.int .i64 p] 3)).grownBy w' v.ownBlock) → wpList Try.prog ops Q rest (a.put o.dst v') w') :
    wpList Try.prog ops Q (o :: rest) a (w.alloc (.cells #[.int .i64 p] 3)) := by
  obtain ⟨i0, hi, hz0, hz1, hz2⟩ := info_parts' Try.infoInt2
  refine wpList_append_own _ hgd s x 22 ho base 3 i0 _ 1 8 Try.underlying22 hi hz0 hz1 hz2 rfl (by decide) v n _ hs (hown.alloc _) _ 1 1 [.int .i64 p] hx rfl (news_at w [.int .i64 p] 3) (by simp [Value.oneCell']) (by unfold maxLen; omega) (by omega) (by simp; omega) ?_
  intro v' w' h1 h2 _
  exact h v' w' (Lib.hid h1) (Lib.hid h2)
theorem pow_shift {l : Nat} (h : l ≤ 15) : wrap64 ((2 : Int) ^ l) = ((2 ^ l : Nat) : Int) ∧ 2 ^ l ≤ 32768 := by
  have hp : (2 : Nat) ^ l ≤ 2 ^ 15 := Nat.pow_le_pow_right (by omega) h
  have e : ((2 : Int) ^ l) = ((2 ^ l : Nat) : Int) := by simp
  refine ⟨?_, hp⟩
  rw [e]
  obtain ⟨P, hP⟩ : ∃ P : Nat, 2 ^ l = P := ⟨_, rfl⟩
  rw [hP] at hp ⊢
  have h0 : (0 : Int) ≤ (P : Int) := by omega
  unfold wrap64; omega
theorem wrap_addN {a b c : Nat} (h : c = a + b) (hb : c ≤ 4000000) : wrap64 ((a : Int) + (b : Int)) = (c : Int) := by unfold wrap64; omega
theorem wrap_mulN {a b c : Nat} (h : a * b = c) (hb : c ≤ 4000000) : wrap64 ((a : Int) * (b : Int)) = (c : Int) := by
  have e : (a : Int) * (b : Int) = (c : Int) := by rw [← h]; simp
  rw [e]; unfold wrap64; omega
end Go.Proofs.Ytbfnkmibbieijaa
