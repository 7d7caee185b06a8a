/-
  MEMORY: rows of strings; append of one string to a row of the call's own.
-/
import Derived.Test.YtmjmidgfdjcbfaaGreatDoorMeB
import Derived.Test.YtmjmidgfdjcbfaaGreatDoorFsM
namespace Go.Proofs.YtmjmidgfdjcbfaaGreatDoor
open Go.RowKit Go.Shelf Go.Lib

def strV (f : Bs) : Value := .string ⟨f.toArray⟩
def strs (l : Fs) : List Value := l.map strV
theorem strs_len (l : Fs) : (strs l).length = l.length := by simp [strs]
theorem strs_app (l m : Fs) : strs (l ++ m) = strs l ++ strs m := by simp [strs]
theorem strs_cons (f : Bs) (l : Fs) : strs (f :: l) = .string ⟨f.toArray⟩ :: strs l := rfl
theorem strs_one (l : Fs) : ∀ u ∈ strs l, u.oneCell' = true := by
  intro u hu
  unfold strs at hu
  obtain ⟨b, _, rfl⟩ := List.mem_map.1 hu
  rfl
theorem strs_get {l : Fs} {j : Nat} {f : Bs} (h : l[j]? = some f) : (strs l)[j]? = some (.string ⟨f.toArray⟩) := by
  unfold strs
  rw [List.getElem?_map, h]
  rfl
theorem strs_back {l : Fs} {j : Nat} {u : Value} (h : (strs l)[j]? = some u) : ∃ f, l[j]? = some f ∧ u = .string ⟨f.toArray⟩ := by
  unfold strs at h
  rw [List.getElem?_map] at h
  cases hl : l[j]? with
  | none => rw [hl] at h; cases h
  | some f => rw [hl] at h; injection h with h; exact ⟨f, rfl, h.symm⟩
theorem strs_take (l : Fs) (k : Nat) : strs (l.take k) = (strs l).take k := by simp [strs]
theorem strs_drop (l : Fs) (k : Nat) : strs (l.drop k) = (strs l).drop k := by simp [strs]
/-- A value that reads as a list of strings. -/
def RS (w : World) (v : Value) (l : Fs) : Prop := SeesC w w.heap.size v (strs l)
theorem RS.form {w : World} {v : Value} {l : Fs} (h : RS w v l) : ∃ A cap, v = .slice A l.length cap ∧ l.length ≤ cap ∧ (0 < l.length → ∃ b off, A = some ⟨b, off, none⟩ ∧ b < w.heap.size ∧ ∀ (j : Nat) (f : Bs), l[j]? = some f → w.cell? ⟨b, off + j, none⟩ = some (.string ⟨f.toArray⟩)) := by
  obtain ⟨A, cap, hv, hc, hr⟩ := SeesC.form h
  rw [strs_len] at hv hc hr
  refine ⟨A, cap, hv, hc, fun h0 => ?_⟩
  obtain ⟨b, off, hA, hb, hj⟩ := hr h0
  exact ⟨b, off, hA, hb, fun j f hf => hj j _ (strs_get hf)⟩
theorem RS.of {w : World} {A : Option Addr} {l : Fs} {n cap : Nat} (hn : n = l.length) (hc : n ≤ cap) (h : 0 < l.length → ∃ b off, A = some ⟨b, off, none⟩ ∧ b < w.heap.size ∧ ∀ (j : Nat) (f : Bs), l[j]? = some f → w.cell? ⟨b, off + j, none⟩ = some (.string ⟨f.toArray⟩)) (h0 : A = none → n = 0 ∧ cap = 0) : RS w (.slice A n cap) l := by
  subst hn
  cases A with
  | none =>
    obtain ⟨e1, rfl⟩ := h0 rfl
    have : l = [] := List.length_eq_zero_iff.1 e1
    subst this
    exact .inl ⟨rfl, rfl⟩
  | some ad =>
    refine .inr ⟨ad, cap, by rw [strs_len], by rw [strs_len]; exact hc, fun h1 => ?_, fun j u hu => ?_⟩
    · rw [strs_len] at h1
      obtain ⟨b, off, hA, hb, _⟩ := h h1
      cases hA
      exact hb
    · obtain ⟨f, hf, rfl⟩ := strs_back hu
      obtain ⟨b, off, hA, _, hj⟩ := h (by have := (List.getElem?_eq_some_iff.1 hf).1; omega)
      cases hA
      rw [add_plain]
      exact hj j f hf
theorem RS.below {w w' : World} {v : Value} {l : Fs} (h : RS w v l) (hb : Below w.heap.size w w') : RS w' v l := by
  have h1 := SeesC.below h hb
  rcases h1 with h1 | ⟨ad, cap, hv, hc, h0, hj⟩
  · exact .inl h1
  · exact .inr ⟨ad, cap, hv, hc, fun h => Nat.lt_of_lt_of_le (h0 h) hb.size, hj⟩
theorem RS.nil (w : World) : RS w (.slice none 0 0) [] := .inl ⟨rfl, rfl⟩
theorem rs_own {w : World} {base : Nat} {v : Value} {n : Nat} {l : Fs} (h : w.ownsRow base 9 1 v n (strs l)) : RS w v l ∧ l.length = n := by
  obtain ⟨h1, h2⟩ := seesC_own h
  rw [strs_len] at h2
  exact ⟨h1, h2⟩
theorem own_after {w w' : World} {base : Nat} {e : TypeId} {size n : Nat} {v : Value} {xs : List Value} (h : w.ownsRow base e size v n xs) (hb : Below w.heap.size w w') : w'.ownsRow base e size v n xs :=
  own_below h fun k hk => hb.block k (own_low h k hk).2
theorem Tryz.infoStr : (Tryz.prog.info? 9).map (fun i => (i.zero, i.size, i.bytes)) = some (some (.string ⟨#[]⟩), 1, 16) := by kernel_rfl
theorem Tryz.infoStrs : (Tryz.prog.info? 23).map (fun i => (i.zero, i.size, i.bytes)) = some (some (.slice none 0 0), 1, 24) := by kernel_rfl
/-- append of one string to a row of the call's own. -/
theorem wpList_push {w : World} {ops : Array Oper} {rest : List Oper} {o : Oper} {a : Act} {Q : Exit → Act → World → Prop} (hgd : o.guard = none) (s x : Operand)
    (ho : o.op = .call { callee := .builtin .append, args := #[s, x], argTypes := #[23, 23] })
    (base : Nat) (v : Value) (n : Nat) (l : Fs) (p : ByteArray) (hs : a.eval s = v) (hx : a.eval x = .slice (some ⟨w.heap.size, 0, none⟩) 1 1)
    (hown : w.ownsRow base 9 1 v n (strs l)) (hn : n ≤ 1000000) (hbase : base ≤ w.heap.size)
    (h : ∀ v' w', Hid (w'.ownsRow base 9 1 v' (n + 1) (strs (l ++ [p.data.toList]))) → Hid (∀ B W, Below B W w → B ≤ base → Below B W w') → Hid (∀ k, k < w.heap.size → v.ownBlock ≠ some k → w'.heap[k]? = w.heap[k]?) → wpList Tryz.prog ops Q rest (a.put o.dst v') w') :
    wpList Tryz.prog ops Q (o :: rest) a (w.alloc (.cells #[.string p] 9)) := by
  obtain ⟨i0, hi, hz0, hz1, hz2⟩ := info_parts' Tryz.infoStr
  refine wpList_append_own _ hgd s x 23 ho base 9 i0 _ 1 16 Tryz.underlying23 hi hz0 hz1 hz2 rfl (by decide) v n _ hs (hown.alloc _) _ 1 1 [.string p] hx rfl (news_at w [.string p] 9) (by simp [Value.oneCell']) (by unfold maxLen; omega) (by omega) (by simp; omega) ?_
  intro v' w' h1 h2 _
  have hlow := own_low hown
  refine h v' w' (Lib.hid ?_) (Lib.hid fun B W hb hB => ?_) (Lib.hid fun k hk hne => ?_)
  · rw [strs_app, show strs [p.data.toList] = [.string p] by simp [strs, strV]]
    exact h1
  · exact (hb.alloc (Nat.le_trans hB hbase) _).grown h2 (by simp; omega) (fun k e => Nat.le_trans hB (hlow k e).1)
  · rw [h2.block k (by simp; omega) (fun e => hne e.symm)]
    exact heap_alloc_old w _ hk
end Go.Proofs.YtmjmidgfdjcbfaaGreatDoor
