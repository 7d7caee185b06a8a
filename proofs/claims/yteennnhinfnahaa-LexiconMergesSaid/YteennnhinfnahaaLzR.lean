/-
  MEMORY for the reference of lexicon: parts of rows of one-cell values; rows of the call's own in which one element is changed; insertion by three appends.
-/
import Derived.Test.YteennnhinfnahaaLzK
import Derived.Test.YteennnhinfnahaaMeB
import Derived.Test.YteennnhinfnahaaRgZ
import Derived.Test.YteennnhinfnahaaRzB
import Derived.Laws.OwnMore
namespace Go.Proofs.Yteennnhinfnahaa
open Go.RowKit Go.Shelf Go.Lib Go.Sort Go.Maps
set_option linter.unusedVariables false

theorem sees_to {w : World} {B : Nat} {A : Option Addr} {n cap k : Nat} {xs : List Value} (h : SeesC w B (.slice A n cap) xs) (hn : xs.length = n) (hk : k ≤ n) : SeesC w B (.slice A k cap) (xs.take k) := by
  have hl : (xs.take k).length = k := by rw [List.length_take]; omega
  rcases h with ⟨rfl, h2⟩ | ⟨ad, cap', h2, hc, hb, hj⟩
  · cases h2
    have : k = 0 := by simp at hn; omega
    subst this
    exact .inl ⟨rfl, rfl⟩
  · cases h2
    refine .inr ⟨ad, cap, by rw [hl], by omega, fun h0 => hb (by omega), fun j u hu => ?_⟩
    have hjk : j < k := by have := (List.getElem?_eq_some_iff.1 hu).1; omega
    rw [List.getElem?_take, if_pos hjk] at hu
    exact hj j u hu
theorem sees_from' {w : World} {B : Nat} {A : Option Addr} {n cap k : Nat} {xs : List Value} (h : SeesC w B (.slice A n cap) xs) (hn : xs.length = n) (hk : k ≤ n) : SeesC w B (sliced A k n cap 1) (xs.drop k) := by
  have hl : (xs.drop k).length = n - k := by rw [List.length_drop, hn]
  unfold sliced
  by_cases h0 : k = n
  · subst h0
    have hd : xs.drop k = [] := List.drop_eq_nil_of_le (by omega)
    rw [hd, Nat.sub_self]
    rcases h with ⟨rfl, h2⟩ | ⟨ad, cap', h2, hc, hb, hj⟩
    · cases h2
      exact .inl ⟨rfl, by simp⟩
    · cases h2
      refine .inr ⟨if cap = xs.length then ad else ad.add (xs.length * 1), cap - xs.length, ?_, Nat.zero_le _, fun h => absurd h (by simp), fun j u hu => by simp at hu⟩
      split <;> rfl
  · rcases h with ⟨rfl, h2⟩ | ⟨ad, cap', h2, hc, hb, hj⟩
    · simp at hn; omega
    · cases h2
      have h0j := hj 0 _ (List.getElem?_eq_getElem (by omega))
      have e := plain_cell (by simpa [Addr.add] using h0j)
      obtain ⟨bk, of, sp⟩ := ad
      have hsp : sp = none := congrArg Addr.spot e
      subst hsp
      rw [if_neg (by omega)]
      refine .inr ⟨⟨bk, of + k, none⟩, cap - k, ?_, by rw [hl]; omega, fun _ => hb (by omega), fun j u hu => ?_⟩
      · rw [hl, Option.map_some, add_plain, Nat.mul_one]
      · rw [List.getElem?_drop] at hu
        rw [add_plain, Nat.add_assoc]
        have := hj (k + j) u hu
        rw [add_plain] at this
        exact this
theorem sliceS_to (A : Option Addr) (n cap k : Nat) (hk : k ≤ n) (hn : n ≤ cap) (w : World) : (Instr.slice 29 (.slice A n cap) none (some (.int .i64 (k : Int))) none).run Try.prog w = .ok (.slice A k cap) w := by
  rw [run_slice_h w 29 _ _ _ (by kernel_rfl) .i64 k (by omega) (by omega)]
  have hz1 : (sizeOf (Try.prog.elem 29)).run Try.prog w = .ok 1 w := by kernel_rfl
  rw [hz1]
  cases A with
  | none => simp [Result.andThen, sliced]
  | some ad =>
    have h0 : ad.add 0 = ad := by simp [Addr.add]
    simp [Result.andThen, sliced, h0]
theorem sliceS_from (A : Option Addr) (n cap k : Nat) (hk : k ≤ n) (w : World) : (Instr.slice 29 (.slice A n cap) (some (.int .i64 (k : Int))) none none).run Try.prog w = .ok (sliced A k n cap 1) w := by
  rw [run_slice_l w 29 _ _ _ (by kernel_rfl) .i64 k (by omega) (by omega)]
  have hz1 : (sizeOf (Try.prog.elem 29)).run Try.prog w = .ok 1 w := by kernel_rfl
  rw [hz1]
  simp [Result.andThen]
theorem sliceI_to (A : Option Addr) (n cap k : Nat) (hk : k ≤ n) (hn : n ≤ cap) (w : World) : (Instr.slice 22 (.slice A n cap) none (some (.int .i64 (k : Int))) none).run Try.prog w = .ok (.slice A k cap) w := by
  rw [run_slice_h w 22 _ _ _ (by kernel_rfl) .i64 k (by omega) (by omega)]
  have hz1 : (sizeOf (Try.prog.elem 22)).run Try.prog w = .ok 1 w := by kernel_rfl
  rw [hz1]
  cases A with
  | none => simp [Result.andThen, sliced]
  | some ad =>
    have h0 : ad.add 0 = ad := by simp [Addr.add]
    simp [Result.andThen, sliced, h0]
theorem sliceI_from (A : Option Addr) (n cap k : Nat) (hk : k ≤ n) (w : World) : (Instr.slice 22 (.slice A n cap) (some (.int .i64 (k : Int))) none none).run Try.prog w = .ok (sliced A k n cap 1) w := by
  rw [run_slice_l w 22 _ _ _ (by kernel_rfl) .i64 k (by omega) (by omega)]
  have hz1 : (sizeOf (Try.prog.elem 22)).run Try.prog w = .ok 1 w := by kernel_rfl
  rw [hz1]
  simp [Result.andThen]
/-- The cells of strings, of numbers. -/
def sv (l : List Wd) : List Value := l.map fun (s : Wd) => Value.string ⟨s.toArray⟩
def iv (l : List Nat) : List Value := l.map fun (j : Nat) => Value.int .i64 (j : Int)
theorem sv_len (l : List Wd) : (sv l).length = l.length := by simp [sv]
theorem iv_len (l : List Nat) : (iv l).length = l.length := by simp [iv]
theorem sv_one (l : List Wd) : ∀ u ∈ sv l, u.oneCell' = true := by
  intro u hu
  obtain ⟨x, _, rfl⟩ := List.mem_map.1 hu
  rfl
theorem iv_one (l : List Nat) : ∀ u ∈ iv l, u.oneCell' = true := by
  intro u hu
  obtain ⟨x, _, rfl⟩ := List.mem_map.1 hu
  rfl
theorem sv_take (l : List Wd) (k : Nat) : (sv l).take k = sv (l.take k) := by simp [sv, List.map_take]
theorem sv_drop (l : List Wd) (k : Nat) : (sv l).drop k = sv (l.drop k) := by simp [sv, List.map_drop]
theorem iv_take (l : List Nat) (k : Nat) : (iv l).take k = iv (l.take k) := by simp [iv, List.map_take]
theorem iv_drop (l : List Nat) (k : Nat) : (iv l).drop k = iv (l.drop k) := by simp [iv, List.map_drop]
theorem rows_sv {w : World} {base : Nat} {v : Value} {l : List Wd} (h : w.ownsRow base 9 1 v l.length (sv l)) : Rows 1 EStr w v l := by
  refine own_rowsE (base := base) ?_
  have e : l.map encStr = sv l := by unfold sv; rfl
  rw [e]
  exact h
theorem rows_iv {w : World} {base : Nat} {v : Value} {l : List Nat} (h : w.ownsRow base 3 1 v l.length (iv l)) : Rows 1 EInt w v (intsN l) := by
  have e : iv l = (intsN l).map fun x => Value.int .i64 x := by simp [iv]
  rw [e, show l.length = (intsN l).length by simp] at h
  exact own_rows h
theorem sees_val (w : World) (v : Value) (t : TypeId) : SeesC (w.alloc (.cells #[v] t)) (w.alloc (.cells #[v] t)).heap.size (.slice (some ⟨w.heap.size, 0, none⟩) 1 1) [v] := by
  refine .inr ⟨_, 1, rfl, Nat.le_refl _, fun _ => by simp, fun j u hu => ?_⟩
  exact news_at w [v] t j u hu
theorem own_setV {w : World} {base g n cap : Nat} {T : TypeId} {F : List Value} (h : w.ownsRow base T 1 (.slice (some ⟨g, 0, none⟩) n cap) n F) {i : Nat} (hi : i < n) (z : Value) :
    (w.setCell ⟨g, i, none⟩ z).ownsRow base T 1 (.slice (some ⟨g, 0, none⟩) n cap) n (F.set i z) := by
  have hn := h.1
  rcases h.2 with ⟨hv, _⟩ | ⟨g', cap', cur, hv, hb, hh, hc, hm, hs, ht⟩
  · cases hv
  · cases hv
    exact ⟨by rw [List.length_set, hn], .inr ⟨g, cap, _, rfl, hb, set_of hh _, hc, hm, by simp [hs], by rw [← ht, Array.toList_setIfInBounds, List.take_set]⟩⟩
theorem own_form' {w : World} {base n : Nat} {T : TypeId} {v : Value} {F : List Value} (h : w.ownsRow base T 1 v n F) : ∃ A cap, v = .slice A n cap ∧ n ≤ cap ∧ (0 < n → ∃ g, A = some ⟨g, 0, none⟩ ∧ base ≤ g ∧ ∃ cur, w.heap[g]? = some (.cells cur T (0, 0))) := by
  rcases h.2 with ⟨rfl, rfl⟩ | ⟨g, cap, cur, rfl, hb, hh, hc, _⟩
  · exact ⟨none, 0, rfl, Nat.le_refl _, fun h => absurd h (by omega)⟩
  · exact ⟨_, cap, rfl, hc, fun _ => ⟨g, rfl, hb, cur, hh⟩⟩
theorem own_below' {w w' : World} {base N : Nat} {e : TypeId} {size n : Nat} {v : Value} {xs : List Value} (h : w.ownsRow base e size v n xs) (hb : Below w.heap.size w w') : w'.ownsRow base e size v n xs :=
  own_below h fun k hk => hb.block k (own_low h k hk).2
theorem own_eq {w : World} {base n m : Nat} {T : TypeId} {v : Value} {F G : List Value} (h : w.ownsRow base T 1 v n F) (hn : n = m) (hF : F = G) : w.ownsRow base T 1 v m G := by rw [← hn, ← hF]; exact h
end Go.Proofs.Yteennnhinfnahaa
