/-
  WALKS over package corpus: slices.DeleteFunc at regions of the call's own.
-/
import Derived.Test.YtmjmidgfdjcbfaaGreatDoorQdA
import Derived.Laws.IdiomCopy
namespace Go.Proofs.YtmjmidgfdjcbfaaGreatDoor
open Go.RowKit Go.Shelf Go.Lib
set_option linter.unusedVariables false

theorem Rows.imp {α : Type} {sz : Nat} {E E' : World → List Value → α → Prop} {w : World} {v : Value} {xs : List α} (h : Rows sz E w v xs) (hi : ∀ cs x, E w cs x → E' w cs x) : Rows sz E' w v xs := by
  obtain ⟨A, cap, hv, hc, hr⟩ := h
  refine ⟨A, cap, hv, hc, fun h0 => ?_⟩
  obtain ⟨b, off, hA, hb, hj⟩ := hr h0
  refine ⟨b, off, hA, hb, fun j x hx => ?_⟩
  obtain ⟨cs, h1, h2, h3⟩ := hj j x hx
  exact ⟨cs, h1, hi _ _ h2, h3⟩
theorem flatM_len {α : Type} {enc : α → List Value} {sz : Nat} (he : ∀ x, (enc x).length = sz) : ∀ xs : List α, (xs.flatMap enc).length = xs.length * sz
  | [] => by simp
  | x :: l => by rw [List.flatMap_cons, List.length_append, he, flatM_len he l, List.length_cons, Nat.add_mul]; omega
theorem flatM_get {α : Type} {enc : α → List Value} {sz : Nat} (he : ∀ x, (enc x).length = sz) : ∀ (xs : List α) (j : Nat) (x : α) (i : Nat), xs[j]? = some x → i < sz → (xs.flatMap enc)[j * sz + i]? = (enc x)[i]?
  | [], j, x, i, h, _ => by simp at h
  | y :: l, 0, x, i, h, hi => by
    simp at h
    subst h
    rw [List.flatMap_cons, Nat.zero_mul, Nat.zero_add, List.getElem?_append_left (by rw [he]; exact hi)]
  | y :: l, j + 1, x, i, h, hi => by
    rw [List.flatMap_cons, List.getElem?_append_right (by rw [he, Nat.add_mul]; omega), he, show (j + 1) * sz + i - sz = j * sz + i by rw [Nat.add_mul]; omega]
    exact flatM_get he l j x i (by simpa using h) hi
/-- A row of the call's own, read. -/
theorem rows_of_own {α : Type} {enc : α → List Value} {sz : Nat} (he : ∀ x, (enc x).length = sz) {w : World} {base : Nat} {T : TypeId} {v : Value} {xs : List α} (h : w.ownsRow base T sz v xs.length (xs.flatMap enc)) : Rows sz (fun _ cs x => cs = enc x) w v xs := by
  rcases h.2 with ⟨rfl, h0⟩ | ⟨g, cap, cur, hv, hb, hh, hc, _⟩
  · rw [List.length_eq_zero_iff.1 h0]
    exact Rows.nil w
  · subst hv
    refine ⟨_, cap, rfl, hc, fun _ => ⟨g, 0, rfl, (Array.getElem?_eq_some_iff.1 hh).1, fun j x hx => ⟨enc x, he x, rfl, fun i u hu => ?_⟩⟩⟩
    have hj : j < xs.length := (List.getElem?_eq_some_iff.1 hx).1
    have hi : i < sz := by have := (List.getElem?_eq_some_iff.1 hu).1; rw [he] at this; exact this
    have hlt : j * sz + i < xs.length * sz := by
      have : (j + 1) * sz ≤ xs.length * sz := Nat.mul_le_mul_right _ hj
      rw [Nat.add_mul] at this
      omega
    rw [Nat.zero_add, h.cellAt (j * sz + i) hlt, flatM_get he xs j x i hx hi]
    exact hu
/-- An open region: its cells. -/
structure Og where
  x : Ex
  A : Option Addr
  l : Nat
  cp : Nat
def encO (o : Og) : List Value := [.string ⟨o.x.name.toArray⟩, .int .i64 o.x.b, .int .i64 o.x.e, .slice o.A o.l o.cp]
theorem encO_len (o : Og) : (encO o).length = 4 := rfl
def EOg (_ : World) (cs : List Value) (o : Og) : Prop := cs = encO o
theorem stays_og : Stays EOg := fun _ _ _ _ _ h => h
theorem grown_trans {w w1 w2 : World} {row : Option Nat} (h : w.grownBy w1 row) (k : w1.grownBy w2 row) : w.grownBy w2 row :=
  ⟨k.os.trans h.os, k.tape.trans h.tape, k.output.trans h.output, Nat.le_trans h.size k.size, fun i hi hne => (k.block i (Nat.lt_of_lt_of_le hi h.size) hne).trans (h.block i hi hne)⟩
theorem grown_below {w w' : World} (h : Below w.heap.size w w') (row : Option Nat) : w.grownBy w' row := ⟨h.os, h.tape, h.output, h.size, fun k hk _ => h.block k hk⟩
theorem grown_set (w : World) (g i : Nat) (v : Value) : w.grownBy (w.setCell ⟨g, i, none⟩ v) (some g) :=
  ⟨rfl, rfl, rfl, by simp [World.setCell], fun k _ hne => Below.heap_setCell w ⟨g, i, none⟩ v k (fun e => hne (by rw [e]))⟩
theorem below_of_grown {w w' : World} {row : Option Nat} {N : Nat} (h : w.grownBy w' row) (hN : N ≤ w.heap.size) (hr : ∀ k, row = some k → N ≤ k) : Below N w w' :=
  ⟨h.os, h.tape, h.output, h.size, fun k hk => h.block k (by omega) (fun e => by have := hr k e.symm; omega)⟩
def keepO (rb : Int) (o : Og) : Bool := decide (rb < o.x.e)

set_option maxHeartbeats 1000000 in
theorem region1_any (o : Og) (rb : Int) (B : Nat) (W : World) (hB : B < W.heap.size) (hc : W.cell? ⟨B, 1, none⟩ = some (.int .i64 rb)) :
    Calls Tryz.prog 60 (#[.agg (encO o).toArray] ++ #[.pointer (some ⟨B, 0, none⟩)]) W fun e w' => e = .returned (.bool (!keepO rb o)) ∧ Below W.heap.size W w' := by
  unfold encO keepO
  obtain ⟨⟨nm, ob, oe, ps⟩, A, l, cp⟩ := o
  simp only
  have hq : (!decide (rb < oe)) = decide (oe ≤ rb) := by rw [Bool.eq_iff_iff]; simp
  rw [hq]
  obtain ⟨P, hP⟩ : ∃ s : ByteArray, (⟨nm.toArray⟩ : ByteArray) = s := ⟨_, rfl⟩
  rw [hP]
  have c1 : (W.alloc (.cells #[.string P, .int .i64 ob, .int .i64 oe, .slice A l cp] 101)).cell? ⟨B, 1, none⟩ = some (.int .i64 rb) := Lib.cell?_alloc_some _ hc
  clear hq hP hB
  go_enter Tryz.func60, Tryz.ntmps60
  go_wp2_with fail
  go_ret
  exact ⟨rfl, below_box W _⟩
/-- What the row holds between two rounds: i elements kept out of the first j; from j on as it was. -/
def DelI (os : List Og) (rb : Int) (cap : Nat) (cur : Array Value) (i j : Nat) : Prop :=
  cur.size = cap * 4 ∧ i = ((os.take j).filter (keepO rb)).length ∧ (∀ p, p < i * 4 → cur[p]? = (((os.take j).filter (keepO rb)).flatMap encO)[p]?) ∧ ∀ p, j * 4 ≤ p → p < os.length * 4 → cur[p]? = (os.flatMap encO)[p]?
theorem DelI.le {os : List Og} {rb : Int} {cap : Nat} {cur : Array Value} {i j : Nat} (h : DelI os rb cap cur i j) : i ≤ j := by
  rw [h.2.1]
  have := List.length_filter_le (keepO rb) (os.take j)
  rw [List.length_take] at this
  omega
theorem DelI.skip {os : List Og} {rb : Int} {cap : Nat} {cur : Array Value} {i j : Nat} {o : Og} (h : DelI os rb cap cur i j) (ho : os[j]? = some o) (hk : keepO rb o = false) : DelI os rb cap cur i (j + 1) := by
  have e : (os.take (j + 1)).filter (keepO rb) = (os.take j).filter (keepO rb) := by rw [List.take_add_one, ho, List.filter_append]; simp [hk]
  unfold DelI
  rw [e]
  exact ⟨h.1, h.2.1, h.2.2.1, fun p h1 h2 => h.2.2.2 p (by omega) h2⟩
theorem set4 (cur : Array Value) (q : Nat) (a b c d : Value) (hq : q + 3 < cur.size) (p : Nat) : ((((cur.setIfInBounds q a).setIfInBounds (q + 1) b).setIfInBounds (q + 2) c).setIfInBounds (q + 3) d)[p]? = if p = q then some a else if p = q + 1 then some b else if p = q + 2 then some c else if p = q + 3 then some d else cur[p]? := by
  simp only [Array.getElem?_setIfInBounds, Array.size_setIfInBounds]
  by_cases h0 : p = q
  · subst h0; simp; omega
  · by_cases h1 : p = q + 1
    · subst h1; simp; omega
    · by_cases h2 : p = q + 2
      · subst h2; simp; omega
      · by_cases h3 : p = q + 3
        · subst h3; simp; omega
        · simp [h0, h1, h2, h3, Ne.symm h0, Ne.symm h1, Ne.symm h2, Ne.symm h3]
theorem DelI.keep {os : List Og} {rb : Int} {cap : Nat} {cur : Array Value} {i j : Nat} {o : Og} (h : DelI os rb cap cur i j) (ho : os[j]? = some o) (hk : keepO rb o = true) (hn : os.length ≤ cap) :
    DelI os rb cap ((((cur.setIfInBounds (i * 4) (.string ⟨o.x.name.toArray⟩)).setIfInBounds (i * 4 + 1) (.int .i64 o.x.b)).setIfInBounds (i * 4 + 2) (.int .i64 o.x.e)).setIfInBounds (i * 4 + 3) (.slice o.A o.l o.cp)) (i + 1) (j + 1) := by
  have hle := h.le
  have hj := (List.getElem?_eq_some_iff.1 ho).1
  have e : (os.take (j + 1)).filter (keepO rb) = (os.take j).filter (keepO rb) ++ [o] := by rw [List.take_add_one, ho, List.filter_append]; simp [hk]
  obtain ⟨h1, h2, h3, h4⟩ := h
  unfold DelI
  rw [e]
  refine ⟨by simp [h1], by rw [List.length_append, ← h2]; rfl, fun p hp => ?_, fun p hp1 hp2 => ?_⟩
  · rw [set4 cur (i * 4) _ _ _ _ (by rw [h1]; omega), List.flatMap_append]
    have hfl : (((os.take j).filter (keepO rb)).flatMap encO).length = i * 4 := by rw [flatM_len encO_len, ← h2]
    by_cases hpi : p < i * 4
    · rw [if_neg (by omega), if_neg (by omega), if_neg (by omega), if_neg (by omega), h3 p hpi, List.getElem?_append_left (by rw [hfl]; exact hpi)]
    · rw [List.getElem?_append_right (by rw [hfl]; omega), hfl]
      obtain ⟨t, ht⟩ : ∃ t, p - i * 4 = t := ⟨_, rfl⟩
      have hp' : p = i * 4 + t := by omega
      rw [ht, List.flatMap_singleton]
      have ht4 : t < 4 := by omega
      subst hp'
      match t, ht4 with
      | 0, _ => simp [encO]
      | 1, _ => simp [encO]
      | 2, _ => simp [encO]
      | 3, _ => simp [encO]
  · rw [set4 cur (i * 4) _ _ _ _ (by rw [h1]; omega), if_neg (by omega), if_neg (by omega), if_neg (by omega), if_neg (by omega)]
    exact h4 p (by omega) hp2
end Go.Proofs.YtmjmidgfdjcbfaaGreatDoor
