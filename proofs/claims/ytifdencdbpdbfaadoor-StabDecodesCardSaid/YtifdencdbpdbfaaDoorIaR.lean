/-
  MEMORY for package interval: rows of spans that are read, rows of the call's own.
-/
import Derived.Test.YtifdencdbpdbfaaDoorMeB
import Derived.Test.YtifdencdbpdbfaaDoorIaM
import Derived.Laws.IdiomCopy
namespace Go.Proofs.YtifdencdbpdbfaaDoor
set_option linter.unusedVariables false
open Go.RowKit Go.Shelf Go.Lib

/-- A value that reads as a row of elements, each of sz cells, of which E tells. -/
def Rows {α : Type} (sz : Nat) (E : World → List Value → α → Prop) (w : World) (v : Value) (xs : List α) : Prop :=
  ∃ A cap, v = .slice A xs.length cap ∧ xs.length ≤ cap ∧ (0 < xs.length → ∃ b off, A = some ⟨b, off, none⟩ ∧ b < w.heap.size ∧
    ∀ (j : Nat) (x : α), xs[j]? = some x → ∃ cs : List Value, cs.length = sz ∧ E w cs x ∧ ∀ (i : Nat) (u : Value), cs[i]? = some u → w.cell? ⟨b, off + j * sz + i, none⟩ = some u)
/-- What stays while all that lay, lies. -/
def Stays {α : Type} (E : World → List Value → α → Prop) : Prop := ∀ (w w' : World) (cs : List Value) (x : α), Below w.heap.size w w' → E w cs x → E w' cs x
theorem Rows.below {α : Type} {sz : Nat} {E : World → List Value → α → Prop} (hE : Stays E) {w w' : World} {v : Value} {xs : List α} (h : Rows sz E w v xs) (hb : Below w.heap.size w w') : Rows sz E w' v xs := by
  obtain ⟨A, cap, hv, hc, hr⟩ := h
  refine ⟨A, cap, hv, hc, fun h0 => ?_⟩
  obtain ⟨b, off, hA, hbl, hj⟩ := hr h0
  refine ⟨b, off, hA, Nat.lt_of_lt_of_le hbl hb.size, fun j x hx => ?_⟩
  obtain ⟨cs, h1, h2, h3⟩ := hj j x hx
  exact ⟨cs, h1, hE _ _ _ _ hb h2, fun i u hu => (hb.cell hbl).trans (h3 i u hu)⟩
theorem Rows.nil {α : Type} {sz : Nat} {E : World → List Value → α → Prop} (w : World) : Rows sz E w (.slice none 0 0) [] := ⟨none, 0, rfl, Nat.le_refl _, fun h => absurd h (by simp)⟩
theorem Rows.empty {α : Type} {sz : Nat} {E : World → List Value → α → Prop} (w : World) (A : Option Addr) (cap : Nat) : Rows (α := α) sz E w (.slice A 0 cap) [] := ⟨A, cap, rfl, Nat.zero_le _, fun h => absurd h (by simp)⟩
/-- A part of a row. -/
theorem Rows.part {α : Type} {sz : Nat} {E : World → List Value → α → Prop} {w : World} {A : Option Addr} {n cap : Nat} {xs : List α} (h : Rows sz E w (.slice A n cap) xs) {lo hi c' : Nat} (hlo : lo ≤ hi) (hhi : hi ≤ xs.length) (hc' : hi - lo ≤ c') :
    ∀ A' : Option Addr, (0 < hi - lo → ∀ b off, A = some ⟨b, off, none⟩ → A' = some ⟨b, off + lo * sz, none⟩) → Rows sz E w (.slice A' (hi - lo) c') ((xs.take hi).drop lo) := by
  intro A' hA'
  obtain ⟨A0, cap0, hv, hc, hr⟩ := h
  cases hv
  have hl : ((xs.take hi).drop lo).length = hi - lo := by rw [List.length_drop, List.length_take, Nat.min_eq_left hhi]
  refine ⟨A', c', by rw [hl], by rw [hl]; exact hc', fun h0 => ?_⟩
  rw [hl] at h0
  obtain ⟨b, off, hA, hbl, hj⟩ := hr (by omega)
  refine ⟨b, off + lo * sz, hA' h0 b off hA, hbl, fun j x hx => ?_⟩
  have hjl : j < hi - lo := by have := (List.getElem?_eq_some_iff.1 hx).1; rw [hl] at this; exact this
  rw [List.getElem?_drop, List.getElem?_take, if_pos (by omega)] at hx
  obtain ⟨cs, h1, h2, h3⟩ := hj (lo + j) x hx
  refine ⟨cs, h1, h2, fun i u hu => ?_⟩
  rw [show off + lo * sz + j * sz + i = off + (lo + j) * sz + i by rw [Nat.add_mul]; omega]
  exact h3 i u hu
theorem Rows.len {α : Type} {sz : Nat} {E : World → List Value → α → Prop} {w : World} {A : Option Addr} {n cap : Nat} {xs : List α} (h : Rows sz E w (.slice A n cap) xs) : n = xs.length ∧ n ≤ cap := by
  obtain ⟨A0, cap0, hv, hc, _⟩ := h
  cases hv
  exact ⟨rfl, hc⟩

def EInt (_ : World) (cs : List Value) (x : Int) : Prop := cs = [.int .i64 x]
theorem stays_int : Stays EInt := fun _ _ _ _ _ h => h
/-- One element's cells. -/
theorem Rows.at' {α : Type} {sz : Nat} {E : World → List Value → α → Prop} {w : World} {A : Option Addr} {n cap : Nat} {xs : List α} (h : Rows sz E w (.slice A n cap) xs) (h0 : 0 < xs.length) :
    ∃ b off, A = some ⟨b, off, none⟩ ∧ b < w.heap.size ∧ ∀ (j : Nat) (x : α), xs[j]? = some x → ∃ cs : List Value, cs.length = sz ∧ E w cs x ∧ ∀ (i : Nat) (u : Value), cs[i]? = some u → w.cell? ⟨b, off + j * sz + i, none⟩ = some u := by
  obtain ⟨A0, cap0, hv, _, hr⟩ := h
  cases hv
  exact hr h0
theorem at_int {w : World} {A : Option Addr} {n cap : Nat} {xs : List Int} (h : Rows 1 EInt w (.slice A n cap) xs) (h0 : 0 < xs.length) :
    ∃ b off, A = some ⟨b, off, none⟩ ∧ b < w.heap.size ∧ ∀ (j : Nat) (x : Int), xs[j]? = some x → w.cell? ⟨b, off + j, none⟩ = some (.int .i64 x) := by
  obtain ⟨b, off, hA, hb, hj⟩ := h.at' h0
  refine ⟨b, off, hA, hb, fun j x hx => ?_⟩
  obtain ⟨cs, _, rfl, h3⟩ := hj j x hx
  have := h3 0 _ rfl
  rw [Nat.mul_one, Nat.add_zero] at this
  exact this
theorem flatM_len {α : Type} {enc : α → List Value} {sz : Nat} (he : ∀ x, (enc x).length = sz) : ∀ xs : List α, (xs.flatMap enc).length = xs.length * sz
  | [] => by simp
  | x :: l => by rw [List.flatMap_cons, List.length_append, he, flatM_len he l, List.length_cons, Nat.add_mul]; omega
theorem flatM_get {α : Type} {enc : α → List Value} {sz : Nat} (he : ∀ x, (enc x).length = sz) : ∀ (xs : List α) (j : Nat) (x : α) (i : Nat), xs[j]? = some x → i < sz → (xs.flatMap enc)[j * sz + i]? = (enc x)[i]?
  | [], j, x, i, h, _ => by simp at h
  | y :: l, 0, x, i, h, hi => by
    simp at h
    subst h
    rw [List.flatMap_cons, Nat.zero_mul, Nat.zero_add, List.getElem?_append_left (by rw [he]; exact hi)]
  | y :: l, j + 1, x, i, h, hi => by
    rw [List.flatMap_cons, List.getElem?_append_right (by rw [he, Nat.add_mul]; omega), he, show (j + 1) * sz + i - sz = j * sz + i by rw [Nat.add_mul]; omega]
    exact flatM_get he l j x i (by simpa using h) hi
theorem rows_of_own {α : Type} {enc : α → List Value} {sz : Nat} (he : ∀ x, (enc x).length = sz) {w : World} {base : Nat} {T : TypeId} {v : Value} {xs : List α} (h : w.ownsRow base T sz v xs.length (xs.flatMap enc)) : Rows sz (fun _ cs x => cs = enc x) w v xs := by
  rcases h.2 with ⟨rfl, h0⟩ | ⟨g, cap, cur, hv, hb, hh, hc, _⟩
  · rw [List.length_eq_zero_iff.1 h0]
    exact Rows.nil w
  · subst hv
    refine ⟨_, cap, rfl, hc, fun _ => ⟨g, 0, rfl, (Array.getElem?_eq_some_iff.1 hh).1, fun j x hx => ⟨enc x, he x, rfl, fun i u hu => ?_⟩⟩⟩
    have hj : j < xs.length := (List.getElem?_eq_some_iff.1 hx).1
    have hi : i < sz := by have := (List.getElem?_eq_some_iff.1 hu).1; rw [he] at this; exact this
    have hlt : j * sz + i < xs.length * sz := by
      have : (j + 1) * sz ≤ xs.length * sz := Nat.mul_le_mul_right _ hj
      rw [Nat.add_mul] at this
      omega
    rw [Nat.zero_add, h.cellAt (j * sz + i) hlt, flatM_get he xs j x i hx hi]
    exact hu
theorem grown_trans {w w1 w2 : World} {row : Option Nat} (h : w.grownBy w1 row) (k : w1.grownBy w2 row) : w.grownBy w2 row :=
  ⟨k.os.trans h.os, k.tape.trans h.tape, k.output.trans h.output, Nat.le_trans h.size k.size, fun i hi hne => (k.block i (Nat.lt_of_lt_of_le hi h.size) hne).trans (h.block i hi hne)⟩
theorem grown_below {w w' : World} (h : Below w.heap.size w w') (row : Option Nat) : w.grownBy w' row := ⟨h.os, h.tape, h.output, h.size, fun k hk _ => h.block k hk⟩
theorem grown_set (w : World) (g i : Nat) (v : Value) : w.grownBy (w.setCell ⟨g, i, none⟩ v) (some g) :=
  ⟨rfl, rfl, rfl, by simp [World.setCell], fun k _ hne => Below.heap_setCell w ⟨g, i, none⟩ v k (fun e => hne (by rw [e]))⟩
theorem below_of_grown {w w' : World} {row : Option Nat} {N : Nat} (h : w.grownBy w' row) (hN : N ≤ w.heap.size) (hr : ∀ k, row = some k → N ≤ k) : Below N w w' :=
  ⟨h.os, h.tape, h.output, h.size, fun k hk => h.block k (by omega) (fun e => by have := hr k e.symm; omega)⟩
theorem Rows.form {α : Type} {sz : Nat} {E : World → List Value → α → Prop} {w : World} {v : Value} {xs : List α} (h : Rows sz E w v xs) : ∃ A cap, v = .slice A xs.length cap ∧ xs.length ≤ cap := by
  obtain ⟨A, cap, hv, hc, _⟩ := h
  exact ⟨A, cap, hv, hc⟩
theorem alloc_sz (w : World) (o : Obj) : (w.alloc o).heap.size = w.heap.size + 1 := by simp
theorem below_box (w : World) (o : Obj) : Below w.heap.size w (w.alloc o) := (Below.refl _ w).alloc (Nat.le_refl _) o
def spV (x : Sp) : List Value := [.int .i64 x.1, .int .i64 x.2]
def ESp (_ : World) (cs : List Value) (x : Sp) : Prop := cs = spV x
theorem stays_sp : Stays ESp := fun _ _ _ _ _ h => h
theorem spV_len (x : Sp) : (spV x).length = 2 := rfl
theorem spV_one (x : Sp) : ∀ v ∈ spV x, v.oneCell' = true := by simp [spV, Value.oneCell']
theorem at_sp {w : World} {A : Option Addr} {n cap : Nat} {xs : List Sp} (h : Rows 2 ESp w (.slice A n cap) xs) (h0 : 0 < xs.length) :
    ∃ b off, A = some ⟨b, off, none⟩ ∧ b < w.heap.size ∧ ∀ (j : Nat) (x : Sp), xs[j]? = some x → w.cell? ⟨b, off + j * 2, none⟩ = some (.int .i64 x.1) ∧ w.cell? ⟨b, off + j * 2 + 1, none⟩ = some (.int .i64 x.2) := by
  obtain ⟨b, off, hA, hb, hj⟩ := h.at' h0
  refine ⟨b, off, hA, hb, fun j x hx => ?_⟩
  obtain ⟨cs, _, rfl, h3⟩ := hj j x hx
  exact ⟨h3 0 _ rfl, h3 1 _ rfl⟩
/-- A block of spans. -/
def spRow (l : List Sp) : Array Value := (l.flatMap spV).toArray
theorem spRow_size (l : List Sp) : (spRow l).size = l.length * 2 := by
  unfold spRow
  rw [List.size_toArray, flatM_len spV_len]
theorem spRow_get {l : List Sp} {i : Nat} {x : Sp} (h : l[i]? = some x) : (spRow l)[i * 2]? = some (.int .i64 x.1) ∧ (spRow l)[i * 2 + 1]? = some (.int .i64 x.2) := by
  unfold spRow
  rw [List.getElem?_toArray, List.getElem?_toArray]
  exact ⟨flatM_get (enc := spV) (sz := 2) spV_len l i x 0 h (by omega), flatM_get (enc := spV) (sz := 2) spV_len l i x 1 h (by omega)⟩
theorem flatS_set : ∀ (l : List Sp) (i : Nat) (x : Sp), i < l.length → (l.set i x).flatMap spV = (l.flatMap spV).take (i * 2) ++ spV x ++ (l.flatMap spV).drop (i * 2 + 2)
  | [], i, x, h => absurd h (by simp)
  | a :: l, 0, x, h => by simp [spV]
  | a :: l, i + 1, x, h => by
    rw [List.set_cons_succ, List.flatMap_cons, List.flatMap_cons, flatS_set l i x (by simpa using h), show (i + 1) * 2 = (spV a).length + i * 2 by rw [spV_len]; omega, List.take_length_add_append, Nat.add_assoc, List.drop_length_add_append]
    simp
theorem spRow_set1 {l : List Sp} {i c : Nat} {x y : Sp} (h : l[i]? = some x) (hc : c < 2) (v : Value) (hy : (spV x).set c v = spV y) : (spRow l).setIfInBounds (i * 2 + c) v = spRow (l.set i y) := by
  have hi : i < l.length := (List.getElem?_eq_some_iff.1 h).1
  unfold spRow
  rw [List.setIfInBounds_toArray]
  congr 1
  rw [flatS_set l i y hi, ← hy]
  have hx : l.flatMap spV = (l.flatMap spV).take (i * 2) ++ spV x ++ (l.flatMap spV).drop (i * 2 + 2) := by
    have := flatS_set l i x hi
    rw [show l.set i x = l by obtain ⟨h1, h2⟩ := List.getElem?_eq_some_iff.1 h; rw [← h2]; exact List.set_getElem_self h1] at this
    exact this
  have hlen : ((l.flatMap spV).take (i * 2)).length = i * 2 := by
    rw [List.length_take, flatM_len spV_len]
    omega
  generalize (l.flatMap spV).take (i * 2) = T at hx hlen ⊢
  generalize (l.flatMap spV).drop (i * 2 + 2) = D at hx ⊢
  rw [hx, List.append_assoc, List.set_append_right _ _ (by omega), hlen, show i * 2 + c - i * 2 = c by omega, List.set_append_left _ _ (by rw [spV_len]; exact hc), List.append_assoc]
/-- A whole span stored. -/
theorem spRow_set2 {l : List Sp} {i : Nat} (h : i < l.length) (y : Sp) : ((spRow l).setIfInBounds (i * 2) (.int .i64 y.1)).setIfInBounds (i * 2 + 1) (.int .i64 y.2) = spRow (l.set i y) := by
  have hx : l[i]? = some l[i] := List.getElem?_eq_getElem h
  have e1 := spRow_set1 (y := (y.1, (l[i]).2)) hx (c := 0) (by omega) (.int .i64 y.1) rfl
  rw [Nat.add_zero] at e1
  rw [e1]
  have hx2 : (l.set i (y.1, (l[i]).2))[i]? = some (y.1, (l[i]).2) := by rw [List.getElem?_set_self h]
  rw [spRow_set1 (y := y) hx2 (c := 1) (by omega) (.int .i64 y.2) rfl, List.set_set]
theorem rows_sp {W : World} {b n cap : Nat} {l : List Sp} {t : TypeId} {f : Nat × Nat} (hn : l.length = n) (hc : n ≤ cap) (h : W.heap[b]? = some (.cells (spRow l) t f)) : Rows 2 ESp W (.slice (some ⟨b, 0, none⟩) n cap) l := by
  subst hn
  refine ⟨_, cap, rfl, hc, fun h0 => ⟨b, 0, rfl, (Array.getElem?_eq_some_iff.1 h).1, fun j x hx => ⟨spV x, rfl, rfl, fun i u hu => ?_⟩⟩⟩
  obtain ⟨c0, c1⟩ := spRow_get hx
  match i, hu with
  | 0, hu => cases hu; refine cell_of h ?_; simpa using c0
  | 1, hu => cases hu; refine cell_of h ?_; simpa using c1
theorem made_sp (n : Nat) : madeCells #[.int .i64 0, .int .i64 0] (n * 2) = spRow (List.replicate n (0, 0)) := by
  apply Array.ext'
  simp only [madeCells, spRow]
  apply List.ext_getElem?
  intro i
  by_cases h : i < n * 2
  · have h1 := flatM_get (enc := spV) (sz := 2) spV_len (List.replicate n (0, 0)) (i / 2) (0, 0) (i % 2) (by rw [List.getElem?_replicate, if_pos (by omega)]) (Nat.mod_lt _ (by omega))
    rw [show i / 2 * 2 + i % 2 = i by omega] at h1
    rw [h1]
    have h3 : i % 2 = 0 ∨ i % 2 = 1 := by omega
    rw [Array.getElem?_toList, Array.getElem?_map, Array.getElem?_range, if_pos h]
    rcases h3 with h3 | h3 <;> simp [h3, spV]
  · rw [List.getElem?_eq_none (by simp; omega), List.getElem?_eq_none (by rw [flatM_len spV_len]; simp; omega)]
theorem own_sp {w : World} {base : Nat} {v : Value} {T : TypeId} {L : List Sp} (h : w.ownsRow base T 2 v L.length (L.flatMap spV)) : Rows 2 ESp w v L := rows_of_own (enc := spV) spV_len h
theorem Tryd.infoSp : (Tryd.prog.info? 24).map (fun i => (i.zero, i.size, i.bytes)) = some (some (.agg #[.int .i64 0, .int .i64 0]), 2, 16) := by kernel_rfl
end Go.Proofs.YtifdencdbpdbfaaDoor
