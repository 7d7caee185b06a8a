/-
  MEMORY for package depend: rows of elements that are read; numbers and strings; blocks of numbers.
-/
import Derived.Test.YteennnhinfnahaaMeB
import Derived.Test.YteennnhinfnahaaDaM
import Derived.Test.YteennnhinfnahaaMkM
import Derived.Laws.IdiomCopy
namespace Go.Proofs.Yteennnhinfnahaa
set_option linter.unusedVariables false
open Go.RowKit Go.Shelf Go.Lib

/-- A value that reads as a row of elements, each of sz cells, of which E tells. -/
def Rows {α : Type} (sz : Nat) (E : World → List Value → α → Prop) (w : World) (v : Value) (xs : List α) : Prop :=
  ∃ A cap, v = .slice A xs.length cap ∧ xs.length ≤ cap ∧ (0 < xs.length → ∃ b off, A = some ⟨b, off, none⟩ ∧ b < w.heap.size ∧
    ∀ (j : Nat) (x : α), xs[j]? = some x → ∃ cs : List Value, cs.length = sz ∧ E w cs x ∧ ∀ (i : Nat) (u : Value), cs[i]? = some u → w.cell? ⟨b, off + j * sz + i, none⟩ = some u)
/-- What stays while all that lay, lies. -/
def Stays {α : Type} (E : World → List Value → α → Prop) : Prop := ∀ (w w' : World) (cs : List Value) (x : α), Below w.heap.size w w' → E w cs x → E w' cs x
theorem Rows.below {α : Type} {sz : Nat} {E : World → List Value → α → Prop} (hE : Stays E) {w w' : World} {v : Value} {xs : List α} (h : Rows sz E w v xs) (hb : Below w.heap.size w w') : Rows sz E w' v xs := by
  obtain ⟨A, cap, hv, hc, hr⟩ := h
  refine ⟨A, cap, hv, hc, fun h0 => ?_⟩
  obtain ⟨b, off, hA, hbl, hj⟩ := hr h0
  refine ⟨b, off, hA, Nat.lt_of_lt_of_le hbl hb.size, fun j x hx => ?_⟩
  obtain ⟨cs, h1, h2, h3⟩ := hj j x hx
  exact ⟨cs, h1, hE _ _ _ _ hb h2, fun i u hu => (hb.cell hbl).trans (h3 i u hu)⟩
theorem Rows.nil {α : Type} {sz : Nat} {E : World → List Value → α → Prop} (w : World) : Rows sz E w (.slice none 0 0) [] := ⟨none, 0, rfl, Nat.le_refl _, fun h => absurd h (by simp)⟩
theorem Rows.empty {α : Type} {sz : Nat} {E : World → List Value → α → Prop} (w : World) (A : Option Addr) (cap : Nat) : Rows (α := α) sz E w (.slice A 0 cap) [] := ⟨A, cap, rfl, Nat.zero_le _, fun h => absurd h (by simp)⟩
/-- A part of a row. -/
theorem Rows.part {α : Type} {sz : Nat} {E : World → List Value → α → Prop} {w : World} {A : Option Addr} {n cap : Nat} {xs : List α} (h : Rows sz E w (.slice A n cap) xs) {lo hi c' : Nat} (hlo : lo ≤ hi) (hhi : hi ≤ xs.length) (hc' : hi - lo ≤ c') :
    ∀ A' : Option Addr, (0 < hi - lo → ∀ b off, A = some ⟨b, off, none⟩ → A' = some ⟨b, off + lo * sz, none⟩) → Rows sz E w (.slice A' (hi - lo) c') ((xs.take hi).drop lo) := by
  intro A' hA'
  obtain ⟨A0, cap0, hv, hc, hr⟩ := h
  cases hv
  have hl : ((xs.take hi).drop lo).length = hi - lo := by rw [List.length_drop, List.length_take, Nat.min_eq_left hhi]
  refine ⟨A', c', by rw [hl], by rw [hl]; exact hc', fun h0 => ?_⟩
  rw [hl] at h0
  obtain ⟨b, off, hA, hbl, hj⟩ := hr (by omega)
  refine ⟨b, off + lo * sz, hA' h0 b off hA, hbl, fun j x hx => ?_⟩
  have hjl : j < hi - lo := by have := (List.getElem?_eq_some_iff.1 hx).1; rw [hl] at this; exact this
  rw [List.getElem?_drop, List.getElem?_take, if_pos (by omega)] at hx
  obtain ⟨cs, h1, h2, h3⟩ := hj (lo + j) x hx
  refine ⟨cs, h1, h2, fun i u hu => ?_⟩
  rw [show off + lo * sz + j * sz + i = off + (lo + j) * sz + i by rw [Nat.add_mul]; omega]
  exact h3 i u hu
theorem Rows.len {α : Type} {sz : Nat} {E : World → List Value → α → Prop} {w : World} {A : Option Addr} {n cap : Nat} {xs : List α} (h : Rows sz E w (.slice A n cap) xs) : n = xs.length ∧ n ≤ cap := by
  obtain ⟨A0, cap0, hv, hc, _⟩ := h
  cases hv
  exact ⟨rfl, hc⟩

abbrev Fs := List (List UInt8)
def EStr (_ : World) (cs : List Value) (s : Bs) : Prop := cs = [.string ⟨s.toArray⟩]
def EInt (_ : World) (cs : List Value) (x : Int) : Prop := cs = [.int .i64 x]
theorem stays_str : Stays EStr := fun _ _ _ _ _ h => h
theorem stays_int : Stays EInt := fun _ _ _ _ _ h => h
/-- One element's cells. -/
theorem Rows.at' {α : Type} {sz : Nat} {E : World → List Value → α → Prop} {w : World} {A : Option Addr} {n cap : Nat} {xs : List α} (h : Rows sz E w (.slice A n cap) xs) (h0 : 0 < xs.length) :
    ∃ b off, A = some ⟨b, off, none⟩ ∧ b < w.heap.size ∧ ∀ (j : Nat) (x : α), xs[j]? = some x → ∃ cs : List Value, cs.length = sz ∧ E w cs x ∧ ∀ (i : Nat) (u : Value), cs[i]? = some u → w.cell? ⟨b, off + j * sz + i, none⟩ = some u := by
  obtain ⟨A0, cap0, hv, _, hr⟩ := h
  cases hv
  exact hr h0
theorem at_str {w : World} {A : Option Addr} {n cap : Nat} {xs : Fs} (h : Rows 1 EStr w (.slice A n cap) xs) (h0 : 0 < xs.length) :
    ∃ b off, A = some ⟨b, off, none⟩ ∧ b < w.heap.size ∧ ∀ (j : Nat) (x : Bs), xs[j]? = some x → w.cell? ⟨b, off + j, none⟩ = some (.string ⟨x.toArray⟩) := by
  obtain ⟨b, off, hA, hb, hj⟩ := h.at' h0
  refine ⟨b, off, hA, hb, fun j x hx => ?_⟩
  obtain ⟨cs, _, rfl, h3⟩ := hj j x hx
  have := h3 0 _ rfl
  rw [Nat.mul_one, Nat.add_zero] at this
  exact this
theorem at_int {w : World} {A : Option Addr} {n cap : Nat} {xs : List Int} (h : Rows 1 EInt w (.slice A n cap) xs) (h0 : 0 < xs.length) :
    ∃ b off, A = some ⟨b, off, none⟩ ∧ b < w.heap.size ∧ ∀ (j : Nat) (x : Int), xs[j]? = some x → w.cell? ⟨b, off + j, none⟩ = some (.int .i64 x) := by
  obtain ⟨b, off, hA, hb, hj⟩ := h.at' h0
  refine ⟨b, off, hA, hb, fun j x hx => ?_⟩
  obtain ⟨cs, _, rfl, h3⟩ := hj j x hx
  have := h3 0 _ rfl
  rw [Nat.mul_one, Nat.add_zero] at this
  exact this
theorem Rows.form {α : Type} {sz : Nat} {E : World → List Value → α → Prop} {w : World} {v : Value} {xs : List α} (h : Rows sz E w v xs) : ∃ A cap, v = .slice A xs.length cap ∧ xs.length ≤ cap := by
  obtain ⟨A, cap, hv, hc, _⟩ := h
  exact ⟨A, cap, hv, hc⟩
theorem str_eq (a c : Bs) : ((⟨a.toArray⟩ : ByteArray).toList == (⟨c.toArray⟩ : ByteArray).toList) = decide (a = c) := by
  rw [Lib.toList_data, Lib.toList_data, Bool.eq_iff_iff]
  simp
theorem below_alloc {w w' : World} (o : Obj) (h : Below (w.alloc o).heap.size (w.alloc o) w') : Below w.heap.size w w' :=
  ((Below.refl _ w).alloc (Nat.le_refl _) o).trans (h.mono (by simp))
theorem alloc_sz (w : World) (o : Obj) : (w.alloc o).heap.size = w.heap.size + 1 := by simp
theorem below_box (w : World) (o : Obj) : Below w.heap.size w (w.alloc o) := (Below.refl _ w).alloc (Nat.le_refl _) o
theorem Rows.imp {α : Type} {sz : Nat} {E E' : World → List Value → α → Prop} {w : World} {v : Value} {xs : List α} (h : Rows sz E w v xs) (hi : ∀ cs x, E w cs x → E' w cs x) : Rows sz E' w v xs := by
  obtain ⟨A, cap, hv, hc, hr⟩ := h
  refine ⟨A, cap, hv, hc, fun h0 => ?_⟩
  obtain ⟨b, off, hA, hb, hj⟩ := hr h0
  refine ⟨b, off, hA, hb, fun j x hx => ?_⟩
  obtain ⟨cs, h1, h2, h3⟩ := hj j x hx
  exact ⟨cs, h1, hi _ _ h2, h3⟩
theorem flatM_len {α : Type} {enc : α → List Value} {sz : Nat} (he : ∀ x, (enc x).length = sz) : ∀ xs : List α, (xs.flatMap enc).length = xs.length * sz
  | [] => by simp
  | x :: l => by rw [List.flatMap_cons, List.length_append, he, flatM_len he l, List.length_cons, Nat.add_mul]; omega
theorem flatM_get {α : Type} {enc : α → List Value} {sz : Nat} (he : ∀ x, (enc x).length = sz) : ∀ (xs : List α) (j : Nat) (x : α) (i : Nat), xs[j]? = some x → i < sz → (xs.flatMap enc)[j * sz + i]? = (enc x)[i]?
  | [], j, x, i, h, _ => by simp at h
  | y :: l, 0, x, i, h, hi => by
    simp at h
    subst h
    rw [List.flatMap_cons, Nat.zero_mul, Nat.zero_add, List.getElem?_append_left (by rw [he]; exact hi)]
  | y :: l, j + 1, x, i, h, hi => by
    rw [List.flatMap_cons, List.getElem?_append_right (by rw [he, Nat.add_mul]; omega), he, show (j + 1) * sz + i - sz = j * sz + i by rw [Nat.add_mul]; omega]
    exact flatM_get he l j x i (by simpa using h) hi
/-- A row of the call's own, read. -/
theorem rows_of_own {α : Type} {enc : α → List Value} {sz : Nat} (he : ∀ x, (enc x).length = sz) {w : World} {base : Nat} {T : TypeId} {v : Value} {xs : List α} (h : w.ownsRow base T sz v xs.length (xs.flatMap enc)) : Rows sz (fun _ cs x => cs = enc x) w v xs := by
  rcases h.2 with ⟨rfl, h0⟩ | ⟨g, cap, cur, hv, hb, hh, hc, _⟩
  · rw [List.length_eq_zero_iff.1 h0]
    exact Rows.nil w
  · subst hv
    refine ⟨_, cap, rfl, hc, fun _ => ⟨g, 0, rfl, (Array.getElem?_eq_some_iff.1 hh).1, fun j x hx => ⟨enc x, he x, rfl, fun i u hu => ?_⟩⟩⟩
    have hj : j < xs.length := (List.getElem?_eq_some_iff.1 hx).1
    have hi : i < sz := by have := (List.getElem?_eq_some_iff.1 hu).1; rw [he] at this; exact this
    have hlt : j * sz + i < xs.length * sz := by
      have : (j + 1) * sz ≤ xs.length * sz := Nat.mul_le_mul_right _ hj
      rw [Nat.add_mul] at this
      omega
    rw [Nat.zero_add, h.cellAt (j * sz + i) hlt, flatM_get he xs j x i hx hi]
    exact hu
theorem grown_trans {w w1 w2 : World} {row : Option Nat} (h : w.grownBy w1 row) (k : w1.grownBy w2 row) : w.grownBy w2 row :=
  ⟨k.os.trans h.os, k.tape.trans h.tape, k.output.trans h.output, Nat.le_trans h.size k.size, fun i hi hne => (k.block i (Nat.lt_of_lt_of_le hi h.size) hne).trans (h.block i hi hne)⟩
theorem grown_below {w w' : World} (h : Below w.heap.size w w') (row : Option Nat) : w.grownBy w' row := ⟨h.os, h.tape, h.output, h.size, fun k hk _ => h.block k hk⟩
theorem grown_set (w : World) (g i : Nat) (v : Value) : w.grownBy (w.setCell ⟨g, i, none⟩ v) (some g) :=
  ⟨rfl, rfl, rfl, by simp [World.setCell], fun k _ hne => Below.heap_setCell w ⟨g, i, none⟩ v k (fun e => hne (by rw [e]))⟩
theorem below_of_grown {w w' : World} {row : Option Nat} {N : Nat} (h : w.grownBy w' row) (hN : N ≤ w.heap.size) (hr : ∀ k, row = some k → N ≤ k) : Below N w w' :=
  ⟨h.os, h.tape, h.output, h.size, fun k hk => h.block k (by omega) (fun e => by have := hr k e.symm; omega)⟩
theorem hv_lt {w : World} {bk off n cap : Nat} {h : List Int} (hV : ∀ W, Below w.heap.size w W → Rows 1 EInt W (.slice (some ⟨bk, off, none⟩) n cap) h) (W : World) (hb : Below w.heap.size w W) (h0 : 0 < h.length) : bk < w.heap.size := by
  obtain ⟨b, o, e, hl, _⟩ := (hV w (Below.refl _ _)).at' h0
  cases e
  exact hl
theorem str_empty (x : Bs) : ((⟨x.toArray⟩ : ByteArray).toList == ([] : List UInt8)) = decide (x = []) := by
  rw [Lib.toList_data, Bool.eq_iff_iff]
  simp
theorem findZ_spec {α : Type} (p : α → Bool) (l : List α) : (findZ p l = -1 ∧ ∀ x ∈ l, p x = false) ∨ ∃ (i : Nat) (x : α), l[i]? = some x ∧ p x = true ∧ (∀ (j : Nat) (y : α), j < i → l[j]? = some y → p y = false) ∧ findZ p l = (i : Int) := by
  unfold findZ
  cases h : l.findIdx? p with
  | none => exact .inl ⟨rfl, fun x hx => by simpa using List.findIdx?_eq_none_iff.1 h x hx⟩
  | some i =>
    obtain ⟨hi, hp, hj⟩ := List.findIdx?_eq_some_iff_getElem.1 h
    refine .inr ⟨i, l[i], List.getElem?_eq_getElem hi, hp, fun j y hji hy => ?_, rfl⟩
    obtain ⟨hjl, rfl⟩ := List.getElem?_eq_some_iff.1 hy
    simpa using hj j hji
theorem findZ_at {α : Type} {p : α → Bool} {l : List α} {i : Nat} {x : α} (h : l[i]? = some x) (hp : p x = true) (hj : ∀ (j : Nat) (y : α), j < i → l[j]? = some y → p y = false) : findZ p l = (i : Int) := by
  rcases findZ_spec p l with ⟨_, h1⟩ | ⟨k, y, hk, hy, h2, h3⟩
  · rw [h1 x (List.mem_of_getElem? h)] at hp; cases hp
  · rcases Nat.lt_trichotomy k i with e | e | e
    · rw [hj k y e hk] at hy; cases hy
    · rw [h3, e]
    · rw [h2 i x e h] at hp; cases hp
theorem findZ_range {α : Type} (p : α → Bool) (l : List α) : -1 ≤ findZ p l ∧ findZ p l < l.length := by
  rcases findZ_spec p l with ⟨h, _⟩ | ⟨k, y, hk, _, _, h3⟩
  · rw [h]; omega
  · have := (List.getElem?_eq_some_iff.1 hk).1
    rw [h3]; omega
theorem findZ_hit {α : Type} {p : α → Bool} {xs : List α} {k : Nat} {x : α} (hx : xs[k]? = some x) (hp : p x = true) (h : ∀ (j : Nat) (y : α), j < k → xs[j]? = some y → p y = false) : findZ p xs = (k : Int) := findZ_at hx hp h
theorem findZ_miss {α : Type} {p : α → Bool} {xs : List α} {k : Nat} (hk : k = xs.length) (h : ∀ (j : Nat) (y : α), j < k → xs[j]? = some y → p y = false) : findZ p xs = -1 := by
  rcases findZ_spec p xs with ⟨e, _⟩ | ⟨i, x, hi, hp, _, _⟩
  · exact e
  · have := (List.getElem?_eq_some_iff.1 hi).1
    rw [h i x (by omega) hi] at hp
    cases hp
theorem any_findZ {α : Type} (p : α → Bool) (xs : List α) : decide (0 ≤ findZ p xs) = xs.any p := by
  rcases findZ_spec p xs with ⟨e, h⟩ | ⟨i, x, hi, hp, _, e⟩
  · rw [e, Bool.eq_iff_iff]
    simp only [decide_eq_true_eq, List.any_eq_true]
    exact ⟨fun h => by omega, fun ⟨x, hx, hp⟩ => by rw [h x hx] at hp; cases hp⟩
  · rw [e, Bool.eq_iff_iff]
    simp only [decide_eq_true_eq, List.any_eq_true]
    exact ⟨fun _ => ⟨x, List.mem_of_getElem? hi, hp⟩, fun _ => by omega⟩
/-- A block of numbers. -/
def intRow (l : List Int) : Array Value := (l.map fun (n : Int) => Value.int .i64 n).toArray
theorem intRow_get {l : List Int} {i : Nat} (h : i < l.length) : (intRow l)[i]? = some (.int .i64 (l.getD i 0)) := by
  simp [intRow, h]
theorem intRow_set (l : List Int) (i : Nat) (n : Int) : (intRow l).setIfInBounds i (.int .i64 n) = intRow (l.set i n) := by
  simp [intRow, List.map_set]
theorem made_int (n : Nat) : madeCells #[.int .i64 0] n = intRow (List.replicate n 0) := by
  apply Array.ext'
  simp only [madeCells, intRow, List.map_replicate]
  apply List.ext_getElem?
  intro i
  by_cases h : i < n
  · simp [h, Nat.mod_one]
  · simp [h]
theorem Try.infoInt2 : (Try.prog.info? 3).map (fun i => (i.zero, i.size, i.bytes)) = some (some (.int .i64 0), 1, 8) := by kernel_rfl
/-- A block of numbers, read as a row. -/
theorem rows_int {W : World} {b n cap : Nat} {l : List Int} {t : TypeId} {f : Nat × Nat} (hn : l.length = n) (hc : n ≤ cap) (h : W.heap[b]? = some (.cells (intRow l) t f)) : Rows 1 EInt W (.slice (some ⟨b, 0, none⟩) n cap) l := by
  subst hn
  refine ⟨_, cap, rfl, hc, fun h0 => ⟨b, 0, rfl, (Array.getElem?_eq_some_iff.1 h).1, fun j x hx => ⟨[.int .i64 x], rfl, rfl, fun i u hu => ?_⟩⟩⟩
  match i, hu with
  | 0, hu =>
    cases hu
    refine cell_of h ?_
    simp [intRow, hx]
theorem flat_one : ∀ xs : List Int, (xs.flatMap fun x => [Value.int .i64 x]) = xs.map fun x => Value.int .i64 x
  | [] => rfl
  | a :: l => by rw [List.flatMap_cons, flat_one l]; rfl
theorem own_rows {w : World} {base : Nat} {v : Value} {xs : List Int} (h : w.ownsRow base 3 1 v xs.length (xs.map fun x => Value.int .i64 x)) : Rows 1 EInt w v xs := by
  exact rows_of_own (enc := fun x => [Value.int .i64 x]) (fun _ => rfl) (by rw [flat_one]; exact h)
end Go.Proofs.Yteennnhinfnahaa
