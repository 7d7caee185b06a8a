/-
  MEMORY for package corpus: rows of elements of several cells that are read; corpora in memory.
-/
import Derived.Test.YtmjmidgfdjcbfaaGreatDoorMeB
import Derived.Test.YtmjmidgfdjcbfaaGreatDoorQaM
namespace Go.Proofs.YtmjmidgfdjcbfaaGreatDoor
open Go.RowKit Go.Shelf Go.Lib

/-- A value that reads as a row of elements, each of sz cells, of which E tells. -/
def Rows {α : Type} (sz : Nat) (E : World → List Value → α → Prop) (w : World) (v : Value) (xs : List α) : Prop :=
  ∃ A cap, v = .slice A xs.length cap ∧ xs.length ≤ cap ∧ (0 < xs.length → ∃ b off, A = some ⟨b, off, none⟩ ∧ b < w.heap.size ∧
    ∀ (j : Nat) (x : α), xs[j]? = some x → ∃ cs : List Value, cs.length = sz ∧ E w cs x ∧ ∀ (i : Nat) (u : Value), cs[i]? = some u → w.cell? ⟨b, off + j * sz + i, none⟩ = some u)
/-- What stays while all that lay, lies. -/
def Stays {α : Type} (E : World → List Value → α → Prop) : Prop := ∀ (w w' : World) (cs : List Value) (x : α), Below w.heap.size w w' → E w cs x → E w' cs x
theorem Rows.below {α : Type} {sz : Nat} {E : World → List Value → α → Prop} (hE : Stays E) {w w' : World} {v : Value} {xs : List α} (h : Rows sz E w v xs) (hb : Below w.heap.size w w') : Rows sz E w' v xs := by
  obtain ⟨A, cap, hv, hc, hr⟩ := h
  refine ⟨A, cap, hv, hc, fun h0 => ?_⟩
  obtain ⟨b, off, hA, hbl, hj⟩ := hr h0
  refine ⟨b, off, hA, Nat.lt_of_lt_of_le hbl hb.size, fun j x hx => ?_⟩
  obtain ⟨cs, h1, h2, h3⟩ := hj j x hx
  exact ⟨cs, h1, hE _ _ _ _ hb h2, fun i u hu => (hb.cell hbl).trans (h3 i u hu)⟩
theorem Rows.nil {α : Type} {sz : Nat} {E : World → List Value → α → Prop} (w : World) : Rows sz E w (.slice none 0 0) [] := ⟨none, 0, rfl, Nat.le_refl _, fun h => absurd h (by simp)⟩
theorem Rows.empty {α : Type} {sz : Nat} {E : World → List Value → α → Prop} (w : World) (A : Option Addr) (cap : Nat) : Rows (α := α) sz E w (.slice A 0 cap) [] := ⟨A, cap, rfl, Nat.zero_le _, fun h => absurd h (by simp)⟩
/-- A part of a row. -/
theorem Rows.part {α : Type} {sz : Nat} {E : World → List Value → α → Prop} {w : World} {A : Option Addr} {n cap : Nat} {xs : List α} (h : Rows sz E w (.slice A n cap) xs) {lo hi c' : Nat} (hlo : lo ≤ hi) (hhi : hi ≤ xs.length) (hc' : hi - lo ≤ c') :
    ∀ A' : Option Addr, (0 < hi - lo → ∀ b off, A = some ⟨b, off, none⟩ → A' = some ⟨b, off + lo * sz, none⟩) → Rows sz E w (.slice A' (hi - lo) c') ((xs.take hi).drop lo) := by
  intro A' hA'
  obtain ⟨A0, cap0, hv, hc, hr⟩ := h
  cases hv
  have hl : ((xs.take hi).drop lo).length = hi - lo := by rw [List.length_drop, List.length_take, Nat.min_eq_left hhi]
  refine ⟨A', c', by rw [hl], by rw [hl]; exact hc', fun h0 => ?_⟩
  rw [hl] at h0
  obtain ⟨b, off, hA, hbl, hj⟩ := hr (by omega)
  refine ⟨b, off + lo * sz, hA' h0 b off hA, hbl, fun j x hx => ?_⟩
  have hjl : j < hi - lo := by have := (List.getElem?_eq_some_iff.1 hx).1; rw [hl] at this; exact this
  rw [List.getElem?_drop, List.getElem?_take, if_pos (by omega)] at hx
  obtain ⟨cs, h1, h2, h3⟩ := hj (lo + j) x hx
  refine ⟨cs, h1, h2, fun i u hu => ?_⟩
  rw [show off + lo * sz + j * sz + i = off + (lo + j) * sz + i by rw [Nat.add_mul]; omega]
  exact h3 i u hu
theorem Rows.len {α : Type} {sz : Nat} {E : World → List Value → α → Prop} {w : World} {A : Option Addr} {n cap : Nat} {xs : List α} (h : Rows sz E w (.slice A n cap) xs) : n = xs.length ∧ n ≤ cap := by
  obtain ⟨A0, cap0, hv, hc, _⟩ := h
  cases hv
  exact ⟨rfl, hc⟩

def EStr (_ : World) (cs : List Value) (s : Bs) : Prop := cs = [.string ⟨s.toArray⟩]
def EInt (_ : World) (cs : List Value) (x : Int) : Prop := cs = [.int .i64 x]
def EAttr (_ : World) (cs : List Value) (a : Bs × Bool) : Prop := cs = [.string ⟨a.1.toArray⟩, .bool a.2]
def EPair (_ : World) (cs : List Value) (p : Bs × Bs) : Prop := cs = [.string ⟨p.1.toArray⟩, .string ⟨p.2.toArray⟩]
def ENd (_ : World) (cs : List Value) (x : Nd) : Prop := cs = [.string ⟨x.label.toArray⟩, .int .i64 x.b, .int .i64 x.e, .int .i64 x.parent]
def ETok (w : World) (cs : List Value) (t : Fs) : Prop := ∃ v, cs = [v] ∧ Rows 1 EStr w v t
def EEx (w : World) (cs : List Value) (x : Ex) : Prop := ∃ v, cs = [.string ⟨x.name.toArray⟩, .int .i64 x.b, .int .i64 x.e, v] ∧ Rows 2 EPair w v x.ps
theorem stays_str : Stays EStr := fun _ _ _ _ _ h => h
theorem stays_int : Stays EInt := fun _ _ _ _ _ h => h
theorem stays_attr : Stays EAttr := fun _ _ _ _ _ h => h
theorem stays_pair : Stays EPair := fun _ _ _ _ _ h => h
theorem stays_nd : Stays ENd := fun _ _ _ _ _ h => h
theorem stays_tok : Stays ETok := fun _ _ _ _ hb ⟨v, h1, h2⟩ => ⟨v, h1, h2.below stays_str hb⟩
theorem stays_ex : Stays EEx := fun _ _ _ _ hb ⟨v, h1, h2⟩ => ⟨v, h1, h2.below stays_pair hb⟩
/-- The seven lists of a corpus. -/
structure Sv where
  va : Value
  vt : Value
  vx : Value
  vr : Value
  vn : Value
  vh : Value
  vl : Value
def Sv.arr (s : Sv) : Array Value := #[s.va, s.vt, s.vx, s.vr, s.vn, s.vh, s.vl]
structure CorAt (w : World) (s : Sv) (c : Cor) : Prop where
  a : Rows 2 EAttr w s.va c.attrs
  t : Rows 1 ETok w s.vt c.toks
  x : Rows 4 EEx w s.vx c.texts
  r : Rows 4 EEx w s.vr c.regs
  n : Rows 4 ENd w s.vn c.nodes
  h : Rows 1 EInt w s.vh c.heads
  l : Rows 1 EStr w s.vl c.rels
theorem CorAt.below {w w' : World} {s : Sv} {c : Cor} (h : CorAt w s c) (hb : Below w.heap.size w w') : CorAt w' s c :=
  ⟨h.a.below stays_attr hb, h.t.below stays_tok hb, h.x.below stays_ex hb, h.r.below stays_ex hb, h.n.below stays_nd hb, h.h.below stays_int hb, h.l.below stays_str hb⟩
/-- One element's cells. -/
theorem Rows.at' {α : Type} {sz : Nat} {E : World → List Value → α → Prop} {w : World} {A : Option Addr} {n cap : Nat} {xs : List α} (h : Rows sz E w (.slice A n cap) xs) (h0 : 0 < xs.length) :
    ∃ b off, A = some ⟨b, off, none⟩ ∧ b < w.heap.size ∧ ∀ (j : Nat) (x : α), xs[j]? = some x → ∃ cs : List Value, cs.length = sz ∧ E w cs x ∧ ∀ (i : Nat) (u : Value), cs[i]? = some u → w.cell? ⟨b, off + j * sz + i, none⟩ = some u := by
  obtain ⟨A0, cap0, hv, _, hr⟩ := h
  cases hv
  exact hr h0
theorem at_str {w : World} {A : Option Addr} {n cap : Nat} {xs : Fs} (h : Rows 1 EStr w (.slice A n cap) xs) (h0 : 0 < xs.length) :
    ∃ b off, A = some ⟨b, off, none⟩ ∧ b < w.heap.size ∧ ∀ (j : Nat) (x : Bs), xs[j]? = some x → w.cell? ⟨b, off + j, none⟩ = some (.string ⟨x.toArray⟩) := by
  obtain ⟨b, off, hA, hb, hj⟩ := h.at' h0
  refine ⟨b, off, hA, hb, fun j x hx => ?_⟩
  obtain ⟨cs, _, rfl, h3⟩ := hj j x hx
  have := h3 0 _ rfl
  rw [Nat.mul_one, Nat.add_zero] at this
  exact this
theorem at_int {w : World} {A : Option Addr} {n cap : Nat} {xs : List Int} (h : Rows 1 EInt w (.slice A n cap) xs) (h0 : 0 < xs.length) :
    ∃ b off, A = some ⟨b, off, none⟩ ∧ b < w.heap.size ∧ ∀ (j : Nat) (x : Int), xs[j]? = some x → w.cell? ⟨b, off + j, none⟩ = some (.int .i64 x) := by
  obtain ⟨b, off, hA, hb, hj⟩ := h.at' h0
  refine ⟨b, off, hA, hb, fun j x hx => ?_⟩
  obtain ⟨cs, _, rfl, h3⟩ := hj j x hx
  have := h3 0 _ rfl
  rw [Nat.mul_one, Nat.add_zero] at this
  exact this
theorem at_tok {w : World} {A : Option Addr} {n cap : Nat} {xs : List Fs} (h : Rows 1 ETok w (.slice A n cap) xs) (h0 : 0 < xs.length) :
    ∃ b off, A = some ⟨b, off, none⟩ ∧ b < w.heap.size ∧ ∀ (j : Nat) (x : Fs), xs[j]? = some x → ∃ v, w.cell? ⟨b, off + j, none⟩ = some v ∧ Rows 1 EStr w v x := by
  obtain ⟨b, off, hA, hb, hj⟩ := h.at' h0
  refine ⟨b, off, hA, hb, fun j x hx => ?_⟩
  obtain ⟨cs, _, ⟨v, rfl, hv⟩, h3⟩ := hj j x hx
  have := h3 0 _ rfl
  rw [Nat.mul_one, Nat.add_zero] at this
  exact ⟨v, this, hv⟩
theorem at_attr {w : World} {A : Option Addr} {n cap : Nat} {xs : List (Bs × Bool)} (h : Rows 2 EAttr w (.slice A n cap) xs) (h0 : 0 < xs.length) :
    ∃ b off, A = some ⟨b, off, none⟩ ∧ b < w.heap.size ∧ ∀ (j : Nat) (x : Bs × Bool), xs[j]? = some x → w.cell? ⟨b, off + j * 2, none⟩ = some (.string ⟨x.1.toArray⟩) ∧ w.cell? ⟨b, off + j * 2 + 1, none⟩ = some (.bool x.2) := by
  obtain ⟨b, off, hA, hb, hj⟩ := h.at' h0
  refine ⟨b, off, hA, hb, fun j x hx => ?_⟩
  obtain ⟨cs, _, rfl, h3⟩ := hj j x hx
  exact ⟨h3 0 _ rfl, h3 1 _ rfl⟩
theorem at_pair {w : World} {A : Option Addr} {n cap : Nat} {xs : List (Bs × Bs)} (h : Rows 2 EPair w (.slice A n cap) xs) (h0 : 0 < xs.length) :
    ∃ b off, A = some ⟨b, off, none⟩ ∧ b < w.heap.size ∧ ∀ (j : Nat) (x : Bs × Bs), xs[j]? = some x → w.cell? ⟨b, off + j * 2, none⟩ = some (.string ⟨x.1.toArray⟩) ∧ w.cell? ⟨b, off + j * 2 + 1, none⟩ = some (.string ⟨x.2.toArray⟩) := by
  obtain ⟨b, off, hA, hb, hj⟩ := h.at' h0
  refine ⟨b, off, hA, hb, fun j x hx => ?_⟩
  obtain ⟨cs, _, rfl, h3⟩ := hj j x hx
  exact ⟨h3 0 _ rfl, h3 1 _ rfl⟩
theorem at_ex {w : World} {A : Option Addr} {n cap : Nat} {xs : List Ex} (h : Rows 4 EEx w (.slice A n cap) xs) (h0 : 0 < xs.length) :
    ∃ b off, A = some ⟨b, off, none⟩ ∧ b < w.heap.size ∧ ∀ (j : Nat) (x : Ex), xs[j]? = some x → ∃ v, Rows 2 EPair w v x.ps ∧ w.cell? ⟨b, off + j * 4, none⟩ = some (.string ⟨x.name.toArray⟩) ∧ w.cell? ⟨b, off + j * 4 + 1, none⟩ = some (.int .i64 x.b) ∧ w.cell? ⟨b, off + j * 4 + 2, none⟩ = some (.int .i64 x.e) ∧ w.cell? ⟨b, off + j * 4 + 3, none⟩ = some v := by
  obtain ⟨b, off, hA, hb, hj⟩ := h.at' h0
  refine ⟨b, off, hA, hb, fun j x hx => ?_⟩
  obtain ⟨cs, _, ⟨v, rfl, hv⟩, h3⟩ := hj j x hx
  exact ⟨v, hv, h3 0 _ rfl, h3 1 _ rfl, h3 2 _ rfl, h3 3 _ rfl⟩
theorem at_nd {w : World} {A : Option Addr} {n cap : Nat} {xs : List Nd} (h : Rows 4 ENd w (.slice A n cap) xs) (h0 : 0 < xs.length) :
    ∃ b off, A = some ⟨b, off, none⟩ ∧ b < w.heap.size ∧ ∀ (j : Nat) (x : Nd), xs[j]? = some x → w.cell? ⟨b, off + j * 4, none⟩ = some (.string ⟨x.label.toArray⟩) ∧ w.cell? ⟨b, off + j * 4 + 1, none⟩ = some (.int .i64 x.b) ∧ w.cell? ⟨b, off + j * 4 + 2, none⟩ = some (.int .i64 x.e) ∧ w.cell? ⟨b, off + j * 4 + 3, none⟩ = some (.int .i64 x.parent) := by
  obtain ⟨b, off, hA, hb, hj⟩ := h.at' h0
  refine ⟨b, off, hA, hb, fun j x hx => ?_⟩
  obtain ⟨cs, _, rfl, h3⟩ := hj j x hx
  exact ⟨h3 0 _ rfl, h3 1 _ rfl, h3 2 _ rfl, h3 3 _ rfl⟩
theorem Rows.form {α : Type} {sz : Nat} {E : World → List Value → α → Prop} {w : World} {v : Value} {xs : List α} (h : Rows sz E w v xs) : ∃ A cap, v = .slice A xs.length cap ∧ xs.length ≤ cap := by
  obtain ⟨A, cap, hv, hc, _⟩ := h
  exact ⟨A, cap, hv, hc⟩
end Go.Proofs.YtmjmidgfdjcbfaaGreatDoor
