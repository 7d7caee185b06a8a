/-
 MEMORY, for any chapter: blocks and cells; byte strings and rows of cells that are read; rows of the call's own; append where the old value goes on being read.
-/
import Derived.Test.YtebmfkkkhmjkoaaGreatProg
import Derived.Shelf.Abstract
import Derived.Shelf.RegionOpen
import Derived.WalkKit
import Derived.WalkSpells
import Derived.WalkLawsBesides
import Derived.Lib.Hide
import Derived.Deep.AppendLies
import Derived.Deep.OwnRows
import Derived.Below
import Derived.BigQuiet
import Derived.Deep.QuietTactic
import Derived.StillTailTactics
import Derived.Lib.BufferWrite
import Derived.Laws.BytesArg
import Derived.Laws.AppendOwnNone
import Derived.Lib.SliceRun
import Derived.Laws.CopyOwn
import Derived.Laws.MakeOwn
namespace Go.Proofs.YtebmfkkkhmjkoaaGreat
open Go.RowKit Go.Shelf Go.Lib

theorem block_alloc {W : World} {B : Nat} {o : Obj} (o' : Obj) (h : W.heap[B]? = some o) : (W.alloc o').heap[B]? = some o := (Below.heap_alloc W o' B (Array.getElem?_eq_some_iff.1 h).1).trans h
theorem block_other {W : World} {B B' i : Nat} {o : Obj} (v : Value) (h : W.heap[B]? = some o) (hne : B ≠ B') : (W.setCell ⟨B', i, none⟩ v).heap[B]? = some o := (Below.heap_setCell W ⟨B', i, none⟩ v B hne).trans h
theorem block_below {W W' : World} {B N : Nat} {o : Obj} (h : W.heap[B]? = some o) (hb : Below N W W') (hN : B < N) : W'.heap[B]? = some o := (hb.block B hN).trans h
theorem block_new (W : World) (o : Obj) : (W.alloc o).heap[W.heap.size]? = some o := by show (W.heap.push o)[W.heap.size]? = _; simp
theorem cell_of {W : World} {B i : Nat} {cs : Array Value} {t : TypeId} {f : Nat × Nat} {v : Value} (h : W.heap[B]? = some (.cells cs t f)) (hi : cs[i]? = some v) : W.cell? ⟨B, i, none⟩ = some v := by
 simp [World.cell?, h, hi]
theorem frozen_of {W : World} {B i : Nat} {cs : Array Value} {t : TypeId} (h : W.heap[B]? = some (.cells cs t (0, 0))) : W.frozen? ⟨B, i, none⟩ = false := by
 simp [World.frozen?, h]
theorem set_of {W : World} {B i : Nat} {cs : Array Value} {t : TypeId} {f : Nat × Nat} (h : W.heap[B]? = some (.cells cs t f)) (v : Value) : (W.setCell ⟨B, i, none⟩ v).heap[B]? = some (.cells (cs.setIfInBounds i v) t f) := by
 simp [World.setCell, Array.getElem?_modify, h]
theorem own_low {w : World} {base : Nat} {e : TypeId} {size n : Nat} {v : Value} {xs : List Value} (h : w.ownsRow base e size v n xs) : ∀ k, v.ownBlock = some k → base ≤ k ∧ k < w.heap.size := by
 intro k hk
 rcases h.2 with ⟨rfl, _⟩ | ⟨g', cap, cur, rfl, hb, hh, _⟩
 · simp [Value.ownBlock] at hk
 simp only [Value.ownBlock, Option.some.injEq] at hk
 subst hk
 exact ⟨hb, (Array.getElem?_eq_some_iff.1 hh).1⟩
theorem info_parts' {o : Option TypeInfo} {z : Value} {n b : Nat} (h : o.map (fun i => (i.zero, i.size, i.bytes)) = some (some z, n, b)) : ∃ i, o = some i ∧ i.zero = some z ∧ i.size = n ∧ i.bytes = b := by
 cases o with
 | none => simp at h
 | some i => simp at h; exact ⟨i, rfl, h⟩
theorem news_at (W : World) (l : List Value) (t : TypeId) : ∀ (j : Nat) (u : Value), l[j]? = some u → (W.alloc (.cells l.toArray t)).cell? ((⟨W.heap.size, 0, none⟩ : Addr).add j) = some u :=
 World.news_of_block (cs := l.toArray) (block_new W _)
/-- A row that lies elsewhere than what was written. -/
theorem ownsRow_block {w w' : World} {base : Nat} {e : TypeId} {size : Nat} {g n cap : Nat} {xs : List Value} (h : w.ownsRow base e size (.slice (some ⟨g, 0, none⟩) n cap) n xs) (hb : w'.heap[g]? = w.heap[g]?) : w'.ownsRow base e size (.slice (some ⟨g, 0, none⟩) n cap) n xs := by
 refine ⟨h.1, ?_⟩
 rcases h.2 with ⟨h', _⟩ | ⟨g', cap', cur, h', hbs, hg, hr⟩
 · simp at h'
 refine .inr ⟨g', cap', cur, h', hbs, ?_, hr⟩
 simp only [Value.slice.injEq, Option.some.injEq, Addr.mk.injEq, and_true, true_and] at h'
 obtain ⟨rfl, rfl⟩ := h'
 rw [hb]; exact hg
theorem own_below {w w' : World} {base : Nat} {e : TypeId} {size n : Nat} {v : Value} {xs : List Value} (h : w.ownsRow base e size v n xs) (hk : ∀ k, v.ownBlock = some k → w'.heap[k]? = w.heap[k]?) : w'.ownsRow base e size v n xs := by
 rcases h.2 with ⟨rfl, h0⟩ | ⟨g, cap, cur, rfl, _, hh, _⟩
 · exact ⟨h.1, .inl ⟨rfl, h0⟩⟩
 exact ownsRow_block h (hk g rfl)
theorem block_add (a : Addr) (n : Nat) : (a.add n).block = a.block := by unfold Addr.add; split <;> rfl
theorem plain_cell {w : World} {a : Addr} {v : Value} (h : w.cell? a = some v) : a = ⟨a.block, a.off, none⟩ := by
 obtain ⟨b, o, sp⟩ := a
 cases sp with
 | none => rfl
 | some x =>
   unfold World.cell? at h
   split at h <;> simp at h
theorem add_plain (b o j : Nat) : (⟨b, o, none⟩ : Addr).add j = ⟨b, o + j, none⟩ := by unfold Addr.add; split <;> simp_all
/-- A value that reads as a row of cells (elements of one cell); they lie below block B. -/
def SeesC (w : World) (B : Nat) (v : Value) (xs : List Value) : Prop :=
 (xs = [] ∧ v = .slice none 0 0) ∨ ∃ ad cap, v = .slice (some ad) xs.length cap ∧ xs.length ≤ cap ∧ (0 < xs.length → ad.block < B) ∧ ∀ (j : Nat) (u : Value), xs[j]? = some u → w.cell? (ad.add j) = some u
theorem seesC_own {w : World} {base : Nat} {e : TypeId} {v : Value} {n : Nat} {xs : List Value} (h : w.ownsRow base e 1 v n xs) : SeesC w w.heap.size v xs ∧ xs.length = n := by
 have hl := h.1
 rw [Nat.mul_one] at hl
 refine ⟨?_, hl⟩
 rcases h.2 with ⟨rfl, h0⟩ | ⟨g, cap, cur, hv, hb, hh, hc, _⟩
 · exact .inl ⟨List.length_eq_zero_iff.1 (hl.trans h0), rfl⟩
 refine .inr ⟨⟨g, 0, none⟩, cap, by rw [hl]; exact hv, by rw [hl]; exact hc, fun _ => (Array.getElem?_eq_some_iff.1 hh).1, fun j u hu => ?_⟩
 subst hv
 have hjl : j < xs.length := (List.getElem?_eq_some_iff.1 hu).1
 rw [add_plain, Nat.zero_add, h.cellAt j (by omega)]
 exact hu
theorem SeesC.keep {w w' : World} {B : Nat} {v : Value} {xs : List Value} (h : SeesC w B v xs) (hk : ∀ p : Addr, p.block < B → w'.cell? p = w.cell? p) : SeesC w' B v xs := by
 rcases h with h | ⟨ad, cap, hv, hc, hb, hj⟩
 · exact .inl h
 refine .inr ⟨ad, cap, hv, hc, hb, fun j u hu => (hk _ ?_).trans (hj j u hu)⟩
 rw [block_add]
 exact hb (by have := (List.getElem?_eq_some_iff.1 hu).1; omega)
theorem SeesC.below {w w' : World} {B : Nat} {v : Value} {xs : List Value} (h : SeesC w B v xs) (hb : Below B w w') : SeesC w' B v xs := h.keep fun _ hp => hb.cell hp
theorem own_form {w : World} {base : Nat} {e : TypeId} {size n : Nat} {v : Value} {xs : List Value} (h : w.ownsRow base e size v n xs) : ∃ A cap, v = .slice A n cap ∧ n ≤ cap := by
 rcases h.2 with ⟨rfl, rfl⟩ | ⟨g, cap, cur, rfl, _, _, hc, _⟩
 · exact ⟨none, 0, rfl, Nat.le_refl _⟩
 exact ⟨_, cap, rfl, hc⟩
theorem SeesC.form {w : World} {B : Nat} {v : Value} {xs : List Value} (h : SeesC w B v xs) : ∃ A cap, v = .slice A xs.length cap ∧ xs.length ≤ cap ∧ (0 < xs.length → ∃ b off, A = some ⟨b, off, none⟩ ∧ b < B ∧ ∀ (j : Nat) (u : Value), xs[j]? = some u → w.cell? ⟨b, off + j, none⟩ = some u) := by
 rcases h with ⟨rfl, rfl⟩ | ⟨ad, cap, rfl, hc, hb, hj⟩
 · exact ⟨none, 0, rfl, Nat.le_refl _, fun h => absurd h (by simp)⟩
 refine ⟨some ad, cap, rfl, hc, fun h => ?_⟩
 have h0 := hj 0 xs[0] (List.getElem?_eq_getElem h)
 have e := plain_cell (by simpa [Addr.add] using h0)
 obtain ⟨bk, of, sp⟩ := ad
 have hsp : sp = none := congrArg Addr.spot e
 subst hsp
 exact ⟨bk, of, rfl, hb h, fun j u hu => by have := hj j u hu; rw [add_plain] at this; exact this⟩
theorem below_drewN {B : Nat} {a w : World} (h : Below B a w) (n : Nat) : Below B a (w.drewN n) := ⟨h.os, h.tape, h.output, h.size, h.block⟩
end Go.Proofs.YtebmfkkkhmjkoaaGreat
