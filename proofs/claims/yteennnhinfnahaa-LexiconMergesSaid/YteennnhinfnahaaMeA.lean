/-
  MEMORY, for any chapter: blocks and cells; byte strings and rows of cells that are read; rows of the call's own; append where the old value goes on being read.
-/
import Derived.Test.YteennnhinfnahaaProg
import Derived.Shelf.Abstract
import Derived.Shelf.RegionOpen
import Derived.WalkKit
import Derived.WalkSpells
import Derived.WalkLawsBesides
import Derived.Lib.Hide
import Derived.Deep.AppendLies
import Derived.Deep.OwnRows
import Derived.Below
import Derived.BigQuiet
import Derived.Deep.QuietTactic
import Derived.StillTailTactics
import Derived.Lib.BufferWrite
import Derived.Laws.BytesArg
import Derived.Laws.AppendOwnNone
import Derived.Lib.SliceRun
import Derived.Laws.CopyOwn
import Derived.Laws.MakeOwn
namespace Go.Proofs.Yteennnhinfnahaa
open Go.RowKit Go.Shelf Go.Lib

theorem toNat_ofB (n : Nat) (h : n < 256) : (UInt8.ofNat n).toNat = n := by simp; omega
theorem block_alloc {W : World} {B : Nat} {o : Obj} (o' : Obj) (h : W.heap[B]? = some o) : (W.alloc o').heap[B]? = some o := (Below.heap_alloc W o' B (Array.getElem?_eq_some_iff.1 h).1).trans h
theorem block_other {W : World} {B B' i : Nat} {o : Obj} (v : Value) (h : W.heap[B]? = some o) (hne : B ≠ B') : (W.setCell ⟨B', i, none⟩ v).heap[B]? = some o := (Below.heap_setCell W ⟨B', i, none⟩ v B hne).trans h
theorem block_below {W W' : World} {B N : Nat} {o : Obj} (h : W.heap[B]? = some o) (hb : Below N W W') (hN : B < N) : W'.heap[B]? = some o := (hb.block B hN).trans h
theorem block_new (W : World) (o : Obj) : (W.alloc o).heap[W.heap.size]? = some o := by show (W.heap.push o)[W.heap.size]? = _; simp
theorem cell_of {W : World} {B i : Nat} {cs : Array Value} {t : TypeId} {f : Nat × Nat} {v : Value} (h : W.heap[B]? = some (.cells cs t f)) (hi : cs[i]? = some v) : W.cell? ⟨B, i, none⟩ = some v := by
  simp [World.cell?, h, hi]
theorem frozen_of {W : World} {B i : Nat} {cs : Array Value} {t : TypeId} (h : W.heap[B]? = some (.cells cs t (0, 0))) : W.frozen? ⟨B, i, none⟩ = false := by
  simp [World.frozen?, h]
theorem set_of {W : World} {B i : Nat} {cs : Array Value} {t : TypeId} {f : Nat × Nat} (h : W.heap[B]? = some (.cells cs t f)) (v : Value) : (W.setCell ⟨B, i, none⟩ v).heap[B]? = some (.cells (cs.setIfInBounds i v) t f) := by
  simp [World.setCell, Array.getElem?_modify, h]
theorem own_low {w : World} {base : Nat} {e : TypeId} {size n : Nat} {v : Value} {xs : List Value} (h : w.ownsRow base e size v n xs) : ∀ k, v.ownBlock = some k → base ≤ k ∧ k < w.heap.size := by
  intro k hk
  rcases h.2 with ⟨rfl, _⟩ | ⟨g', cap, cur, rfl, hb, hh, _⟩
  · simp [Value.ownBlock] at hk
  · simp only [Value.ownBlock, Option.some.injEq] at hk
    subst hk
    exact ⟨hb, (Array.getElem?_eq_some_iff.1 hh).1⟩
theorem Try.infoByte : (Try.prog.info? 5).map (fun i => (i.zero, i.size, i.bytes)) = some (some (.int .u8 0), 1, 1) := by kernel_rfl
theorem info_parts' {o : Option TypeInfo} {z : Value} {n b : Nat} (h : o.map (fun i => (i.zero, i.size, i.bytes)) = some (some z, n, b)) : ∃ i, o = some i ∧ i.zero = some z ∧ i.size = n ∧ i.bytes = b := by
  cases o with
  | none => simp at h
  | some i => simp at h; exact ⟨i, rfl, h⟩
theorem news_at (W : World) (l : List Value) (t : TypeId) : ∀ (j : Nat) (u : Value), l[j]? = some u → (W.alloc (.cells l.toArray t)).cell? ((⟨W.heap.size, 0, none⟩ : Addr).add j) = some u :=
  World.news_of_block (cs := l.toArray) (block_new W _)
/-- A row that lies elsewhere than what was written. -/
theorem ownsRow_block {w w' : World} {base : Nat} {e : TypeId} {size : Nat} {g n cap : Nat} {xs : List Value} (h : w.ownsRow base e size (.slice (some ⟨g, 0, none⟩) n cap) n xs) (hb : w'.heap[g]? = w.heap[g]?) : w'.ownsRow base e size (.slice (some ⟨g, 0, none⟩) n cap) n xs := by
  refine ⟨h.1, ?_⟩
  rcases h.2 with ⟨h', _⟩ | ⟨g', cap', cur, h', hbs, hg, hr⟩
  · simp at h'
  · refine .inr ⟨g', cap', cur, h', hbs, ?_, hr⟩
    simp only [Value.slice.injEq, Option.some.injEq, Addr.mk.injEq, and_true, true_and] at h'
    obtain ⟨rfl, rfl⟩ := h'
    rw [hb]; exact hg
theorem own_below {w w' : World} {base : Nat} {e : TypeId} {size n : Nat} {v : Value} {xs : List Value} (h : w.ownsRow base e size v n xs) (hk : ∀ k, v.ownBlock = some k → w'.heap[k]? = w.heap[k]?) : w'.ownsRow base e size v n xs := by
  rcases h.2 with ⟨rfl, h0⟩ | ⟨g, cap, cur, rfl, _, hh, _⟩
  · exact ⟨h.1, .inl ⟨rfl, h0⟩⟩
  · exact ownsRow_block h (hk g rfl)
/-- A value that reads as a byte string; its cells lie below block B. -/
def Sees (w : World) (B : Nat) (v : Value) (L : List UInt8) : Prop :=
  (L = [] ∧ v = .slice none 0 0) ∨ ∃ ad cap, v = .slice (some ad) L.length cap ∧ L.length ≤ cap ∧ (0 < L.length → ad.block < B) ∧ ∀ j (hj : j < L.length), w.cell? (ad.add j) = some (.int .u8 (L[j].toNat : Int))
theorem block_add (a : Addr) (n : Nat) : (a.add n).block = a.block := by unfold Addr.add; split <;> rfl
theorem Sees.nil (w : World) (B : Nat) : Sees w B (.slice none 0 0) [] := .inl ⟨rfl, rfl⟩
theorem Sees.keep {w w' : World} {B : Nat} {v : Value} {L : List UInt8} (h : Sees w B v L) (hk : ∀ p : Addr, p.block < B → w'.cell? p = w.cell? p) : Sees w' B v L := by
  rcases h with h | ⟨ad, cap, hv, hc, hb, hj⟩
  · exact .inl h
  · exact .inr ⟨ad, cap, hv, hc, hb, fun j h => (hk _ (by rw [block_add]; exact hb (by omega))).trans (hj j h)⟩
theorem Sees.below {w w' : World} {B : Nat} {v : Value} {L : List UInt8} (h : Sees w B v L) (hb : Below B w w') : Sees w' B v L := h.keep fun _ hp => hb.cell hp
theorem Sees.mono {w : World} {B B' : Nat} {v : Value} {L : List UInt8} (h : Sees w B v L) (hb : B ≤ B') : Sees w B' v L := by
  rcases h with h | ⟨ad, cap, hv, hc, h0, hj⟩
  · exact .inl h
  · exact .inr ⟨ad, cap, hv, hc, fun h => Nat.lt_of_lt_of_le (h0 h) hb, hj⟩
theorem sees_own {w : World} {base : Nat} {v : Value} {L : List UInt8} (h : w.ownsRow base 5 1 v L.length (byteCells L)) : Sees w w.heap.size v L := by
  rcases h.2 with ⟨rfl, h0⟩ | ⟨g, cap, cur, hv, hb, hh, hc, _⟩
  · exact .inl ⟨List.length_eq_zero_iff.1 h0, rfl⟩
  · refine .inr ⟨⟨g, 0, none⟩, cap, hv, hc, fun _ => (Array.getElem?_eq_some_iff.1 hh).1, fun j hj => ?_⟩
    subst hv
    have ha : (⟨g, 0, none⟩ : Addr).add j = ⟨g, j, none⟩ := by unfold Addr.add; split <;> simp_all
    rw [ha, h.cellAt j (by omega)]
    simp [byteCells, hj]
theorem Sees.convert {w : World} {B : Nat} {v : Value} {L : List UInt8} (h : Sees w B v L) : (convert 54 9 v).run Try.prog w = .ok (.string ⟨L.toArray⟩) w := by
  rcases h with ⟨rfl, rfl⟩ | ⟨ad, cap, rfl, _, _, hj⟩
  · exact run_convert_bytes_nil w 54 5 Try.underlying54 Try.underlying5 0 0 9 Try.underlying9
  · exact run_convert_bytes_back w 54 9 5 ad cap L Try.underlying54 Try.underlying5 Try.underlying9 hj
/-- An empty row of the call's own. -/
theorem own_empty (w : World) (t : TypeId) : (w.alloc (.cells #[] t)).ownsRow w.heap.size t 1 (.slice (some ⟨w.heap.size, 0, none⟩) 0 0) 0 [] :=
  ⟨rfl, .inr ⟨w.heap.size, 0, #[], rfl, Nat.le_refl _, block_new w _, Nat.le_refl _, by unfold maxLen; omega, rfl, rfl⟩⟩
theorem bytes_one (L : List UInt8) : ∀ u ∈ byteCells L, u.oneCell' = true := by
  intro u hu
  unfold byteCells at hu
  obtain ⟨b, _, rfl⟩ := List.mem_map.1 hu
  rfl
theorem Sees.form {w : World} {B : Nat} {v : Value} {L : List UInt8} (h : Sees w B v L) : ∃ sp cap, v = .slice sp L.length cap ∧ (0 < (byteCells L).length → ∃ ad : Addr, sp = some ad ∧ ad.block < B ∧ ∀ (j : Nat) (u : Value), (byteCells L)[j]? = some u → w.cell? (ad.add j) = some u) := by
  rcases h with ⟨rfl, rfl⟩ | ⟨ad, cap, rfl, hc, hb, hj⟩
  · exact ⟨none, 0, rfl, fun h => absurd h (by simp [byteCells])⟩
  · refine ⟨some ad, cap, rfl, fun h => ⟨ad, rfl, hb (by rw [byteCells_length] at h; exact h), fun j u hu => ?_⟩⟩
    have hjl : j < L.length := by
      have := (List.getElem?_eq_some_iff.1 hu).1
      rw [byteCells_length] at this
      exact this
    have hu2 : u = .int .u8 (L[j].toNat : Int) := by
      simp only [byteCells, List.getElem?_map, List.getElem?_eq_getElem hjl, Option.map_some, Option.some.injEq] at hu
      exact hu.symm
    rw [hu2]
    exact hj j hjl
theorem plain_cell {w : World} {a : Addr} {v : Value} (h : w.cell? a = some v) : a = ⟨a.block, a.off, none⟩ := by
  obtain ⟨b, o, sp⟩ := a
  cases sp with
  | none => rfl
  | some x =>
    unfold World.cell? at h
    split at h <;> simp at h
theorem add_plain (b o j : Nat) : (⟨b, o, none⟩ : Addr).add j = ⟨b, o + j, none⟩ := by unfold Addr.add; split <;> simp_all
theorem Sees.form2 {w : World} {B : Nat} {v : Value} {L : List UInt8} (h : Sees w B v L) : ∃ sp cap, v = .slice sp L.length cap ∧ L.length ≤ cap ∧ (0 < L.length → ∃ b off, sp = some ⟨b, off, none⟩ ∧ b < B ∧ ∀ (j : Nat) (hj : j < L.length), w.cell? ⟨b, off + j, none⟩ = some (.int .u8 (L[j].toNat : Int))) := by
  rcases h with ⟨rfl, rfl⟩ | ⟨ad, cap, rfl, hc, hb, hj⟩
  · exact ⟨none, 0, rfl, Nat.le_refl _, fun h => absurd h (by simp)⟩
  · refine ⟨some ad, cap, rfl, hc, fun h => ?_⟩
    have h0 := hj 0 h
    have e := plain_cell (by simpa [Addr.add] using h0)
    obtain ⟨bk, of, sp⟩ := ad
    have hsp : sp = none := congrArg Addr.spot e
    subst hsp
    exact ⟨bk, of, rfl, hb h, fun j hjl => by have := hj j hjl; rw [add_plain] at this; exact this⟩
theorem madeCells_bytes (n : Nat) : madeCells #[.int .u8 0] n = (byteCells (List.replicate n 0)).toArray := by
  apply Array.ext'
  simp [madeCells, byteCells, List.map_replicate]
  apply List.ext_getElem?
  intro i
  by_cases h : i < n
  · simp [h, Nat.mod_one]
  · simp [h]
theorem byteCells_app (a b : List UInt8) : byteCells (a ++ b) = byteCells a ++ byteCells b := by simp [byteCells]
theorem byte_cell (n : Nat) (h : n < 256) : byteCells [UInt8.ofNat n] = [.int .u8 (n : Int)] := by
  simp only [byteCells, List.map_cons, List.map_nil]
  rw [toNat_ofB n h]
/-- A value that reads as a row of cells (elements of one cell); they lie below block B. -/
def SeesC (w : World) (B : Nat) (v : Value) (xs : List Value) : Prop :=
  (xs = [] ∧ v = .slice none 0 0) ∨ ∃ ad cap, v = .slice (some ad) xs.length cap ∧ xs.length ≤ cap ∧ (0 < xs.length → ad.block < B) ∧ ∀ (j : Nat) (u : Value), xs[j]? = some u → w.cell? (ad.add j) = some u
theorem Sees.cells {w : World} {B : Nat} {v : Value} {L : List UInt8} (h : Sees w B v L) : SeesC w B v (byteCells L) := by
  rcases h with ⟨rfl, rfl⟩ | ⟨ad, cap, rfl, hc, hb, hj⟩
  · exact .inl ⟨rfl, rfl⟩
  · refine .inr ⟨ad, cap, by rw [byteCells_length], by rw [byteCells_length]; exact hc, fun h => hb (by rw [byteCells_length] at h; exact h), fun j u hu => ?_⟩
    have hjl : j < L.length := by
      have := (List.getElem?_eq_some_iff.1 hu).1
      rw [byteCells_length] at this
      exact this
    have hu2 : u = .int .u8 (L[j].toNat : Int) := by
      simp only [byteCells, List.getElem?_map, List.getElem?_eq_getElem hjl, Option.map_some, Option.some.injEq] at hu
      exact hu.symm
    rw [hu2]
    exact hj j hjl
theorem seesC_own {w : World} {base : Nat} {e : TypeId} {v : Value} {n : Nat} {xs : List Value} (h : w.ownsRow base e 1 v n xs) : SeesC w w.heap.size v xs ∧ xs.length = n := by
  have hl := h.1
  rw [Nat.mul_one] at hl
  refine ⟨?_, hl⟩
  rcases h.2 with ⟨rfl, h0⟩ | ⟨g, cap, cur, hv, hb, hh, hc, _⟩
  · exact .inl ⟨List.length_eq_zero_iff.1 (hl.trans h0), rfl⟩
  · refine .inr ⟨⟨g, 0, none⟩, cap, by rw [hl]; exact hv, by rw [hl]; exact hc, fun _ => (Array.getElem?_eq_some_iff.1 hh).1, fun j u hu => ?_⟩
    subst hv
    have hjl : j < xs.length := (List.getElem?_eq_some_iff.1 hu).1
    rw [add_plain, Nat.zero_add, h.cellAt j (by omega)]
    exact hu
theorem SeesC.keep {w w' : World} {B : Nat} {v : Value} {xs : List Value} (h : SeesC w B v xs) (hk : ∀ p : Addr, p.block < B → w'.cell? p = w.cell? p) : SeesC w' B v xs := by
  rcases h with h | ⟨ad, cap, hv, hc, hb, hj⟩
  · exact .inl h
  · refine .inr ⟨ad, cap, hv, hc, hb, fun j u hu => (hk _ ?_).trans (hj j u hu)⟩
    rw [block_add]
    exact hb (by have := (List.getElem?_eq_some_iff.1 hu).1; omega)
theorem SeesC.below {w w' : World} {B : Nat} {v : Value} {xs : List Value} (h : SeesC w B v xs) (hb : Below B w w') : SeesC w' B v xs := h.keep fun _ hp => hb.cell hp
/-- append: what the old value read as, it reads as still. -/
theorem run_append_keeps {P : Program} (w : World) (base : Nat) (t ty e : TypeId) (i : TypeInfo) (z : Value) (bytes : Nat) (ht : P.underlying t = some (.slice e)) (hi : P.info? e = some i) (hz : i.zero = some z)
    (hsize : i.size = 1) (hby : i.bytes = bytes) (hzs : z.cells.size = 1)
    (v : Value) (n : Nat) (xs : List Value) (hown : w.ownsRow base e 1 v n xs)
    (a : Addr) (m c : Nat) (news : List Value) (hl : news.length = m) (hnews : ∀ (j : Nat) (u : Value), news[j]? = some u → w.cell? (a.add j) = some u) (h1 : ∀ u ∈ news, u.oneCell' = true)
    (h63 : n + m ≤ maxLen) (hbytes : (n + m) * bytes ≤ 140737488355328) (hbase : base ≤ w.heap.size) :
    ∃ v' w', (Builtin.append_ #[t, t] ty #[v, .slice (some a) m c]).run P w = .ok v' w' ∧ w'.ownsRow base e 1 v' (n + m) (xs ++ news) ∧ w.grownBy w' v.ownBlock ∧ w'.ownsRow base e 1 v n xs := by
  obtain ⟨v', w', hr, h2, h3, _⟩ := run_append_own (P := P) w base t ty e i z 1 bytes ht hi hz hsize hby hzs (by omega) v n xs hown a m c news (by omega) hnews h1 h63 hbytes hbase
  refine ⟨v', w', hr, h2, h3, ?_⟩
  have h63' := h63
  simp only [maxLen] at h63'
  have hxl := hown.1
  rw [Nat.mul_one] at hxl
  rcases hown.2 with ⟨rfl, h0⟩ | ⟨g, cap, cur, rfl, hbg, hg, hnc, hcm, hcs, htake⟩
  · exact ⟨hown.1, .inl ⟨rfl, h0⟩⟩
  · by_cases hroom : n + m ≤ cap
    · have hr2 := run_append_room (P := P) w t ty e i ht hi g n cap cur hg a m c news (by rw [hsize]; omega) hnews h1 hroom (by rw [hsize, hcs]; omega)
      rw [hr] at hr2
      injection hr2 with _ hw
      subst hw
      refine ⟨hown.1, .inr ⟨g, cap, _, rfl, hbg, setRow_heap w g cur _ e _ hg, hnc, hcm, ?_, ?_⟩⟩
      · simp only [List.size_toArray, List.length_append, List.length_take, List.length_drop, Array.length_toList, hsize]
        omega
      · rw [hsize, htake, List.append_assoc, List.take_left' (by rw [hxl, Nat.mul_one])]
    · have holds : ∀ (j : Nat) (u : Value), xs[j]? = some u → w.cell? ((⟨g, 0, none⟩ : Addr).add j) = some u := hown.cells (g := g) rfl
      have hr2 := run_append_grow (P := P) w t ty e i z ht hi hz ⟨g, 0, none⟩ n cap xs (by rw [hsize]; omega) holds a m c news (by rw [hsize]; omega) hnews (by omega) (by omega) (growslice_fits (by omega) (by rw [hby]; exact hbytes))
      rw [hr] at hr2
      injection hr2 with _ hw
      subst hw
      exact ownsRow_block hown (heap_alloc_old w.drew _ (Array.getElem?_eq_some_iff.1 hg).1)
theorem wpList_append_sees {P : Program} {w : World} {ops : Array Oper} {rest : List Oper} {o : Oper} {a : Act} {Q : Exit → Act → World → Prop} (hgd : o.guard = none) (s x : Operand) (t : TypeId)
    (ho : o.op = .call { callee := .builtin .append, args := #[s, x], argTypes := #[t, t] })
    (base : Nat) (e : TypeId) (i : TypeInfo) (z : Value) (bytes : Nat) (ht : P.underlying t = some (.slice e)) (hi : P.info? e = some i) (hz : i.zero = some z)
    (hsize : i.size = 1) (hby : i.bytes = bytes) (hzs : z.cells.size = 1)
    (v : Value) (n : Nat) (xs : List Value) (hs : a.eval s = v) (hown : w.ownsRow base e 1 v n xs)
    (vx : Value) (B : Nat) (news : List Value) (hx : a.eval x = vx) (hn : SeesC w B vx news) (h1 : ∀ u ∈ news, u.oneCell' = true)
    (h63 : n + news.length ≤ maxLen) (hbytes : (n + news.length) * bytes ≤ 140737488355328) (hbase : base ≤ w.heap.size)
    (h : ∀ v' w', w'.ownsRow base e 1 v' (n + news.length) (xs ++ news) → w.grownBy w' v.ownBlock → w'.ownsRow base e 1 v n xs → wpList P ops Q rest (a.put o.dst v') w') : wpList P ops Q (o :: rest) a w := by
  rcases hn with ⟨rfl, rfl⟩ | ⟨ad, cap, rfl, _, _, hj⟩
  · refine wpList_append_own_none hgd s x t ho base e i 1 ht hi v n xs hs hown hx ?_
    refine h v w ?_ (World.grownBy.refl w _) hown
    rw [List.length_nil, Nat.add_zero, List.append_nil]
    exact hown
  · obtain ⟨v', w', hr, h2, h3, h4⟩ := run_append_keeps (P := P) w base t o.type e i z bytes ht hi hz hsize hby hzs v n xs hown ad news.length cap news rfl hj h1 h63 hbytes hbase
    refine wpList_plain hgd fun K hK => ?_
    unfold Oper.wp execOp
    simp only [ho, resolve, invoke, builtin, Sem.run_bind, Sem.run_pure, Result.andThen_ok, List.map_toArray, List.map_cons, List.map_nil, hs, hx, hr]
    exact hK _ _ (h v' w' h2 h3 h4)
theorem own_form {w : World} {base : Nat} {e : TypeId} {size n : Nat} {v : Value} {xs : List Value} (h : w.ownsRow base e size v n xs) : ∃ A cap, v = .slice A n cap ∧ n ≤ cap := by
  rcases h.2 with ⟨rfl, rfl⟩ | ⟨g, cap, cur, rfl, _, _, hc, _⟩
  · exact ⟨none, 0, rfl, Nat.le_refl _⟩
  · exact ⟨_, cap, rfl, hc⟩
theorem slice_to (A : Option Addr) (n cap k : Nat) (hk : k ≤ n) (hn : n ≤ cap) (w : World) : (Instr.slice 54 (.slice A n cap) none (some (.int .i64 (k : Int))) none).run Try.prog w = .ok (.slice A k cap) w := by
  rw [run_slice_h w 54 _ _ _ (by kernel_rfl) .i64 k (by omega) (by omega)]
  have hz1 : (sizeOf (Try.prog.elem 54)).run Try.prog w = .ok 1 w := by kernel_rfl
  rw [hz1]
  cases A with
  | none => simp [Result.andThen, sliced]
  | some ad =>
    have h0 : ad.add 0 = ad := by simp [Addr.add]
    simp [Result.andThen, sliced, h0]
theorem Sees.to {w : World} {B n cap : Nat} {A : Option Addr} {L : List UInt8} (h : Sees w B (.slice A n cap) L) : n = L.length ∧ n ≤ cap ∧ ∀ k, k ≤ n → Sees w B (.slice A k cap) (L.take k) := by
  rcases h with ⟨rfl, h⟩ | ⟨ad, cap', h, hc, hb, hj⟩
  · simp only [Value.slice.injEq] at h
    obtain ⟨rfl, rfl, rfl⟩ := h
    exact ⟨rfl, Nat.le_refl _, fun k hk => .inl ⟨List.take_nil, by rw [Nat.le_zero.1 hk]⟩⟩
  · simp only [Value.slice.injEq] at h
    obtain ⟨rfl, rfl, rfl⟩ := h
    refine ⟨rfl, hc, fun k hk => .inr ⟨ad, cap, ?_, ?_, fun h => hb ?_, fun j h => ?_⟩⟩
    · rw [List.length_take, Nat.min_eq_left hk]
    · rw [List.length_take, Nat.min_eq_left hk]; omega
    · rw [List.length_take, Nat.min_eq_left hk] at h; omega
    · rw [List.length_take, Nat.min_eq_left hk] at h
      rw [List.getElem_take]
      exact hj j (by omega)
theorem SeesC.form {w : World} {B : Nat} {v : Value} {xs : List Value} (h : SeesC w B v xs) : ∃ A cap, v = .slice A xs.length cap ∧ xs.length ≤ cap ∧ (0 < xs.length → ∃ b off, A = some ⟨b, off, none⟩ ∧ b < B ∧ ∀ (j : Nat) (u : Value), xs[j]? = some u → w.cell? ⟨b, off + j, none⟩ = some u) := by
  rcases h with ⟨rfl, rfl⟩ | ⟨ad, cap, rfl, hc, hb, hj⟩
  · exact ⟨none, 0, rfl, Nat.le_refl _, fun h => absurd h (by simp)⟩
  · refine ⟨some ad, cap, rfl, hc, fun h => ?_⟩
    have h0 := hj 0 xs[0] (List.getElem?_eq_getElem h)
    have e := plain_cell (by simpa [Addr.add] using h0)
    obtain ⟨bk, of, sp⟩ := ad
    have hsp : sp = none := congrArg Addr.spot e
    subst hsp
    exact ⟨bk, of, rfl, hb h, fun j u hu => by have := hj j u hu; rw [add_plain] at this; exact this⟩
theorem below_drewN {B : Nat} {a w : World} (h : Below B a w) (n : Nat) : Below B a (w.drewN n) := ⟨h.os, h.tape, h.output, h.size, h.block⟩
theorem SeesC.drewN {w : World} {B : Nat} {v : Value} {xs : List Value} (h : SeesC w B v xs) (n : Nat) : SeesC (w.drewN n) B v xs := h.keep fun _ _ => rfl
end Go.Proofs.Yteennnhinfnahaa
