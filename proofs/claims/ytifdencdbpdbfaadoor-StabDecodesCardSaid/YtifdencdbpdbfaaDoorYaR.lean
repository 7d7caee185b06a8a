/-
  MEMORY for package stab: blocks of nodes, parts of a tree; rows of numbers.
-/
import Derived.Test.YtifdencdbpdbfaaDoorIbC
import Derived.Test.YtifdencdbpdbfaaDoorYaM
namespace Go.Proofs.YtifdencdbpdbfaaDoor
open Go.RowKit Go.Shelf Go.Lib
set_option linter.unusedVariables false
set_option linter.unusedSimpArgs false

theorem flatG_set {α : Type} {enc : α → List Value} {sz : Nat} (he : ∀ x, (enc x).length = sz) : ∀ (l : List α) (i : Nat) (x : α), i < l.length → (l.set i x).flatMap enc = (l.flatMap enc).take (i * sz) ++ enc x ++ (l.flatMap enc).drop (i * sz + sz)
  | [], i, x, h => absurd h (by simp)
  | a :: l, 0, x, h => by
    rw [List.set_cons_zero, List.flatMap_cons, List.flatMap_cons, Nat.zero_mul, List.take_zero, List.nil_append, Nat.zero_add, List.drop_append, List.drop_eq_nil_of_le (by rw [he]; exact Nat.le_refl _), he, Nat.sub_self, List.drop_zero, List.nil_append]
  | a :: l, i + 1, x, h => by
    rw [List.set_cons_succ, List.flatMap_cons, List.flatMap_cons, flatG_set he l i x (by simpa using h), show (i + 1) * sz = (enc a).length + i * sz by rw [he, Nat.add_mul]; omega, List.take_length_add_append, Nat.add_assoc, List.drop_length_add_append]
    simp
theorem flatG_set1 {α : Type} {enc : α → List Value} {sz : Nat} (he : ∀ x, (enc x).length = sz) {l : List α} {i c : Nat} {x y : α} (h : l[i]? = some x) (hc : c < sz) (v : Value) (hy : (enc x).set c v = enc y) :
    (l.flatMap enc).toArray.setIfInBounds (i * sz + c) v = ((l.set i y).flatMap enc).toArray := by
  have hi : i < l.length := (List.getElem?_eq_some_iff.1 h).1
  rw [List.setIfInBounds_toArray]
  congr 1
  rw [flatG_set he l i y hi, ← hy]
  have hx : l.flatMap enc = (l.flatMap enc).take (i * sz) ++ enc x ++ (l.flatMap enc).drop (i * sz + sz) := by
    have := flatG_set he l i x hi
    rw [show l.set i x = l by obtain ⟨h1, h2⟩ := List.getElem?_eq_some_iff.1 h; rw [← h2]; exact List.set_getElem_self h1] at this
    exact this
  have hlen : ((l.flatMap enc).take (i * sz)).length = i * sz := by
    rw [List.length_take, flatM_len he]
    have : (i + 1) * sz ≤ l.length * sz := Nat.mul_le_mul_right _ hi
    rw [Nat.add_mul] at this
    omega
  generalize (l.flatMap enc).take (i * sz) = T at hx hlen ⊢
  generalize (l.flatMap enc).drop (i * sz + sz) = D at hx ⊢
  rw [hx, List.append_assoc, List.set_append_right _ _ (by omega), hlen, show i * sz + c - i * sz = c by omega, List.set_append_left _ _ (by rw [he]; exact hc), List.append_assoc]
def ndV (x : Nd) : List Value := [.int .i64 x.1.1, .int .i64 x.1.2, .int .i64 x.2.1, .int .i64 x.2.2]
theorem ndV_len (x : Nd) : (ndV x).length = 4 := rfl
theorem ndV_one (x : Nd) : ∀ v ∈ ndV x, v.oneCell' = true := by simp [ndV, Value.oneCell']
def ndRow (L : List Nd) : Array Value := (L.flatMap ndV).toArray
theorem ndRow_size (L : List Nd) : (ndRow L).size = L.length * 4 := by
  unfold ndRow
  rw [List.size_toArray, flatM_len ndV_len]
/-- A block of nodes. -/
def NdAt (W : World) (g : Nat) (L : List Nd) : Prop := W.heap[g]? = some (.cells (ndRow L) 81 (0, 0))
theorem NdAt.lt {W : World} {g : Nat} {L : List Nd} (h : NdAt W g L) : g < W.heap.size := (Array.getElem?_eq_some_iff.1 h).1
theorem NdAt.below {W W' : World} {g N : Nat} {L : List Nd} (h : NdAt W g L) (hb : Below N W W') (hg : g < N) : NdAt W' g L := (hb.block g hg).trans h
theorem NdAt.cell {W : World} {g : Nat} {L : List Nd} (h : NdAt W g L) {i : Nat} {x : Nd} (hx : L[i]? = some x) :
    W.cell? ⟨g, i * 4, none⟩ = some (.int .i64 x.1.1) ∧ W.cell? ⟨g, i * 4 + 1, none⟩ = some (.int .i64 x.1.2) ∧ W.cell? ⟨g, i * 4 + 2, none⟩ = some (.int .i64 x.2.1) ∧ W.cell? ⟨g, i * 4 + 3, none⟩ = some (.int .i64 x.2.2) := by
  have hc : ∀ c, c < 4 → (ndRow L)[i * 4 + c]? = (ndV x)[c]? := fun c hc => by
    unfold ndRow
    rw [List.getElem?_toArray]
    exact flatM_get (enc := ndV) (sz := 4) ndV_len L i x c hx hc
  have h0 := hc 0 (by omega)
  rw [Nat.add_zero] at h0
  exact ⟨cell_of h h0, cell_of h (hc 1 (by omega)), cell_of h (hc 2 (by omega)), cell_of h (hc 3 (by omega))⟩
theorem NdAt.frozen {W : World} {g : Nat} {L : List Nd} (h : NdAt W g L) (i : Nat) : W.frozen? ⟨g, i, none⟩ = false := frozen_of h
/-- A new reach. -/
theorem NdAt.reach {W : World} {g : Nat} {L : List Nd} (h : NdAt W g L) {i : Nat} {x : Nd} (hx : L[i]? = some x) (n : Int) : NdAt (W.setCell ⟨g, i * 4 + 3, none⟩ (.int .i64 n)) g (L.set i (x.1, x.2.1, n)) := by
  have := set_of (i := i * 4 + 3) h (.int .i64 n)
  unfold ndRow at this
  rw [flatG_set1 (enc := ndV) (sz := 4) ndV_len (y := (x.1, x.2.1, n)) hx (by omega) (.int .i64 n) rfl] at this
  exact this
/-- A whole node stored. -/
theorem ndRow_set4 {L : List Nd} {i : Nat} (h : i < L.length) (y : Nd) :
    ((((ndRow L).setIfInBounds (i * 4) (.int .i64 y.1.1)).setIfInBounds (i * 4 + 1) (.int .i64 y.1.2)).setIfInBounds (i * 4 + 2) (.int .i64 y.2.1)).setIfInBounds (i * 4 + 3) (.int .i64 y.2.2) = ndRow (L.set i y) := by
  have hx : L[i]? = some L[i] := List.getElem?_eq_getElem h
  generalize L[i] = x at hx
  unfold ndRow
  have e0 := flatG_set1 (enc := ndV) (sz := 4) ndV_len (y := ((y.1.1, x.1.2), x.2)) hx (c := 0) (by omega) (.int .i64 y.1.1) rfl
  rw [Nat.add_zero] at e0
  have g1 : ∀ z : Nd, (L.set i z)[i]? = some z := fun z => by rw [List.getElem?_set_self h]
  rw [e0, flatG_set1 (enc := ndV) (sz := 4) ndV_len (y := (y.1, x.2)) (g1 ((y.1.1, x.1.2), x.2)) (c := 1) (by omega) (.int .i64 y.1.2) rfl, List.set_set,
    flatG_set1 (enc := ndV) (sz := 4) ndV_len (y := (y.1, y.2.1, x.2.2)) (g1 (y.1, x.2)) (c := 2) (by omega) (.int .i64 y.2.1) rfl, List.set_set,
    flatG_set1 (enc := ndV) (sz := 4) ndV_len (y := y) (g1 (y.1, y.2.1, x.2.2)) (c := 3) (by omega) (.int .i64 y.2.2) rfl, List.set_set]
theorem made_nd (n : Nat) : madeCells #[.int .i64 0, .int .i64 0, .int .i64 0, .int .i64 0] (n * 4) = ndRow (List.replicate n ((0, 0), 0, 0)) := by
  apply Array.ext'
  simp only [madeCells, ndRow]
  apply List.ext_getElem?
  intro i
  by_cases h : i < n * 4
  · have h1 := flatM_get (enc := ndV) (sz := 4) ndV_len (List.replicate n ((0, 0), 0, 0)) (i / 4) ((0, 0), 0, 0) (i % 4) (by rw [List.getElem?_replicate, if_pos (by omega)]) (Nat.mod_lt _ (by omega))
    rw [show i / 4 * 4 + i % 4 = i by omega] at h1
    rw [h1]
    have h3 : i % 4 = 0 ∨ i % 4 = 1 ∨ i % 4 = 2 ∨ i % 4 = 3 := by omega
    rw [Array.getElem?_toList, Array.getElem?_map, Array.getElem?_range, if_pos h]
    rcases h3 with h3 | h3 | h3 | h3 <;> simp [h3, ndV]
  · rw [List.getElem?_eq_none (by simp; omega), List.getElem?_eq_none (by rw [flatM_len ndV_len]; simp; omega)]
theorem Tryd.infoNd : (Tryd.prog.info? 81).map (fun i => (i.zero, i.size, i.bytes)) = some (some (.agg #[.int .i64 0, .int .i64 0, .int .i64 0, .int .i64 0]), 4, 32) := by kernel_rfl
theorem Tryd.infoInt2 : (Tryd.prog.info? 3).map (fun i => (i.zero, i.size, i.bytes)) = some (some (.int .i64 0), 1, 8) := by kernel_rfl
/-- The part from lo to hi of the tree in block g. -/
def Seg (g lo hi : Nat) (v : Value) : Prop := ∃ A cap, v = .slice A (hi - lo) cap ∧ hi - lo ≤ cap ∧ (lo < hi → A = some ⟨g, lo * 4, none⟩)
theorem sliceN_to (A : Option Addr) (n cap k : Nat) (hk : k ≤ n) (hn : n ≤ cap) (w : World) : (Instr.slice 51 (.slice A n cap) none (some (.int .i64 (k : Int))) none).run Tryd.prog w = .ok (.slice A k cap) w := by
  rw [run_slice_h w 51 _ _ _ (by kernel_rfl) .i64 k (by omega) (by omega)]
  have hz1 : (sizeOf (Tryd.prog.elem 51)).run Tryd.prog w = .ok 4 w := by kernel_rfl
  rw [hz1]
  cases A with
  | none => simp [Result.andThen, sliced]
  | some ad =>
    have h0 : ad.add 0 = ad := by simp [Addr.add]
    simp [Result.andThen, sliced, h0]
theorem sliceN_from (A : Option Addr) (n cap k : Nat) (hk : k ≤ n) (w : World) : (Instr.slice 51 (.slice A n cap) (some (.int .i64 (k : Int))) none none).run Tryd.prog w = .ok (sliced A k n cap 4) w := by
  rw [run_slice_l w 51 _ _ _ (by kernel_rfl) .i64 k (by omega) (by omega)]
  have hz1 : (sizeOf (Tryd.prog.elem 51)).run Tryd.prog w = .ok 4 w := by kernel_rfl
  rw [hz1]
  simp [Result.andThen]
/-- What parts answers. -/
def PartsV (g lo hi : Nat) (w : World) (e : Ending) (w' : World) : Prop :=
  ∃ v1 v2, e = .returned (.tuple #[v1, .pointer (some ⟨g, (lo + (hi - lo) / 2) * 4, none⟩), v2]) ∧ Seg g lo (lo + (hi - lo) / 2) v1 ∧ Seg g (lo + (hi - lo) / 2 + 1) hi v2 ∧ ∃ q, w' = w.drewN q

set_option maxRecDepth 100000 in
set_option maxHeartbeats 4000000 in
theorem parts_any {g lo hi : Nat} {v : Value} (hv : Seg g lo hi v) (hlt : lo < hi) (hmax : hi ≤ 1000000) (w : World) : Calls Tryd.prog 59 #[v] w (PartsV g lo hi w) := by
  obtain ⟨A, cap, rfl, hc, hA⟩ := hv
  cases hA hlt
  unfold PartsV
  obtain ⟨n, hn⟩ : ∃ n, hi - lo = n := ⟨_, rfl⟩
  rw [hn] at hc ⊢
  obtain ⟨m, hm⟩ : ∃ m, n / 2 = m := ⟨_, rfl⟩
  rw [hm]
  have hmn : m < n := by omega
  have hq : (n : Int).tdiv 2 = (m : Int) := by
    rw [← hm, Int.tdiv_eq_ediv_of_nonneg (by omega)]
    omega
  have hw1 : IntKind.i64.wrap (m : Int) = (m : Int) := by rw [IntKind.wrap_i64]; omega
  have hw2 : IntKind.i64.wrap ((m : Int) + 1) = ((m + 1 : Nat) : Int) := by rw [IntKind.wrap_i64]; omega
  have hseg1 : ∀ c', m ≤ c' → Seg g lo (lo + m) (.slice (some ⟨g, lo * 4, none⟩) m c') := fun c' h => ⟨_, c', by rw [show lo + m - lo = m by omega], by omega, fun _ => rfl⟩
  have hseg2 : ∀ c', n - (m + 1) ≤ c' → Seg g (lo + m + 1) hi (.slice (some ⟨g, lo * 4 + (m + 1) * 4, none⟩) (n - (m + 1)) c') := fun c' h =>
    ⟨_, c', by rw [show hi - (lo + m + 1) = n - (m + 1) by omega], by omega, fun _ => by rw [show lo * 4 + (m + 1) * 4 = (lo + m + 1) * 4 by omega]⟩
  have hseg3 : n = m + 1 → ∀ A c', Seg g (lo + m + 1) hi (.slice A (n - (m + 1)) c') := fun h A c' => ⟨_, c', by rw [show hi - (lo + m + 1) = n - (m + 1) by omega], by omega, fun _ => by omega⟩
  have HP := Lib.hid (And.intro hseg1 (And.intro hseg2 hseg3))
  have hmi : (m : Int) < (n : Int) := by omega
  have e1 : lo * 4 + m * 4 = (lo + m) * 4 := by omega
  have E1 := Lib.hid e1
  have HC := Lib.hid hc
  have HM := Lib.hid hmn
  have hm1 : m + 1 ≤ n := by omega
  clear hn hseg1 hseg2 hseg3 hA hlt hmax hm e1
  by_cases hcm : cap = m + 1
  · have hnm : n = m + 1 := by omega
    have HNM := Lib.hid hnm
    clear hnm
    subst hcm
    go_enter Tryd.func59, Tryd.ntmps59
    go_wp2_with fail
    go_quiet (fail)
    go_wp2_with fail
    go_ret3
    refine ⟨.slice (some ⟨g, lo * 4, none⟩) m (m + 1), .slice (some ⟨g, lo * 4, none⟩) (n - (m + 1)) 0, ?_, HP.out.1 _ (by omega), HP.out.2.2 HNM.out _ _, _, rfl⟩
    simp [E1.out]
    have := HNM.out
    omega
  · go_enter Tryd.func59, Tryd.ntmps59
    go_wp2_with fail
    go_quiet (fail)
    go_wp2_with fail
    go_ret3
    refine ⟨.slice (some ⟨g, lo * 4, none⟩) m cap, .slice (some ⟨g, lo * 4 + (m + 1) * 4, none⟩) (n - (m + 1)) (cap - (m + 1)), ?_, HP.out.1 _ (by omega), HP.out.2.1 _ (by omega), _, rfl⟩
    simp [E1.out]
end Go.Proofs.YtifdencdbpdbfaaDoor
