/-
  RUNS over slices that are seen: append of one to a row of the call's own; the beginning of one.
  WALKS: a call of a Writer as the laws make it; the reference's Low.
  WALKS over package corporaref02: Low, Write: the bits that a call appends.
  WALKS over package corporaref02: Write, where it appends.
  WALKS over package corporaref02: Pack.
-/
import Derived.Test.YteennnhinfnahaaDoorTzI
import Derived.Laws.MakeOwn
import Derived.RegionTactic
import Derived.Deep.RegionLaw
import Derived.Deep.RegionHeld3
import Derived.Deep.DrawnRows
namespace Go.Proofs.YteennnhinfnahaaDoor
open Go.RowKit Go.Shelf Go.Lib




end Go.Proofs.YteennnhinfnahaaDoor
namespace Go.Proofs.YteennnhinfnahaaDoor
open Go.RowKit Go.Shelf Go.Lib

theorem Stepped.alloc {g : Nat} {v : Value} (w : World) (o : Obj) : Stepped g v w v (w.alloc o) :=
  ⟨rfl, rfl, rfl, by simp, fun k hk _ _ => Below.heap_alloc w o k hk, fun _ h => .inl h⟩
theorem WAt.alloc {w : World} {B g : Nat} {v : Value} {l : List Bool} (h : WAt w B g v l) (o : Obj) : WAt (w.alloc o) B g v l :=
  h.kept ((Below.refl _ w).alloc (Nat.le_refl _) o)

end Go.Proofs.YteennnhinfnahaaDoor
namespace Go.Proofs.YteennnhinfnahaaDoor
open Go.RowKit Go.Shelf Go.Lib

def boolCells (l : List Bool) : List Value := l.map Value.bool
theorem boolCells_length (l : List Bool) : (boolCells l).length = l.length := by simp [boolCells]
theorem boolCells_app (a b : List Bool) : boolCells (a ++ b) = boolCells a ++ boolCells b := by simp [boolCells]
theorem bools_one (l : List Bool) : ∀ u ∈ boolCells l, u.oneCell' = true := by
  intro u hu
  obtain ⟨b, _, rfl⟩ := List.mem_map.1 hu
  rfl
theorem Tryd.infoBool : (Tryd.prog.info? 4).map (fun i => (i.zero, i.size, i.bytes)) = some (some (.bool false), 1, 1) := by kernel_rfl
theorem madeCells_bools (n : Nat) : madeCells #[.bool false] n = (boolCells (List.replicate n false)).toArray := by
  apply Array.ext'
  simp [madeCells, boolCells, List.map_replicate]
  apply List.ext_getElem?
  intro i
  by_cases h : i < n
  · simp [h, Nat.mod_one]
  · simp [h]
theorem low_bit (x j : Nat) (hx : x < 18446744073709551616) : (bits .and .u64 ((x : Int) / 2 ^ j) 1 == 1) = decide (x / 2 ^ j % 2 = 1) := by
  have e : (x : Int) / 2 ^ j = ((x / 2 ^ j : Nat) : Int) := by simp
  have hle : x / 2 ^ j ≤ x := Nat.div_le_self _ _
  have e1 := bits_and_u64_nat (x / 2 ^ j) 1 (by omega) (by omega)
  rw [Nat.and_one_is_mod] at e1
  have e2 : ((1 : Nat) : Int) = 1 := rfl
  rw [e2] at e1
  rw [e, e1, Bool.eq_iff_iff]
  simp
  omega

/-- Between two rounds of Low: k bits are left. -/
def LRel (B : Nat) (x n : Nat) (w : World) (v5 i : Value) (wr : World) : Prop :=
  ∃ (k : Nat) (done : List Bool), k ≤ n ∧ i = .int .i64 ((k : Int) - 1) ∧ done ++ low x k = low x n ∧ wr.ownsRow B 4 1 v5 done.length (boolCells done) ∧ Below B w wr

/-- What the reference's Write answers. -/
def WPost (w : World) (o : Option (List Bool)) (e : Ending) (w' : World) : Prop :=
  ∃ v', e = .returned (.tuple #[v', .bool o.isSome]) ∧ w'.ownsRow w.heap.size 4 1 v' (bitsW o).length (boolCells (bitsW o)) ∧ Below w.heap.size w w'

/-- append at a step of a region that draws its order. -/
theorem step_append_sees {P : Program} {w : World} {ops : Array Oper} {o : Oper} {a : Act} {K : Act → World → Prop} {Q : Exit → Act → World → Prop} {E : Prop} (hgd : o.guard = none) (s x : Operand) (t : TypeId)
    (ho : o.op = .call { callee := .builtin .append, args := #[s, x], argTypes := #[t, t] })
    (base : Nat) (e : TypeId) (i : TypeInfo) (z : Value) (bytes : Nat) (ht : P.underlying t = some (.slice e)) (hi : P.info? e = some i) (hz : i.zero = some z)
    (hsize : i.size = 1) (hby : i.bytes = bytes) (hzs : z.cells.size = 1)
    (v : Value) (n : Nat) (xs : List Value) (hs : a.eval s = v) (hown : w.ownsRow base e 1 v n xs)
    (vx : Value) (B : Nat) (news : List Value) (hx : a.eval x = vx) (hn : SeesC w B vx news) (h0 : 0 < news.length) (h1 : ∀ u ∈ news, u.oneCell' = true)
    (h63 : n + news.length ≤ maxLen) (hbytes : (n + news.length) * bytes ≤ 140737488355328) (hbase : base ≤ w.heap.size)
    (h : ∀ v' w', w'.ownsRow base e 1 v' (n + news.length) (xs ++ news) → w.grownBy w' v.ownBlock → K (a.put o.dst v') w') :
    if Region.wanted o (yielded ops a.tmps) = true then Oper.wp P o a w K Q else E := by
  have hw : Region.wanted o (yielded ops a.tmps) = true := by simp [Region.wanted, hgd]
  rw [if_pos hw]
  rcases hn with ⟨rfl, rfl⟩ | ⟨ad, cap, rfl, _, _, hj⟩
  · simp at h0
  · exact wp_append_own w s x t ho base e i z 1 bytes ht hi hz hsize hby hzs (by omega) v n xs hs hown ad news.length cap news hx (by omega) hj h1 h63 hbytes hbase fun v' w' h2 h3 _ => h v' w' h2 h3
end Go.Proofs.YteennnhinfnahaaDoor
namespace Go.Proofs.YteennnhinfnahaaDoor
open Go.RowKit Go.Shelf Go.Lib

attribute [local go_sem ↓] Go.wp_at_zero Go.wp_at_succ

theorem ownsRow_mono {w : World} {base base' : Nat} {e : TypeId} {size : Nat} {v : Value} {n : Nat} {xs : List Value} (h : w.ownsRow base e size v n xs) (hb : base' ≤ base) : w.ownsRow base' e size v n xs := by
  refine ⟨h.1, ?_⟩
  rcases h.2 with h | ⟨g, cap, cur, hv, h0, h1⟩
  · exact .inl h
  · exact .inr ⟨g, cap, cur, hv, Nat.le_trans hb h0, h1⟩
theorem wpost_of {w w4 : World} {G A B : List Bool} {b n : Nat} {v4 : Value} (hG : G = A ++ B) (hown : w4.ownsRow b 4 1 v4 n (boolCells A ++ boolCells B)) (hb : w.heap.size ≤ b) (hn : n = G.length) (hbel : Below w.heap.size w w4) :
    WPost w (some G) (.returned (.tuple #[v4, .bool true])) w4 :=
  ⟨v4, rfl, ownsRow_mono (by
    show w4.ownsRow b _ 1 v4 G.length (boolCells G)
    rw [← hn, hG, boolCells_app]
    exact hown) hb, hbel⟩
theorem own_made (w : World) (n : Nat) (hn : n ≤ 1000000) : (w.alloc (.cells (boolCells (List.replicate n false)).toArray 4)).ownsRow w.heap.size 4 1 (.slice (some ⟨w.heap.size, 0, none⟩) n n) n (boolCells (List.replicate n false)) :=
  ⟨by rw [boolCells_length, List.length_replicate, Nat.mul_one], .inr ⟨w.heap.size, n, _, rfl, Nat.le_refl _, block_new w _, Nat.le_refl _, by unfold maxLen; omega, by rw [List.size_toArray, boolCells_length, List.length_replicate, Nat.mul_one], by
    show (boolCells (List.replicate n false)).take (n * 1) = _
    rw [List.take_of_length_le (by rw [boolCells_length, List.length_replicate]; omega)]⟩⟩

end Go.Proofs.YteennnhinfnahaaDoor
namespace Go.Proofs.YteennnhinfnahaaDoor
open Go.RowKit Go.Shelf Go.Lib


/-- The bytes when the first k bits have been laid. -/
def rowP (l : List Bool) (k : Nat) : List UInt8 := (List.range ((l.length + 7) / 8)).map fun j => UInt8.ofNat (byteAt (l.take k) j)
theorem rowP_len (l : List Bool) (k : Nat) : (rowP l k).length = (l.length + 7) / 8 := by simp [rowP]
theorem byteAt_far (l : List Bool) (k : Nat) (h : l.length ≤ 8 * k) : byteAt l k = 0 := by
  unfold byteAt
  rw [getD_far _ _ (by omega), getD_far _ _ (by omega), getD_far _ _ (by omega), getD_far _ _ (by omega), getD_far _ _ (by omega), getD_far _ _ (by omega), getD_far _ _ (by omega), getD_far _ _ (by omega)]
  rfl
theorem rowP_zero (l : List Bool) : rowP l 0 = List.replicate ((l.length + 7) / 8) 0 := by
  unfold rowP
  apply List.ext_getElem?
  intro i
  by_cases h : i < (l.length + 7) / 8
  · simp [h, byteAt_far]
  · simp [h]
theorem rowP_all (l : List Bool) : rowP l l.length = pack l := by
  unfold rowP pack
  rw [List.take_length]
theorem rowP_at (l : List Bool) (k : Nat) (h : k < l.length) : (rowP l k)[k / 8]? = some (UInt8.ofNat (byteAt (l.take k) (k / 8))) := by
  have : k / 8 < (l.length + 7) / 8 := by omega
  simp [rowP, this]
theorem rowP_succ (l : List Bool) (k : Nat) (h : k < l.length) : rowP l (k + 1) = (rowP l k).set (k / 8) (UInt8.ofNat (byteAt (l.take k) (k / 8) + (l[k]).toNat * 2 ^ (7 - k % 8))) := by
  have htk : l.take (k + 1) = l.take k ++ [l[k]] := List.take_succ_eq_append_getElem h
  have hl : (l.take k).length = k := by rw [List.length_take]; omega
  apply List.ext_getElem?
  intro i
  have hn := (byteAt_new (l.take k) l[k]).1
  rw [hl] at hn
  by_cases hi : i < (l.length + 7) / 8
  · by_cases h1 : i < k / 8
    · rw [List.getElem?_set_ne (by omega)]
      simp only [rowP, List.getElem?_map, List.getElem?_range hi, Option.map_some, htk]
      rw [byteAt_old _ _ _ (by rw [hl]; exact h1)]
    · by_cases h2 : i = k / 8
      · subst h2
        rw [List.getElem?_set_self (by rw [rowP_len]; exact hi)]
        simp only [rowP, List.getElem?_map, List.getElem?_range hi, Option.map_some, htk, hn]
      · rw [List.getElem?_set_ne (by omega)]
        simp only [rowP, List.getElem?_map, List.getElem?_range hi, Option.map_some, htk]
        rw [byteAt_far _ _ (by rw [List.length_append, hl, List.length_singleton]; omega), byteAt_far _ _ (by rw [hl]; omega)]
  · rw [List.getElem?_eq_none (by rw [rowP_len]; omega), List.getElem?_eq_none (by rw [List.length_set, rowP_len]; omega)]
theorem rowP_same (l : List Bool) (k : Nat) (h : k < l.length) (hf : l[k] = false) : rowP l (k + 1) = rowP l k := by
  rw [rowP_succ l k h, hf]
  apply List.ext_getElem?
  intro i
  by_cases h2 : i = k / 8
  · subst h2
    rw [List.getElem?_set_self (by rw [rowP_len]; omega), rowP_at l k h]
    simp
  · rw [List.getElem?_set_ne (by omega)]
theorem set_bit (y r : Nat) (hr : r < 8) (hy : y < 256) (h0 : y % 2 ^ (8 - r) = 0) : bits .or .u8 (y : Int) (128 / 2 ^ r) = ((y + 1 * 2 ^ (7 - r) : Nat) : Int) := by
  have e : (128 : Int) / 2 ^ r = ((2 ^ (7 - r) : Nat) : Int) := by
    match r, hr with
    | 0, _ => rfl
    | 1, _ => rfl
    | 2, _ => rfl
    | 3, _ => rfl
    | 4, _ => rfl
    | 5, _ => rfl
    | 6, _ => rfl
    | 7, _ => rfl
  have hp : 2 ^ (7 - r) ≤ 2 ^ 7 := Nat.pow_le_pow_right (by decide) (by omega)
  have h128 : (2 : Nat) ^ 7 = 128 := by decide
  have hpos : 0 < 2 ^ (7 - r) := Nat.pow_pos (by decide)
  have e2 : 2 ^ (8 - r) = 2 ^ (7 - r) * 2 := by rw [← Nat.pow_succ]; congr 1; omega
  rw [e, u8_or_nat _ _ hy (by omega), or_add y (2 ^ (7 - r)) (8 - r) _ rfl h0 (by omega), Nat.one_mul]

/-- Between two rounds of Pack. -/
def KRel (l : List Bool) (w : World) (i : Value) (wr : World) : Prop :=
  ∃ k : Nat, k ≤ l.length ∧ i = .int .i64 k ∧ wr.heap[w.heap.size]? = some (.cells (byteCells (rowP l k)).toArray 5 (0, 0)) ∧ Below w.heap.size w wr

end Go.Proofs.YteennnhinfnahaaDoor
