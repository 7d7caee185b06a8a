/-
  ARGUMENTS of the laws about bitio, opened: byte strings, numbers.
  ARGUMENTS of the laws about bitio, opened: a call, a slice of calls.
  A call of a Writer, as the program and the reference answer it; rows of different elements lie apart.
  PLAIN MATHEMATICS for package bitio, third part: what a Reader reads from a list of bits.
  WALKS over package bitio, ninth part: what a Reader is in memory; its bit, its Bits.
  WALKS over package bitio, tenth part: a Reader's Bits.
  WALKS over package bitio, eleventh part: a Reader's gamma, delta and whole; the methods Unary, Gamma, Delta; a new Reader.
-/
import Derived.Test.YteennnhinfnahaaDoorTzA
import Derived.Carry
import Derived.ProofKit
import Derived.Test.YteennnhinfnahaaDoorTzI
import Derived.Deep.Slices
import Derived.Test.YteennnhinfnahaaDoorTzK
namespace Go.Proofs.YteennnhinfnahaaDoor
set_option maxRecDepth 100000
open Go.RowKit Go.Shelf Go.Lib Go.ChangeShapes Go.WideShapes

theorem lt_of_cell {w : World} {a : Addr} {v : Value} (h : w.cell? a = some v) : a.block < w.heap.size := by
  rcases Nat.lt_or_ge a.block w.heap.size with hlt | hge
  · exact hlt
  · unfold World.cell? at h
    rw [Array.getElem?_eq_none hge] at h
    cases h
theorem Tryd.laidOut : laidOutB Tryd.prog = true := by kernel_rfl

section
variable {H : Type} {enc : TypeId × Value → H}
theorem open_bytes {W : World} {r : Reach} {b0 : Nat} {v : Value} {d : DataW H} {p : List MemPlace} (hv : Value.okWide Tryd.prog W r b0 44 v) (h : DataW.Trod enc Tryd.prog W 0 (fun _ => true) true 44 v d p) :
    ∃ L : List UInt8, Sees W W.heap.size v L ∧ L.length ≤ maxLen := by
  obtain ⟨a, len, cap, rfl⟩ := okWide_slice Tryd.underlying44 hv
  obtain ⟨fuel, hf⟩ := h
  rcases open_ints Tryd.underlying44 Tryd.underlying5 (by kernel_rfl) hf with ⟨hn, _⟩ | ⟨ad, len', cap', zs, hcs, _, hl, hm, hzl, _, hcell, hwf⟩
  · simp only [Value.cells, List.cons.injEq, and_true] at hn
    exact ⟨[], .inl ⟨rfl, hn⟩, Nat.zero_le _⟩
  · simp only [Value.cells, List.cons.injEq, and_true] at hcs
    simp only [if_true] at hzl
    have hlen : ((zs.take len').map fun n => UInt8.ofNat n.toNat).length = len' := by simp; omega
    refine ⟨(zs.take len').map fun n => UInt8.ofNat n.toNat, .inr ⟨ad, cap', by rw [hlen]; exact hcs, by rw [hlen]; exact hl, fun h => ?_, fun j hj => ?_⟩, by rw [hlen]; omega⟩
    · rw [hlen] at h
      have h0 := hcell 0 (by omega)
      have h1 : ad.add 0 = ad := by simp [Addr.add]
      rw [h1] at h0
      exact lt_of_cell h0
    · rw [hlen] at hj
      have h0 := hcell j (by omega)
      have hj2 : j < zs.length := by omega
      have hw := hwf (zs[j]'hj2) (List.getElem_mem hj2)
      rw [h0]
      simp [Lit.wf, IntKind.min, IntKind.max, IntKind.signed, IntKind.bits] at hw
      simp [List.getD, hj2]
      omega
theorem open_u64 {W : World} {r : Reach} {b0 : Nat} {v : Value} {d : DataW H} {p : List MemPlace} (hv : Value.okWide Tryd.prog W r b0 84 v) (h : DataW.Trod enc Tryd.prog W 0 (fun _ => true) true 84 v d p) :
    ∃ x : Nat, v = .int .u64 x ∧ x < 18446744073709551616 := by
  obtain ⟨n, rfl, _, _, hw⟩ := open_int Tryd.underlying84 hv h
  simp [Lit.wf, IntKind.min, IntKind.max, IntKind.signed, IntKind.bits] at hw
  exact ⟨n.toNat, by rw [Int.toNat_of_nonneg hw.1], by omega⟩
theorem open_i64 {W : World} {r : Reach} {b0 : Nat} {v : Value} {d : DataW H} {p : List MemPlace} (hv : Value.okWide Tryd.prog W r b0 3 v) (h : DataW.Trod enc Tryd.prog W 0 (fun _ => true) true 3 v d p) :
    ∃ x : Int, v = .int .i64 x ∧ -9223372036854775808 ≤ x ∧ x ≤ 9223372036854775807 := by
  obtain ⟨n, rfl, _, _, hw⟩ := open_int Tryd.underlying3 hv h
  simp [Lit.wf, IntKind.min, IntKind.max, IntKind.signed, IntKind.bits] at hw
  exact ⟨n, rfl, by omega, by omega⟩
end
end Go.Proofs.YteennnhinfnahaaDoor
namespace Go.Proofs.YteennnhinfnahaaDoor
open Go.RowKit Go.Shelf Go.Lib Go.ChangeShapes Go.WideShapes Go.Deep

/-- A slice of calls, as it lies in memory below block B. -/
def SeesK (w : World) (B : Nat) (v : Value) (cs : List CallL) : Prop :=
  ∃ A cap, v = .slice A cs.length cap ∧ (0 < cs.length → ∃ b off, A = some ⟨b, off, none⟩ ∧ b < B ∧ ∀ (k : Nat) (hk : k < cs.length), okCall cs[k] ∧
    w.cell? ⟨b, off + k * 3, none⟩ = some (.int .i64 cs[k].kind) ∧ w.cell? ⟨b, off + k * 3 + 1, none⟩ = some (.int .u64 cs[k].v) ∧ w.cell? ⟨b, off + k * 3 + 2, none⟩ = some (.int .i64 cs[k].n))

section
variable {H : Type} {enc : TypeId × Value → H}
end
end Go.Proofs.YteennnhinfnahaaDoor
namespace Go.Proofs.YteennnhinfnahaaDoor
open Go.RowKit Go.Shelf Go.Lib

theorem own_elem {w : World} {base : Nat} {e : TypeId} {size n : Nat} {v : Value} {xs : List Value} (h : w.ownsRow base e size v n xs) {k : Nat} (hk : v.ownBlock = some k) : ∃ cur, w.heap[k]? = some (.cells cur e (0, 0)) := by
  rcases h.2 with ⟨rfl, _⟩ | ⟨g, cap, cur, rfl, _, hh, _⟩
  · simp [Value.ownBlock] at hk
  · simp only [Value.ownBlock, Option.some.injEq] at hk
    subst hk
    exact ⟨cur, hh⟩
theorem own_apart {w : World} {b b' : Nat} {e e' : TypeId} {s s' n n' : Nat} {v v' : Value} {xs xs' : List Value} (h : w.ownsRow b e s v n xs) (h' : w.ownsRow b' e' s' v' n' xs') (hne : e ≠ e') {k : Nat} (hk : v.ownBlock = some k) : v'.ownBlock ≠ some k := by
  intro hk'
  obtain ⟨c, h1⟩ := own_elem h hk
  obtain ⟨c', h2⟩ := own_elem h' hk'
  rw [h1] at h2
  injection h2 with h2
  injection h2 with _ h2
  exact hne h2
/-- A row of bits stands while a Writer writes. -/
theorem bits_aside {w w' : World} {B b g n : Nat} {v v' v4 : Value} {l : List Bool} {xs : List Value} (hw : WAt w B g v l) (hs : Stepped g v w v' w') (ho : w.ownsRow b 4 1 v4 n xs) : w'.ownsRow b 4 1 v4 n xs :=
  own_below ho fun k e => hs.block k (own_low ho k e).2 (fun e2 => by
    subst e2
    obtain ⟨c, h1⟩ := own_elem ho e
    rw [hw.2.1] at h1
    injection h1 with h1
    injection h1 with _ h1
    exact absurd h1 (by decide)) (own_apart ho hw.2.2 (by decide) e)
/-- A Writer stands while a row of bits grows. -/
theorem writer_aside {w w' : World} {B b g n : Nat} {v v4 : Value} {l : List Bool} {xs : List Value} (hw : WAt w B g v l) (ho : w.ownsRow b 4 1 v4 n xs) (hg : w.grownBy w' v4.ownBlock) : WAt w' B g v l := by
  refine ⟨hw.1, (hg.block g hw.lt ?_).trans hw.2.1, own_below hw.2.2 fun k e => hg.block k (own_low hw.2.2 k e).2 fun e2 => own_apart hw.2.2 ho (by decide) e e2.symm⟩
  intro e
  obtain ⟨c, h1⟩ := own_elem ho e.symm
  rw [hw.2.1] at h1
  injection h1 with h1
  injection h1 with _ h1
  exact absurd h1 (by decide)

theorem call_apart (c : CallL) : callV c = .agg #[.int .i64 c.kind, .int .u64 c.v, .int .i64 c.n] := rfl
end Go.Proofs.YteennnhinfnahaaDoor
namespace Go.Proofs.YteennnhinfnahaaDoor

/-- Bits 0 up to a bit 1: how many, and the error. -/
def zr : List Bool → Nat → Nat → Nat × Nat
  | [], _, _ => (0, 10)
  | true :: _, c, _ => (c, 0)
  | false :: r, c, m => if m < c + 1 then (0, 9) else zr r (c + 1) m
/-- The number, the position behind it, the error. -/
def rbits (l : List Bool) (p n : Nat) : Nat × Nat × Nat := if l.length - p < n then (0, p, 10) else (numL ((l.drop p).take n), p + n, 0)
def rgam (l : List Bool) (p : Nat) : Nat × Nat × Nat :=
  if (zr (l.drop p) 0 63).2 ≠ 0 then (0, p, (zr (l.drop p) 0 63).2)
  else if l.length - (p + (zr (l.drop p) 0 63).1 + 1) < (zr (l.drop p) 0 63).1 then (0, p, 10)
  else (2 ^ (zr (l.drop p) 0 63).1 + numL ((l.drop (p + (zr (l.drop p) 0 63).1 + 1)).take (zr (l.drop p) 0 63).1), p + (zr (l.drop p) 0 63).1 + 1 + (zr (l.drop p) 0 63).1, 0)
def rdel (l : List Bool) (p : Nat) : Nat × Nat × Nat :=
  if (rgam l p).2.2 ≠ 0 then (0, p, (rgam l p).2.2)
  else if 64 < (rgam l p).1 then (0, p, 9)
  else if l.length - (rgam l p).2.1 < (rgam l p).1 - 1 then (0, p, 10)
  else (2 ^ ((rgam l p).1 - 1) + numL ((l.drop (rgam l p).2.1).take ((rgam l p).1 - 1)), (rgam l p).2.1 + ((rgam l p).1 - 1), 0)
def runa (l : List Bool) (p : Nat) : Nat × Nat × Nat :=
  if (zr (l.drop p) 0 4096).2 ≠ 0 then (0, p, (zr (l.drop p) 0 4096).2) else ((zr (l.drop p) 0 4096).1, p + (zr (l.drop p) 0 4096).1 + 1, 0)
/-- What a call reads. -/
def rd (l : List Bool) (p : Nat) (c : CallL) : Nat × Nat × Nat :=
  if c.kind = 0 then (if c.n < 0 ∨ 64 < c.n then (0, p, 1) else rbits l p c.n.toNat)
  else if c.kind = 1 then runa l p
  else if c.kind = 2 then rgam l p else rdel l p

/-- A number of bits 0 was found: there they stand, and the bit 1 behind them. -/
theorem zr_ok : ∀ (l : List Bool) (c m : Nat), c ≤ m → (zr l c m).2 = 0 → c ≤ (zr l c m).1 ∧ (zr l c m).1 ≤ m ∧ ∃ r, l = List.replicate ((zr l c m).1 - c) false ++ true :: r
  | [], c, m, _, h => by simp [zr] at h
  | true :: r, c, m, hc, _ => by
    simp only [zr]
    exact ⟨Nat.le_refl _, hc, r, by simp⟩
  | false :: r, c, m, hc, h => by
    rw [zr] at h ⊢
    by_cases hm : m < c + 1
    · rw [if_pos hm] at h
      simp at h
    · rw [if_neg hm] at h ⊢
      obtain ⟨h1, h2, r', h3⟩ := zr_ok r (c + 1) m (by omega) h
      refine ⟨by omega, h2, r', ?_⟩
      obtain ⟨z, hz⟩ : ∃ z, (zr r (c + 1) m).1 = z := ⟨_, rfl⟩
      rw [hz] at h1 h3 ⊢
      have e : z - c = (z - (c + 1)) + 1 := by omega
      rw [e, List.replicate_succ, List.cons_append]
      exact congrArg (false :: ·) h3
theorem zr_err : ∀ (l : List Bool) (c m : Nat), (zr l c m).2 = 0 ∨ (zr l c m).2 = 9 ∨ (zr l c m).2 = 10
  | [], _, _ => .inr (.inr rfl)
  | true :: _, _, _ => .inl rfl
  | false :: r, c, m => by
    rw [zr]
    split
    · exact .inr (.inl rfl)
    · exact zr_err r (c + 1) m
theorem zr_val (l : List Bool) (c m : Nat) (hc : c ≤ m) : (zr l c m).1 ≤ m := by
  by_cases h : (zr l c m).2 = 0
  · exact (zr_ok l c m hc h).2.1
  · have : ∀ (l : List Bool) (c : Nat), (zr l c m).2 ≠ 0 → (zr l c m).1 = 0 := by
      intro l
      induction l with
      | nil => intro c _; rfl
      | cons b r ih =>
        intro c hh
        cases b with
        | true => simp [zr] at hh
        | false =>
          rw [zr] at hh ⊢
          split
          · rfl
          · rename_i hm
            rw [if_neg hm] at hh
            exact ih (c + 1) hh
    rw [this l c h]
    exact Nat.zero_le _
/-- Where bits were found. -/
theorem zr_at (l : List Bool) (p m : Nat) (h : (zr (l.drop p) 0 m).2 = 0) : (zr (l.drop p) 0 m).1 ≤ m ∧ p + (zr (l.drop p) 0 m).1 + 1 ≤ l.length ∧ l.drop (p + (zr (l.drop p) 0 m).1) = true :: l.drop (p + (zr (l.drop p) 0 m).1 + 1) := by
  obtain ⟨_, h2, r, h3⟩ := zr_ok (l.drop p) 0 m (Nat.zero_le _) h
  obtain ⟨z, hz⟩ : ∃ z, (zr (l.drop p) 0 m).1 = z := ⟨_, rfl⟩
  rw [hz] at h2 h3 ⊢
  rw [Nat.sub_zero] at h3
  have hl := congrArg List.length h3
  rw [List.length_drop, List.length_append, List.length_replicate, List.length_cons] at hl
  have e1 : l.drop (p + z) = true :: r := by
    rw [← List.drop_drop, h3, List.drop_left' (by simp)]
  refine ⟨h2, by omega, ?_⟩
  have e2 : l.drop (p + z + 1) = r := by rw [← List.drop_drop, e1]; rfl
  rw [e2]
  exact e1
theorem zr_step (l : List Bool) (p c m : Nat) (hp : p < l.length) : zr (l.drop p) c m = if l[p] then (c, 0) else if m < c + 1 then (0, 9) else zr (l.drop (p + 1)) (c + 1) m := by
  rw [List.drop_eq_getElem_cons hp]
  cases h : l[p] with
  | true => rfl
  | false => rfl
theorem zr_end (l : List Bool) (p c m : Nat) (hp : l.length ≤ p) : zr (l.drop p) c m = (0, 10) := by
  rw [List.drop_of_length_le hp]
  rfl

theorem rbits_le (l : List Bool) (p n : Nat) (hp : p ≤ l.length) : (rbits l p n).2.1 ≤ l.length ∧ (rbits l p n).1 < 2 ^ n := by
  unfold rbits
  split
  · exact ⟨hp, Nat.pow_pos (by decide)⟩
  · refine ⟨by show p + n ≤ _; omega, ?_⟩
    have h := numL_lt ((l.drop p).take n)
    have hl : ((l.drop p).take n).length = n := by rw [List.length_take, List.length_drop]; omega
    rw [hl] at h
    exact h
theorem rbits_one (l : List Bool) (p : Nat) (hp : p < l.length) : rbits l p 1 = ((l[p]).toNat, p + 1, 0) := by
  unfold rbits
  rw [if_neg (by omega), List.drop_eq_getElem_cons hp, List.take_succ_cons, List.take_zero]
  cases l[p] <;> rfl
theorem rbits_none (l : List Bool) (p : Nat) (hp : l.length ≤ p) : rbits l p 1 = (0, p, 10) := by
  unfold rbits
  rw [if_pos (by omega)]
theorem rbits_take (l : List Bool) (p k : Nat) (hp : p + k < l.length) : numL ((l.drop p).take (k + 1)) = 2 * numL ((l.drop p).take k) + (l[p + k]).toNat := by
  have hk : k < (l.drop p).length := by rw [List.length_drop]; omega
  rw [List.take_succ_eq_append_getElem hk, numL_snoc, List.getElem_drop]
theorem take_num_lt (l : List Bool) (p k : Nat) : numL ((l.drop p).take k) < 2 ^ k := by
  have h := numL_lt ((l.drop p).take k)
  have hl : ((l.drop p).take k).length ≤ k := List.length_take_le _ _
  exact Nat.lt_of_lt_of_le h (Nat.pow_le_pow_right (by decide) hl)
theorem numL_true (r : List Bool) (n : Nat) (hn : n ≤ r.length) : numL ((true :: r).take (n + 1)) = 2 ^ n + numL (r.take n) := by
  rw [List.take_succ_cons, numL, numA_cons, numA_eq, List.length_take, Nat.min_eq_left hn]
  simp

/-- What a call appends is read back. -/
theorem zr_zeros : ∀ (n c m : Nat) (r : List Bool), c + n ≤ m → zr (List.replicate n false ++ true :: r) c m = (c + n, 0)
  | 0, c, m, r, _ => rfl
  | n + 1, c, m, r, h => by
    rw [List.replicate_succ, List.cons_append, zr, if_neg (by omega), zr_zeros n (c + 1) m r (by omega)]
    congr 1
    omega
theorem low_top (v : Nat) (h : v ≠ 0) : low v (Nat.log2 v + 1) = true :: low v (Nat.log2 v) := by
  rw [low]
  congr 1
  have h1 := log_le v h
  have h2 := lt_log v
  rw [Nat.pow_succ] at h2
  have : v / 2 ^ Nat.log2 v = 1 := by
    rw [Nat.div_eq_iff (Nat.pow_pos (by decide))]
    omega
  rw [this]
  rfl
theorem log_split (v : Nat) (h : v ≠ 0) : 2 ^ Nat.log2 v + v % 2 ^ Nat.log2 v = v := by
  have h1 := log_le v h
  have h2 := lt_log v
  rw [Nat.pow_succ] at h2
  rw [Nat.mod_eq_sub_mod h1, Nat.mod_eq_of_lt (by omega)]
  omega
theorem drop_app (l a b : List Bool) (p : Nat) (h : l.drop p = a ++ b) (k : Nat) (hk : k = a.length) : l.drop (p + k) = b := by
  rw [← List.drop_drop, h, hk, List.drop_left]
theorem len_app (l a b : List Bool) (p : Nat) (h : l.drop p = a ++ b) (hp : p ≤ l.length) : l.length = p + a.length + b.length := by
  have := congrArg List.length h
  rw [List.length_drop, List.length_append] at this
  omega
theorem rbits_back (l : List Bool) (p v n : Nat) (rest : List Bool) (hp : p ≤ l.length) (h : l.drop p = low v n ++ rest) (hv : v < 2 ^ n) : rbits l p n = (v, p + n, 0) := by
  have hl := len_app l _ _ p h hp
  rw [low_len] at hl
  unfold rbits
  rw [if_neg (by omega), h, List.take_left' (low_len v n), numL_low, Nat.mod_eq_of_lt hv]
theorem rgam_back (l : List Bool) (p v : Nat) (rest : List Bool) (hp : p ≤ l.length) (h : l.drop p = gam v ++ rest) (h0 : v ≠ 0) (hv : v < 18446744073709551616) : rgam l p = (v, p + (gam v).length, 0) := by
  have hlog := log_lt v hv
  have hg : gam v = List.replicate (Nat.log2 v) false ++ true :: low v (Nat.log2 v) := by rw [gam, low_top v h0]
  have hl := len_app l _ _ p h hp
  have hgl := gam_len v
  have hsp := log_split v h0
  rw [hg, List.append_assoc, List.cons_append] at h
  obtain ⟨n, hn⟩ : ∃ n, Nat.log2 v = n := ⟨_, rfl⟩
  rw [hn] at hlog h hgl hsp
  have hz : zr (l.drop p) 0 63 = (n, 0) := by
    rw [h, zr_zeros n 0 63 _ (by omega), Nat.zero_add]
  have hd : l.drop (p + n + 1) = low v n ++ rest := by
    have h1 := drop_app l (List.replicate n false ++ [true]) (low v n ++ rest) p (by rw [h]; simp) (n + 1) (by simp)
    exact h1
  unfold rgam
  rw [hz]
  simp only
  rw [if_neg (by simp), if_neg (by omega), hd, List.take_left' (low_len v n), numL_low, hsp, hgl]
  congr 2
  omega
theorem rdel_back (l : List Bool) (p v : Nat) (rest : List Bool) (hp : p ≤ l.length) (h : l.drop p = del v ++ rest) (h0 : v ≠ 0) (hv : v < 18446744073709551616) : rdel l p = (v, p + (del v).length, 0) := by
  have hlog := log_lt v hv
  have hl := len_app l _ _ p h hp
  have hdl := del_len v
  have hsp := log_split v h0
  have hgl := gam_len (Nat.log2 v + 1)
  rw [del, List.append_assoc] at h
  obtain ⟨n, hn⟩ : ∃ n, Nat.log2 v = n := ⟨_, rfl⟩
  rw [hn] at hlog h hdl hsp hgl
  have hrg := rgam_back l p (n + 1) _ hp h (by omega) (by omega)
  have hd := drop_app l _ _ p h _ rfl
  unfold rdel
  rw [hrg]
  simp only
  rw [if_neg (by simp), if_neg (by omega), Nat.add_sub_cancel, if_neg (by omega), hd, List.take_left' (low_len v n), numL_low, hsp, hdl]
  congr 2
  omega
theorem runa_back (l : List Bool) (p n : Nat) (rest : List Bool) (h : l.drop p = una n ++ rest) (hn : n ≤ 4096) : runa l p = (n, p + (una n).length, 0) := by
  have hz : zr (l.drop p) 0 4096 = (n, 0) := by
    rw [h, una, List.append_assoc]
    have := zr_zeros n 0 4096 rest (by omega)
    rw [Nat.zero_add] at this
    exact this
  unfold runa
  rw [hz, una_len]
  rfl
/-- The number that a call has written. -/
def wantC (c : CallL) : Nat := if c.kind = 1 then c.n.toNat else c.v
theorem rd_back (l : List Bool) (p : Nat) (c : CallL) (hc : okCall c) (bs rest : List Bool) (hp : p ≤ l.length) (hw : wrL c = some bs) (h : l.drop p = bs ++ rest) : rd l p c = (wantC c, p + bs.length, 0) := by
  obtain ⟨_, _, h2, _, _⟩ := hc
  unfold wrL at hw
  unfold rd wantC
  by_cases k0 : c.kind = 0
  · rw [if_pos k0] at hw ⊢
    rw [if_neg (show ¬ c.kind = 1 by omega)]
    split at hw
    · cases hw
    · rename_i hcond
      injection hw with hw
      subst hw
      rw [if_neg (by omega), low_len]
      exact rbits_back l p c.v _ rest hp h (by omega)
  · rw [if_neg k0] at hw ⊢
    by_cases k1 : c.kind = 1
    · rw [if_pos k1] at hw ⊢
      rw [if_pos k1]
      split at hw
      · cases hw
      · rename_i hcond
        injection hw with hw
        subst hw
        exact runa_back l p _ rest h (by omega)
    · rw [if_neg k1] at hw ⊢
      rw [if_neg k1]
      split at hw
      · cases hw
      · rename_i hv0
        by_cases k2 : c.kind = 2
        · rw [if_pos k2] at hw ⊢
          injection hw with hw
          subst hw
          exact rgam_back l p c.v rest hp h hv0 h2
        · rw [if_neg k2] at hw ⊢
          injection hw with hw
          subst hw
          exact rdel_back l p c.v rest hp h hv0 h2
end Go.Proofs.YteennnhinfnahaaDoor
namespace Go.Proofs.YteennnhinfnahaaDoor
open Go.RowKit Go.Shelf Go.Lib

/-- A Reader in memory: its block, the bytes that it owns, the number of its bits, its position. -/
def RAt (w : World) (B g : Nat) (vb : Value) (bs : List UInt8) (size p : Nat) : Prop :=
  B ≤ g ∧ w.heap[g]? = some (.cells #[vb, .int .i64 size, .int .i64 p] 124 (0, 0)) ∧ w.ownsRow B 5 1 vb bs.length (byteCells bs) ∧ p ≤ size ∧ size ≤ 8 * bs.length ∧ size ≤ 100000
theorem growb_trans {g : Nat} {a b c : World} (h : a.grownBy b (some g)) (k : b.grownBy c (some g)) : a.grownBy c (some g) :=
  ⟨k.os.trans h.os, k.tape.trans h.tape, k.output.trans h.output, Nat.le_trans h.size k.size, fun j hj hne => (k.block j (Nat.lt_of_lt_of_le hj h.size) hne).trans (h.block j hj hne)⟩
theorem grown_drew (g : Nat) (w : World) (n : Nat) : w.grownBy (w.drewN n) (some g) := ⟨rfl, rfl, rfl, Nat.le_refl _, fun _ _ _ => rfl⟩
theorem growb_below {g B : Nat} {w w' : World} (h : w.grownBy w' (some g)) (hg : B ≤ g) (hB : B ≤ w.heap.size) : Below B w w' :=
  (Below.refl B w).grown h hB (fun k e => by cases e; exact hg)
theorem RAt.ne {w : World} {B g : Nat} {vb : Value} {bs : List UInt8} {size p : Nat} (h : RAt w B g vb bs size p) : vb.ownBlock ≠ some g := by
  intro e
  obtain ⟨c, h1⟩ := own_elem h.2.2.1 e
  rw [h.2.1] at h1
  injection h1 with h1
  injection h1 with _ h1
  exact absurd h1 (by decide)
theorem RAt.lt {w : World} {B g : Nat} {vb : Value} {bs : List UInt8} {size p : Nat} (h : RAt w B g vb bs size p) : g < w.heap.size := (Array.getElem?_eq_some_iff.1 h.2.1).1
theorem RAt.heap {w w' : World} {B g : Nat} {vb : Value} {bs : List UInt8} {size p : Nat} (h : RAt w B g vb bs size p) (hh : ∀ k, k < w.heap.size → w'.heap[k]? = w.heap[k]?) : RAt w' B g vb bs size p :=
  ⟨h.1, (hh g h.lt).trans h.2.1, own_below h.2.2.1 (fun k e => hh k (own_low h.2.2.1 k e).2), h.2.2.2⟩
theorem RAt.drewN {w : World} {B g : Nat} {vb : Value} {bs : List UInt8} {size p : Nat} (h : RAt w B g vb bs size p) (n : Nat) : RAt (w.drewN n) B g vb bs size p := h.heap fun _ _ => rfl
/-- The position is moved. -/
theorem RAt.move {w : World} {B g : Nat} {vb : Value} {bs : List UInt8} {size p : Nat} (h : RAt w B g vb bs size p) (p' : Nat) (P : Int) (hP : P = p') (hp : p' ≤ size) : RAt (w.setCell ⟨g, 2, none⟩ (.int .i64 P)) B g vb bs size p' ∧ w.grownBy (w.setCell ⟨g, 2, none⟩ (.int .i64 P)) (some g) := by
  subst hP
  refine ⟨⟨h.1, ?_, own_below h.2.2.1 (fun k e => Below.heap_setCell _ _ _ _ (fun e2 => by subst e2; exact h.ne e)), hp, h.2.2.2.2⟩, ⟨rfl, rfl, rfl, by simp [World.setCell], fun k _ hne => Below.heap_setCell _ _ _ _ (fun e => hne (by rw [e]))⟩⟩
  rw [set_of h.2.1 (i := 2)]
  simp
theorem rat_cells {w : World} {B g : Nat} {vb : Value} {bs : List UInt8} {size p : Nat} (h : RAt w B g vb bs size p) : w.cell? ⟨g, 0, none⟩ = some vb ∧ w.cell? ⟨g, 1, none⟩ = some (.int .i64 size) ∧ w.cell? ⟨g, 2, none⟩ = some (.int .i64 p) ∧ w.frozen? ⟨g, 2, none⟩ = false :=
  ⟨cell_of (i := 0) h.2.1 rfl, cell_of (i := 1) h.2.1 rfl, cell_of (i := 2) h.2.1 rfl, frozen_of h.2.1⟩

theorem bit_val (y sh : Nat) (hy : y < 256) : bits .and .u8 ((y : Int) / 2 ^ sh) 1 = ((y / 2 ^ sh % 2 : Nat) : Int) := by
  have e : (y : Int) / 2 ^ sh = ((y / 2 ^ sh : Nat) : Int) := by simp
  have hle : y / 2 ^ sh ≤ y := Nat.div_le_self _ _
  have e1 := u8_and_nat (y / 2 ^ sh) 1 (by omega) (by omega)
  rw [Nat.and_one_is_mod] at e1
  rw [e]
  exact e1

set_option maxHeartbeats 1000000 in
theorem sbit_any {w : World} {B g : Nat} {vb : Value} {bs : List UInt8} {size p : Nat} (h : RAt w B g vb bs size p) (q : Nat) (hq : q < size) (b : Bool) (hb : (unpack bs size)[q]? = some b) :
    Calls Tryd.prog 71 #[.pointer (some ⟨g, 0, none⟩), .int .i64 q] w fun e w' => e = .returned (.int .u64 (b.toNat : Nat)) ∧ ∃ m, w' = w.drewN m := by
  obtain ⟨_, hcell, hown, _, hs8, hsz⟩ := h
  obtain ⟨a, cap, rfl, _, _⟩ := hown.form (by omega)
  have c0 : w.cell? ⟨g, 0, none⟩ = some (.slice (some ⟨a, 0, none⟩) bs.length cap) := cell_of (i := 0) hcell rfl
  rw [unpack_at _ _ _ hq] at hb
  have hj : q / 8 < bs.length := by omega
  have hcb := hown.cellAt (q / 8) (by omega)
  have hcb2 : (byteCells bs)[q / 8]? = some (.int .u8 ((bs[q / 8]).toNat : Int)) := by simp [byteCells, hj]
  rw [hcb2] at hcb
  have hgd : bs.getD (q / 8) 0 = bs[q / 8] := by simp [List.getD, hj]
  rw [hgd] at hb
  have hy256 := UInt8.toNat_lt bs[q / 8]
  obtain ⟨y, hy⟩ : ∃ y, (bs[q / 8]).toNat = y := ⟨_, rfl⟩
  rw [hy] at hcb hb hy256
  obtain ⟨n, hn⟩ : ∃ n, bs.length = n := ⟨_, rfl⟩
  rw [hn] at c0 hj
  obtain ⟨j, hjj⟩ : ∃ j, q / 8 = j := ⟨_, rfl⟩
  rw [hjj] at hcb hj
  obtain ⟨sh, hsh⟩ : ∃ sh, 7 - q % 8 = sh := ⟨_, rfl⟩
  rw [hsh] at hb
  have hval := bit_val y sh hy256
  have hbv : ((y / 2 ^ sh % 2 : Nat) : Int) = ((b.toNat : Nat) : Int) := by
    injection hb with hb
    rw [← hb, bit_toNat]
  rw [hbv] at hval
  have hbt : b.toNat ≤ 1 := Bool.toNat_le b
  obtain ⟨d, hd⟩ : ∃ d, b.toNat = d := ⟨_, rfl⟩
  rw [hd] at hval hbt ⊢
  have hje : (q : Int).tdiv 8 = (j : Int) := by rw [Int.tdiv_eq_ediv_of_nonneg (by omega)]; omega
  have hje2 : (q : Int) / 8 = (j : Int) := by omega
  have hjw : IntKind.i64.wrap (j : Int) = (j : Int) := by rw [IntKind.wrap_i64]; omega
  have hdw : IntKind.u64.wrap (d : Int) = (d : Int) := by rw [IntKind.wrap_u64]; omega
  have hj0 : (0 : Int) ≤ (j : Int) := by omega
  have hjn : (j : Int) < (n : Int) := by omega
  have hs0 : (0 : Int) ≤ (sh : Int) := by omega
  have hsc : ∀ W, Calls Tryd.prog 76 #[.int .i64 (q : Int)] W (fun e w'' => e = .returned (.int .i64 (sh : Int)) ∧ w'' = W) := by
    intro W
    refine (shift_any q (by omega) W).mono ?_
    rintro e w'' ⟨rfl, rfl⟩
    refine ⟨?_, rfl⟩
    congr 2
    omega
  have HSC := Lib.hid hsc
  have hsh7 : sh ≤ 8 := by omega
  have hres : IntKind.u64.wrap (bits .and .u8 ((y : Int) / 2 ^ min sh 8) 1) = (d : Int) := by rw [Nat.min_eq_left hsh7, hval, hdw]
  have HR := Lib.hid hres
  clear hres hval hdw hsh7 hsc hcell hown hb hy hn hjj hsh hbv hd hgd hcb2 hbt
  go_enter Tryd.func71, Tryd.ntmps71
  go_wp2
  go_quiet ((go_at_call 76; exact Calls.quiet_of_same (HSC.out _)))
  go_wp2
  go_ret
  exact ⟨congrArg Ending.returned (congrArg (Value.int .u64) HR.out), _, rfl⟩

set_option maxHeartbeats 400000 in
theorem left_any {w : World} {B g : Nat} {vb : Value} {bs : List UInt8} {size p : Nat} (h : RAt w B g vb bs size p) (q : Nat) (hq : q ≤ size) :
    Calls Tryd.prog 70 #[.pointer (some ⟨g, 0, none⟩), .int .i64 q] w fun e w' => e = .returned (.int .i64 ((size - q : Nat) : Int)) ∧ w' = w := by
  obtain ⟨_, c1, _, _⟩ := rat_cells h
  have hsz := h.2.2.2.2.2
  have hsub : ((size - q : Nat) : Int) = (size : Int) - (q : Int) := by omega
  rw [hsub]
  clear h hsub
  go_enter Tryd.func70, Tryd.ntmps70
  go_wp2
  go_ret
  exact ⟨rfl, rfl⟩
end Go.Proofs.YteennnhinfnahaaDoor
namespace Go.Proofs.YteennnhinfnahaaDoor
open Go.RowKit Go.Shelf Go.Lib

/-- What a Reader's method answers and leaves. -/
def RPost (B g : Nat) (vb : Value) (bs : List UInt8) (size : Nat) (w : World) (t : Nat × Nat × Nat) (e : Ending) (w' : World) : Prop :=
  e = .returned (.tuple #[.int .u64 (t.1 : Nat), .int .i64 (t.2.2 : Nat)]) ∧ RAt w' B g vb bs size t.2.1 ∧ w.grownBy w' (some g)

theorem rd_val (V : Nat) (b : Nat) (hb : b ≤ 1) (hV : V < 9223372036854775808) : bits .or .u64 (IntKind.u64.wrap ((V : Int) * 2)) (b : Int) = ((2 * V + b : Nat) : Int) := by
  have e : IntKind.u64.wrap ((V : Int) * 2) = ((2 * V : Nat) : Int) := by rw [IntKind.wrap_u64]; omega
  rw [e, bits_or_u64_nat _ _ (by omega) (by omega), or_add (2 * V) b 1 2 rfl (by omega) (by omega)]

set_option maxHeartbeats 400000 in
theorem rbits_out {w : World} {B g : Nat} {vb : Value} {bs : List UInt8} {size p : Nat} (h : RAt w B g vb bs size p) (n : Int) (hn : n < 0 ∨ 64 < n) :
    Calls Tryd.prog 53 #[.pointer (some ⟨g, 0, none⟩), .int .i64 n] w (RPost B g vb bs size w (0, p, 1)) := by
  have HF : Hid (RPost B g vb bs size w (0, p, 1) (.returned (.tuple #[.int .u64 0, .int .i64 1])) w) := ⟨rfl, h, grown_drew g w 0⟩
  clear h
  rcases hn with hn | hn
  · go_enter Tryd.func53, Tryd.ntmps53
    go_wp2
    go_ret2
    exact HF.out
  · have h0 : 0 ≤ n := by omega
    go_enter Tryd.func53, Tryd.ntmps53
    go_wp2
    go_ret2
    exact HF.out

/-- Between two rounds of Bits: k bits have been read. -/
def BRel (B g : Nat) (vb : Value) (bs : List UInt8) (size p n : Nat) (w : World) (v6 v24 : Value) (wr : World) : Prop :=
  ∃ k : Nat, k ≤ n ∧ v24 = .int .i64 (k : Int) ∧ v6 = .int .u64 ((numL (((unpack bs size).drop p).take k) : Nat) : Int) ∧ RAt wr B g vb bs size (p + k) ∧ w.grownBy wr (some g)

set_option maxRecDepth 100000 in
set_option maxHeartbeats 1000000 in
theorem rbits_any {w : World} {B g : Nat} {vb : Value} {bs : List UInt8} {size p : Nat} (h : RAt w B g vb bs size p) (n : Nat) (hn : n ≤ 64) :
    Calls Tryd.prog 53 #[.pointer (some ⟨g, 0, none⟩), .int .i64 n] w (RPost B g vb bs size w (rbits (unpack bs size) p n)) := by
  obtain ⟨_, hp, _, hsz⟩ := id h.2.2
  obtain ⟨c0, c1, c2, f2⟩ := rat_cells h
  have hleft := fun k => left_any (h.drewN k) p hp
  obtain ⟨d, hd⟩ : ∃ d, size - p = d := ⟨_, rfl⟩
  rw [hd] at hleft
  have hul := unpack_len bs size
  have HLF := Lib.hid hleft
  have HH := Lib.hid h
  have hn64 : (n : Int) ≤ 64 := by omega
  have hn0 : (0 : Int) ≤ (n : Int) := by omega
  by_cases hdn : d < n
  · have hrb : rbits (unpack bs size) p n = (0, p, 10) := by
      unfold rbits
      rw [hul, hd, if_pos hdn]
    rw [hrb]
    have HF : ∀ m, Hid (RPost B g vb bs size w (0, p, 10) (.returned (.tuple #[.int .u64 0, .int .i64 10])) (w.drewN m)) := fun m => ⟨rfl, h.drewN m, grown_drew g w m⟩
    have HFF := Lib.hid HF
    have hdn' : (d : Int) < (n : Int) := by omega
    clear hrb h hleft hul hd HF
    go_enter Tryd.func53, Tryd.ntmps53
    go_wp2
    go_quiet ((go_at_call 70; exact Calls.quiet_of_same (HLF.out _)))
    go_wp2
    go_ret2
    exact (HFF.out _).out
  · have hrb : rbits (unpack bs size) p n = (numL (((unpack bs size).drop p).take n), p + n, 0) := by
      unfold rbits
      rw [hul, hd, if_neg hdn]
    rw [hrb]
    have hdn' : (n : Int) ≤ (d : Int) := by omega
    have hpn : p + n ≤ size := by omega
    clear hrb h hleft hd c1 c2 c0 f2
    go_enter Tryd.func53, Tryd.ntmps53
    have c2 : w.cell? ⟨g, 2, none⟩ = some (.int .i64 p) := (rat_cells HH.out).2.2.1
    go_wp2
    go_quiet ((go_at_call 70; exact Calls.quiet_of_same (HLF.out _)))
    clear c2
    go_wp2
    go_loopw [6, 24] (fun v6 v24 wr => BRel B g vb bs size p n w v6 v24 wr) (fun _ v24 _ => n - (intOf v24).toNat)
    case atStart => exact ⟨0, Nat.zero_le _, rfl, rfl, HH.out.drewN _, grown_drew g w _⟩
    case round =>
      obtain ⟨k, hk, rfl, rfl, hat, hgr⟩ := hrel
      by_cases hlt : k < n
      · have hpk : p + k < size := by omega
        have hV := take_num_lt (unpack bs size) p k
        have hpow : 2 ^ k ≤ 2 ^ 63 := Nat.pow_le_pow_right (by decide) (by omega)
        have h63 : (2 : Nat) ^ 63 = 9223372036854775808 := by decide
        have hstep := rbits_take (unpack bs size) p k (by rw [hul]; exact hpk)
        obtain ⟨b, hb⟩ : ∃ b, (unpack bs size)[p + k]'(by rw [hul]; exact hpk) = b := ⟨_, rfl⟩
        have hbit : (unpack bs size)[p + k]? = some b := by rw [← hb]; exact List.getElem?_eq_getElem _
        rw [hb] at hstep
        have hsb := fun m => sbit_any (hat.drewN m) (p + k) hpk b hbit
        have hmv := fun m => (hat.drewN m).move (p + k + 1) (((p + k : Nat) : Int) + 1) (by omega) (by omega)
        obtain ⟨V, hVV⟩ : ∃ V, numL (((unpack bs size).drop p).take k) = V := ⟨_, rfl⟩
        rw [hVV] at hV hstep
        have hb1 : b.toNat ≤ 1 := Bool.toNat_le b
        obtain ⟨bn, hbn⟩ : ∃ bn, b.toNat = bn := ⟨_, rfl⟩
        rw [hbn] at hstep hsb hb1
        have hval := rd_val V bn hb1 (by omega)
        rw [← hstep] at hval
        have c2 : wr.cell? ⟨g, 2, none⟩ = some (.int .i64 ((p + k : Nat) : Int)) := (rat_cells hat).2.2.1
        have f2 : wr.frozen? ⟨g, 2, none⟩ = false := (rat_cells hat).2.2.2
        obtain ⟨pk, hpk'⟩ : ∃ pk, p + k = pk := ⟨_, rfl⟩
        have hassoc : p + (k + 1) = pk + 1 := by omega
        rw [hpk'] at hsb hmv c2
        obtain ⟨V2, hV2⟩ : ∃ V2, numL (((unpack bs size).drop p).take (k + 1)) = V2 := ⟨_, rfl⟩
        rw [hV2] at hval
        have hpk5 : pk ≤ 100000 := by omega
        have HSB := Lib.hid hsb
        have HMV := Lib.hid hmv
        have HGR := Lib.hid hgr
        have HAS := Lib.hid hassoc
        have HV2 := Lib.hid hV2
        have HVAL := Lib.hid hval
        have HVV := Lib.hid hVV
        clear hsb hmv hgr hat hstep hbit hb hbn hVV hassoc hV2 hpow h63 hpk' hval
        go_wp2
        go_quiet ((go_at_call 71; exact Calls.quiet_of (HSB.out _)))
        go_wp2
        refine ⟨⟨k + 1, by omega, by go_num, by rw [HVV.out, HVAL.out, HV2.out], by rw [HAS.out]; exact (HMV.out _).1, growb_trans HGR.out (growb_trans (grown_drew g wr _) (HMV.out _).2)⟩, by simp only [intOf]; omega⟩
      · have hkn : k = n := by omega
        subst hkn
        have HF : Hid (RPost B g vb bs size w (numL (((unpack bs size).drop p).take k), p + k, 0) (.returned (.tuple #[.int .u64 ((numL (((unpack bs size).drop p).take k) : Nat) : Int), .int .i64 0])) wr) := ⟨rfl, hat, hgr⟩
        clear hat hgr hk
        go_wp2
        go_ret2
        exact HF.out
theorem rbits_of {w : World} {B g : Nat} {vb : Value} {bs : List UInt8} {size p : Nat} (h : RAt w B g vb bs size p) (n : Nat) (N : Int) (hN : N = n) (hn : n ≤ 64) :
    Calls Tryd.prog 53 #[.pointer (some ⟨g, 0, none⟩), .int .i64 N] w (RPost B g vb bs size w (rbits (unpack bs size) p n)) := by
  subst hN
  exact rbits_any h n hn

/-- What zeros leaves: the position behind the bit 1, if one was found. -/
def ZPost (B g : Nat) (vb : Value) (bs : List UInt8) (size : Nat) (w : World) (p : Nat) (z : Nat × Nat) (e : Ending) (w' : World) : Prop :=
  ∃ p', e = .returned (.tuple #[.int .u64 (z.1 : Nat), .int .i64 (z.2 : Nat)]) ∧ (z.2 = 0 → p' = p + z.1 + 1) ∧ RAt w' B g vb bs size p' ∧ w.grownBy w' (some g)
/-- Between two rounds of zeros: c bits 0 have been read. -/
def ZRel (B g : Nat) (vb : Value) (bs : List UInt8) (size p m : Nat) (w : World) (v6 : Value) (wr : World) : Prop :=
  ∃ c : Nat, c ≤ m ∧ v6 = .int .u64 (c : Int) ∧ zr ((unpack bs size).drop p) 0 m = zr ((unpack bs size).drop (p + c)) c m ∧ RAt wr B g vb bs size (p + c) ∧ w.grownBy wr (some g)

end Go.Proofs.YteennnhinfnahaaDoor
namespace Go.Proofs.YteennnhinfnahaaDoor
open Go.RowKit Go.Shelf Go.Lib

theorem pow_le63 (n : Nat) (hn : n ≤ 63) : 2 ^ n ≤ 9223372036854775808 := by
  have h := Nat.pow_le_pow_right (show 0 < 2 by decide) hn
  have h63 : (2 : Nat) ^ 63 = 9223372036854775808 := by decide
  omega
theorem top_or (n low : Nat) (hn : n ≤ 63) (hl : low < 2 ^ n) : bits .or .u64 (IntKind.u64.wrap (2 ^ n)) (low : Int) = ((2 ^ n + low : Nat) : Int) := by
  have h1 := pow_le63 n hn
  have e : IntKind.u64.wrap ((2 : Int) ^ n) = ((2 ^ n : Nat) : Int) := by
    have : (2 : Int) ^ n = ((2 ^ n : Nat) : Int) := by simp
    rw [this, IntKind.wrap_u64]
    omega
  rw [e, bits_or_u64_nat _ _ (by omega) (by omega), or_add (2 ^ n) low n _ rfl (Nat.mod_self _) hl]

/-- What afterTop leaves. -/
def APost (B g : Nat) (vb : Value) (bs : List UInt8) (size : Nat) (w : World) (n : Nat) (t : Nat × Nat × Nat) (e : Ending) (w' : World) : Prop :=
  e = .returned (.tuple #[.int .u64 ((2 ^ n + t.1 : Nat) : Int), .int .i64 (t.2.2 : Nat)]) ∧ RAt w' B g vb bs size t.2.1 ∧ w.grownBy w' (some g)

/-- What gamma and delta leave: the error; where there is none, the number and the position. -/
def GPost (B g : Nat) (vb : Value) (bs : List UInt8) (size : Nat) (w : World) (t : Nat × Nat × Nat) (e : Ending) (w' : World) : Prop :=
  ∃ x p' : Nat, e = .returned (.tuple #[.int .u64 (x : Int), .int .i64 (t.2.2 : Nat)]) ∧ (t.2.2 = 0 → x = t.1 ∧ p' = t.2.1) ∧ RAt w' B g vb bs size p' ∧ w.grownBy w' (some g)

end Go.Proofs.YteennnhinfnahaaDoor
