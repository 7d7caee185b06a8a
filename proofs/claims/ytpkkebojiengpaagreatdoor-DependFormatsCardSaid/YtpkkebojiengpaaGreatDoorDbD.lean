/-
  WALKS over package depend, fifth part: what the reader holds; strconv.Atoi at digits; validRelation; one line.
-/
import Derived.Test.YtpkkebojiengpaaGreatDoorDbC
import Derived.Test.YtpkkebojiengpaaGreatDoorMkA
import Derived.Test.YtpkkebojiengpaaGreatDoorDaD
import Derived.Lib.AtoiAll
import Derived.Maps.AppendAt
import Derived.BigQuiet
import Derived.Deep.QuietTactic
namespace Go.Proofs.YtpkkebojiengpaaGreatDoor
open Go Go.RowKit Go.Shelf Go.Lib
set_option linter.unusedVariables false

/-! Decimal numerals. -/
theorem valA_app (a : Nat) (ds es : Bs) : valA a (ds ++ es) = valA (valA a ds) es := by simp [valA]
theorem uint_all : ∀ (ds : Bs) (a : Nat), ds.all digB = true → (valA a ds < 18446744073709551616 → parseUint10 a ds = .ok (valA a ds)) ∧ (a < 18446744073709551616 → 18446744073709551616 ≤ valA a ds → parseUint10 a ds = .range)
  | [], a, _ => ⟨fun _ => rfl, fun h1 h2 => absurd (show 18446744073709551616 ≤ a from h2) (by omega)⟩
  | c :: r, a, hall => by
    simp only [List.all_cons, Bool.and_eq_true] at hall
    have hc : 48 ≤ c.toNat ∧ c.toNat ≤ 57 := by simpa [digB] using hall.1
    have hs : valA a (c :: r) = valA (10 * a + (c.toNat - 48)) r := rfl
    have hg := valA_ge r (10 * a + (c.toNat - 48))
    have ih := uint_all r (10 * a + (c.toNat - 48)) hall.2
    have e : a * 10 + (c.toNat - 48) = 10 * a + (c.toNat - 48) := by omega
    rw [hs]
    unfold parseUint10
    rw [if_pos hc, e]
    constructor
    · intro hv
      rw [if_neg (by omega), if_neg (by omega)]
      exact ih.1 hv
    · intro ha hv
      by_cases h1 : 1844674407370955162 ≤ a
      · rw [if_pos h1]
      · rw [if_neg h1]
        by_cases h2 : 18446744073709551616 ≤ 10 * a + (c.toNat - 48)
        · rw [if_pos h2]
        · rw [if_neg h2]
          exact ih.2 (by omega) hv
theorem atoi_digits (ds : Bs) (hall : ds.all digB = true) (hne : ds ≠ []) : atoiAll ds = if valD ds < 9223372036854775808 then .ok (valD ds : Int) else .range := by
  cases ds with
  | nil => exact absurd rfl hne
  | cons c r =>
    have hc : 48 ≤ c.toNat ∧ c.toNat ≤ 57 := by
      have := hall
      simp only [List.all_cons, Bool.and_eq_true] at this
      simpa [digB] using this.1
    have hu := uint_all (c :: r) 0 hall
    unfold atoiAll
    have h1 : ¬ (c.toNat = 43 ∨ c.toNat = 45) := by omega
    have h2 : ¬ c.toNat = 45 := by omega
    have hm : parseMag (c :: r) = if valD (c :: r) < 18446744073709551616 then .ok (valD (c :: r)) else .range := by
      unfold parseMag
      rw [if_neg (by simp)]
      by_cases hv : valD (c :: r) < 18446744073709551616
      · rw [if_pos hv]; exact hu.1 hv
      · rw [if_neg hv]; exact hu.2 (by omega) (by show _ ≤ valD _; omega)
    simp only [if_neg h1, hm]
    by_cases hv : valD (c :: r) < 18446744073709551616
    · rw [if_pos hv]
      by_cases hv2 : valD (c :: r) < 9223372036854775808
      · have h3 : ¬ (9223372036854775808 ≤ valD (c :: r)) := by omega
        simp [h2, h3, hv2]
      · have h3 : 9223372036854775808 ≤ valD (c :: r) := by omega
        simp [h2, h3, hv2]
    · rw [if_neg hv, if_neg (by omega)]

/-- What the library reads of memory where a numeral is too great. -/
def ErrAt (w : World) : Prop := ∃ tp p t f, w.heap[5]? = some (.cells #[.iface tp p] t f)
theorem Tryz.gRng : Tryz.prog.globalNamed "strconv.ErrRange" = some 5 := by kernel_rfl
theorem ErrAt.var {w : World} (h : ErrAt w) : ∃ tp p, w.var? Tryz.prog "strconv.ErrRange" = some #[.iface tp p] := by
  obtain ⟨tp, p, t, f, hh⟩ := h
  refine ⟨tp, p, ?_⟩
  unfold World.var?
  rw [Tryz.gRng]
  simp only [Option.bind_some, hh]
theorem ErrAt.lt {w : World} (h : ErrAt w) : 5 < w.heap.size := by
  obtain ⟨tp, p, t, f, hh⟩ := h
  exact (Array.getElem?_eq_some_iff.1 hh).1
theorem ErrAt.same {w w' : World} (h : ErrAt w) (hs : w'.heap[5]? = w.heap[5]?) : ErrAt w' := by
  obtain ⟨tp, p, t, f, hh⟩ := h
  exact ⟨tp, p, t, f, hs.trans hh⟩
theorem atoi_any (s : ByteArray) (hs : s.size ≤ 4000000) (hall : s.data.toList.all digB = true) (hne : s.data.toList ≠ []) (w : World) (hE : ErrAt w) :
    Calls Tryz.prog 59 #[.string s] w fun e w' => (∃ x ev, e = .returned (.tuple #[.int .i64 x, ev]) ∧ ((x = (valD s.data.toList : Int) ∧ ev = .nilIface ∧ valD s.data.toList < 9223372036854775808) ∨ ((∃ tp q, ev = .iface tp q) ∧ 9223372036854775808 ≤ valD s.data.toList))) ∧ Below w.heap.size w w' := by
  have ha := atoi_digits _ hall hne
  by_cases hv : valD s.data.toList < 9223372036854775808
  · rw [if_pos hv] at ha
    refine (Tryz.strconv_Atoi_ok s (by omega) _ ha w).mono ?_
    rintro e w' ⟨rfl, rfl | ⟨t, rfl⟩⟩
    · exact ⟨⟨_, _, rfl, .inl ⟨rfl, rfl, hv⟩⟩, Below.refl _ _⟩
    · exact ⟨⟨_, _, rfl, .inl ⟨rfl, rfl, hv⟩⟩, Lib.bytesWorld_below _ _ _⟩
  · rw [if_neg hv] at ha
    obtain ⟨tp, p, hvar⟩ := hE.var
    refine (Tryz.strconv_Atoi_range_var s (by omega) ha tp p w hvar).mono ?_
    rintro e w' ⟨N, rfl, _, _, hb⟩
    exact ⟨⟨_, _, rfl, .inr ⟨⟨_, _, rfl⟩, by omega⟩⟩, hb⟩

def relB (s : Bs) : Bool := decide (s = []) || nameB s
theorem validRelation_any (s : ByteArray) (hs : s.size ≤ maxLen) (w : World) :
    Calls Tryz.prog 26 #[.string s] w fun e w' => e = .returned (.bool (relB s.data.toList)) ∧ w' = w := by
  have HN := Lib.hid (validName_any s hs w)
  unfold relB
  by_cases h : s.data.toList = []
  · rw [show decide (s.data.toList = []) = true from decide_eq_true h, Bool.true_or]
    have he : s.toList.isEmpty = true := by rw [Lib.toList_data, h]; rfl
    clear h
    go_enter Tryz.func26, Tryz.ntmps26
    go_wp2_with fail
    go_ret
    exact ⟨rfl, rfl⟩
  · rw [show decide (s.data.toList = []) = false from decide_eq_false h, Bool.false_or]
    have he : s.toList.isEmpty = false := by
      rw [Lib.toList_data, Bool.eq_false_iff]
      intro e
      exact h (List.isEmpty_iff.1 e)
    obtain ⟨q, hq⟩ : ∃ q, nameB s.data.toList = q := ⟨_, rfl⟩
    rw [hq] at HN ⊢
    clear h hq
    go_enter Tryz.func26, Tryz.ntmps26
    go_wp2_with fail
    refine HN.out.mono ?_
    rintro e w1 ⟨rfl, rfl⟩
    go_wp2_with fail
    go_ret
    exact ⟨rfl, rfl⟩

/-! What the reader holds. -/
def strV (s : Bs) : Value := .string ⟨s.toArray⟩
def strsV (l : Fs) : List Value := l.map strV
def intV (l : List Int) : List Value := l.map fun x => .int .i64 x
structure RdAt (W : World) (R base T : Nat) (bs : List Nat) (hs : List Int) (rs : Fs) : Prop where
  ex : ∃ vb vh vr, W.heap[R]? = some (.cells #[.int .i64 (T : Int), vb, vh, vr] 65 (0, 0)) ∧ W.ownsRow base 3 1 vb bs.length (natV bs) ∧ W.ownsRow base 3 1 vh hs.length (intV hs) ∧ W.ownsRow base 9 1 vr rs.length (strsV rs) ∧ (∀ k, vb.ownBlock = some k → vh.ownBlock ≠ some k)
  lt : R < base
  le : base ≤ W.heap.size
/-- What changes while lines are read: the reader, and rows of its own. -/
structure Fr (R base : Nat) (W W' : World) : Prop where
  b : Below 0 W W'
  lo : ∀ k, k < base → k ≠ R → W'.heap[k]? = W.heap[k]?
  nc : ∀ (k : Nat) (o : Obj), W.heap[k]? = some o → o.isCells = false → W'.heap[k]? = some o
theorem Fr.trans {R base : Nat} {X Y Z : World} (h : Fr R base X Y) (k : Fr R base Y Z) : Fr R base X Z :=
  ⟨h.b.trans k.b, fun i h1 h2 => (k.lo i h1 h2).trans (h.lo i h1 h2), fun i o h1 h2 => k.nc i o (h.nc i o h1 h2) h2⟩
theorem Fr.of_below {R base : Nat} {W W' : World} (h : Below W.heap.size W W') (hb : base ≤ W.heap.size) : Fr R base W W' :=
  ⟨h.mono (Nat.zero_le _), fun k h1 _ => h.block k (by omega), fun k o h1 _ => (h.block k (Array.getElem?_eq_some_iff.1 h1).1).trans h1⟩
theorem Fr.of_grown {R base : Nat} {W W' : World} {row : Option Nat} (h : W.grownBy W' row) (hb : base ≤ W.heap.size) (hr : ∀ k, row = some k → base ≤ k ∧ ∃ cs t f, W.heap[k]? = some (.cells cs t f)) : Fr R base W W' :=
  ⟨⟨h.os, h.tape, h.output, h.size, fun k hk => absurd hk (by omega)⟩, fun k h1 _ => h.block k (by omega) (fun e => by have := (hr k e.symm).1; omega), fun k o h1 h2 => (h.block k (Array.getElem?_eq_some_iff.1 h1).1 (fun e => by
    obtain ⟨_, cs, t, f, hc⟩ := hr k e.symm
    rw [hc] at h1
    cases h1
    cases h2)).trans h1⟩
theorem Fr.of_set {R base : Nat} {W : World} {i : Nat} {v : Value} {cs : Array Value} {t : TypeId} {f : Nat × Nat} (hR : W.heap[R]? = some (.cells cs t f)) : Fr R base W (W.setCell ⟨R, i, none⟩ v) :=
  ⟨⟨rfl, rfl, rfl, by simp [World.setCell], fun k hk => absurd hk (by omega)⟩, fun k _ h2 => Below.heap_setCell W ⟨R, i, none⟩ v k h2, fun k o h1 h2 => (Below.heap_setCell W ⟨R, i, none⟩ v k (fun e => by
    rw [show k = R from e, hR] at h1
    cases h1
    cases h2)).trans h1⟩
theorem own_cells {w : World} {base : Nat} {e : TypeId} {size n : Nat} {v : Value} {xs : List Value} (h : w.ownsRow base e size v n xs) : ∀ k, v.ownBlock = some k → base ≤ k ∧ ∃ cs, w.heap[k]? = some (.cells cs e (0, 0)) := by
  intro k hk
  rcases h.2 with ⟨rfl, _⟩ | ⟨g', cap, cur, rfl, hb, hh, _⟩
  · simp [Value.ownBlock] at hk
  · simp only [Value.ownBlock, Option.some.injEq] at hk
    subst hk
    exact ⟨hb, cur, hh⟩
/-- append of one element to a row of the call's own, and where the new row lies. -/
theorem wpList_push1 {w : World} {ops : Array Oper} {rest : List Oper} {o : Oper} {a : Act} {Q : Exit → Act → World → Prop} (hgd : o.guard = none) (s x : Operand) (TS e : TypeId) (i : TypeInfo) (z : Value) (bytes : Nat)
    (ho : o.op = .call { callee := .builtin .append, args := #[s, x], argTypes := #[TS, TS] })
    (ht : Tryz.prog.underlying TS = some (.slice e)) (hi : Tryz.prog.info? e = some i) (hz : i.zero = some z) (hz1 : i.size = 1) (hz2 : i.bytes = bytes) (hzs : z.cells.size = 1) (hb16 : bytes ≤ 16)
    (base : Nat) (v : Value) (n : Nat) (l : List Value) (p : Value) (hp : p.oneCell' = true) (hs : a.eval s = v) (hx : a.eval x = .slice (some ⟨w.heap.size, 0, none⟩) 1 1)
    (hown : w.ownsRow base e 1 v n l) (hn : n ≤ 1000000) (hbase : base ≤ w.heap.size)
    (h : ∀ v' w', Hid (w'.ownsRow base e 1 v' (n + 1) (l ++ [p])) → Hid (w.grownBy w' v.ownBlock) → Hid (v'.ownBlock = v.ownBlock ∨ ∃ k, v'.ownBlock = some k ∧ w.heap.size ≤ k) → wpList Tryz.prog ops Q rest (a.put o.dst v') w') :
    wpList Tryz.prog ops Q (o :: rest) a (w.alloc (.cells #[p] e)) := by
  refine wpList_append_own_at _ hgd s x TS ho base e i z 1 bytes ht hi hz hz1 hz2 hzs (by decide) v n _ hs (hown.alloc _) _ 1 1 [p] hx rfl (news_at w [p] e) (by simp [hp]) (by unfold maxLen; omega) (by have := Nat.mul_le_mul_left (n + 1) hb16; omega) (by simp; omega) ?_
  intro v' w' h1 h2 _ h3
  refine h v' w' (Lib.hid h1) (Lib.hid (grown_trans ((World.grownBy_alloc w _ _)) h2)) (Lib.hid ?_)
  rcases h3 with h3 | h3
  · exact .inl h3
  · exact .inr ⟨_, h3, by simp⟩
theorem Tryz.infoStr : (Tryz.prog.info? 9).map (fun i => (i.zero, i.size, i.bytes)) = some (some (.string ⟨#[]⟩), 1, 16) := by kernel_rfl

/-- One line read: offset, error, head, relation. -/
def lineR (T k : Nat) (l : Bs) : Int × Int × Int × Bs :=
  if k = T then (0, 15, 0, [])
  else if l.takeWhile digB = [] then (0, 3, 0, [])
  else if 1 < (l.takeWhile digB).length ∧ (l.takeWhile digB).head? = some 48 then (1, 3, 0, [])
  else if (l.dropWhile digB).head? ≠ some 9 then (((l.takeWhile digB).length : Int), 3, 0, [])
  else if T < valD (l.takeWhile digB) then (0, 8, 0, [])
  else if relB ((l.dropWhile digB).drop 1) = false then ((l.length : Int) - (((l.dropWhile digB).drop 1).length : Int), 4, 0, [])
  else (0, 0, (valD (l.takeWhile digB) : Int) - 1, (l.dropWhile digB).drop 1)
end Go.Proofs.YtpkkebojiengpaaGreatDoor
