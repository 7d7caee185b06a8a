/-
  WALKS over package depend, fifth part: what the reader holds; strconv.Atoi at digits; validRelation; one line.
  WALKS over package depend, sixth part: one line of a text.
-/
import Derived.Test.YtmjmidgfdjcbfaaGreatDoorDzA
import Derived.Test.YtmjmidgfdjcbfaaGreatDoorMkA
import Derived.Test.YtmjmidgfdjcbfaaGreatDoorDaD
import Derived.Lib.AtoiAll
import Derived.Maps.AppendAt
import Derived.BigQuiet
import Derived.Deep.QuietTactic
import Derived.Deep.RegionHeld3
namespace Go.Proofs.YtmjmidgfdjcbfaaGreatDoor.Dep
open Go Go.RowKit Go.Shelf Go.Lib
set_option linter.unusedVariables false

/-! Decimal numerals. -/
theorem valA_app (a : Nat) (ds es : Bs) : valA a (ds ++ es) = valA (valA a ds) es := by simp [valA]
theorem uint_all : ∀ (ds : Bs) (a : Nat), ds.all digB = true → (valA a ds < 18446744073709551616 → parseUint10 a ds = .ok (valA a ds)) ∧ (a < 18446744073709551616 → 18446744073709551616 ≤ valA a ds → parseUint10 a ds = .range)
  | [], a, _ => ⟨fun _ => rfl, fun h1 h2 => absurd (show 18446744073709551616 ≤ a from h2) (by omega)⟩
  | c :: r, a, hall => by
    simp only [List.all_cons, Bool.and_eq_true] at hall
    have hc : 48 ≤ c.toNat ∧ c.toNat ≤ 57 := by simpa [digB] using hall.1
    have hs : valA a (c :: r) = valA (10 * a + (c.toNat - 48)) r := rfl
    have hg := valA_ge r (10 * a + (c.toNat - 48))
    have ih := uint_all r (10 * a + (c.toNat - 48)) hall.2
    have e : a * 10 + (c.toNat - 48) = 10 * a + (c.toNat - 48) := by omega
    rw [hs]
    unfold parseUint10
    rw [if_pos hc, e]
    constructor
    · intro hv
      rw [if_neg (by omega), if_neg (by omega)]
      exact ih.1 hv
    · intro ha hv
      by_cases h1 : 1844674407370955162 ≤ a
      · rw [if_pos h1]
      · rw [if_neg h1]
        by_cases h2 : 18446744073709551616 ≤ 10 * a + (c.toNat - 48)
        · rw [if_pos h2]
        · rw [if_neg h2]
          exact ih.2 (by omega) hv
theorem atoi_digits (ds : Bs) (hall : ds.all digB = true) (hne : ds ≠ []) : atoiAll ds = if valD ds < 9223372036854775808 then .ok (valD ds : Int) else .range := by
  cases ds with
  | nil => exact absurd rfl hne
  | cons c r =>
    have hc : 48 ≤ c.toNat ∧ c.toNat ≤ 57 := by
      have := hall
      simp only [List.all_cons, Bool.and_eq_true] at this
      simpa [digB] using this.1
    have hu := uint_all (c :: r) 0 hall
    unfold atoiAll
    have h1 : ¬ (c.toNat = 43 ∨ c.toNat = 45) := by omega
    have h2 : ¬ c.toNat = 45 := by omega
    have hm : parseMag (c :: r) = if valD (c :: r) < 18446744073709551616 then .ok (valD (c :: r)) else .range := by
      unfold parseMag
      rw [if_neg (by simp)]
      by_cases hv : valD (c :: r) < 18446744073709551616
      · rw [if_pos hv]; exact hu.1 hv
      · rw [if_neg hv]; exact hu.2 (by omega) (by show _ ≤ valD _; omega)
    simp only [if_neg h1, hm]
    by_cases hv : valD (c :: r) < 18446744073709551616
    · rw [if_pos hv]
      by_cases hv2 : valD (c :: r) < 9223372036854775808
      · have h3 : ¬ (9223372036854775808 ≤ valD (c :: r)) := by omega
        simp [h2, h3, hv2]
      · have h3 : 9223372036854775808 ≤ valD (c :: r) := by omega
        simp [h2, h3, hv2]
    · rw [if_neg hv, if_neg (by omega)]

/-- What the library reads of memory where a numeral is too great. -/
def ErrAt (w : World) : Prop := ∃ tp p t f, w.heap[5]? = some (.cells #[.iface tp p] t f)
theorem Tryz.gRng : Tryz.prog.globalNamed "strconv.ErrRange" = some 5 := by kernel_rfl
theorem ErrAt.var {w : World} (h : ErrAt w) : ∃ tp p, w.var? Tryz.prog "strconv.ErrRange" = some #[.iface tp p] := by
  obtain ⟨tp, p, t, f, hh⟩ := h
  refine ⟨tp, p, ?_⟩
  unfold World.var?
  rw [Tryz.gRng]
  simp only [Option.bind_some, hh]
theorem ErrAt.lt {w : World} (h : ErrAt w) : 5 < w.heap.size := by
  obtain ⟨tp, p, t, f, hh⟩ := h
  exact (Array.getElem?_eq_some_iff.1 hh).1
theorem ErrAt.same {w w' : World} (h : ErrAt w) (hs : w'.heap[5]? = w.heap[5]?) : ErrAt w' := by
  obtain ⟨tp, p, t, f, hh⟩ := h
  exact ⟨tp, p, t, f, hs.trans hh⟩
theorem atoi_any (s : ByteArray) (hs : s.size ≤ 4000000) (hall : s.data.toList.all digB = true) (hne : s.data.toList ≠ []) (w : World) (hE : ErrAt w) :
    Calls Tryz.prog 103 #[.string s] w fun e w' => (∃ x ev, e = .returned (.tuple #[.int .i64 x, ev]) ∧ ((x = (valD s.data.toList : Int) ∧ ev = .nilIface ∧ valD s.data.toList < 9223372036854775808) ∨ ((∃ tp q, ev = .iface tp q) ∧ 9223372036854775808 ≤ valD s.data.toList))) ∧ Below w.heap.size w w' := by
  have ha := atoi_digits _ hall hne
  by_cases hv : valD s.data.toList < 9223372036854775808
  · rw [if_pos hv] at ha
    refine (Tryz.strconv_Atoi_ok s (by omega) _ ha w).mono ?_
    rintro e w' ⟨rfl, rfl | ⟨t, rfl⟩⟩
    · exact ⟨⟨_, _, rfl, .inl ⟨rfl, rfl, hv⟩⟩, Below.refl _ _⟩
    · exact ⟨⟨_, _, rfl, .inl ⟨rfl, rfl, hv⟩⟩, Lib.bytesWorld_below _ _ _⟩
  · rw [if_neg hv] at ha
    obtain ⟨tp, p, hvar⟩ := hE.var
    refine (Tryz.strconv_Atoi_range_var s (by omega) ha tp p w hvar).mono ?_
    rintro e w' ⟨N, rfl, _, _, hb⟩
    exact ⟨⟨_, _, rfl, .inr ⟨⟨_, _, rfl⟩, by omega⟩⟩, hb⟩

def relB (s : Bs) : Bool := decide (s = []) || nameB s
theorem validRelation_any (s : ByteArray) (hs : s.size ≤ maxLen) (w : World) :
    Calls Tryz.prog 37 #[.string s] w fun e w' => e = .returned (.bool (relB s.data.toList)) ∧ w' = w := by
  have HN := Lib.hid (validName_any s hs w)
  unfold relB
  by_cases h : s.data.toList = []
  · rw [show decide (s.data.toList = []) = true from decide_eq_true h, Bool.true_or]
    have he : s.toList.isEmpty = true := by rw [Lib.toList_data, h]; rfl
    clear h
    go_enter Tryz.func37, Tryz.ntmps37
    go_wp2_with fail
    go_ret
    exact ⟨rfl, rfl⟩
  · rw [show decide (s.data.toList = []) = false from decide_eq_false h, Bool.false_or]
    have he : s.toList.isEmpty = false := by
      rw [Lib.toList_data, Bool.eq_false_iff]
      intro e
      exact h (List.isEmpty_iff.1 e)
    obtain ⟨q, hq⟩ : ∃ q, nameB s.data.toList = q := ⟨_, rfl⟩
    rw [hq] at HN ⊢
    clear h hq
    go_enter Tryz.func37, Tryz.ntmps37
    go_wp2_with fail
    refine HN.out.mono ?_
    rintro e w1 ⟨rfl, rfl⟩
    go_wp2_with fail
    go_ret
    exact ⟨rfl, rfl⟩

/-! What the reader holds. -/
def strV (s : Bs) : Value := .string ⟨s.toArray⟩
def strsV (l : Fs) : List Value := l.map strV
def intV (l : List Int) : List Value := l.map fun x => .int .i64 x
structure RdAt (W : World) (R base T : Nat) (bs : List Nat) (hs : List Int) (rs : Fs) : Prop where
  ex : ∃ vb vh vr, W.heap[R]? = some (.cells #[.int .i64 (T : Int), vb, vh, vr] 89 (0, 0)) ∧ W.ownsRow base 3 1 vb bs.length (natV bs) ∧ W.ownsRow base 3 1 vh hs.length (intV hs) ∧ W.ownsRow base 9 1 vr rs.length (strsV rs) ∧ (∀ k, vb.ownBlock = some k → vh.ownBlock ≠ some k)
  lt : R < base
  le : base ≤ W.heap.size
/-- What changes while lines are read: the reader, and rows of its own. -/
structure Fr (R base : Nat) (W W' : World) : Prop where
  b : Below 0 W W'
  lo : ∀ k, k < base → k ≠ R → W'.heap[k]? = W.heap[k]?
  nc : ∀ (k : Nat) (o : Obj), W.heap[k]? = some o → o.isCells = false → W'.heap[k]? = some o
theorem Fr.trans {R base : Nat} {X Y Z : World} (h : Fr R base X Y) (k : Fr R base Y Z) : Fr R base X Z :=
  ⟨h.b.trans k.b, fun i h1 h2 => (k.lo i h1 h2).trans (h.lo i h1 h2), fun i o h1 h2 => k.nc i o (h.nc i o h1 h2) h2⟩
theorem Fr.of_below {R base : Nat} {W W' : World} (h : Below W.heap.size W W') (hb : base ≤ W.heap.size) : Fr R base W W' :=
  ⟨h.mono (Nat.zero_le _), fun k h1 _ => h.block k (by omega), fun k o h1 _ => (h.block k (Array.getElem?_eq_some_iff.1 h1).1).trans h1⟩
theorem Fr.of_grown {R base : Nat} {W W' : World} {row : Option Nat} (h : W.grownBy W' row) (hb : base ≤ W.heap.size) (hr : ∀ k, row = some k → base ≤ k ∧ ∃ cs t f, W.heap[k]? = some (.cells cs t f)) : Fr R base W W' :=
  ⟨⟨h.os, h.tape, h.output, h.size, fun k hk => absurd hk (by omega)⟩, fun k h1 _ => h.block k (by omega) (fun e => by have := (hr k e.symm).1; omega), fun k o h1 h2 => (h.block k (Array.getElem?_eq_some_iff.1 h1).1 (fun e => by
    obtain ⟨_, cs, t, f, hc⟩ := hr k e.symm
    rw [hc] at h1
    cases h1
    cases h2)).trans h1⟩
theorem Fr.of_set {R base : Nat} {W : World} {i : Nat} {v : Value} {cs : Array Value} {t : TypeId} {f : Nat × Nat} (hR : W.heap[R]? = some (.cells cs t f)) : Fr R base W (W.setCell ⟨R, i, none⟩ v) :=
  ⟨⟨rfl, rfl, rfl, by simp [World.setCell], fun k hk => absurd hk (by omega)⟩, fun k _ h2 => Below.heap_setCell W ⟨R, i, none⟩ v k h2, fun k o h1 h2 => (Below.heap_setCell W ⟨R, i, none⟩ v k (fun e => by
    rw [show k = R from e, hR] at h1
    cases h1
    cases h2)).trans h1⟩
theorem own_cells {w : World} {base : Nat} {e : TypeId} {size n : Nat} {v : Value} {xs : List Value} (h : w.ownsRow base e size v n xs) : ∀ k, v.ownBlock = some k → base ≤ k ∧ ∃ cs, w.heap[k]? = some (.cells cs e (0, 0)) := by
  intro k hk
  rcases h.2 with ⟨rfl, _⟩ | ⟨g', cap, cur, rfl, hb, hh, _⟩
  · simp [Value.ownBlock] at hk
  · simp only [Value.ownBlock, Option.some.injEq] at hk
    subst hk
    exact ⟨hb, cur, hh⟩
/-- append of one element to a row of the call's own, and where the new row lies. -/
theorem wpList_push1 {w : World} {ops : Array Oper} {rest : List Oper} {o : Oper} {a : Act} {Q : Exit → Act → World → Prop} (hgd : o.guard = none) (s x : Operand) (TS e : TypeId) (i : TypeInfo) (z : Value) (bytes : Nat)
    (ho : o.op = .call { callee := .builtin .append, args := #[s, x], argTypes := #[TS, TS] })
    (ht : Tryz.prog.underlying TS = some (.slice e)) (hi : Tryz.prog.info? e = some i) (hz : i.zero = some z) (hz1 : i.size = 1) (hz2 : i.bytes = bytes) (hzs : z.cells.size = 1) (hb16 : bytes ≤ 16)
    (base : Nat) (v : Value) (n : Nat) (l : List Value) (p : Value) (hp : p.oneCell' = true) (hs : a.eval s = v) (hx : a.eval x = .slice (some ⟨w.heap.size, 0, none⟩) 1 1)
    (hown : w.ownsRow base e 1 v n l) (hn : n ≤ 1000000) (hbase : base ≤ w.heap.size)
    (h : ∀ v' w', Hid (w'.ownsRow base e 1 v' (n + 1) (l ++ [p])) → Hid (w.grownBy w' v.ownBlock) → Hid (v'.ownBlock = v.ownBlock ∨ ∃ k, v'.ownBlock = some k ∧ w.heap.size ≤ k) → wpList Tryz.prog ops Q rest (a.put o.dst v') w') :
    wpList Tryz.prog ops Q (o :: rest) a (w.alloc (.cells #[p] e)) := by
  refine wpList_append_own_at _ hgd s x TS ho base e i z 1 bytes ht hi hz hz1 hz2 hzs (by decide) v n _ hs (hown.alloc _) _ 1 1 [p] hx rfl (news_at w [p] e) (by simp [hp]) (by unfold maxLen; omega) (by have := Nat.mul_le_mul_left (n + 1) hb16; omega) (by simp; omega) ?_
  intro v' w' h1 h2 _ h3
  refine h v' w' (Lib.hid h1) (Lib.hid (grown_trans ((World.grownBy_alloc w _ _)) h2)) (Lib.hid ?_)
  rcases h3 with h3 | h3
  · exact .inl h3
  · exact .inr ⟨_, h3, by simp⟩
theorem Tryz.infoStr : (Tryz.prog.info? 9).map (fun i => (i.zero, i.size, i.bytes)) = some (some (.string ⟨#[]⟩), 1, 16) := by kernel_rfl

/-- One line read: offset, error, head, relation. -/
def lineR (T k : Nat) (l : Bs) : Int × Int × Int × Bs :=
  if k = T then (0, 15, 0, [])
  else if l.takeWhile digB = [] then (0, 3, 0, [])
  else if 1 < (l.takeWhile digB).length ∧ (l.takeWhile digB).head? = some 48 then (1, 3, 0, [])
  else if (l.dropWhile digB).head? ≠ some 9 then (((l.takeWhile digB).length : Int), 3, 0, [])
  else if T < valD (l.takeWhile digB) then (0, 8, 0, [])
  else if relB ((l.dropWhile digB).drop 1) = false then ((l.length : Int) - (((l.dropWhile digB).drop 1).length : Int), 4, 0, [])
  else (0, 0, (valD (l.takeWhile digB) : Int) - 1, (l.dropWhile digB).drop 1)
end Go.Proofs.YtmjmidgfdjcbfaaGreatDoor.Dep
namespace Go.Proofs.YtmjmidgfdjcbfaaGreatDoor.Dep
open Go Go.RowKit Go.Shelf Go.Lib
set_option linter.unusedVariables false

theorem twd_len (l : Bs) : (l.takeWhile digB).length + (l.dropWhile digB).length = l.length := by
  have := congrArg List.length (List.takeWhile_append_dropWhile (p := digB) (l := l))
  rw [List.length_append] at this
  exact this
theorem twd_all (l : Bs) : (l.takeWhile digB).all digB = true := by
  rw [List.all_eq_true]
  induction l with
  | nil => intro x hx; cases hx
  | cons a l ih =>
    intro x hx
    rw [List.takeWhile_cons] at hx
    by_cases h : digB a = true
    · rw [if_pos h] at hx
      rcases List.mem_cons.1 hx with rfl | hx
      · exact h
      · exact ih x hx
    · rw [if_neg h] at hx; cases hx
theorem twd_take (l : Bs) : l.take (l.takeWhile digB).length = l.takeWhile digB := by
  conv => lhs; arg 2; rw [← List.takeWhile_append_dropWhile (p := digB) (l := l)]
  exact List.take_left
theorem own_grown {w w' : World} {base : Nat} {e : TypeId} {size n : Nat} {v : Value} {xs : List Value} {row : Option Nat} (h : w.ownsRow base e size v n xs) (hg : w.grownBy w' row) (hr : ∀ k, v.ownBlock = some k → row ≠ some k) : w'.ownsRow base e size v n xs :=
  own_below h fun k hk => hg.block k (own_low h k hk).2 (fun e => hr k hk e.symm)
theorem own_set {w : World} {base R i : Nat} {u : Value} {e : TypeId} {size n : Nat} {v : Value} {xs : List Value} (h : w.ownsRow base e size v n xs) (hR : R < base) : (w.setCell ⟨R, i, none⟩ u).ownsRow base e size v n xs :=
  own_below h fun k hk => Below.heap_setCell w ⟨R, i, none⟩ u k (fun e => by have := (own_low h k hk).1; have e' : k = R := e; omega)
theorem setCell_sz (w : World) (a : Addr) (v : Value) : (w.setCell a v).heap.size = w.heap.size := by simp [World.setCell]
theorem own_types {w : World} {b1 b2 : Nat} {e1 e2 : TypeId} {s1 s2 n1 n2 : Nat} {v1 v2 : Value} {x1 x2 : List Value} (h1 : w.ownsRow b1 e1 s1 v1 n1 x1) (h2 : w.ownsRow b2 e2 s2 v2 n2 x2) (he : e1 ≠ e2) : ∀ k, v1.ownBlock = some k → v2.ownBlock ≠ some k := fun k hk hk2 => by
  obtain ⟨_, c1, g1⟩ := own_cells h1 k hk
  obtain ⟨_, c2, g2⟩ := own_cells h2 k hk2
  rw [g1] at g2
  cases g2
  exact he rfl
theorem tab_cases (b : Bs) : (b.head? = some 9 ∧ hasPrefix b [9] = true ∧ trimPrefix b [9] = b.drop 1) ∨ (b.head? ≠ some 9 ∧ hasPrefix b [9] = false ∧ trimPrefix b [9] = b) := by
  cases b with
  | nil => right; refine ⟨by simp, by decide, by decide⟩
  | cons c r =>
    by_cases h : c = 9
    · subst h
      left
      have hp : hasPrefix ((9 : UInt8) :: r) [9] = true := by simp [hasPrefix, List.isPrefixOf]
      refine ⟨rfl, hp, ?_⟩
      unfold trimPrefix
      rw [hp]
      rfl
    · right
      have hp : hasPrefix (c :: r) [9] = false := by
        simp [hasPrefix, List.isPrefixOf]
        exact fun e => h e.symm
      refine ⟨by simpa using h, hp, ?_⟩
      unfold trimPrefix
      rw [hp]
      rfl

set_option maxRecDepth 100000 in
set_option maxHeartbeats 16000000 in
theorem line_any {W : World} {R base T : Nat} {bs : List Nat} {hs : List Int} {rs : Fs} (hR : RdAt W R base T bs hs rs) (hE : ErrAt W) (hER : 5 ≠ R ∧ 5 < base) (hT : T ≤ 4096) (hk : hs.length ≤ T) (hrs : rs.length = hs.length) (l : ByteArray) (hl : l.size ≤ 4000000) :
    Calls Tryz.prog 75 #[.pointer (some ⟨R, 0, none⟩), .string l] W fun e W' => e = .returned (.tuple #[.int .i64 (lineR T hs.length l.data.toList).1, .int .i64 (lineR T hs.length l.data.toList).2.1]) ∧ Fr R base W W' ∧
      ((lineR T hs.length l.data.toList).2.1 = 0 → RdAt W' R base T bs (hs ++ [(lineR T hs.length l.data.toList).2.2.1]) (rs ++ [(lineR T hs.length l.data.toList).2.2.2])) := by
  obtain ⟨⟨vb, vh, vr, hblk, ob, oh, orr, hdis⟩, hRb, hbl⟩ := hR
  obtain ⟨Ah, ch, rfl, hch⟩ := own_form oh
  obtain ⟨Ab, cb, rfl, hcb⟩ := own_form ob
  obtain ⟨Ar, cr, rfl, hcr⟩ := own_form orr
  obtain ⟨nh, hnh⟩ : ∃ n, hs.length = n := ⟨_, rfl⟩
  obtain ⟨nb, hnb⟩ : ∃ n, bs.length = n := ⟨_, rfl⟩
  rw [hrs] at orr hblk hcr
  rw [hnh] at oh orr hblk hdis hk hch hcr ⊢
  rw [hnb] at ob hblk hdis hcb
  have hlen := twd_len l.data.toList
  have htk := twd_take l.data.toList
  have hall := twd_all l.data.toList
  obtain ⟨d, hd⟩ : ∃ d, l.data.toList.takeWhile digB = d := ⟨_, rfl⟩
  obtain ⟨b, hb⟩ : ∃ b, l.data.toList.dropWhile digB = b := ⟨_, rfl⟩
  have htl := trimLeft_any l (by unfold maxLen; omega) W
  obtain ⟨⟨r1, r2, r3, r4⟩, hr⟩ : ∃ r, lineR T nh l.data.toList = r := ⟨_, rfl⟩
  rw [hr]
  simp only
  unfold lineR at hr
  rw [hd, hb] at hlen
  rw [hd] at htk hall
  rw [hb] at htl
  rw [hd, hb] at hr
  rw [← Lib.size_eq] at hlen hr
  obtain ⟨B, hB⟩ : ∃ B : ByteArray, (⟨b.toArray⟩ : ByteArray) = B := ⟨_, rfl⟩
  have hBd : B.data.toList = b := by rw [← hB]
  have hBs : B.size = b.length := by rw [← hB, Lib.size_mk]
  obtain ⟨nd, hnd⟩ : ∃ n, d.length = n := ⟨_, rfl⟩
  rw [hnd] at hlen
  obtain ⟨D, hD⟩ : ∃ D, l.extract 0 nd = D := ⟨_, rfl⟩
  have hDd : D.data.toList = d := by rw [← hD, extract_upto, ← hnd, htk]
  have hDs : D.size = nd := by rw [Lib.size_eq, hDd, hnd]
  have hcp := fun W => Tryz.strings_CutPrefix B ⟨#[9]⟩ W
  rw [hBd] at hcp
  have hcp2 : ∀ W, Calls Tryz.prog 102 #[.string B, .string ⟨#[9]⟩] W fun e w' => e = .returned (.tuple #[.string ⟨(trimPrefix b [9]).toArray⟩, .bool (hasPrefix b [9])]) ∧ w' = W := hcp
  obtain ⟨S, hS⟩ : ∃ S : ByteArray, (⟨(trimPrefix b [9]).toArray⟩ : ByteArray) = S := ⟨_, rfl⟩
  have hSd : S.data.toList = trimPrefix b [9] := by rw [← hS]
  have hSs : S.size ≤ B.size := by
    rw [Lib.size_eq, hSd, hBs]
    rcases tab_cases b with ⟨_, _, e⟩ | ⟨_, _, e⟩
    · rw [e, List.length_drop]; omega
    · rw [e]; exact Nat.le_refl _
  have htab := tab_cases b
  obtain ⟨tb, htb⟩ : ∃ t, hasPrefix b [9] = t := ⟨_, rfl⟩
  rw [hS, htb] at hcp2
  rw [htb] at htab
  rw [hB] at htl
  have hsz : l.size = nd + B.size := by omega
  have en : (l.size : Int) - (B.size : Int) = (nd : Int) := by omega
  have en0 : (0 : Int) ≤ (nd : Int) := by omega
  have en1 : (nd : Int) ≤ (l.size : Int) := by omega
  have enw : IntKind.i64.wrap (nd : Int) = (nd : Int) := by rw [IntKind.wrap_i64]; omega
  have hvr := fun W => validRelation_any S (by unfold maxLen; omega) W
  rw [hSd] at hvr
  have hat := fun (h : d ≠ []) (W : World) (hE : ErrAt W) => atoi_any D (by omega) (by rw [hDd]; exact hall) (by rw [hDd]; exact h) W hE
  rw [hDd] at hat
  have HTL := Lib.hid htl
  have HCP := Lib.hid hcp2
  have HVR := Lib.hid hvr
  have HAT := Lib.hid hat
  have HTAB := Lib.hid htab
  have HOW := Lib.hid (And.intro ob (And.intro oh orr))
  have HDIS := Lib.hid hdis
  have HBLK := Lib.hid hblk
  have HND := Lib.hid hnd
  have HDD := Lib.hid hDd
  have HE := Lib.hid hE
  have HBL := Lib.hid (And.intro hRb hbl)
  have HER := Lib.hid hER
  have HSZ := Lib.hid (And.intro hsz (And.intro hSs hl))
  have HLN := Lib.hid hlen
  have HNB := Lib.hid hnb
  have HNHS := Lib.hid hnh
  have HNRS := Lib.hid (hrs.trans hnh)
  have HSD := Lib.hid hSd
  have HRES := Lib.hid hr
  clear htl hcp hcp2 hvr hat htab ob oh orr hdis hblk hnd hDd hE hRb hbl hBd hBs htb hB hS hd hb htk hall hSd hcb hcr hnb hnh hsz hSs hER hlen hr
  go_enter Tryz.func75, Tryz.ntmps75
  go_wp2_with fail
  refine HTL.out.mono ?_
  rintro e w1 ⟨rfl, hb1⟩
  have HB1 := Lib.hid hb1
  have hblk1 := block_below HBLK.out hb1 (Array.getElem?_eq_some_iff.1 HBLK.out).1
  clear hb1
  go_wp2_with fail
  refine (HCP.out _).mono ?_
  rintro e w2 ⟨rfl, rfl⟩
  have HBK1 := Lib.hid hblk1
  have c0 : w2.cell? ⟨R, 0, none⟩ = some (.int .i64 (T : Int)) := cell_of hblk1 rfl
  have c2 : w2.cell? ⟨R, 2, none⟩ = some (.slice Ah nh ch) := cell_of hblk1 rfl
  clear hblk1
  go_wp2_with fail
  by_cases h1 : nh = T
  · obtain ⟨rfl, rfl, rfl, rfl⟩ : r1 = 0 ∧ r2 = 15 ∧ r3 = 0 ∧ r4 = ([] : Bs) := by
      have := HRES.out
      rw [if_pos h1] at this
      cases this
      exact ⟨rfl, rfl, rfl, rfl⟩
    have e3 : ((nh : Int) == (T : Int)) = true := by simp [h1]
    clear h1
    go_quiet (fail)
    obtain ⟨w3, hw3⟩ : ∃ X, w2.drewN nq = X := ⟨_, rfl⟩
    rw [hw3]
    have hb3 : Below W.heap.size W w3 := hw3 ▸ below_drewN HB1.out _
    have hbk3 : w3.heap[R]? = some (.cells #[.int .i64 (T : Int), .slice Ab nb cb, .slice Ah nh ch, .slice Ar nh cr] 89 (0, 0)) := by rw [← hw3]; exact HBK1.out
    have HB3 := Lib.hid hb3
    have HBK3 := Lib.hid hbk3
    clear hw3 hb3 hbk3 c0 c2
    go_wp2_with fail
    go_ret2
    first | exact ⟨rfl, Fr.of_below HB3.out HBL.out.2, fun h => by cases h⟩ | exact ⟨rfl, Fr.of_below HB3.out HBL.out.2⟩
  · have e3 : ((nh : Int) == (T : Int)) = false := by simp <;> omega
    have e3b : ¬ ((nh : Int) = (T : Int)) := by omega
    by_cases h2 : d = []
    · obtain ⟨rfl, rfl, rfl, rfl⟩ : r1 = 0 ∧ r2 = 3 ∧ r3 = 0 ∧ r4 = ([] : Bs) := by
        have := HRES.out
        rw [if_neg h1, if_pos h2] at this
        cases this
        exact ⟨rfl, rfl, rfl, rfl⟩
      have e4 : D.toList.isEmpty = true := by rw [Lib.toList_data, HDD.out, h2]; rfl
      clear h1 h2
      go_quiet (fail)
      obtain ⟨w3, hw3⟩ : ∃ X, w2.drewN nq = X := ⟨_, rfl⟩
      rw [hw3]
      have hb3 : Below W.heap.size W w3 := hw3 ▸ below_drewN HB1.out _
      have hbk3 : w3.heap[R]? = some (.cells #[.int .i64 (T : Int), .slice Ab nb cb, .slice Ah nh ch, .slice Ar nh cr] 89 (0, 0)) := by rw [← hw3]; exact HBK1.out
      have HB3 := Lib.hid hb3
      have HBK3 := Lib.hid hbk3
      clear hw3 hb3 hbk3 c0 c2
      go_wp2_with fail
      go_ret2
      first | exact ⟨rfl, Fr.of_below HB3.out HBL.out.2, fun h => by cases h⟩ | exact ⟨rfl, Fr.of_below HB3.out HBL.out.2⟩
    · have e4 : D.toList.isEmpty = false := by
        rw [Lib.toList_data, HDD.out, Bool.eq_false_iff]
        intro e
        exact h2 (List.isEmpty_iff.1 e)
      obtain ⟨c, ds, hcd⟩ : ∃ c ds, d = c :: ds := by
        cases d with
        | nil => exact absurd rfl h2
        | cons c ds => exact ⟨c, ds, rfl⟩
      have hdh : d.head? = some c := by rw [hcd]; rfl
      have hix : ∀ W, (Instr.index 9 (.string D) (.int .i64 0)).run Tryz.prog W = .ok (.int .u8 c.toNat) W := fun W => by
        have hg : D.data[0]? = some c := by
          rw [← Array.getElem?_toList, HDD.out, hcd]; rfl
        obtain ⟨g1, g2⟩ := Array.getElem?_eq_some_iff.1 hg
        have := run_index_string (P := Tryz.prog) W 9 D .i64 (0 : Int) Tryz.underlying9
        have g4 : 0 < D.size := g1
        rw [this, dif_pos ⟨by omega, by omega⟩]
        have g3 : D[0] = c := g2
        simp [g3]
      have HH := Lib.hid hdh
      have H2 := Lib.hid h2
      clear hcd hdh
      by_cases h3 : 1 < nd ∧ c.toNat = 48
      · have hc48 : c = 48 := by
          apply UInt8.toNat_inj.1
          exact h3.2
        obtain ⟨rfl, rfl, rfl, rfl⟩ : r1 = 1 ∧ r2 = 3 ∧ r3 = 0 ∧ r4 = ([] : Bs) := by
          have := HRES.out
          rw [if_neg h1, if_neg h2, if_pos ⟨by rw [HND.out]; exact h3.1, by rw [HH.out, hc48]⟩] at this
          cases this
          exact ⟨rfl, rfl, rfl, rfl⟩
        have e5 : (1 : Int) < (nd : Int) := by omega
        have e6 : ((c.toNat : Int) == 48) = true := by simp; omega
        have e7 : D.size = nd := hDs
        clear h1 h2 h3 hc48
        go_quiet (fail)
        obtain ⟨w3, hw3⟩ : ∃ X, w2.drewN nq = X := ⟨_, rfl⟩
        rw [hw3]
        have hb3 : Below W.heap.size W w3 := hw3 ▸ below_drewN HB1.out _
        have hbk3 : w3.heap[R]? = some (.cells #[.int .i64 (T : Int), .slice Ab nb cb, .slice Ah nh ch, .slice Ar nh cr] 89 (0, 0)) := by rw [← hw3]; exact HBK1.out
        have HB3 := Lib.hid hb3
        have HBK3 := Lib.hid hbk3
        clear hw3 hb3 hbk3 c0 c2
        go_wp2_with fail
        go_ret2
        first | exact ⟨rfl, Fr.of_below HB3.out HBL.out.2, fun h => by cases h⟩ | exact ⟨rfl, Fr.of_below HB3.out HBL.out.2⟩
      · have hn3 : ¬ (1 < d.length ∧ d.head? = some 48) := by
          rw [HND.out, HH.out]
          rintro ⟨a1, a2⟩
          refine h3 ⟨a1, ?_⟩
          have := Option.some.inj a2
          rw [this]; rfl
        have H1 := Lib.hid h1
        have H3 := Lib.hid hn3
        have hn3d := hn3
        rw [HND.out] at hn3d
        have H3d := Lib.hid hn3d
        have e7 : D.size = nd := hDs
        have hd3 : (nd = 1 ∨ (1 < nd ∧ ¬ c.toNat = 48)) := by
          have hp : 0 < nd := by
            rw [← HND.out]
            exact List.length_pos_iff.2 h2
          omega
        clear h1 h2 h3 hn3 hn3d
        rcases hd3 with hd3 | ⟨hd3, hd4⟩
        · have e5 : ¬ ((1 : Int) < (nd : Int)) := by omega
          clear hd3
          rcases HTAB.out with ⟨t1, t2, t3⟩ | ⟨t1, t2, t3⟩
          · subst t2
            have T1 := Lib.hid t1
            have T3 := Lib.hid t3
            have HA2 := Lib.hid (HAT.out H2.out)
            clear t1 t3
            go_quiet (fail)
            obtain ⟨w3, hw3⟩ : ∃ X, w2.drewN nq = X := ⟨_, rfl⟩
            rw [hw3]
            have hb3 : Below W.heap.size W w3 := hw3 ▸ below_drewN HB1.out _
            have hbk3 : w3.heap[R]? = some (.cells #[.int .i64 (T : Int), .slice Ab nb cb, .slice Ah nh ch, .slice Ar nh cr] 89 (0, 0)) := by rw [← hw3]; exact HBK1.out
            have HB3 := Lib.hid hb3
            have HBK3 := Lib.hid hbk3
            clear hw3 hb3 hbk3 c0 c2
            have c0 : w3.cell? ⟨R, 0, none⟩ = some (.int .i64 (T : Int)) := cell_of HBK3.out rfl
            go_wp2_with fail
            refine (HA2.out w3 (HE.out.same (HB3.out.block _ HE.out.lt))).mono ?_
            rintro e w4 ⟨⟨x, ev, rfl, hx⟩, hb4⟩
            have HB4 := Lib.hid (HB3.out.trans (hb4.mono HB3.out.size))
            have hbk4 := block_below HBK3.out hb4 (Array.getElem?_eq_some_iff.1 HBK3.out).1
            have HBK4 := Lib.hid hbk4
            have d0 : w4.cell? ⟨R, 0, none⟩ = some (.int .i64 (T : Int)) := cell_of hbk4 rfl
            clear hb4 hbk4 c0
            rcases hx with ⟨rfl, rfl, hv⟩ | ⟨⟨tp, qv, rfl⟩, hv⟩
            · by_cases hT2 : T < valD d
              · obtain ⟨rfl, rfl, rfl, rfl⟩ : r1 = 0 ∧ r2 = 8 ∧ r3 = 0 ∧ r4 = ([] : Bs) := by
                  have := HRES.out
                  rw [if_neg H1.out, if_neg H2.out, if_neg H3.out, if_neg (by rw [T1.out]; simp), if_pos hT2] at this
                  cases this
                  exact ⟨rfl, rfl, rfl, rfl⟩
                have e8 : (T : Int) < (valD d : Int) := by omega
                clear hT2 hv
                go_wp2_with fail
                go_ret2
                exact ⟨rfl, Fr.of_below HB4.out HBL.out.2, fun h => by cases h⟩
              · have e8 : ¬ ((T : Int) < (valD d : Int)) := by omega
                have HT2 := Lib.hid hT2
                have hvb : valD d ≤ 4096 := by omega
                clear hT2 hv
                obtain ⟨x, hx⟩ : ∃ x : Int, (valD d : Int) = x := ⟨_, rfl⟩
                have hx1 : 0 ≤ x ∧ x ≤ 4096 := by omega
                rw [hx] at e8 ⊢
                have HX := Lib.hid hx
                clear hx hvb
                have HVS := Lib.hid (HVR.out w4)
                cases hrel : relB (trimPrefix b [9]) with
                | false =>
                  have hrl : relB (b.drop 1) = false := by rw [← T3.out]; exact hrel
                  rw [hrel] at HVS
                  have hSS : S.size = (b.drop 1).length := by rw [Lib.size_eq, HSD.out, T3.out]
                  obtain ⟨rfl, rfl, rfl, rfl⟩ : r1 = (l.size : Int) - (S.size : Int) ∧ r2 = 4 ∧ r3 = 0 ∧ r4 = ([] : Bs) := by
                    have := HRES.out
                    rw [if_neg H1.out, if_neg H2.out, if_neg H3.out, if_neg (by rw [T1.out]; simp), if_neg HT2.out, if_pos hrl, ← hSS] at this
                    cases this
                    exact ⟨rfl, rfl, rfl, rfl⟩
                  have hws : IntKind.i64.wrap ((l.size : Int) - (S.size : Int)) = (l.size : Int) - (S.size : Int) := by rw [IntKind.wrap_i64]; have := HSZ.out; omega
                  clear hrel hrl hSS
                  go_wp2_with fail
                  refine HVS.out.mono ?_
                  rintro e w5 ⟨rfl, rfl⟩
                  go_wp2_with fail
                  go_ret2
                  exact ⟨rfl, Fr.of_below HB4.out HBL.out.2, fun h => by cases h⟩
                | true =>
                  have hrl : ¬ relB (b.drop 1) = false := by rw [← T3.out, hrel]; decide
                  rw [hrel] at HVS
                  obtain ⟨rfl, rfl, rfl, rfl⟩ : r1 = 0 ∧ r2 = 0 ∧ r3 = x - 1 ∧ r4 = (b.drop 1) := by
                    have := HRES.out
                    rw [if_neg H1.out, if_neg H2.out, if_neg H3.out, if_neg (by rw [T1.out]; simp), if_neg HT2.out, if_neg hrl, HX.out] at this
                    cases this
                    exact ⟨rfl, rfl, rfl, rfl⟩
                  have hwx : IntKind.i64.wrap (x - 1) = x - 1 := by rw [IntKind.wrap_i64]; omega
                  have hSV : (Value.string S) = strV (b.drop 1) := by
                    unfold strV
                    rw [← T3.out, ← HSD.out]
                  have HSV := Lib.hid hSV
                  have HNH := Lib.hid (show nh ≤ 4096 by omega)
                  clear hrel hrl hSV
                  obtain ⟨i1, hi1, hy0, hy1, hy2⟩ := info_parts' Tryz.infoInt2
                  obtain ⟨i0, hi0, hz0, hz1, hz2⟩ := info_parts' Tryz.infoStr
                  have d1 : w4.cell? ⟨R, 1, none⟩ = some (.slice Ab nb cb) := cell_of HBK4.out rfl
                  have d2 : w4.cell? ⟨R, 2, none⟩ = some (.slice Ah nh ch) := cell_of HBK4.out rfl
                  have d3 : w4.cell? ⟨R, 3, none⟩ = some (.slice Ar nh cr) := cell_of HBK4.out rfl
                  have hoh := own_after HOW.out.2.1 HB4.out
                  have hor := own_after HOW.out.2.2 HB4.out
                  have hob := own_after HOW.out.1 HB4.out
                  have hbs : base ≤ w4.heap.size := Nat.le_trans HBL.out.2 HB4.out.size
                  have HOR := Lib.hid (And.intro hob (And.intro hoh hor))
                  have HBS := Lib.hid hbs
                  clear hoh hor hob hbs
                  go_wp2_with fail
                  refine HVS.out.mono ?_
                  rintro e w5 ⟨rfl, rfl⟩
                  go_wp2_with (first
                    | (at_builtin
                       refine wpList_push1 rfl (.tmp 83) (.tmp 86) 22 3 i1 _ 8 rfl Tryz.underlying22 hi1 hy0 hy1 hy2 rfl (by decide) base _ nh (intV hs) (.int .i64 (x - 1)) rfl rfl rfl HOR.out.2.1 (by have := HNH.out; omega) HBS.out ?_
                       intro v6 w6 HO6 HG6 HL6
                       obtain ⟨A6, c6, rfl, hc6⟩ := own_form HO6.out
                       have hne : ∀ k, (Value.slice Ah nh ch).ownBlock = some k → base ≤ k := fun k e => (own_low HOR.out.2.1 k e).1
                       have hbk6 : w6.heap[R]? = some (.cells #[.int .i64 (T : Int), .slice Ab nb cb, .slice Ah nh ch, .slice Ar nh cr] 89 (0, 0)) := (HG6.out.block R (Array.getElem?_eq_some_iff.1 HBK4.out).1 (fun e => by have h1 := hne R e.symm; have h2 := HBL.out.1; omega)).trans HBK4.out
                       have HBK6 := Lib.hid hbk6
                       have g0 : w6.cell? ⟨R, 2, none⟩ = some (.slice Ah nh ch) := cell_of hbk6 rfl
                       have g1 : w6.frozen? ⟨R, 2, none⟩ = false := frozen_of hbk6
                       have g3 : w6.cell? ⟨R, 3, none⟩ = some (.slice Ar nh cr) := cell_of hbk6 rfl
                       have g4 : w6.frozen? ⟨R, 3, none⟩ = false := frozen_of hbk6
                       have hor7 : (w6.setCell ⟨R, 2, none⟩ (.slice A6 (nh + 1) c6)).ownsRow base 9 1 (.slice Ar nh cr) nh (strsV rs) := own_set (own_grown HOR.out.2.2 HG6.out (fun k e e2 => own_types HOR.out.2.1 HOR.out.2.2 (by decide) k e2 e)) HBL.out.1
                       have hbs7 : base ≤ (w6.setCell ⟨R, 2, none⟩ (.slice A6 (nh + 1) c6)).heap.size := by have h1 := HBS.out; have h2 := HG6.out.size; simp only [World.setCell, Array.size_modify]; omega
                       have HOR7 := Lib.hid hor7
                       have HBS7 := Lib.hid hbs7
                       clear hne hbk6 hor7 hbs7 d0 d1 d2 d3)
                    | (at_builtin
                       refine wpList_push1 rfl (.tmp 94) (.tmp 96) 23 9 i0 _ 16 rfl Tryz.underlying23 hi0 hz0 hz1 hz2 rfl (by decide) base _ nh (strsV rs) (.string S) rfl rfl (by show Value.slice (some ⟨w6.heap.size, 0, none⟩) 1 1 = _; rw [setCell_sz]) HOR7.out (by have := HNH.out; omega) HBS7.out ?_
                       intro v8 w8 HO8 HG8 HL8
                       obtain ⟨A8, c8, rfl, hc8⟩ := own_form HO8.out
                       have hne : ∀ k, (Value.slice Ar nh cr).ownBlock = some k → base ≤ k := fun k e => (own_low HOR7.out k e).1
                       have hst := set_of (i := 2) HBK6.out (.slice A6 (nh + 1) c6)
                       have hbk8 : w8.heap[R]? = some (.cells #[.int .i64 (T : Int), .slice Ab nb cb, .slice A6 (nh + 1) c6, .slice Ar nh cr] 89 (0, 0)) := (HG8.out.block R (Array.getElem?_eq_some_iff.1 hst).1 (fun e => by have h1 := hne R e.symm; have h2 := HBL.out.1; omega)).trans hst
                       have HBK8 := Lib.hid hbk8
                       have g6 : w8.cell? ⟨R, 3, none⟩ = some (.slice Ar nh cr) := cell_of hbk8 rfl
                       have g7 : w8.frozen? ⟨R, 3, none⟩ = false := frozen_of hbk8
                       clear hne hst hbk8 g0 g1 g3 g4))
                  go_ret2
                  have hfr6 : Fr R base w5 w6 := Fr.of_grown HG6.out HBS.out (fun k e => by obtain ⟨q1, q2, q3⟩ := own_cells HOR.out.2.1 k e; exact ⟨q1, _, _, _, q3⟩)
                  have hfr7 : Fr R base w5 (w6.setCell ⟨R, 2, none⟩ (.slice A6 (nh + 1) c6)) := hfr6.trans (Fr.of_set HBK6.out)
                  have hfr8 := hfr7.trans (Fr.of_grown HG8.out HBS7.out (fun k e => by obtain ⟨q1, q2, q3⟩ := own_cells HOR7.out k e; exact ⟨q1, _, _, _, q3⟩))
                  have hfr9 := hfr8.trans (Fr.of_set (i := 3) (v := .slice A8 (nh + 1) c8) HBK8.out)
                  refine ⟨rfl, (Fr.of_below HB4.out HBL.out.2).trans hfr9, ?_⟩
                  rw [← List.drop_one]
                  have hob6 := own_grown HOR.out.1 HG6.out (fun k e => HDIS.out k e)
                  have hob7 := own_set (i := 2) (u := .slice A6 (nh + 1) c6) hob6 HBL.out.1
                  have hoh7 := own_set (i := 2) (u := .slice A6 (nh + 1) c6) HO6.out HBL.out.1
                  have hob8 := own_grown hob7 HG8.out (fun k e => own_types hob7 HOR7.out (by decide) k e)
                  have hoh8 := own_grown hoh7 HG8.out (fun k e => own_types hoh7 HOR7.out (by decide) k e)
                  have hdis6 : ∀ k, (Value.slice Ab nb cb).ownBlock = some k → (Value.slice A6 (nh + 1) c6).ownBlock ≠ some k := fun k e e2 => by
                    rcases HL6.out with h | ⟨k2, h, hk2⟩
                    · rw [h] at e2; exact HDIS.out k e e2
                    · rw [h] at e2
                      have h5 := (own_low HOR.out.1 k e).2
                      cases e2
                      omega
                  refine ⟨⟨.slice Ab nb cb, .slice A6 (nh + 1) c6, .slice A8 (nh + 1) c8, set_of (i := 3) HBK8.out _, ?_, ?_, ?_, hdis6⟩, HBL.out.1, Nat.le_trans HBL.out.2 (((Fr.of_below (R := R) HB4.out HBL.out.2).trans hfr9).b.size)⟩
                  · have h1 := own_set (i := 3) (u := .slice A8 (nh + 1) c8) hob8 HBL.out.1
                    rw [HNB.out]
                    exact h1
                  · have h1 := own_set (i := 3) (u := .slice A8 (nh + 1) c8) hoh8 HBL.out.1
                    rw [List.length_append, HNHS.out]
                    unfold intV at h1 ⊢
                    rw [List.map_append]
                    exact h1
                  · have h1 := own_set (i := 3) (u := .slice A8 (nh + 1) c8) HO8.out HBL.out.1
                    rw [List.length_append, HNRS.out]
                    unfold strsV at h1 ⊢
                    rw [List.map_append, List.map_cons, List.map_nil, ← HSV.out]
                    exact h1
            · obtain ⟨rfl, rfl, rfl, rfl⟩ : r1 = 0 ∧ r2 = 8 ∧ r3 = 0 ∧ r4 = ([] : Bs) := by
                have := HRES.out
                rw [if_neg H1.out, if_neg H2.out, if_neg H3.out, if_neg (by rw [T1.out]; simp), if_pos (by omega)] at this
                cases this
                exact ⟨rfl, rfl, rfl, rfl⟩
              clear hv
              go_wp2_with fail
              go_ret2
              exact ⟨rfl, Fr.of_below HB4.out HBL.out.2, fun h => by cases h⟩
          · subst t2
            obtain ⟨rfl, rfl, rfl, rfl⟩ : r1 = ((nd : Nat) : Int) ∧ r2 = 3 ∧ r3 = 0 ∧ r4 = ([] : Bs) := by
              have := HRES.out
              rw [HND.out, if_neg H1.out, if_neg H2.out, if_neg H3d.out, if_pos t1] at this
              cases this
              exact ⟨rfl, rfl, rfl, rfl⟩
            clear t1 t3
            go_quiet (fail)
            obtain ⟨w3, hw3⟩ : ∃ X, w2.drewN nq = X := ⟨_, rfl⟩
            rw [hw3]
            have hb3 : Below W.heap.size W w3 := hw3 ▸ below_drewN HB1.out _
            have hbk3 : w3.heap[R]? = some (.cells #[.int .i64 (T : Int), .slice Ab nb cb, .slice Ah nh ch, .slice Ar nh cr] 89 (0, 0)) := by rw [← hw3]; exact HBK1.out
            have HB3 := Lib.hid hb3
            have HBK3 := Lib.hid hbk3
            clear hw3 hb3 hbk3 c0 c2
            go_wp2_with fail
            go_ret2
            first | exact ⟨rfl, Fr.of_below HB3.out HBL.out.2, fun h => by cases h⟩ | exact ⟨rfl, Fr.of_below HB3.out HBL.out.2⟩
        · have e5 : (1 : Int) < (nd : Int) := by omega
          have e6 : ((c.toNat : Int) == 48) = false := by simp; omega
          clear hd3 hd4
          rcases HTAB.out with ⟨t1, t2, t3⟩ | ⟨t1, t2, t3⟩
          · subst t2
            have T1 := Lib.hid t1
            have T3 := Lib.hid t3
            have HA2 := Lib.hid (HAT.out H2.out)
            clear t1 t3
            go_quiet (fail)
            obtain ⟨w3, hw3⟩ : ∃ X, w2.drewN nq = X := ⟨_, rfl⟩
            rw [hw3]
            have hb3 : Below W.heap.size W w3 := hw3 ▸ below_drewN HB1.out _
            have hbk3 : w3.heap[R]? = some (.cells #[.int .i64 (T : Int), .slice Ab nb cb, .slice Ah nh ch, .slice Ar nh cr] 89 (0, 0)) := by rw [← hw3]; exact HBK1.out
            have HB3 := Lib.hid hb3
            have HBK3 := Lib.hid hbk3
            clear hw3 hb3 hbk3 c0 c2
            have c0 : w3.cell? ⟨R, 0, none⟩ = some (.int .i64 (T : Int)) := cell_of HBK3.out rfl
            go_wp2_with fail
            refine (HA2.out w3 (HE.out.same (HB3.out.block _ HE.out.lt))).mono ?_
            rintro e w4 ⟨⟨x, ev, rfl, hx⟩, hb4⟩
            have HB4 := Lib.hid (HB3.out.trans (hb4.mono HB3.out.size))
            have hbk4 := block_below HBK3.out hb4 (Array.getElem?_eq_some_iff.1 HBK3.out).1
            have HBK4 := Lib.hid hbk4
            have d0 : w4.cell? ⟨R, 0, none⟩ = some (.int .i64 (T : Int)) := cell_of hbk4 rfl
            clear hb4 hbk4 c0
            rcases hx with ⟨rfl, rfl, hv⟩ | ⟨⟨tp, qv, rfl⟩, hv⟩
            · by_cases hT2 : T < valD d
              · obtain ⟨rfl, rfl, rfl, rfl⟩ : r1 = 0 ∧ r2 = 8 ∧ r3 = 0 ∧ r4 = ([] : Bs) := by
                  have := HRES.out
                  rw [if_neg H1.out, if_neg H2.out, if_neg H3.out, if_neg (by rw [T1.out]; simp), if_pos hT2] at this
                  cases this
                  exact ⟨rfl, rfl, rfl, rfl⟩
                have e8 : (T : Int) < (valD d : Int) := by omega
                clear hT2 hv
                go_wp2_with fail
                go_ret2
                exact ⟨rfl, Fr.of_below HB4.out HBL.out.2, fun h => by cases h⟩
              · have e8 : ¬ ((T : Int) < (valD d : Int)) := by omega
                have HT2 := Lib.hid hT2
                have hvb : valD d ≤ 4096 := by omega
                clear hT2 hv
                obtain ⟨x, hx⟩ : ∃ x : Int, (valD d : Int) = x := ⟨_, rfl⟩
                have hx1 : 0 ≤ x ∧ x ≤ 4096 := by omega
                rw [hx] at e8 ⊢
                have HX := Lib.hid hx
                clear hx hvb
                have HVS := Lib.hid (HVR.out w4)
                cases hrel : relB (trimPrefix b [9]) with
                | false =>
                  have hrl : relB (b.drop 1) = false := by rw [← T3.out]; exact hrel
                  rw [hrel] at HVS
                  have hSS : S.size = (b.drop 1).length := by rw [Lib.size_eq, HSD.out, T3.out]
                  obtain ⟨rfl, rfl, rfl, rfl⟩ : r1 = (l.size : Int) - (S.size : Int) ∧ r2 = 4 ∧ r3 = 0 ∧ r4 = ([] : Bs) := by
                    have := HRES.out
                    rw [if_neg H1.out, if_neg H2.out, if_neg H3.out, if_neg (by rw [T1.out]; simp), if_neg HT2.out, if_pos hrl, ← hSS] at this
                    cases this
                    exact ⟨rfl, rfl, rfl, rfl⟩
                  have hws : IntKind.i64.wrap ((l.size : Int) - (S.size : Int)) = (l.size : Int) - (S.size : Int) := by rw [IntKind.wrap_i64]; have := HSZ.out; omega
                  clear hrel hrl hSS
                  go_wp2_with fail
                  refine HVS.out.mono ?_
                  rintro e w5 ⟨rfl, rfl⟩
                  go_wp2_with fail
                  go_ret2
                  exact ⟨rfl, Fr.of_below HB4.out HBL.out.2, fun h => by cases h⟩
                | true =>
                  have hrl : ¬ relB (b.drop 1) = false := by rw [← T3.out, hrel]; decide
                  rw [hrel] at HVS
                  obtain ⟨rfl, rfl, rfl, rfl⟩ : r1 = 0 ∧ r2 = 0 ∧ r3 = x - 1 ∧ r4 = (b.drop 1) := by
                    have := HRES.out
                    rw [if_neg H1.out, if_neg H2.out, if_neg H3.out, if_neg (by rw [T1.out]; simp), if_neg HT2.out, if_neg hrl, HX.out] at this
                    cases this
                    exact ⟨rfl, rfl, rfl, rfl⟩
                  have hwx : IntKind.i64.wrap (x - 1) = x - 1 := by rw [IntKind.wrap_i64]; omega
                  have hSV : (Value.string S) = strV (b.drop 1) := by
                    unfold strV
                    rw [← T3.out, ← HSD.out]
                  have HSV := Lib.hid hSV
                  have HNH := Lib.hid (show nh ≤ 4096 by omega)
                  clear hrel hrl hSV
                  obtain ⟨i1, hi1, hy0, hy1, hy2⟩ := info_parts' Tryz.infoInt2
                  obtain ⟨i0, hi0, hz0, hz1, hz2⟩ := info_parts' Tryz.infoStr
                  have d1 : w4.cell? ⟨R, 1, none⟩ = some (.slice Ab nb cb) := cell_of HBK4.out rfl
                  have d2 : w4.cell? ⟨R, 2, none⟩ = some (.slice Ah nh ch) := cell_of HBK4.out rfl
                  have d3 : w4.cell? ⟨R, 3, none⟩ = some (.slice Ar nh cr) := cell_of HBK4.out rfl
                  have hoh := own_after HOW.out.2.1 HB4.out
                  have hor := own_after HOW.out.2.2 HB4.out
                  have hob := own_after HOW.out.1 HB4.out
                  have hbs : base ≤ w4.heap.size := Nat.le_trans HBL.out.2 HB4.out.size
                  have HOR := Lib.hid (And.intro hob (And.intro hoh hor))
                  have HBS := Lib.hid hbs
                  clear hoh hor hob hbs
                  go_wp2_with fail
                  refine HVS.out.mono ?_
                  rintro e w5 ⟨rfl, rfl⟩
                  go_wp2_with (first
                    | (at_builtin
                       refine wpList_push1 rfl (.tmp 83) (.tmp 86) 22 3 i1 _ 8 rfl Tryz.underlying22 hi1 hy0 hy1 hy2 rfl (by decide) base _ nh (intV hs) (.int .i64 (x - 1)) rfl rfl rfl HOR.out.2.1 (by have := HNH.out; omega) HBS.out ?_
                       intro v6 w6 HO6 HG6 HL6
                       obtain ⟨A6, c6, rfl, hc6⟩ := own_form HO6.out
                       have hne : ∀ k, (Value.slice Ah nh ch).ownBlock = some k → base ≤ k := fun k e => (own_low HOR.out.2.1 k e).1
                       have hbk6 : w6.heap[R]? = some (.cells #[.int .i64 (T : Int), .slice Ab nb cb, .slice Ah nh ch, .slice Ar nh cr] 89 (0, 0)) := (HG6.out.block R (Array.getElem?_eq_some_iff.1 HBK4.out).1 (fun e => by have h1 := hne R e.symm; have h2 := HBL.out.1; omega)).trans HBK4.out
                       have HBK6 := Lib.hid hbk6
                       have g0 : w6.cell? ⟨R, 2, none⟩ = some (.slice Ah nh ch) := cell_of hbk6 rfl
                       have g1 : w6.frozen? ⟨R, 2, none⟩ = false := frozen_of hbk6
                       have g3 : w6.cell? ⟨R, 3, none⟩ = some (.slice Ar nh cr) := cell_of hbk6 rfl
                       have g4 : w6.frozen? ⟨R, 3, none⟩ = false := frozen_of hbk6
                       have hor7 : (w6.setCell ⟨R, 2, none⟩ (.slice A6 (nh + 1) c6)).ownsRow base 9 1 (.slice Ar nh cr) nh (strsV rs) := own_set (own_grown HOR.out.2.2 HG6.out (fun k e e2 => own_types HOR.out.2.1 HOR.out.2.2 (by decide) k e2 e)) HBL.out.1
                       have hbs7 : base ≤ (w6.setCell ⟨R, 2, none⟩ (.slice A6 (nh + 1) c6)).heap.size := by have h1 := HBS.out; have h2 := HG6.out.size; simp only [World.setCell, Array.size_modify]; omega
                       have HOR7 := Lib.hid hor7
                       have HBS7 := Lib.hid hbs7
                       clear hne hbk6 hor7 hbs7 d0 d1 d2 d3)
                    | (at_builtin
                       refine wpList_push1 rfl (.tmp 94) (.tmp 96) 23 9 i0 _ 16 rfl Tryz.underlying23 hi0 hz0 hz1 hz2 rfl (by decide) base _ nh (strsV rs) (.string S) rfl rfl (by show Value.slice (some ⟨w6.heap.size, 0, none⟩) 1 1 = _; rw [setCell_sz]) HOR7.out (by have := HNH.out; omega) HBS7.out ?_
                       intro v8 w8 HO8 HG8 HL8
                       obtain ⟨A8, c8, rfl, hc8⟩ := own_form HO8.out
                       have hne : ∀ k, (Value.slice Ar nh cr).ownBlock = some k → base ≤ k := fun k e => (own_low HOR7.out k e).1
                       have hst := set_of (i := 2) HBK6.out (.slice A6 (nh + 1) c6)
                       have hbk8 : w8.heap[R]? = some (.cells #[.int .i64 (T : Int), .slice Ab nb cb, .slice A6 (nh + 1) c6, .slice Ar nh cr] 89 (0, 0)) := (HG8.out.block R (Array.getElem?_eq_some_iff.1 hst).1 (fun e => by have h1 := hne R e.symm; have h2 := HBL.out.1; omega)).trans hst
                       have HBK8 := Lib.hid hbk8
                       have g6 : w8.cell? ⟨R, 3, none⟩ = some (.slice Ar nh cr) := cell_of hbk8 rfl
                       have g7 : w8.frozen? ⟨R, 3, none⟩ = false := frozen_of hbk8
                       clear hne hst hbk8 g0 g1 g3 g4))
                  go_ret2
                  have hfr6 : Fr R base w5 w6 := Fr.of_grown HG6.out HBS.out (fun k e => by obtain ⟨q1, q2, q3⟩ := own_cells HOR.out.2.1 k e; exact ⟨q1, _, _, _, q3⟩)
                  have hfr7 : Fr R base w5 (w6.setCell ⟨R, 2, none⟩ (.slice A6 (nh + 1) c6)) := hfr6.trans (Fr.of_set HBK6.out)
                  have hfr8 := hfr7.trans (Fr.of_grown HG8.out HBS7.out (fun k e => by obtain ⟨q1, q2, q3⟩ := own_cells HOR7.out k e; exact ⟨q1, _, _, _, q3⟩))
                  have hfr9 := hfr8.trans (Fr.of_set (i := 3) (v := .slice A8 (nh + 1) c8) HBK8.out)
                  refine ⟨rfl, (Fr.of_below HB4.out HBL.out.2).trans hfr9, ?_⟩
                  rw [← List.drop_one]
                  have hob6 := own_grown HOR.out.1 HG6.out (fun k e => HDIS.out k e)
                  have hob7 := own_set (i := 2) (u := .slice A6 (nh + 1) c6) hob6 HBL.out.1
                  have hoh7 := own_set (i := 2) (u := .slice A6 (nh + 1) c6) HO6.out HBL.out.1
                  have hob8 := own_grown hob7 HG8.out (fun k e => own_types hob7 HOR7.out (by decide) k e)
                  have hoh8 := own_grown hoh7 HG8.out (fun k e => own_types hoh7 HOR7.out (by decide) k e)
                  have hdis6 : ∀ k, (Value.slice Ab nb cb).ownBlock = some k → (Value.slice A6 (nh + 1) c6).ownBlock ≠ some k := fun k e e2 => by
                    rcases HL6.out with h | ⟨k2, h, hk2⟩
                    · rw [h] at e2; exact HDIS.out k e e2
                    · rw [h] at e2
                      have h5 := (own_low HOR.out.1 k e).2
                      cases e2
                      omega
                  refine ⟨⟨.slice Ab nb cb, .slice A6 (nh + 1) c6, .slice A8 (nh + 1) c8, set_of (i := 3) HBK8.out _, ?_, ?_, ?_, hdis6⟩, HBL.out.1, Nat.le_trans HBL.out.2 (((Fr.of_below (R := R) HB4.out HBL.out.2).trans hfr9).b.size)⟩
                  · have h1 := own_set (i := 3) (u := .slice A8 (nh + 1) c8) hob8 HBL.out.1
                    rw [HNB.out]
                    exact h1
                  · have h1 := own_set (i := 3) (u := .slice A8 (nh + 1) c8) hoh8 HBL.out.1
                    rw [List.length_append, HNHS.out]
                    unfold intV at h1 ⊢
                    rw [List.map_append]
                    exact h1
                  · have h1 := own_set (i := 3) (u := .slice A8 (nh + 1) c8) HO8.out HBL.out.1
                    rw [List.length_append, HNRS.out]
                    unfold strsV at h1 ⊢
                    rw [List.map_append, List.map_cons, List.map_nil, ← HSV.out]
                    exact h1
            · obtain ⟨rfl, rfl, rfl, rfl⟩ : r1 = 0 ∧ r2 = 8 ∧ r3 = 0 ∧ r4 = ([] : Bs) := by
                have := HRES.out
                rw [if_neg H1.out, if_neg H2.out, if_neg H3.out, if_neg (by rw [T1.out]; simp), if_pos (by omega)] at this
                cases this
                exact ⟨rfl, rfl, rfl, rfl⟩
              clear hv
              go_wp2_with fail
              go_ret2
              exact ⟨rfl, Fr.of_below HB4.out HBL.out.2, fun h => by cases h⟩
          · subst t2
            obtain ⟨rfl, rfl, rfl, rfl⟩ : r1 = ((nd : Nat) : Int) ∧ r2 = 3 ∧ r3 = 0 ∧ r4 = ([] : Bs) := by
              have := HRES.out
              rw [HND.out, if_neg H1.out, if_neg H2.out, if_neg H3d.out, if_pos t1] at this
              cases this
              exact ⟨rfl, rfl, rfl, rfl⟩
            clear t1 t3
            go_quiet (fail)
            obtain ⟨w3, hw3⟩ : ∃ X, w2.drewN nq = X := ⟨_, rfl⟩
            rw [hw3]
            have hb3 : Below W.heap.size W w3 := hw3 ▸ below_drewN HB1.out _
            have hbk3 : w3.heap[R]? = some (.cells #[.int .i64 (T : Int), .slice Ab nb cb, .slice Ah nh ch, .slice Ar nh cr] 89 (0, 0)) := by rw [← hw3]; exact HBK1.out
            have HB3 := Lib.hid hb3
            have HBK3 := Lib.hid hbk3
            clear hw3 hb3 hbk3 c0 c2
            go_wp2_with fail
            go_ret2
            first | exact ⟨rfl, Fr.of_below HB3.out HBL.out.2, fun h => by cases h⟩ | exact ⟨rfl, Fr.of_below HB3.out HBL.out.2⟩
end Go.Proofs.YtmjmidgfdjcbfaaGreatDoor.Dep
