/-
  strings.Builder in this program: copyCheck, WriteString, String, of a builder that the call itself has made. (Stage 1's Bld over MeA.)
  A strings.Builder of the call's own, as bytes (BdM, which needs Ble alone).
-/
import Derived.Test.YtmjmidgfdjcbfaaGreatDoorMeA
import Derived.Test.YtmjmidgfdjcbfaaGreatDoorDaR
import Derived.Shelf.Strings.BuilderK
import Derived.Test.YtmjmidgfdjcbfaaGreatDoorDzA
namespace Go.Proofs.YtmjmidgfdjcbfaaGreatDoor.Dep
open Go.RowKit Go.Shelf Go.Lib

theorem cell_at {W : World} {B : Nat} {cs : Array Value} {t : TypeId} {f : Nat × Nat} (h : W.heap[B]? = some (.cells cs t f)) (i : Nat) (v : Value) (hi : cs[i]? = some v) : W.cell? ⟨B, i, none⟩ = some v := by
  simp [World.cell?, h, hi]
theorem Tryz.infoBuilder : (Tryz.prog.info? 59).map (·.size) = some 2 := by kernel_rfl
theorem Tryz.liesBuilder : liesAt Tryz.prog Tryz.prog.depth 59 (2 / Tryz.prog.cellsOf 59) 0 59 1 = true := by kernel_rfl
/-- A builder's own address. -/
abbrev selfP (b : Nat) : Value := .pointer (some ⟨b, 0, none⟩)

set_option maxHeartbeats 1000000 in
set_option maxRecDepth 100000 in
/-- copyCheck, whether the builder has been used or not: behind it the builder's first word is its own address; all else stands. -/
theorem bcheck_any (b : Nat) (p v : Value) (hp : p = .pointer none ∨ p = selfP b) (w : World) (hb : w.heap[b]? = some (.cells #[p, v] 59 (0, 0))) :
    Calls Tryz.prog 38 #[selfP b] w fun e w' => e = .returned (.tuple #[]) ∧ w'.heap[b]? = some (.cells #[selfP b, v] 59 (0, 0)) ∧ w.grownBy w' (some b) := by
  obtain ⟨ti, hti, hts⟩ := Option.map_eq_some_iff.1 Tryz.infoBuilder
  have hword := cell_at hb 0 p rfl
  have hshape : w.shape? b = some (59, 2) := by simp [World.shape?, hb]
  have hfree : w.frozen? ⟨b, 0, none⟩ = false := by simp [World.frozen?, hb]
  rcases hp with rfl | rfl
  · have HB := Lib.hid hb
    clear hb
    go_enter Tryz.func38, Tryz.ntmps38
    go_wp2_with fail
    rw [Lib.run_to_unsafe w ⟨b, 0, none⟩ Tryz.underlying56 Tryz.underlying115 hti (by rw [hts]; decide) hshape (by show 0 < 2; decide)]
    simp only [Result.andThen, Oper.upon_value]
    go_wp2_with fail
    rw [run_callFunc_extern Tryz.func71 (by kernel_rfl) (by kernel_rfl) (by kernel_rfl) (e := Extern.AbiNoEscape.same) (by kernel_rfl), Lib.run_noEscape]
    simp only [Result.andThen, Oper.upon_value]
    go_wp2_with fail
    rw [Lib.run_from_unsafe w ⟨b, 0, none⟩ Tryz.underlying115 Tryz.underlying56 hti hshape Tryz.liesBuilder]
    simp only [Result.andThen, Oper.upon_value]
    go_wp2_with fail
    go_end0
    refine ⟨rfl, ?_, ⟨rfl, rfl, rfl, by simp [World.setCell], fun k _ hk => Below.heap_setCell _ _ _ _ (fun e => hk (congrArg some e))⟩⟩
    have hx := HB.out
    simp [World.setCell, Array.getElem?_modify, hx]
  · have HB := Lib.hid hb
    clear hb
    go_enter Tryz.func38, Tryz.ntmps38
    go_wp2_with fail
    rw [Lib.run_neq_ptr_same w _ Tryz.underlying56 hti]
    go_wp2_with fail
    go_end0
    exact ⟨rfl, HB.out, World.grownBy.refl w _⟩

set_option maxHeartbeats 2000000 in
set_option maxRecDepth 100000 in
/-- WriteString: the row that the builder holds grows by the string's bytes; what is neither the builder nor that row stands. -/
theorem write_any (B b n : Nat) (p v : Value) (xs : List Value) (s : ByteArray) (hp : p = .pointer none ∨ p = selfP b) (hlen : n + s.size ≤ 140737488355328) (w : World) (hBw : B ≤ w.heap.size)
    (hb : w.heap[b]? = some (.cells #[p, v] 59 (0, 0))) (hown : w.ownsRowF B 5 1 v n xs) (hne : v.ownBlock ≠ some b) :
    Calls Tryz.prog 11 #[selfP b, .string s] w fun e w' => e = .returned (.tuple #[.int .i64 s.size, .nilIface]) ∧
      ∃ v' w2, w' = w2.setCell ⟨b, 1, none⟩ v' ∧ w2.heap[b]? = some (.cells #[selfP b, v] 59 (0, 0)) ∧ w2.ownsRowF B 5 1 v' (n + s.size) (xs ++ Lib.strCells s) ∧
        ∃ w1, w.grownBy w1 (some b) ∧ w1.ownsRowF B 5 1 v n xs ∧ w1.grownBy w2 v.ownBlock := by
  obtain ⟨bi, hbi, hbz, hbs, hbb⟩ := info_parts Tryz.infoByte
  have HC := Lib.hid (bcheck_any b p v hp w hb)
  clear hb
  go_enter Tryz.func11, Tryz.ntmps11
  go_wp2_with fail
  refine HC.out.mono ?_
  rintro e w1 ⟨rfl, hb1, hg1⟩
  have hown1 := hown.kept hg1 (.inr hne)
  have word0 := cell_at hb1 0 (selfP b) rfl
  have word1 := cell_at hb1 1 v rfl
  have HB1 := Lib.hid hb1
  have hsz := hg1.size
  have HG1 := Lib.hid hg1
  clear hb1 hg1
  go_wp2_with (at_builtin; refine Lib.wpList_append_own_stringF _ rfl _ _ 57 9 rfl B 5 bi Tryz.underlying57 Tryz.underlying9 hbi hbz hbs hbb _ _ _ rfl hown1 s rfl (by unfold maxLen; omega) (by omega) (by omega) ?_)
  intro v' w2 hown2 hg2 _
  have hb2 := (hg2.block b (Array.getElem?_eq_some_iff.1 HB1.out).1 (fun e => hne e.symm)).trans HB1.out
  have word0' := cell_at hb2 0 (selfP b) rfl
  have word1' := cell_at hb2 1 v rfl
  have hfree : w2.frozen? ⟨b, 1, none⟩ = false := by simp [World.frozen?, hb2]
  have hform : ∃ ao m cap, v' = .slice ao m cap := hown2.2.elim (fun h => ⟨_, _, _, h.1⟩) (fun ⟨_, _, _, _, h, _⟩ => ⟨_, _, _, h⟩)
  obtain ⟨ao, m, cap, rfl⟩ := hform
  have H2 := Lib.hid (And.intro hb2 (And.intro hown2 hg2))
  have HO1 := Lib.hid hown1
  clear hb2 hown2 hg2 hown1
  go_wp2_with fail
  go_ret2
  exact ⟨rfl, _, w2, rfl, H2.out.1, H2.out.2.1, w1, HG1.out, HO1.out, H2.out.2.2⟩

/-- The same in the shelf's words (Lib.IsBuilderF, Lib.OthersKept). -/
theorem writeString_any (B b : Nat) (bs : List Value) (s : ByteArray) (w : World) (h : Lib.IsBuilderF 59 5 B b bs w) (hlen : bs.length + s.size ≤ 140737488355328) (hBw : B ≤ w.heap.size) :
    Calls Tryz.prog 11 #[selfP b, .string s] w fun e w' => e = .returned (.tuple #[.int .i64 s.size, .nilIface]) ∧ (Lib.BuilderAtF 59 5 B b (selfP b) (bs ++ Lib.strCells s) w' ∧ Below B w w' ∧ Lib.OthersKept 5 (some b) w w') := by
  obtain ⟨p, hp, hBb, v, hb, hown, hne⟩ : ∃ p, (p = .pointer none ∨ p = selfP b) ∧ Lib.BuilderAtF 59 5 B b p bs w := h.elim (fun x => ⟨_, .inl rfl, x⟩) (fun x => ⟨_, .inr rfl, x⟩)
  refine (write_any B b bs.length p v bs s hp hlen w hBw hb hown hne).mono ?_
  rintro e w' ⟨rfl, v', w2, rfl, hb2, hown2, w1, hg1, hown1, hg2⟩
  have hk : Lib.OthersKept 5 (some b) w w2 := by
    refine Lib.OthersKept.grown (fun k o ho hkb _ => ?_) hg2 (Lib.ownsRowF_kind hown1)
    exact (hg1.block k (Array.getElem?_eq_some_iff.1 ho).1 hkb).trans ho
  have hz := hg1.size
  have hbel : Below B w w2 := ((Below.refl B w).grown hg1 hBw (fun k e => by cases e; exact hBb)).grown hg2 (by omega) (fun k e => (hown.lt k e).1)
  exact ⟨rfl, Lib.BuilderAtF.put (bs' := bs ++ Lib.strCells s) hBb hb2 (by rw [List.length_append, Lib.strCells_length]; exact hown2) (by decide), hbel.setCell (p := ⟨b, 1, none⟩) hBb _, hk.setCell ⟨b, 1, none⟩ rfl _⟩

/- String: the library's contract, laid at this program (the laying's plain text is its tool's print). -/
def shelfString_ren : Go.Shelf.Ren := ⟨fun | 169 => 13 | n => n, fun | 70 => 56 | 9 => 9 | 0 => 0 | 72 => 59 | 37 => 57 | 127 => 82 | 3 => 3 | 5 => 5 | n => n, fun | n => n⟩
theorem shelfString : Go.Proofs.Lays.n169 Tryz.prog shelfString_ren := {
  mixed := by kernel_rfl
  f169 := Tryz.func13.trans (congrArg some (by kernel_rfl))
  t0 := Tryz.underlying0
  a0 := Tryz.isAgg0
  z0 := Tryz.sizeOf0
  v0 := Tryz.zeroValue0
  t3 := Tryz.underlying3
  a3 := Tryz.isAgg3
  z3 := Tryz.sizeOf3
  v3 := Tryz.zeroValue3
  t9 := Tryz.underlying9
  a9 := Tryz.isAgg9
  z9 := Tryz.sizeOf9
  v9 := Tryz.zeroValue9
  t37 := Tryz.underlying57
  a37 := Tryz.isAgg57
  z37 := Tryz.sizeOf57
  v37 := Tryz.zeroValue57
  t70 := Tryz.underlying56
  a70 := Tryz.isAgg56
  z70 := Tryz.sizeOf56
  v70 := Tryz.zeroValue56
  t72 := Tryz.underlying59
  a72 := Tryz.isAgg59
  z72 := Tryz.sizeOf59
  v72 := Tryz.zeroValue59
  t127 := Tryz.underlying82
  a127 := Tryz.isAgg82
  z127 := Tryz.sizeOf82
  v127 := Tryz.zeroValue82 }
theorem shelfExtra : Builder.Extra Tryz.prog shelfString_ren := {
  sizeBuilder := by kernel_rfl
  liesBuilder := by kernel_rfl
  t5 := Tryz.underlying5
  a5 := Tryz.isAgg5
  z5 := Tryz.sizeOf5
  v5 := Tryz.zeroValue5
  infoByte := by kernel_rfl
  cellsByte := by kernel_rfl
  sizeByte := by kernel_rfl
  neB5 := by decide }
theorem string_any (B b : Nat) (l : List UInt8) (w : World) (h : Lib.IsBuilderF 59 5 B b (Lib.byteCells l) w) (hBw : B ≤ w.heap.size) :
    Calls Tryz.prog 13 #[.pointer (some ⟨b, 0, none⟩)] w fun e w' => e = .returned (.string ⟨l.toArray⟩) ∧ (Lib.IsBuilderF 59 5 B b (Lib.byteCells l) w' ∧ Below B w w' ∧ Lib.OthersKept 5 (some b) w w') := Any.Builder_String_any_k shelfString shelfExtra B b l w h hBw
end Go.Proofs.YtmjmidgfdjcbfaaGreatDoor.Dep
namespace Go.Proofs.YtmjmidgfdjcbfaaGreatDoor.Dep
open Go.RowKit Go.Shelf Go.Lib

/-- The call's builder. -/
abbrev Bd (b : Nat) (bs : List UInt8) (W : World) : Prop := Lib.IsBuilderF 59 5 b b (Lib.byteCells bs) W

theorem bd_grown {X Y : World} {b : Nat} {bs : List UInt8} {row : Option Nat} (h : Bd b bs X) (hg : X.grownBy Y row) (hr : ∀ r, row = some r → ∃ o : Obj, X.heap[r]? = some o ∧ o.isCells = false) : Bd b bs Y := by
  have key : ∀ p, Lib.BuilderAtF 59 5 b b p (Lib.byteCells bs) X → Lib.BuilderAtF 59 5 b b p (Lib.byteCells bs) Y := by
    rintro p ⟨hB, v, hb, hown, hne⟩
    refine ⟨hB, v, (hg.block b (Array.getElem?_eq_some_iff.1 hb).1 (fun e => by obtain ⟨o, h1, h2⟩ := hr b e.symm; rw [hb] at h1; cases h1; cases h2)).trans hb, hown.kept hg ?_, hne⟩
    by_cases h0 : v.ownBlock = none
    · exact .inl h0
    · refine .inr (fun e => ?_)
      rcases hown.2 with ⟨hv, _⟩ | ⟨g, cap, cur, fz, hv, _, hgc, _⟩
      · rw [hv] at h0; exact h0 rfl
      · rw [hv] at e
        obtain ⟨_, ho, hc⟩ := hr g (by rw [← e]; rfl)
        rw [hgc] at ho
        cases ho
        cases hc
  exact h.elim (fun x => .inl (key _ x)) (fun x => .inr (key _ x))
theorem bd_lt {b : Nat} {bs : List UInt8} {W : World} (h : Bd b bs W) : b < W.heap.size := h.elim (fun x => x.lt) (fun x => x.lt)
theorem bd_below {X Y : World} {b : Nat} {bs : List UInt8} (h : Bd b bs X) (hb : Below X.heap.size X Y) : Bd b bs Y :=
  bd_grown (row := none) h ⟨hb.os, hb.tape, hb.output, hb.size, fun k hk _ => hb.block k hk⟩ (fun r e => by cases e)
theorem others_below {e : TypeId} {b : Option Nat} {X Y : World} (hb : Below X.heap.size X Y) : Lib.OthersKept e b X Y :=
  fun k _ hk _ _ => (hb.block k (Array.getElem?_eq_some_iff.1 hk).1).trans hk
theorem bd_new (w : World) : Bd w.heap.size [] (w.alloc (Obj.cells #[Value.pointer none, Value.slice none 0 0] 59)) :=
  .inl ⟨Nat.le_refl _, .slice none 0 0, block_new w _, ⟨rfl, .inl ⟨rfl, rfl⟩⟩, fun e => by cases e⟩
theorem write_bd {b : Nat} {L : List UInt8} {W : World} (bd : Bd b L W) (T : List UInt8) (hT : L.length + T.length ≤ 140737488355328) :
    Calls Tryz.prog 11 #[.pointer (some ⟨b, 0, none⟩), .string ⟨T.toArray⟩] W fun e W2 => e = .returned (.tuple #[.int .i64 (T.length : Nat), .nilIface]) ∧ Bd b (L ++ T) W2 ∧ Below b W W2 ∧ Lib.OthersKept 5 (some b) W W2 := by
  have hlt := bd_lt bd
  have hs : (⟨T.toArray⟩ : ByteArray).size = T.length := by simp [ByteArray.size]
  refine (writeString_any b b (Lib.byteCells L) ⟨T.toArray⟩ W bd (by rw [Lib.byteCells_length, hs]; exact hT) (by omega)).mono ?_
  rintro e w2 ⟨rfl, h2, hb2, hk2⟩
  refine ⟨by rw [hs], .inr ?_, hb2, hk2⟩
  have e : Lib.byteCells (L ++ T) = Lib.byteCells L ++ Lib.strCells ⟨T.toArray⟩ := by simp [Lib.byteCells, Lib.strCells]
  rw [e]
  exact h2

theorem string_bd {b : Nat} {L : List UInt8} {W : World} (bd : Bd b L W) :
    Calls Tryz.prog 13 #[.pointer (some ⟨b, 0, none⟩)] W fun e W2 => e = .returned (.string ⟨L.toArray⟩) ∧ Below b W W2 := by
  have hlt := bd_lt bd
  refine (string_any b b L W bd (by omega)).mono ?_
  rintro e w2 ⟨rfl, _, h, _⟩
  exact ⟨rfl, h⟩
end Go.Proofs.YtmjmidgfdjcbfaaGreatDoor.Dep
