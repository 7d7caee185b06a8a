/-
  strings.Builder in this program: copyCheck, WriteString, String, of a builder that the call itself has made. (Stage 1's Bld over MeA.)
-/
import Derived.Test.YtpkkebojiengpaaDoorMeA
import Derived.Test.YtpkkebojiengpaaDoorDaR
import Derived.Shelf.Strings.BuilderK
namespace Go.Proofs.YtpkkebojiengpaaDoor
open Go.RowKit Go.Shelf Go.Lib

theorem cell_at {W : World} {B : Nat} {cs : Array Value} {t : TypeId} {f : Nat × Nat} (h : W.heap[B]? = some (.cells cs t f)) (i : Nat) (v : Value) (hi : cs[i]? = some v) : W.cell? ⟨B, i, none⟩ = some v := by
  simp [World.cell?, h, hi]
theorem Tryd.infoBuilder : (Tryd.prog.info? 41).map (·.size) = some 2 := by kernel_rfl
theorem Tryd.liesBuilder : liesAt Tryd.prog Tryd.prog.depth 41 (2 / Tryd.prog.cellsOf 41) 0 41 1 = true := by kernel_rfl
/-- A builder's own address. -/
abbrev selfP (b : Nat) : Value := .pointer (some ⟨b, 0, none⟩)

set_option maxHeartbeats 1000000 in
set_option maxRecDepth 100000 in
/-- copyCheck, whether the builder has been used or not: behind it the builder's first word is its own address; all else stands. -/
theorem bcheck_any (b : Nat) (p v : Value) (hp : p = .pointer none ∨ p = selfP b) (w : World) (hb : w.heap[b]? = some (.cells #[p, v] 41 (0, 0))) :
    Calls Tryd.prog 26 #[selfP b] w fun e w' => e = .returned (.tuple #[]) ∧ w'.heap[b]? = some (.cells #[selfP b, v] 41 (0, 0)) ∧ w.grownBy w' (some b) := by
  obtain ⟨ti, hti, hts⟩ := Option.map_eq_some_iff.1 Tryd.infoBuilder
  have hword := cell_at hb 0 p rfl
  have hshape : w.shape? b = some (41, 2) := by simp [World.shape?, hb]
  have hfree : w.frozen? ⟨b, 0, none⟩ = false := by simp [World.frozen?, hb]
  rcases hp with rfl | rfl
  · have HB := Lib.hid hb
    clear hb
    go_enter Tryd.func26, Tryd.ntmps26
    go_wp2_with fail
    rw [Lib.run_to_unsafe w ⟨b, 0, none⟩ Tryd.underlying38 Tryd.underlying79 hti (by rw [hts]; decide) hshape (by show 0 < 2; decide)]
    simp only [Result.andThen, Oper.upon_value]
    go_wp2_with fail
    rw [run_callFunc_extern Tryd.func41 (by kernel_rfl) (by kernel_rfl) (by kernel_rfl) (e := Extern.AbiNoEscape.same) (by kernel_rfl), Lib.run_noEscape]
    simp only [Result.andThen, Oper.upon_value]
    go_wp2_with fail
    rw [Lib.run_from_unsafe w ⟨b, 0, none⟩ Tryd.underlying79 Tryd.underlying38 hti hshape Tryd.liesBuilder]
    simp only [Result.andThen, Oper.upon_value]
    go_wp2_with fail
    go_end0
    refine ⟨rfl, ?_, ⟨rfl, rfl, rfl, by simp [World.setCell], fun k _ hk => Below.heap_setCell _ _ _ _ (fun e => hk (congrArg some e))⟩⟩
    have hx := HB.out
    simp [World.setCell, Array.getElem?_modify, hx]
  · have HB := Lib.hid hb
    clear hb
    go_enter Tryd.func26, Tryd.ntmps26
    go_wp2_with fail
    rw [Lib.run_neq_ptr_same w _ Tryd.underlying38 hti]
    go_wp2_with fail
    go_end0
    exact ⟨rfl, HB.out, World.grownBy.refl w _⟩

set_option maxHeartbeats 2000000 in
set_option maxRecDepth 100000 in
/-- WriteString: the row that the builder holds grows by the string's bytes; what is neither the builder nor that row stands. -/
theorem write_any (B b n : Nat) (p v : Value) (xs : List Value) (s : ByteArray) (hp : p = .pointer none ∨ p = selfP b) (hlen : n + s.size ≤ 140737488355328) (w : World) (hBw : B ≤ w.heap.size)
    (hb : w.heap[b]? = some (.cells #[p, v] 41 (0, 0))) (hown : w.ownsRowF B 5 1 v n xs) (hne : v.ownBlock ≠ some b) :
    Calls Tryd.prog 11 #[selfP b, .string s] w fun e w' => e = .returned (.tuple #[.int .i64 s.size, .nilIface]) ∧
      ∃ v' w2, w' = w2.setCell ⟨b, 1, none⟩ v' ∧ w2.heap[b]? = some (.cells #[selfP b, v] 41 (0, 0)) ∧ w2.ownsRowF B 5 1 v' (n + s.size) (xs ++ Lib.strCells s) ∧
        ∃ w1, w.grownBy w1 (some b) ∧ w1.ownsRowF B 5 1 v n xs ∧ w1.grownBy w2 v.ownBlock := by
  obtain ⟨bi, hbi, hbz, hbs, hbb⟩ := info_parts Tryd.infoByte
  have HC := Lib.hid (bcheck_any b p v hp w hb)
  clear hb
  go_enter Tryd.func11, Tryd.ntmps11
  go_wp2_with fail
  refine HC.out.mono ?_
  rintro e w1 ⟨rfl, hb1, hg1⟩
  have hown1 := hown.kept hg1 (.inr hne)
  have word0 := cell_at hb1 0 (selfP b) rfl
  have word1 := cell_at hb1 1 v rfl
  have HB1 := Lib.hid hb1
  have hsz := hg1.size
  have HG1 := Lib.hid hg1
  clear hb1 hg1
  go_wp2_with (at_builtin; refine Lib.wpList_append_own_stringF _ rfl _ _ 39 9 rfl B 5 bi Tryd.underlying39 Tryd.underlying9 hbi hbz hbs hbb _ _ _ rfl hown1 s rfl (by unfold maxLen; omega) (by omega) (by omega) ?_)
  intro v' w2 hown2 hg2 _
  have hb2 := (hg2.block b (Array.getElem?_eq_some_iff.1 HB1.out).1 (fun e => hne e.symm)).trans HB1.out
  have word0' := cell_at hb2 0 (selfP b) rfl
  have word1' := cell_at hb2 1 v rfl
  have hfree : w2.frozen? ⟨b, 1, none⟩ = false := by simp [World.frozen?, hb2]
  have hform : ∃ ao m cap, v' = .slice ao m cap := hown2.2.elim (fun h => ⟨_, _, _, h.1⟩) (fun ⟨_, _, _, _, h, _⟩ => ⟨_, _, _, h⟩)
  obtain ⟨ao, m, cap, rfl⟩ := hform
  have H2 := Lib.hid (And.intro hb2 (And.intro hown2 hg2))
  have HO1 := Lib.hid hown1
  clear hb2 hown2 hg2 hown1
  go_wp2_with fail
  go_ret2
  exact ⟨rfl, _, w2, rfl, H2.out.1, H2.out.2.1, w1, HG1.out, HO1.out, H2.out.2.2⟩

/-- The same in the shelf's words (Lib.IsBuilderF, Lib.OthersKept). -/
theorem writeString_any (B b : Nat) (bs : List Value) (s : ByteArray) (w : World) (h : Lib.IsBuilderF 41 5 B b bs w) (hlen : bs.length + s.size ≤ 140737488355328) (hBw : B ≤ w.heap.size) :
    Calls Tryd.prog 11 #[selfP b, .string s] w fun e w' => e = .returned (.tuple #[.int .i64 s.size, .nilIface]) ∧ (Lib.BuilderAtF 41 5 B b (selfP b) (bs ++ Lib.strCells s) w' ∧ Below B w w' ∧ Lib.OthersKept 5 (some b) w w') := by
  obtain ⟨p, hp, hBb, v, hb, hown, hne⟩ : ∃ p, (p = .pointer none ∨ p = selfP b) ∧ Lib.BuilderAtF 41 5 B b p bs w := h.elim (fun x => ⟨_, .inl rfl, x⟩) (fun x => ⟨_, .inr rfl, x⟩)
  refine (write_any B b bs.length p v bs s hp hlen w hBw hb hown hne).mono ?_
  rintro e w' ⟨rfl, v', w2, rfl, hb2, hown2, w1, hg1, hown1, hg2⟩
  have hk : Lib.OthersKept 5 (some b) w w2 := by
    refine Lib.OthersKept.grown (fun k o ho hkb _ => ?_) hg2 (Lib.ownsRowF_kind hown1)
    exact (hg1.block k (Array.getElem?_eq_some_iff.1 ho).1 hkb).trans ho
  have hz := hg1.size
  have hbel : Below B w w2 := ((Below.refl B w).grown hg1 hBw (fun k e => by cases e; exact hBb)).grown hg2 (by omega) (fun k e => (hown.lt k e).1)
  exact ⟨rfl, Lib.BuilderAtF.put (bs' := bs ++ Lib.strCells s) hBb hb2 (by rw [List.length_append, Lib.strCells_length]; exact hown2) (by decide), hbel.setCell (p := ⟨b, 1, none⟩) hBb _, hk.setCell ⟨b, 1, none⟩ rfl _⟩

/- String: the library's contract, laid at this program (the laying's plain text is its tool's print). -/
def shelfString_ren : Go.Shelf.Ren := ⟨fun | 169 => 13 | n => n, fun | 70 => 38 | 9 => 9 | 0 => 0 | 72 => 41 | 37 => 39 | 127 => 62 | 3 => 3 | 5 => 5 | n => n, fun | n => n⟩
theorem shelfString : Go.Proofs.Lays.n169 Tryd.prog shelfString_ren := {
  mixed := by kernel_rfl
  f169 := Tryd.func13.trans (congrArg some (by kernel_rfl))
  t0 := Tryd.underlying0
  a0 := Tryd.isAgg0
  z0 := Tryd.sizeOf0
  v0 := Tryd.zeroValue0
  t3 := Tryd.underlying3
  a3 := Tryd.isAgg3
  z3 := Tryd.sizeOf3
  v3 := Tryd.zeroValue3
  t9 := Tryd.underlying9
  a9 := Tryd.isAgg9
  z9 := Tryd.sizeOf9
  v9 := Tryd.zeroValue9
  t37 := Tryd.underlying39
  a37 := Tryd.isAgg39
  z37 := Tryd.sizeOf39
  v37 := Tryd.zeroValue39
  t70 := Tryd.underlying38
  a70 := Tryd.isAgg38
  z70 := Tryd.sizeOf38
  v70 := Tryd.zeroValue38
  t72 := Tryd.underlying41
  a72 := Tryd.isAgg41
  z72 := Tryd.sizeOf41
  v72 := Tryd.zeroValue41
  t127 := Tryd.underlying62
  a127 := Tryd.isAgg62
  z127 := Tryd.sizeOf62
  v127 := Tryd.zeroValue62 }
theorem shelfExtra : Builder.Extra Tryd.prog shelfString_ren := {
  sizeBuilder := by kernel_rfl
  liesBuilder := by kernel_rfl
  t5 := Tryd.underlying5
  a5 := Tryd.isAgg5
  z5 := Tryd.sizeOf5
  v5 := Tryd.zeroValue5
  infoByte := by kernel_rfl
  cellsByte := by kernel_rfl
  sizeByte := by kernel_rfl
  neB5 := by decide }
theorem string_any (B b : Nat) (l : List UInt8) (w : World) (h : Lib.IsBuilderF 41 5 B b (Lib.byteCells l) w) (hBw : B ≤ w.heap.size) :
    Calls Tryd.prog 13 #[.pointer (some ⟨b, 0, none⟩)] w fun e w' => e = .returned (.string ⟨l.toArray⟩) ∧ (Lib.IsBuilderF 41 5 B b (Lib.byteCells l) w' ∧ Below B w w' ∧ Lib.OthersKept 5 (some b) w w') := Any.Builder_String_any_k shelfString shelfExtra B b l w h hBw
end Go.Proofs.YtpkkebojiengpaaDoor
