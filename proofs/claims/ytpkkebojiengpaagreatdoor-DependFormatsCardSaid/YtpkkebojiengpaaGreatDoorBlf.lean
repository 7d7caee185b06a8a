/-
  strings.Builder in this program: copyCheck, WriteString, String, of a builder that the call itself has made. (Stage 1's Bld over MeA.)
-/
import Derived.Test.YtpkkebojiengpaaGreatDoorMeA
import Derived.Test.YtpkkebojiengpaaGreatDoorDaR
import Derived.Shelf.Strings.BuilderK
namespace Go.Proofs.YtpkkebojiengpaaGreatDoor
open Go.RowKit Go.Shelf Go.Lib

theorem cell_at {W : World} {B : Nat} {cs : Array Value} {t : TypeId} {f : Nat × Nat} (h : W.heap[B]? = some (.cells cs t f)) (i : Nat) (v : Value) (hi : cs[i]? = some v) : W.cell? ⟨B, i, none⟩ = some v := by
  simp [World.cell?, h, hi]
theorem Tryz.infoBuilder : (Tryz.prog.info? 35).map (·.size) = some 2 := by kernel_rfl
theorem Tryz.liesBuilder : liesAt Tryz.prog Tryz.prog.depth 35 (2 / Tryz.prog.cellsOf 35) 0 35 1 = true := by kernel_rfl
/-- A builder's own address. -/
abbrev selfP (b : Nat) : Value := .pointer (some ⟨b, 0, none⟩)

set_option maxHeartbeats 1000000 in
set_option maxRecDepth 100000 in
/-- copyCheck, whether the builder has been used or not: behind it the builder's first word is its own address; all else stands. -/
theorem bcheck_any (b : Nat) (p v : Value) (hp : p = .pointer none ∨ p = selfP b) (w : World) (hb : w.heap[b]? = some (.cells #[p, v] 35 (0, 0))) :
    Calls Tryz.prog 27 #[selfP b] w fun e w' => e = .returned (.tuple #[]) ∧ w'.heap[b]? = some (.cells #[selfP b, v] 35 (0, 0)) ∧ w.grownBy w' (some b) := by
  obtain ⟨ti, hti, hts⟩ := Option.map_eq_some_iff.1 Tryz.infoBuilder
  have hword := cell_at hb 0 p rfl
  have hshape : w.shape? b = some (35, 2) := by simp [World.shape?, hb]
  have hfree : w.frozen? ⟨b, 0, none⟩ = false := by simp [World.frozen?, hb]
  rcases hp with rfl | rfl
  · have HB := Lib.hid hb
    clear hb
    go_enter Tryz.func27, Tryz.ntmps27
    go_wp2_with fail
    rw [Lib.run_to_unsafe w ⟨b, 0, none⟩ Tryz.underlying32 Tryz.underlying69 hti (by rw [hts]; decide) hshape (by show 0 < 2; decide)]
    simp only [Result.andThen, Oper.upon_value]
    go_wp2_with fail
    rw [run_callFunc_extern Tryz.func43 (by kernel_rfl) (by kernel_rfl) (by kernel_rfl) (e := Extern.AbiNoEscape.same) (by kernel_rfl), Lib.run_noEscape]
    simp only [Result.andThen, Oper.upon_value]
    go_wp2_with fail
    rw [Lib.run_from_unsafe w ⟨b, 0, none⟩ Tryz.underlying69 Tryz.underlying32 hti hshape Tryz.liesBuilder]
    simp only [Result.andThen, Oper.upon_value]
    go_wp2_with fail
    go_end0
    refine ⟨rfl, ?_, ⟨rfl, rfl, rfl, by simp [World.setCell], fun k _ hk => Below.heap_setCell _ _ _ _ (fun e => hk (congrArg some e))⟩⟩
    have hx := HB.out
    simp [World.setCell, Array.getElem?_modify, hx]
  · have HB := Lib.hid hb
    clear hb
    go_enter Tryz.func27, Tryz.ntmps27
    go_wp2_with fail
    rw [Lib.run_neq_ptr_same w _ Tryz.underlying32 hti]
    go_wp2_with fail
    go_end0
    exact ⟨rfl, HB.out, World.grownBy.refl w _⟩

set_option maxHeartbeats 2000000 in
set_option maxRecDepth 100000 in
/-- WriteString: the row that the builder holds grows by the string's bytes; what is neither the builder nor that row stands. -/
theorem write_any (B b n : Nat) (p v : Value) (xs : List Value) (s : ByteArray) (hp : p = .pointer none ∨ p = selfP b) (hlen : n + s.size ≤ 140737488355328) (w : World) (hBw : B ≤ w.heap.size)
    (hb : w.heap[b]? = some (.cells #[p, v] 35 (0, 0))) (hown : w.ownsRowF B 5 1 v n xs) (hne : v.ownBlock ≠ some b) :
    Calls Tryz.prog 9 #[selfP b, .string s] w fun e w' => e = .returned (.tuple #[.int .i64 s.size, .nilIface]) ∧
      ∃ v' w2, w' = w2.setCell ⟨b, 1, none⟩ v' ∧ w2.heap[b]? = some (.cells #[selfP b, v] 35 (0, 0)) ∧ w2.ownsRowF B 5 1 v' (n + s.size) (xs ++ Lib.strCells s) ∧
        ∃ w1, w.grownBy w1 (some b) ∧ w1.ownsRowF B 5 1 v n xs ∧ w1.grownBy w2 v.ownBlock := by
  obtain ⟨bi, hbi, hbz, hbs, hbb⟩ := info_parts Tryz.infoByte
  have HC := Lib.hid (bcheck_any b p v hp w hb)
  clear hb
  go_enter Tryz.func9, Tryz.ntmps9
  go_wp2_with fail
  refine HC.out.mono ?_
  rintro e w1 ⟨rfl, hb1, hg1⟩
  have hown1 := hown.kept hg1 (.inr hne)
  have word0 := cell_at hb1 0 (selfP b) rfl
  have word1 := cell_at hb1 1 v rfl
  have HB1 := Lib.hid hb1
  have hsz := hg1.size
  have HG1 := Lib.hid hg1
  clear hb1 hg1
  go_wp2_with (at_builtin; refine Lib.wpList_append_own_stringF _ rfl _ _ 33 9 rfl B 5 bi Tryz.underlying33 Tryz.underlying9 hbi hbz hbs hbb _ _ _ rfl hown1 s rfl (by unfold maxLen; omega) (by omega) (by omega) ?_)
  intro v' w2 hown2 hg2 _
  have hb2 := (hg2.block b (Array.getElem?_eq_some_iff.1 HB1.out).1 (fun e => hne e.symm)).trans HB1.out
  have word0' := cell_at hb2 0 (selfP b) rfl
  have word1' := cell_at hb2 1 v rfl
  have hfree : w2.frozen? ⟨b, 1, none⟩ = false := by simp [World.frozen?, hb2]
  have hform : ∃ ao m cap, v' = .slice ao m cap := hown2.2.elim (fun h => ⟨_, _, _, h.1⟩) (fun ⟨_, _, _, _, h, _⟩ => ⟨_, _, _, h⟩)
  obtain ⟨ao, m, cap, rfl⟩ := hform
  have H2 := Lib.hid (And.intro hb2 (And.intro hown2 hg2))
  have HO1 := Lib.hid hown1
  clear hb2 hown2 hg2 hown1
  go_wp2_with fail
  go_ret2
  exact ⟨rfl, _, w2, rfl, H2.out.1, H2.out.2.1, w1, HG1.out, HO1.out, H2.out.2.2⟩

/-- The same in the shelf's words (Lib.IsBuilderF, Lib.OthersKept). -/
theorem writeString_any (B b : Nat) (bs : List Value) (s : ByteArray) (w : World) (h : Lib.IsBuilderF 35 5 B b bs w) (hlen : bs.length + s.size ≤ 140737488355328) (hBw : B ≤ w.heap.size) :
    Calls Tryz.prog 9 #[selfP b, .string s] w fun e w' => e = .returned (.tuple #[.int .i64 s.size, .nilIface]) ∧ (Lib.BuilderAtF 35 5 B b (selfP b) (bs ++ Lib.strCells s) w' ∧ Below B w w' ∧ Lib.OthersKept 5 (some b) w w') := by
  obtain ⟨p, hp, hBb, v, hb, hown, hne⟩ : ∃ p, (p = .pointer none ∨ p = selfP b) ∧ Lib.BuilderAtF 35 5 B b p bs w := h.elim (fun x => ⟨_, .inl rfl, x⟩) (fun x => ⟨_, .inr rfl, x⟩)
  refine (write_any B b bs.length p v bs s hp hlen w hBw hb hown hne).mono ?_
  rintro e w' ⟨rfl, v', w2, rfl, hb2, hown2, w1, hg1, hown1, hg2⟩
  have hk : Lib.OthersKept 5 (some b) w w2 := by
    refine Lib.OthersKept.grown (fun k o ho hkb _ => ?_) hg2 (Lib.ownsRowF_kind hown1)
    exact (hg1.block k (Array.getElem?_eq_some_iff.1 ho).1 hkb).trans ho
  have hz := hg1.size
  have hbel : Below B w w2 := ((Below.refl B w).grown hg1 hBw (fun k e => by cases e; exact hBb)).grown hg2 (by omega) (fun k e => (hown.lt k e).1)
  exact ⟨rfl, Lib.BuilderAtF.put (bs' := bs ++ Lib.strCells s) hBb hb2 (by rw [List.length_append, Lib.strCells_length]; exact hown2) (by decide), hbel.setCell (p := ⟨b, 1, none⟩) hBb _, hk.setCell ⟨b, 1, none⟩ rfl _⟩

/- String: the library's contract, laid at this program (the laying's plain text is its tool's print). -/
def shelfString_ren : Go.Shelf.Ren := ⟨fun | 169 => 11 | n => n, fun | 70 => 32 | 9 => 9 | 0 => 0 | 72 => 35 | 37 => 33 | 127 => 57 | 3 => 3 | 5 => 5 | n => n, fun | n => n⟩
theorem shelfString : Go.Proofs.Lays.n169 Tryz.prog shelfString_ren := {
  mixed := by kernel_rfl
  f169 := Tryz.func11.trans (congrArg some (by kernel_rfl))
  t0 := Tryz.underlying0
  a0 := Tryz.isAgg0
  z0 := Tryz.sizeOf0
  v0 := Tryz.zeroValue0
  t3 := Tryz.underlying3
  a3 := Tryz.isAgg3
  z3 := Tryz.sizeOf3
  v3 := Tryz.zeroValue3
  t9 := Tryz.underlying9
  a9 := Tryz.isAgg9
  z9 := Tryz.sizeOf9
  v9 := Tryz.zeroValue9
  t37 := Tryz.underlying33
  a37 := Tryz.isAgg33
  z37 := Tryz.sizeOf33
  v37 := Tryz.zeroValue33
  t70 := Tryz.underlying32
  a70 := Tryz.isAgg32
  z70 := Tryz.sizeOf32
  v70 := Tryz.zeroValue32
  t72 := Tryz.underlying35
  a72 := Tryz.isAgg35
  z72 := Tryz.sizeOf35
  v72 := Tryz.zeroValue35
  t127 := Tryz.underlying57
  a127 := Tryz.isAgg57
  z127 := Tryz.sizeOf57
  v127 := Tryz.zeroValue57 }
theorem shelfExtra : Builder.Extra Tryz.prog shelfString_ren := {
  sizeBuilder := by kernel_rfl
  liesBuilder := by kernel_rfl
  t5 := Tryz.underlying5
  a5 := Tryz.isAgg5
  z5 := Tryz.sizeOf5
  v5 := Tryz.zeroValue5
  infoByte := by kernel_rfl
  cellsByte := by kernel_rfl
  sizeByte := by kernel_rfl
  neB5 := by decide }
theorem string_any (B b : Nat) (l : List UInt8) (w : World) (h : Lib.IsBuilderF 35 5 B b (Lib.byteCells l) w) (hBw : B ≤ w.heap.size) :
    Calls Tryz.prog 11 #[.pointer (some ⟨b, 0, none⟩)] w fun e w' => e = .returned (.string ⟨l.toArray⟩) ∧ (Lib.IsBuilderF 35 5 B b (Lib.byteCells l) w' ∧ Below B w w' ∧ Lib.OthersKept 5 (some b) w w') := Any.Builder_String_any_k shelfString shelfExtra B b l w h hBw
end Go.Proofs.YtpkkebojiengpaaGreatDoor
