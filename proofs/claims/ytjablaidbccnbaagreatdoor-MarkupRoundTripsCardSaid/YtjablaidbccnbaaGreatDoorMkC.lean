/-
  WALKS over package markup, third part: a builder of the call's own, as bytes; Escape.
-/
import Derived.Test.YtjablaidbccnbaaGreatDoorMkB
import Derived.Test.YtjablaidbccnbaaGreatDoorVdA
namespace Go.Proofs.YtjablaidbccnbaaGreatDoor
open Go.RowKit Go.Shelf Go.Lib

/-- The call's builder. -/
abbrev Bd (b : Nat) (bs : List UInt8) (W : World) : Prop := Lib.IsBuilderF 60 5 b b (Lib.byteCells bs) W

theorem bd_grown {X Y : World} {b : Nat} {bs : List UInt8} {row : Option Nat} (h : Bd b bs X) (hg : X.grownBy Y row) (hr : ∀ r, row = some r → ∃ o : Obj, X.heap[r]? = some o ∧ o.isCells = false) : Bd b bs Y := by
  have key : ∀ p, Lib.BuilderAtF 60 5 b b p (Lib.byteCells bs) X → Lib.BuilderAtF 60 5 b b p (Lib.byteCells bs) Y := by
    rintro p ⟨hB, v, hb, hown, hne⟩
    refine ⟨hB, v, cells_own b _ _ _ () X Y row hb hg hr, hown.kept hg ?_, hne⟩
    by_cases h0 : v.ownBlock = none
    · exact .inl h0
    · refine .inr (fun e => ?_)
      rcases hown.2 with ⟨hv, _⟩ | ⟨g, cap, cur, fz, hv, _, hgc, _⟩
      · rw [hv] at h0; exact h0 rfl
      · rw [hv] at e
        obtain ⟨_, ho, hc⟩ := hr g (by rw [← e]; rfl)
        rw [hgc] at ho
        cases ho
        cases hc
  exact h.elim (fun x => .inl (key _ x)) (fun x => .inr (key _ x))
theorem bd_lt {b : Nat} {bs : List UInt8} {W : World} (h : Bd b bs W) : b < W.heap.size := h.elim (fun x => x.lt) (fun x => x.lt)
theorem bd_below {X Y : World} {b : Nat} {bs : List UInt8} (h : Bd b bs X) (hb : Below X.heap.size X Y) : Bd b bs Y :=
  bd_grown (row := none) h ⟨hb.os, hb.tape, hb.output, hb.size, fun k hk _ => hb.block k hk⟩ (fun r e => by cases e)
theorem others_below {e : TypeId} {b : Option Nat} {X Y : World} (hb : Below X.heap.size X Y) : Lib.OthersKept e b X Y :=
  fun k _ hk _ _ => (hb.block k (Array.getElem?_eq_some_iff.1 hk).1).trans hk
theorem bd_new (w : World) : Bd w.heap.size [] (w.alloc (Obj.cells #[Value.pointer none, Value.slice none 0 0] 60)) :=
  .inl ⟨Nat.le_refl _, .slice none 0 0, block_new w _, ⟨rfl, .inl ⟨rfl, rfl⟩⟩, fun e => by cases e⟩
theorem write_bd {b : Nat} {L : List UInt8} {W : World} (bd : Bd b L W) (T : List UInt8) (hT : L.length + T.length ≤ 140737488355328) :
    Calls Tryz.prog 23 #[.pointer (some ⟨b, 0, none⟩), .string ⟨T.toArray⟩] W fun e W2 => e = .returned (.tuple #[.int .i64 (T.length : Nat), .nilIface]) ∧ Bd b (L ++ T) W2 ∧ Below b W W2 ∧ Lib.OthersKept 5 (some b) W W2 := by
  have hlt := bd_lt bd
  have hs : (⟨T.toArray⟩ : ByteArray).size = T.length := by simp [ByteArray.size]
  refine (writeString_any b b (Lib.byteCells L) ⟨T.toArray⟩ W bd (by rw [Lib.byteCells_length, hs]; exact hT) (by omega)).mono ?_
  rintro e w2 ⟨rfl, h2, hb2, hk2⟩
  refine ⟨by rw [hs], .inr ?_, hb2, hk2⟩
  have e : Lib.byteCells (L ++ T) = Lib.byteCells L ++ Lib.strCells ⟨T.toArray⟩ := by simp [Lib.byteCells, Lib.strCells]
  rw [e]
  exact h2

set_option maxRecDepth 100000 in
set_option maxHeartbeats 1000000 in
theorem escapeAll_any (s : ByteArray) (hs : s.size ≤ 1000000) (w : World) (hN : Named w) :
    Calls Tryz.prog 25 #[.string s] w fun e w' => e = .returned (.string ⟨(esc s.data.toList).toArray⟩) ∧ Below w.heap.size w w' := by
  have HN := Lib.hid hN
  clear hN
  go_enter Tryz.func25, Tryz.ntmps25
  go_wp2_with fail
  have hb0 := Lib.hid (And.intro (bd_new w) ((Below.refl _ w).alloc (Nat.le_refl _) (Obj.cells #[Value.pointer none, Value.slice none 0 0] 60)))
  go_loopw [7] (fun i wr => ∃ k : Nat, k ≤ s.size ∧ i = .int .i64 k ∧ Bd w.heap.size (esc (s.data.toList.take k)) wr ∧ Below w.heap.size w wr) (fun i _ => s.size - (Go.RowKit.intOf i).toNat)
  case atStart => exact ⟨0, Nat.zero_le _, rfl, hb0.out⟩
  case round =>
    obtain ⟨k, hk, rfl, bd, hb⟩ := hrel
    by_cases hlt : k < s.size
    · have hlt' : k < s.data.toList.length := by rw [← Lib.size_eq]; exact hlt
      have hex : s.extract k (k + 1) = ⟨#[s.data.toList[k]]⟩ := by
        rw [Lib.extract_eq, List.drop_eq_getElem_cons hlt']
        simp
      have hnx : esc (s.data.toList.take (k + 1)) = esc (s.data.toList.take k) ++ escB (s.data.toList[k]) := by
        rw [List.take_add_one, List.getElem?_eq_getElem hlt', esc_app]
        simp [esc]
      have hl := esc_len (s.data.toList.take k)
      rw [List.length_take] at hl
      obtain ⟨c, hc⟩ : ∃ c, s.data.toList[k] = c := ⟨_, rfl⟩
      rw [hc] at hex hnx
      have hec : (escB c).length ≤ 6 := by
        have := esc_len [c]
        simpa [esc] using this
      obtain ⟨E, hE⟩ : ∃ E, esc (s.data.toList.take k) = E := ⟨_, rfl⟩
      rw [hE] at hnx hl bd
      have HX := Lib.hid (And.intro hnx (And.intro hl hec))
      have HB := Lib.hid (And.intro bd hb)
      have hes := escape_any c wr (HN.out.below hb HN.out.lt)
      have HES := Lib.hid hes
      clear hlt' hnx hl hc hec hE bd hb hes
      go_wp2_with fail
      refine HES.out.mono ?_
      rintro e w1 ⟨rfl, hb1⟩
      have HB1 := Lib.hid hb1
      have HWR := Lib.hid (write_bd (bd_below HB.out.1 hb1) (escB c) (by have := HX.out.2; omega))
      clear hb1
      go_wp2_with fail
      refine HWR.out.mono ?_
      rintro e w2 ⟨rfl, bd2, hb2, _⟩
      have HB2 := Lib.hid (And.intro bd2 hb2)
      clear bd2 hb2
      go_wp2_with fail
      go_round
      case rel => exact ⟨k + 1, by omega, by go_num, by rw [HX.out.1]; exact HB2.out.1, (HB.out.2.trans (HB1.out.mono HB.out.2.size)).trans HB2.out.2⟩
      case measure => simp [Go.RowKit.intOf]; omega
    · have hfin : s.data.toList.take k = s.data.toList := List.take_of_length_le (by rw [← Lib.size_eq]; omega)
      rw [hfin] at bd
      have HB := Lib.hid hb
      have HS := Lib.hid (string_any w.heap.size w.heap.size (esc s.data.toList) wr bd hb.size)
      clear hfin bd hb
      go_wp2_with fail
      refine HS.out.mono ?_
      rintro e w2 ⟨rfl, _, hb2, _⟩
      go_wp2_with fail
      go_ret
      exact ⟨rfl, HB.out.trans hb2⟩
end Go.Proofs.YtjablaidbccnbaaGreatDoor
