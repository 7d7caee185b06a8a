/-
  A strings.Builder of the call's own, as bytes (BdM, which needs Ble alone).
-/
import Derived.Test.YtpkkebojiengpaaGreatDoorBlf
import Derived.Test.YtpkkebojiengpaaGreatDoorDbA
namespace Go.Proofs.YtpkkebojiengpaaGreatDoor
open Go.RowKit Go.Shelf Go.Lib

/-- The call's builder. -/
abbrev Bd (b : Nat) (bs : List UInt8) (W : World) : Prop := Lib.IsBuilderF 35 5 b b (Lib.byteCells bs) W

theorem bd_grown {X Y : World} {b : Nat} {bs : List UInt8} {row : Option Nat} (h : Bd b bs X) (hg : X.grownBy Y row) (hr : ∀ r, row = some r → ∃ o : Obj, X.heap[r]? = some o ∧ o.isCells = false) : Bd b bs Y := by
  have key : ∀ p, Lib.BuilderAtF 35 5 b b p (Lib.byteCells bs) X → Lib.BuilderAtF 35 5 b b p (Lib.byteCells bs) Y := by
    rintro p ⟨hB, v, hb, hown, hne⟩
    refine ⟨hB, v, (hg.block b (Array.getElem?_eq_some_iff.1 hb).1 (fun e => by obtain ⟨o, h1, h2⟩ := hr b e.symm; rw [hb] at h1; cases h1; cases h2)).trans hb, hown.kept hg ?_, hne⟩
    by_cases h0 : v.ownBlock = none
    · exact .inl h0
    · refine .inr (fun e => ?_)
      rcases hown.2 with ⟨hv, _⟩ | ⟨g, cap, cur, fz, hv, _, hgc, _⟩
      · rw [hv] at h0; exact h0 rfl
      · rw [hv] at e
        obtain ⟨_, ho, hc⟩ := hr g (by rw [← e]; rfl)
        rw [hgc] at ho
        cases ho
        cases hc
  exact h.elim (fun x => .inl (key _ x)) (fun x => .inr (key _ x))
theorem bd_lt {b : Nat} {bs : List UInt8} {W : World} (h : Bd b bs W) : b < W.heap.size := h.elim (fun x => x.lt) (fun x => x.lt)
theorem bd_below {X Y : World} {b : Nat} {bs : List UInt8} (h : Bd b bs X) (hb : Below X.heap.size X Y) : Bd b bs Y :=
  bd_grown (row := none) h ⟨hb.os, hb.tape, hb.output, hb.size, fun k hk _ => hb.block k hk⟩ (fun r e => by cases e)
theorem others_below {e : TypeId} {b : Option Nat} {X Y : World} (hb : Below X.heap.size X Y) : Lib.OthersKept e b X Y :=
  fun k _ hk _ _ => (hb.block k (Array.getElem?_eq_some_iff.1 hk).1).trans hk
theorem bd_new (w : World) : Bd w.heap.size [] (w.alloc (Obj.cells #[Value.pointer none, Value.slice none 0 0] 35)) :=
  .inl ⟨Nat.le_refl _, .slice none 0 0, block_new w _, ⟨rfl, .inl ⟨rfl, rfl⟩⟩, fun e => by cases e⟩
theorem write_bd {b : Nat} {L : List UInt8} {W : World} (bd : Bd b L W) (T : List UInt8) (hT : L.length + T.length ≤ 140737488355328) :
    Calls Tryz.prog 9 #[.pointer (some ⟨b, 0, none⟩), .string ⟨T.toArray⟩] W fun e W2 => e = .returned (.tuple #[.int .i64 (T.length : Nat), .nilIface]) ∧ Bd b (L ++ T) W2 ∧ Below b W W2 ∧ Lib.OthersKept 5 (some b) W W2 := by
  have hlt := bd_lt bd
  have hs : (⟨T.toArray⟩ : ByteArray).size = T.length := by simp [ByteArray.size]
  refine (writeString_any b b (Lib.byteCells L) ⟨T.toArray⟩ W bd (by rw [Lib.byteCells_length, hs]; exact hT) (by omega)).mono ?_
  rintro e w2 ⟨rfl, h2, hb2, hk2⟩
  refine ⟨by rw [hs], .inr ?_, hb2, hk2⟩
  have e : Lib.byteCells (L ++ T) = Lib.byteCells L ++ Lib.strCells ⟨T.toArray⟩ := by simp [Lib.byteCells, Lib.strCells]
  rw [e]
  exact h2

theorem string_bd {b : Nat} {L : List UInt8} {W : World} (bd : Bd b L W) :
    Calls Tryz.prog 11 #[.pointer (some ⟨b, 0, none⟩)] W fun e W2 => e = .returned (.string ⟨L.toArray⟩) ∧ Below b W W2 := by
  have hlt := bd_lt bd
  refine (string_any b b L W bd (by omega)).mono ?_
  rintro e w2 ⟨rfl, _, h, _⟩
  exact ⟨rfl, h⟩
end Go.Proofs.YtpkkebojiengpaaGreatDoor
