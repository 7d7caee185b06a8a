/-
  WALKS over package bitio, first part: bits.Len64, shift, a new Writer, its length; what a Writer is in memory.
-/
import Derived.Test.YtbfnkmibbieijaaBiN
import Derived.Test.YtbfnkmibbieijaaMeA
import Derived.Shelf.Abstract
import Derived.Shelf.RegionOpen
import Derived.WalkKit
import Derived.WalkSpells
import Derived.WalkLawsBesides
import Derived.Lib.Hide
import Derived.Laws.MathBits
import Derived.Laws.BitsAllLaws
import Derived.Deep.AppendLies
import Derived.Deep.OwnRows
import Derived.Below
import Derived.BigQuiet
import Derived.Deep.QuietTactic
import Derived.StillTailTactics
import Derived.Lib.BufferWrite
namespace Go.Proofs.Ytbfnkmibbieijaa
open Go.RowKit Go.Shelf Go.Lib


theorem wrap64_id (n : Int) (h0 : -9223372036854775808 ≤ n) (h1 : n ≤ 9223372036854775807) : wrap64 n = n := by unfold wrap64; omega
theorem len_case (v : Int) (k : Nat) (b : Nat) (c : Int) (hc : c = b) (hb : b ≤ 64) (hv : v.toNat / 2 ^ b = k) (hk : k ≠ 0) (h8 : k < 256) (t : Nat) (ht : t = bitLen k) : wrap64 (c + wrap64 (t : Int)) = (bitLen v.toNat : Int) := by
  subst hc ht
  have h := bitLen_shift v.toNat b (by rw [hv]; exact hk)
  have h2 := bitLen_le8 k h8
  rw [h, hv, wrap64_id (bitLen k : Int) (by omega) (by omega), wrap64_id _ (by omega) (by omega)]
  omega
theorem len_case0 (v : Int) (h0 : 0 ≤ v) (h8 : v < 256) (t : Nat) (ht : t = bitLen v.toNat) : wrap64 (wrap64 (t : Int)) = (bitLen v.toNat : Int) := by
  subst ht
  have h2 := bitLen_le8 v.toNat (by omega)
  rw [wrap64_id (bitLen v.toNat : Int) (by omega) (by omega), wrap64_id _ (by omega) (by omega)]

set_option maxRecDepth 100000 in
set_option maxHeartbeats 4000000 in
theorem len64_any (v : Int) (h0 : 0 ≤ v) (hv : v ≤ 18446744073709551615) (w : World) :
    Calls Try.prog 125 #[.int .u64 v] w fun e w' => e = .returned (.int .i64 (bitLen v.toNat)) ∧ w = w' := by
  go_enter Try.func125, Try.ntmps125
  go_wp2
  all_goals go_ret
  all_goals refine ⟨congrArg Ending.returned (congrArg (Value.int IntKind.i64) ?_), rfl⟩
  · have e : v.toNat / 2 ^ 56 = (v / 4294967296 / 65536 / 256).toNat := by show v.toNat / 72057594037927936 = _; omega
    exact len_case v (v / 4294967296 / 65536 / 256).toNat 56 _ rfl (by omega) e (by omega) (by omega) _ (len8tab_get _ (Nat.lt_of_lt_of_eq (m := 256) (by omega) (by rfl)))
  · have e : v.toNat / 2 ^ 48 = (v / 4294967296 / 65536).toNat := by show v.toNat / 281474976710656 = _; omega
    exact len_case v (v / 4294967296 / 65536).toNat 48 _ rfl (by omega) e (by omega) (by omega) _ (len8tab_get _ (Nat.lt_of_lt_of_eq (m := 256) (by omega) (by rfl)))
  · have e : v.toNat / 2 ^ 40 = (v / 4294967296 / 256).toNat := by show v.toNat / 1099511627776 = _; omega
    exact len_case v (v / 4294967296 / 256).toNat 40 _ rfl (by omega) e (by omega) (by omega) _ (len8tab_get _ (Nat.lt_of_lt_of_eq (m := 256) (by omega) (by rfl)))
  · have e : v.toNat / 2 ^ 32 = (v / 4294967296).toNat := by show v.toNat / 4294967296 = _; omega
    exact len_case v (v / 4294967296).toNat 32 _ rfl (by omega) e (by omega) (by omega) _ (len8tab_get _ (Nat.lt_of_lt_of_eq (m := 256) (by omega) (by rfl)))
  · have e : v.toNat / 2 ^ 24 = (v / 65536 / 256).toNat := by show v.toNat / 16777216 = _; omega
    exact len_case v (v / 65536 / 256).toNat 24 _ rfl (by omega) e (by omega) (by omega) _ (len8tab_get _ (Nat.lt_of_lt_of_eq (m := 256) (by omega) (by rfl)))
  · have e : v.toNat / 2 ^ 16 = (v / 65536).toNat := by show v.toNat / 65536 = _; omega
    exact len_case v (v / 65536).toNat 16 _ rfl (by omega) e (by omega) (by omega) _ (len8tab_get _ (Nat.lt_of_lt_of_eq (m := 256) (by omega) (by rfl)))
  · have e : v.toNat / 2 ^ 8 = (v / 256).toNat := by show v.toNat / 256 = _; omega
    exact len_case v (v / 256).toNat 8 _ rfl (by omega) e (by omega) (by omega) _ (len8tab_get _ (Nat.lt_of_lt_of_eq (m := 256) (by omega) (by rfl)))
  · exact len_case0 v h0 (by omega) _ (len8tab_get _ (Nat.lt_of_lt_of_eq (m := 256) (by omega) (by rfl)))
/-- Len64 of a number that is not 0. -/
theorem len64_log (v : Nat) (hv : v < 18446744073709551616) (h0 : v ≠ 0) (w : World) :
    Calls Try.prog 125 #[.int .u64 v] w fun e w' => e = .returned (.int .i64 ((Nat.log2 v : Nat) + 1)) ∧ w = w' := by
  refine (len64_any v (by omega) (by omega) w).mono ?_
  rintro e w' ⟨rfl, rfl⟩
  refine ⟨?_, rfl⟩
  have : bitLen (v : Int).toNat = Nat.log2 v + 1 := by
    rw [Int.toNat_natCast, bitLen, if_neg h0]
  rw [this]
  rfl

set_option maxHeartbeats 400000 in
theorem shift_any (at_ : Nat) (h : at_ ≤ 1000000000) (w : World) :
    Calls Try.prog 113 #[.int .i64 at_] w fun e w' => e = .returned (.int .i64 (7 - (at_ : Int) % 8)) ∧ w = w' := by
  go_enter Try.func113, Try.ntmps113
  go_wp2
  go_ret
  exact ⟨rfl, rfl⟩

/-- A Writer in memory: its block, and the bytes that it owns. -/
def WAt (w : World) (B g : Nat) (v : Value) (l : List Bool) : Prop :=
  B ≤ g ∧ w.heap[g]? = some (.cells #[v, .int .i64 l.length] 166 (0, 0)) ∧ w.ownsRow B 5 1 v (pack l).length (byteCells (pack l))
/-- What a Writer's method may touch. -/
structure Stepped (g : Nat) (v : Value) (w : World) (v' : Value) (w' : World) : Prop where
  os : w'.os = w.os
  tape : w'.tape = w.tape
  output : w'.output = w.output
  size : w.heap.size ≤ w'.heap.size
  block : ∀ k, k < w.heap.size → k ≠ g → v.ownBlock ≠ some k → w'.heap[k]? = w.heap[k]?
  own : ∀ k, v'.ownBlock = some k → v.ownBlock = some k ∨ w.heap.size ≤ k
theorem Stepped.refl (g : Nat) (v : Value) (w : World) : Stepped g v w v w := ⟨rfl, rfl, rfl, Nat.le_refl _, fun _ _ _ _ => rfl, fun _ h => .inl h⟩
theorem Stepped.trans {g : Nat} {v v1 v2 : Value} {w w1 w2 : World} (h : Stepped g v w v1 w1) (k : Stepped g v1 w1 v2 w2) : Stepped g v w v2 w2 :=
  ⟨k.os.trans h.os, k.tape.trans h.tape, k.output.trans h.output, Nat.le_trans h.size k.size, fun b hb hg hv =>
    (k.block b (Nat.lt_of_lt_of_le hb h.size) hg (fun e => by rcases h.own b e with e | e; exact hv e; omega)).trans (h.block b hb hg hv),
   fun b e => by
    rcases k.own b e with e | e
    · exact h.own b e
    · exact .inr (Nat.le_trans h.size e)⟩
theorem Stepped.below {B g : Nat} {v v' : Value} {w w' : World} (h : Stepped g v w v' w') (hB : B ≤ w.heap.size) (hg : B ≤ g) (hv : ∀ k, v.ownBlock = some k → B ≤ k) : Below B w w' :=
  ⟨h.os, h.tape, h.output, h.size, fun k hk => h.block k (by omega) (by omega) (fun e => by have := hv k e; omega)⟩
theorem WAt.below {w w' : World} {B g : Nat} {v v' : Value} {l : List Bool} (hw : WAt w B g v l) (h : Stepped g v w v' w') (hB : B ≤ w.heap.size) : Below B w w' :=
  h.below hB hw.1 (fun k e => (own_low hw.2.2 k e).1)
theorem WAt.lt {w : World} {B g : Nat} {v : Value} {l : List Bool} (hw : WAt w B g v l) : g < w.heap.size := (Array.getElem?_eq_some_iff.1 hw.2.1).1
theorem WAt.ne {w : World} {B g : Nat} {v : Value} {l : List Bool} (hw : WAt w B g v l) : v.ownBlock ≠ some g := by
  intro e
  obtain ⟨_, h1, h2⟩ := hw
  rcases h2.2 with ⟨rfl, _⟩ | ⟨g', cap, cur, rfl, hb, hh, _⟩
  · simp [Value.ownBlock] at e
  · simp only [Value.ownBlock, Option.some.injEq] at e
    subst e
    rw [h1] at hh
    injection hh with hh
    injection hh with _ ht
    exact absurd ht (by decide)

set_option maxHeartbeats 400000 in
theorem newWriter_any (w : World) :
    Calls Try.prog 74 #[] w fun e w' => e = .returned (.pointer (some ⟨w.heap.size, 0, none⟩)) ∧ w' = w.alloc (.cells #[.slice none 0 0, .int .i64 0] 166) := by
  go_enter Try.func74, Try.ntmps74
  go_wp2
  go_ret
  exact ⟨rfl, rfl⟩
theorem writer_new (w : World) : WAt (w.alloc (.cells #[.slice none 0 0, .int .i64 0] 166)) w.heap.size w.heap.size (.slice none 0 0) [] :=
  ⟨Nat.le_refl _, block_new w _, World.ownsRow_nil _ _ _ _⟩
set_option maxHeartbeats 400000 in
theorem len_any {w : World} {B g : Nat} {v : Value} {l : List Bool} (hw : WAt w B g v l) :
    Calls Try.prog 89 #[.pointer (some ⟨g, 0, none⟩)] w fun e w' => e = .returned (.int .i64 l.length) ∧ w = w' := by
  have c1 := cell_of (i := 1) hw.2.1 rfl
  clear hw
  go_enter Try.func89, Try.ntmps89
  go_wp2
  go_ret
  exact ⟨rfl, rfl⟩
end Go.Proofs.Ytbfnkmibbieijaa
