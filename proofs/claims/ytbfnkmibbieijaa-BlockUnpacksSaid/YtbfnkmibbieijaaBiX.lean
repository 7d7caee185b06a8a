/-
  WALKS over package bitio, ninth part: what a Reader is in memory; its bit, its Bits.
-/
import Derived.Test.YtbfnkmibbieijaaBiW
import Derived.Test.YtbfnkmibbieijaaBiV
namespace Go.Proofs.Ytbfnkmibbieijaa
open Go.RowKit Go.Shelf Go.Lib

/-- A Reader in memory: its block, the bytes that it owns, the number of its bits, its position. -/
def RAt (w : World) (B g : Nat) (vb : Value) (bs : List UInt8) (size p : Nat) : Prop :=
  B ≤ g ∧ w.heap[g]? = some (.cells #[vb, .int .i64 size, .int .i64 p] 152 (0, 0)) ∧ w.ownsRow B 5 1 vb bs.length (byteCells bs) ∧ p ≤ size ∧ size ≤ 8 * bs.length ∧ size ≤ 100000
theorem growb_trans {g : Nat} {a b c : World} (h : a.grownBy b (some g)) (k : b.grownBy c (some g)) : a.grownBy c (some g) :=
  ⟨k.os.trans h.os, k.tape.trans h.tape, k.output.trans h.output, Nat.le_trans h.size k.size, fun j hj hne => (k.block j (Nat.lt_of_lt_of_le hj h.size) hne).trans (h.block j hj hne)⟩
theorem grown_drew (g : Nat) (w : World) (n : Nat) : w.grownBy (w.drewN n) (some g) := ⟨rfl, rfl, rfl, Nat.le_refl _, fun _ _ _ => rfl⟩
theorem growb_below {g B : Nat} {w w' : World} (h : w.grownBy w' (some g)) (hg : B ≤ g) (hB : B ≤ w.heap.size) : Below B w w' :=
  (Below.refl B w).grown h hB (fun k e => by cases e; exact hg)
theorem RAt.ne {w : World} {B g : Nat} {vb : Value} {bs : List UInt8} {size p : Nat} (h : RAt w B g vb bs size p) : vb.ownBlock ≠ some g := by
  intro e
  obtain ⟨c, h1⟩ := own_elem h.2.2.1 e
  rw [h.2.1] at h1
  injection h1 with h1
  injection h1 with _ h1
  exact absurd h1 (by decide)
theorem RAt.lt {w : World} {B g : Nat} {vb : Value} {bs : List UInt8} {size p : Nat} (h : RAt w B g vb bs size p) : g < w.heap.size := (Array.getElem?_eq_some_iff.1 h.2.1).1
theorem RAt.heap {w w' : World} {B g : Nat} {vb : Value} {bs : List UInt8} {size p : Nat} (h : RAt w B g vb bs size p) (hh : ∀ k, k < w.heap.size → w'.heap[k]? = w.heap[k]?) : RAt w' B g vb bs size p :=
  ⟨h.1, (hh g h.lt).trans h.2.1, own_below h.2.2.1 (fun k e => hh k (own_low h.2.2.1 k e).2), h.2.2.2⟩
theorem RAt.drewN {w : World} {B g : Nat} {vb : Value} {bs : List UInt8} {size p : Nat} (h : RAt w B g vb bs size p) (n : Nat) : RAt (w.drewN n) B g vb bs size p := h.heap fun _ _ => rfl
/-- The position is moved. -/
theorem RAt.move {w : World} {B g : Nat} {vb : Value} {bs : List UInt8} {size p : Nat} (h : RAt w B g vb bs size p) (p' : Nat) (P : Int) (hP : P = p') (hp : p' ≤ size) : RAt (w.setCell ⟨g, 2, none⟩ (.int .i64 P)) B g vb bs size p' ∧ w.grownBy (w.setCell ⟨g, 2, none⟩ (.int .i64 P)) (some g) := by
  subst hP
  refine ⟨⟨h.1, ?_, own_below h.2.2.1 (fun k e => Below.heap_setCell _ _ _ _ (fun e2 => by subst e2; exact h.ne e)), hp, h.2.2.2.2⟩, ⟨rfl, rfl, rfl, by simp [World.setCell], fun k _ hne => Below.heap_setCell _ _ _ _ (fun e => hne (by rw [e]))⟩⟩
  rw [set_of h.2.1 (i := 2)]
  simp
theorem rat_cells {w : World} {B g : Nat} {vb : Value} {bs : List UInt8} {size p : Nat} (h : RAt w B g vb bs size p) : w.cell? ⟨g, 0, none⟩ = some vb ∧ w.cell? ⟨g, 1, none⟩ = some (.int .i64 size) ∧ w.cell? ⟨g, 2, none⟩ = some (.int .i64 p) ∧ w.frozen? ⟨g, 2, none⟩ = false :=
  ⟨cell_of (i := 0) h.2.1 rfl, cell_of (i := 1) h.2.1 rfl, cell_of (i := 2) h.2.1 rfl, frozen_of h.2.1⟩

theorem bit_val (y sh : Nat) (hy : y < 256) : bits .and .u8 ((y : Int) / 2 ^ sh) 1 = ((y / 2 ^ sh % 2 : Nat) : Int) := by
  have e : (y : Int) / 2 ^ sh = ((y / 2 ^ sh : Nat) : Int) := by simp
  have hle : y / 2 ^ sh ≤ y := Nat.div_le_self _ _
  have e1 := u8_and_nat (y / 2 ^ sh) 1 (by omega) (by omega)
  rw [Nat.and_one_is_mod] at e1
  rw [e]
  exact e1

set_option maxHeartbeats 1000000 in
theorem sbit_any {w : World} {B g : Nat} {vb : Value} {bs : List UInt8} {size p : Nat} (h : RAt w B g vb bs size p) (q : Nat) (hq : q < size) (b : Bool) (hb : (unpack bs size)[q]? = some b) :
    Calls Try.prog 92 #[.pointer (some ⟨g, 0, none⟩), .int .i64 q] w fun e w' => e = .returned (.int .u64 (b.toNat : Nat)) ∧ ∃ m, w' = w.drewN m := by
  obtain ⟨_, hcell, hown, _, hs8, hsz⟩ := h
  obtain ⟨a, cap, rfl, _, _⟩ := hown.form (by omega)
  have c0 : w.cell? ⟨g, 0, none⟩ = some (.slice (some ⟨a, 0, none⟩) bs.length cap) := cell_of (i := 0) hcell rfl
  rw [unpack_at _ _ _ hq] at hb
  have hj : q / 8 < bs.length := by omega
  have hcb := hown.cellAt (q / 8) (by omega)
  have hcb2 : (byteCells bs)[q / 8]? = some (.int .u8 ((bs[q / 8]).toNat : Int)) := by simp [byteCells, hj]
  rw [hcb2] at hcb
  have hgd : bs.getD (q / 8) 0 = bs[q / 8] := by simp [List.getD, hj]
  rw [hgd] at hb
  have hy256 := UInt8.toNat_lt bs[q / 8]
  obtain ⟨y, hy⟩ : ∃ y, (bs[q / 8]).toNat = y := ⟨_, rfl⟩
  rw [hy] at hcb hb hy256
  obtain ⟨n, hn⟩ : ∃ n, bs.length = n := ⟨_, rfl⟩
  rw [hn] at c0 hj
  obtain ⟨j, hjj⟩ : ∃ j, q / 8 = j := ⟨_, rfl⟩
  rw [hjj] at hcb hj
  obtain ⟨sh, hsh⟩ : ∃ sh, 7 - q % 8 = sh := ⟨_, rfl⟩
  rw [hsh] at hb
  have hval := bit_val y sh hy256
  have hbv : ((y / 2 ^ sh % 2 : Nat) : Int) = ((b.toNat : Nat) : Int) := by
    injection hb with hb
    rw [← hb, bit_toNat]
  rw [hbv] at hval
  have hbt : b.toNat ≤ 1 := Bool.toNat_le b
  obtain ⟨d, hd⟩ : ∃ d, b.toNat = d := ⟨_, rfl⟩
  rw [hd] at hval hbt ⊢
  have hje : (q : Int).tdiv 8 = (j : Int) := by rw [Int.tdiv_eq_ediv_of_nonneg (by omega)]; omega
  have hje2 : (q : Int) / 8 = (j : Int) := by omega
  have hjw : IntKind.i64.wrap (j : Int) = (j : Int) := by rw [IntKind.wrap_i64]; omega
  have hdw : IntKind.u64.wrap (d : Int) = (d : Int) := by rw [IntKind.wrap_u64]; omega
  have hj0 : (0 : Int) ≤ (j : Int) := by omega
  have hjn : (j : Int) < (n : Int) := by omega
  have hs0 : (0 : Int) ≤ (sh : Int) := by omega
  have hsc : ∀ W, Calls Try.prog 113 #[.int .i64 (q : Int)] W (fun e w'' => e = .returned (.int .i64 (sh : Int)) ∧ w'' = W) := by
    intro W
    refine (shift_any q (by omega) W).mono ?_
    rintro e w'' ⟨rfl, rfl⟩
    refine ⟨?_, rfl⟩
    congr 2
    omega
  have HSC := Lib.hid hsc
  have hsh7 : sh ≤ 8 := by omega
  have hres : IntKind.u64.wrap (bits .and .u8 ((y : Int) / 2 ^ min sh 8) 1) = (d : Int) := by rw [Nat.min_eq_left hsh7, hval, hdw]
  have HR := Lib.hid hres
  clear hres hval hdw hsh7 hsc hcell hown hb hy hn hjj hsh hbv hd hgd hcb2 hbt
  go_enter Try.func92, Try.ntmps92
  go_wp2
  go_quiet ((go_at_call 113; exact Calls.quiet_of_same (HSC.out _)))
  go_wp2
  go_ret
  exact ⟨congrArg Ending.returned (congrArg (Value.int .u64) HR.out), _, rfl⟩

set_option maxHeartbeats 400000 in
theorem left_any {w : World} {B g : Nat} {vb : Value} {bs : List UInt8} {size p : Nat} (h : RAt w B g vb bs size p) (q : Nat) (hq : q ≤ size) :
    Calls Try.prog 91 #[.pointer (some ⟨g, 0, none⟩), .int .i64 q] w fun e w' => e = .returned (.int .i64 ((size - q : Nat) : Int)) ∧ w' = w := by
  obtain ⟨_, c1, _, _⟩ := rat_cells h
  have hsz := h.2.2.2.2.2
  have hsub : ((size - q : Nat) : Int) = (size : Int) - (q : Int) := by omega
  rw [hsub]
  clear h hsub
  go_enter Try.func91, Try.ntmps91
  go_wp2
  go_ret
  exact ⟨rfl, rfl⟩
end Go.Proofs.Ytbfnkmibbieijaa
