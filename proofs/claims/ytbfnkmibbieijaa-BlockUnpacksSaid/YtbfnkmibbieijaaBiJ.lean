/-
  WALKS over package bitio, eighth part: a Writer's Bits and Unary; a call of a Writer, as the law makes it.
-/
import Derived.Test.YtbfnkmibbieijaaBiI
namespace Go.Proofs.Ytbfnkmibbieijaa
open Go.RowKit Go.Shelf Go.Lib

/-- A call of a Writer or a Reader. -/
structure CallL where
  kind : Int
  v : Nat
  n : Int
def callV (c : CallL) : Value := .agg #[.int .i64 c.kind, .int .u64 c.v, .int .i64 c.n]
def okCall (c : CallL) : Prop := -9223372036854775808 ≤ c.kind ∧ c.kind ≤ 9223372036854775807 ∧ c.v < 18446744073709551616 ∧ -9223372036854775808 ≤ c.n ∧ c.n ≤ 9223372036854775807
/-- The bits that a call appends, if it is no error. -/
def wrL (c : CallL) : Option (List Bool) :=
  if c.kind = 0 then (if c.n < 0 ∨ 64 < c.n ∨ 2 ^ c.n.toNat ≤ c.v then none else some (low c.v c.n.toNat))
  else if c.kind = 1 then (if c.n < 0 ∨ 4096 < c.n then none else some (una c.n.toNat))
  else if c.v = 0 then none
  else if c.kind = 2 then some (gam c.v) else some (del c.v)
theorem wrL_len (c : CallL) (h : okCall c) (bs : List Bool) (hb : wrL c = some bs) : bs.length ≤ 4097 := by
  obtain ⟨_, _, h2, _, _⟩ := h
  have hl := log_lt c.v h2
  unfold wrL at hb
  split at hb
  · split at hb
    · cases hb
    · injection hb with hb; subst hb; rw [low_len]; omega
  · split at hb
    · split at hb
      · cases hb
      · injection hb with hb; subst hb; rw [una_len]; omega
    · split at hb
      · cases hb
      · split at hb
        · injection hb with hb; subst hb; rw [gam_len]; omega
        · injection hb with hb; subst hb; rw [del_len]
          have := log_lt (Nat.log2 c.v + 1) (by omega)
          omega
/-- The error that a call answers. -/
def errW (o : Option (List Bool)) : Int := match o with | some _ => 0 | none => 1
def bitsW (o : Option (List Bool)) : List Bool := match o with | some l => l | none => []

set_option maxHeartbeats 400000 in
theorem wbits_out (p : Value) (x n : Int) (h : n < 0 ∨ 64 < n) (w : World) :
    Calls Try.prog 75 #[p, .int .u64 x, .int .i64 n] w fun e w' => e = .returned (.int .i64 1) ∧ w = w' := by
  rcases h with h | h
  · go_enter Try.func75, Try.ntmps75
    go_wp2
    go_ret
    exact ⟨rfl, rfl⟩
  · have h0 : 0 ≤ n := by omega
    go_enter Try.func75, Try.ntmps75
    go_wp2
    go_ret
    exact ⟨rfl, rfl⟩
theorem shr_small (x n : Nat) : ((x : Int) / 2 ^ n != 0) = decide (2 ^ n ≤ x) := by
  have e : (x : Int) / 2 ^ n = ((x / 2 ^ n : Nat) : Int) := by simp
  rw [e, Bool.eq_iff_iff]
  simp only [bne_iff_ne, ne_eq, decide_eq_true_eq]
  have hp : 0 < 2 ^ n := Nat.pow_pos (by decide)
  constructor
  · intro h
    rcases Nat.lt_or_ge x (2 ^ n) with hlt | hge
    · rw [Nat.div_eq_of_lt hlt] at h
      simp at h
    · exact hge
  · intro h h0
    have := (Nat.div_pos_iff).2 ⟨hp, h⟩
    omega
set_option maxHeartbeats 400000 in
theorem wbits_big (p : Value) (x n : Nat) (hn : n ≤ 64) (h : 2 ^ n ≤ x) (w : World) :
    Calls Try.prog 75 #[p, .int .u64 x, .int .i64 n] w fun e w' => e = .returned (.int .i64 1) ∧ w = w' := by
  have hs := shr_small x n
  rw [decide_eq_true h] at hs
  have hn1 : (n : Int) ≤ 64 := by omega
  clear h
  go_enter Try.func75, Try.ntmps75
  go_wp2
  go_ret
  exact ⟨rfl, rfl⟩
set_option maxHeartbeats 400000 in
theorem wbits_any {w : World} {B g : Nat} {v : Value} {l : List Bool} (hw : WAt w B g v l) (hB : B ≤ w.heap.size) (x n : Nat) (hx : x < 18446744073709551616) (hn : n ≤ 64) (h : x < 2 ^ n) (hl : l.length ≤ 900000) :
    Calls Try.prog 75 #[.pointer (some ⟨g, 0, none⟩), .int .u64 x, .int .i64 n] w fun e w' => ∃ v', e = .returned (.int .i64 0) ∧ WAt w' B g v' (l ++ low x n) ∧ Stepped g v w v' w' := by
  have hs := shr_small x n
  rw [decide_eq_false (by omega)] at hs
  have hn1 : (n : Int) ≤ 64 := by omega
  have HW := Lib.hid hw
  clear h hw
  go_enter Try.func75, Try.ntmps75
  go_wp2_with fail
  refine (push_any HW.out hB x n hx hn (by omega)).mono ?_
  rintro e w2 ⟨v2, rfl, hw2, hs2⟩
  have HW2 := Lib.hid hw2
  have HS2 := Lib.hid hs2
  clear hw2 hs2
  go_wp2_with fail
  go_ret
  exact ⟨v2, rfl, HW2.out, HS2.out⟩

/-- Between two rounds of Unary. -/
def NRel (B g : Nat) (l : List Bool) (n : Nat) (v : Value) (w : World) (i : Value) (wr : World) : Prop :=
  ∃ (k : Nat) (v' : Value), k ≤ n ∧ i = .int .i64 (k : Int) ∧ WAt wr B g v' (l ++ List.replicate k false) ∧ Stepped g v w v' wr ∧ B ≤ wr.heap.size
end Go.Proofs.Ytbfnkmibbieijaa
