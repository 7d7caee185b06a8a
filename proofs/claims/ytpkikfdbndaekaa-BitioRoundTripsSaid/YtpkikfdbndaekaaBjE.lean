/-
  WALKS over package corporaref02: Read, first part.
-/
import Derived.Test.YtpkikfdbndaekaaBjD
namespace Go.Proofs.Ytpkikfdbndaekaa
open Go.RowKit Go.Shelf Go.Lib

theorem below_drewN {B : Nat} {a w : World} (h : Below B a w) (n : Nat) : Below B a (w.drewN n) := ⟨h.os, h.tape, h.output, h.size, h.block⟩
theorem SeesC.to {w : World} {B n cap : Nat} {A : Option Addr} {xs : List Value} (h : SeesC w B (.slice A n cap) xs) (lo hi : Nat) (h1 : lo ≤ hi) (h2 : hi ≤ n) :
    ∃ v', (∀ W, (Instr.slice 38 (.slice A n cap) (some (.int .i64 (lo : Int))) (some (.int .i64 (hi : Int))) none).run Try.prog W = .ok v' W) ∧ SeesC w B v' ((xs.drop lo).take (hi - lo)) := by
  have hz1 : ∀ W : World, (sizeOf (Try.prog.elem 38)).run Try.prog W = .ok 1 W := fun W => by kernel_rfl
  rcases h with ⟨rfl, h⟩ | ⟨ad, cap', h, hc, hb, hj⟩
  · simp only [Value.slice.injEq] at h
    obtain ⟨rfl, rfl, rfl⟩ := h
    have h0 : hi = 0 := by omega
    have h3 : lo = 0 := by omega
    subst h0 h3
    refine ⟨.slice none 0 0, fun W => ?_, .inl ⟨by simp, rfl⟩⟩
    rw [run_slice_lh W 38 _ _ _ (by kernel_rfl) .i64 .i64 _ _ (by omega) (by omega) (by omega), hz1]
    simp [Result.andThen, sliced]
  · simp only [Value.slice.injEq] at h
    obtain ⟨rfl, rfl, rfl⟩ := h
    have hlen : ((xs.drop lo).take (hi - lo)).length = hi - lo := by rw [List.length_take, List.length_drop]; omega
    refine ⟨.slice (some (if cap = lo then ad else ad.add lo)) (hi - lo) (cap - lo), fun W => ?_, .inr ⟨if cap = lo then ad else ad.add lo, cap - lo, by rw [hlen], by rw [hlen]; omega, fun h => ?_, fun j u hu => ?_⟩⟩
    · rw [run_slice_lh W 38 _ _ _ (by kernel_rfl) .i64 .i64 _ _ (by omega) (by omega) (by omega), hz1]
      by_cases hcl : cap = lo
      · simp [Result.andThen, sliced, hcl]
      · simp [Result.andThen, sliced, hcl]
    · rw [hlen] at h
      rw [if_neg (by omega), block_add]
      exact hb (by omega)
    · have hjl := (List.getElem?_eq_some_iff.1 hu).1
      rw [hlen] at hjl
      rw [if_neg (by omega)]
      rw [List.getElem?_take_of_lt hjl, List.getElem?_drop] at hu
      have := hj (lo + j) u hu
      have e : (ad.add lo).add j = ad.add (lo + j) := by
        unfold Addr.add
        by_cases hi : lo = 0 <;> by_cases hj : j = 0 <;> simp [hi, hj, Nat.add_assoc]
      rw [e]
      exact this
theorem SeesC.mono {w : World} {B B' : Nat} {v : Value} {xs : List Value} (h : SeesC w B v xs) (hb : B ≤ B') : SeesC w B' v xs := by
  rcases h with h | ⟨ad, cap, hv, hc, h0, hj⟩
  · exact .inl h
  · exact .inr ⟨ad, cap, hv, hc, fun h => Nat.lt_of_lt_of_le (h0 h) hb, hj⟩
theorem SeesC.drewN {w : World} {B : Nat} {v : Value} {xs : List Value} (h : SeesC w B v xs) (n : Nat) : SeesC (w.drewN n) B v xs := h.keep fun _ _ => rfl
theorem bools_mid (l : List Bool) (lo k : Nat) : ((boolCells l).drop lo).take k = boolCells ((l.drop lo).take k) := by simp [boolCells, List.map_take, List.map_drop]

def RV (t : Nat × Nat × Nat) : Value := .tuple #[.int .u64 (t.1 : Nat), .int .i64 (t.2.1 : Nat), .int .i64 (t.2.2 : Nat)]
def ReadPost (w : World) (t : Nat × Nat × Nat) (e : Ending) (w' : World) : Prop := e = .returned (RV t) ∧ Below w.heap.size w w'

set_option maxRecDepth 100000 in
set_option maxHeartbeats 1000000 in
theorem refRead_bits {w : World} {v : Value} {l : List Bool} (hs : SeesC w w.heap.size v (boolCells l)) (hl : l.length ≤ 100000) (p : Nat) (hp : p ≤ l.length) (x n : Int) (hn1 : -9223372036854775808 ≤ n) (hn2 : n ≤ 9223372036854775807) :
    Calls Try.prog 27 #[v, .int .i64 p, .agg #[.int .i64 0, .int .u64 x, .int .i64 n]] w (ReadPost w (if n < 0 ∨ 64 < n then (0, p, 1) else rbits l p n.toNat)) := by
  obtain ⟨A, cap, hv, _, _⟩ := hs.form
  rw [boolCells_length] at hv
  obtain ⟨L, hL⟩ : ∃ L, l.length = L := ⟨_, rfl⟩
  rw [hL] at hv hl hp
  subst hv
  have hb1 : Below w.heap.size w (w.alloc (.cells #[.int .i64 0, .int .u64 x, .int .i64 n] 40)) := (Below.refl _ w).alloc (Nat.le_refl _) _
  have hs1 := hs.below hb1
  have HS := Lib.hid hs1
  have HB := Lib.hid hb1
  have HL := Lib.hid hL
  clear hs hs1 hb1 hL
  by_cases hout : n < 0 ∨ 64 < n
  · rw [if_pos hout]
    have HF : Hid (ReadPost w (0, p, 1) (.returned (.tuple #[.int .u64 0, .int .i64 p, .int .i64 1])) (w.alloc (.cells #[.int .i64 0, .int .u64 x, .int .i64 n] 40))) := ⟨rfl, HB.out⟩
    rcases hout with hneg | hbig
    · go_enter Try.func27, Try.ntmps27
      go_wp2
      go_ret3
      exact HF.out
    · have h0 : 0 ≤ n := by omega
      go_enter Try.func27, Try.ntmps27
      go_wp2
      go_ret3
      exact HF.out
  · rw [if_neg hout]
    obtain ⟨m, rfl⟩ : ∃ m : Nat, n = m := ⟨n.toNat, by omega⟩
    rw [Int.toNat_natCast]
    have hm : m ≤ 64 := by omega
    by_cases hlt : L - p < m
    · have hrb : rbits l p m = (0, p, 10) := by unfold rbits; rw [HL.out, if_pos hlt]
      rw [hrb]
      have HF : Hid (ReadPost w (0, p, 10) (.returned (.tuple #[.int .u64 0, .int .i64 p, .int .i64 10])) (w.alloc (.cells #[.int .i64 0, .int .u64 x, .int .i64 m] 40))) := ⟨rfl, HB.out⟩
      have hlt' : (L : Int) - (p : Int) < (m : Int) := by omega
      clear hrb hout hn1 hn2
      go_enter Try.func27, Try.ntmps27
      go_wp2
      go_ret3
      exact HF.out
    · have hrb : rbits l p m = (numL ((l.drop p).take m), p + m, 0) := by unfold rbits; rw [HL.out, if_neg hlt]
      rw [hrb]
      obtain ⟨v', hsl, hsv⟩ := HS.out.to p (p + m) (by omega) (by omega)
      rw [bools_mid, Nat.add_sub_cancel_left] at hsv
      have hnum := fun k => number_any (hsv.drewN k) (by rw [List.length_take]; omega)
      obtain ⟨N, hN⟩ : ∃ N, numL ((l.drop p).take m) = N := ⟨_, rfl⟩
      rw [hN] at hnum ⊢
      have hpm : IntKind.i64.wrap ((p : Int) + (m : Int)) = ((p + m : Nat) : Int) := by rw [IntKind.wrap_i64]; omega
      have hpm2 : (p : Int) + (m : Int) = ((p + m : Nat) : Int) := by omega
      have HF : Hid (∀ k, ReadPost w (N, p + m, 0) (.returned (.tuple #[.int .u64 (N : Nat), .int .i64 ((p + m : Nat) : Int), .int .i64 0])) ((w.alloc (.cells #[.int .i64 0, .int .u64 x, .int .i64 m] 40)).drewN k)) := fun k => ⟨rfl, below_drewN HB.out k⟩
      have hge : (m : Int) ≤ (L : Int) - (p : Int) := by omega
      have hm0 : (0 : Int) ≤ (m : Int) := by omega
      have hp0 : (0 : Int) ≤ (p : Int) := by omega
      obtain ⟨pm, hpmm⟩ : ∃ pm, p + m = pm := ⟨_, rfl⟩
      rw [hpmm] at hsl hpm hpm2 HF ⊢
      have hc2 : (w.alloc (.cells #[.int .i64 0, .int .u64 x, .int .i64 m] 40)).cell? ⟨w.heap.size, 2, none⟩ = some (.int .i64 m) := cell_of (i := 2) (block_new w _) rfl
      have HNUM := Lib.hid hnum
      clear hrb hout hn1 hn2 hsv hnum hN hpmm
      go_enter Try.func27, Try.ntmps27
      go_wp2
      go_quiet ((go_at_call 39; exact Calls.quiet_of_same (HNUM.out _)))
      go_wp2
      go_ret3
      exact HF.out _
end Go.Proofs.Ytpkikfdbndaekaa
