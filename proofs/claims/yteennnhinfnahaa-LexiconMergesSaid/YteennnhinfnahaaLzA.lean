/-
  WALKS over slices.SortStableFunc's family at numbers, first part: swapRangeCmpFunc, rotateCmpFunc. (From a world of the sort's to a world of the sort's: the kit's SW.)
-/
import Derived.Test.YteennnhinfnahaaProg
import Derived.Test.YteennnhinfnahaaLzM
import Derived.Shelf.SlSortCmp.Insertion1
import Derived.BigRegion
import Derived.Lib.Hide
namespace Go.Proofs.Yteennnhinfnahaa
open Go.RowKit Go.Shelf Go.Lib Go.Sort
set_option linter.unusedVariables false
set_option linter.unusedSimpArgs false
variable {α : Type} [Inhabited α]
theorem mixedLz : Try.prog.follows .mixedOrders = true := by kernel_rfl

set_option maxHeartbeats 4000000 in
set_option maxRecDepth 1000000 in
theorem swapRange_any (enc : α → Value) (blk off cap a b m : Nat) (vc : Value) (d0 d : Array α) (w0 w : World) (R : Row1 enc w0 blk off d0) (hs : d0.size = d.size) (S : SW enc w0 blk off d w) (hab : a + m ≤ b) (hb : b + m ≤ d.size) (hsz : d.size < 4611686018427387904) :
    Calls Try.prog 98 #[.slice (some ⟨blk, off, none⟩) d.size cap, .int .i64 a, .int .i64 b, .int .i64 m, vc] w fun e w' => e = .returned (.tuple #[]) ∧ ∃ d', SwR a b m d d' ∧ SW enc w0 blk off d' w' := by
  have mixed := mixedLz
  have S0 : Aside (SW enc w0 blk off d w) := S
  have HR : Aside (Row1 enc w0 blk off d0) := R
  have hcl0 := R.hO.cells
  simp only [Value.cells] at hcl0
  have hst := R.hO.store Try.prog
  clear S R
  go_enter Try.func98, Try.ntmps98
  go_wp2
  go_loopg [10] m (fun g1 vi wr => ∃ (i : Nat) (dk : Array α), vi = .int .i64 i ∧ i ≤ m ∧ m - i ≤ g1 ∧ Aside (SwR a b i d dk) ∧ Aside (SW enc w0 blk off dk wr))
  case atStart => exact ⟨0, d, by go_num, Nat.zero_le _, Nat.le_refl _, SwR.zero a b d, S0⟩
  case round =>
    clear S0
    obtain ⟨i, dk, rfl, hi, hg, HS, SJ⟩ := hrel
    by_cases hlt : i < m
    · have hltz : (i : Int) < (m : Int) := by omega
      have hsk : dk.size = d.size := HS.out.1
      have HS2 : Aside (SwR a b (i + 1) d (swp dk (a + i) (b + i))) := HS.out.step hab hlt hb
      obtain ⟨iN, hiN⟩ : ∃ q, q = a + i := ⟨_, rfl⟩
      obtain ⟨jN, hjN⟩ : ∃ q, q = b + i := ⟨_, rfl⟩
      have ea : ((a : Int) + (i : Int)).toNat = iN := by omega
      have pa : (0 : Int) ≤ (a : Int) + (i : Int) := by omega
      have ba : (a : Int) + (i : Int) < (d.size : Int) := by omega
      have ra : IntKind.i64.wrap ((a : Int) + (i : Int)) = (a : Int) + (i : Int) := by rw [IntKind.wrap_i64]; omega
      have ec : ((b : Int) + (i : Int)).toNat = jN := by omega
      have pc : (0 : Int) ≤ (b : Int) + (i : Int) := by omega
      have bc : (b : Int) + (i : Int) < (d.size : Int) := by omega
      have rc : IntKind.i64.wrap ((b : Int) + (i : Int)) = (b : Int) + (i : Int) := by rw [IntKind.wrap_i64]; omega
      obtain ⟨x, hx⟩ : ∃ x, x = dk[a + i]! := ⟨_, rfl⟩
      obtain ⟨y, hy⟩ : ∃ x, x = dk[b + i]! := ⟨_, rfl⟩
      have S3 : Aside (SW enc w0 blk off (swp dk (a + i) (b + i)) ((wr.setCell ⟨blk, off + iN, none⟩ (enc y)).setCell ⟨blk, off + jN, none⟩ (enc x)).drew) := by rw [hiN, hjN, hx, hy]; exact SJ.out.swapped HR.out (a + i) (b + i) (by omega) (by omega)
      have ca := SJ.out.c1 HR.out (by omega) (a + i) (by omega)
      have cb := SJ.out.c1 HR.out (by omega) (b + i) (by omega)
      have fa := SJ.out.f1 HR.out (by omega) (a + i) (by omega)
      have fb := SJ.out.f1 HR.out (by omega) (b + i) (by omega)
      obtain ⟨u, cc⟩ := SJ.out.c2 HR.out (by omega) (a + i) (b + i) (by omega) (by omega) (enc y)
      rw [← hjN, ← hiN] at cc
      rw [← hx, ← hiN] at ca
      rw [← hy, ← hjN] at cb
      rw [← hiN] at fa
      rw [← hjN] at fb
      clear SJ hx hy hiN hjN HS
      go_wp2_with fail
      go_big_region_o
      clear ca cb cc fa fb
      generalize ((wr.setCell ⟨blk, off + iN, none⟩ (enc y)).setCell ⟨blk, off + jN, none⟩ (enc x)).drew = w3 at S3 ⊢
      clear ea ec
      go_wp2
      go_roundg (m - (i + 1))
      case measure => omega
      case rel => exact ⟨i + 1, _, by go_num, by omega, Nat.le_refl _, HS2, S3⟩
    · have hltz : ¬ (i : Int) < (m : Int) := by omega
      obtain rfl : i = m := by omega
      go_wp2
      go_end0
      exact ⟨rfl, dk, HS.out, SJ.out⟩

/-- A rotation under way: what is left to rotate, and what comes of it. -/
def RotW (a m b i j : Nat) (d dk : Array α) : Prop := ∀ d', Rot (m - i) m (m + j) dk d' → Rot a m b d d'

set_option maxHeartbeats 4000000 in
set_option maxRecDepth 1000000 in
theorem rotate_any (enc : α → Value) (blk off cap a m b : Nat) (vc : Value) (d0 d : Array α) (w0 w : World) (R : Row1 enc w0 blk off d0) (hs : d0.size = d.size) (S : SW enc w0 blk off d w) (ham : a < m) (hmb : m < b) (hb : b ≤ d.size) (hsz : d.size < 4611686018427387904) :
    Calls Try.prog 89 #[.slice (some ⟨blk, off, none⟩) d.size cap, .int .i64 a, .int .i64 m, .int .i64 b, vc] w fun e w' => e = .returned (.tuple #[]) ∧ ∃ d', Rot a m b d d' ∧ SW enc w0 blk off d' w' := by
  have mixed := mixedLz
  have S0 : Aside (SW enc w0 blk off d w) := S
  have HR : Aside (Row1 enc w0 blk off d0) := R
  have r1 : IntKind.i64.wrap ((m : Int) - (a : Int)) = ((m - a : Nat) : Int) := by rw [IntKind.wrap_i64]; omega
  have r2 : IntKind.i64.wrap ((b : Int) - (m : Int)) = ((b - m : Nat) : Int) := by rw [IntKind.wrap_i64]; omega
  obtain ⟨i0, hi0⟩ : ∃ q, q = m - a := ⟨_, rfl⟩
  obtain ⟨j0, hj0⟩ : ∃ q, q = b - m := ⟨_, rfl⟩
  rw [← hi0] at r1
  rw [← hj0] at r2
  have HW0 : Aside (RotW a m b i0 j0 d d) := fun d' h => by rw [hi0, hj0] at h; rw [show m - (m - a) = a by omega, show m + (b - m) = b by omega] at h; exact h
  have F0 : Aside (0 < i0 ∧ i0 ≤ m ∧ 0 < j0 ∧ m + j0 ≤ d.size) := ⟨by omega, by omega, by omega, by omega⟩
  clear S R hi0 hj0
  go_enter Try.func89, Try.ntmps89
  go_wp2
  go_loopg [10, 11] (i0 + j0) (fun g1 vi vj wr => ∃ (i j : Nat) (dk : Array α), vi = .int .i64 i ∧ vj = .int .i64 j ∧ i + j ≤ g1 ∧ Aside (0 < i ∧ i ≤ m ∧ 0 < j ∧ m + j ≤ d.size) ∧ Aside (dk.size = d.size ∧ RotW a m b i j d dk) ∧ Aside (SW enc w0 blk off dk wr))
  case atStart => exact ⟨i0, j0, d, rfl, rfl, Nat.le_refl _, F0, ⟨rfl, HW0.out⟩, S0⟩
  case round =>
    clear S0 HW0 F0 r1 r2
    obtain ⟨i, j, dk, rfl, rfl, hg, HF, HS, SJ⟩ := hrel
    obtain ⟨f1, f2, f3, f4⟩ := HF.out
    have hsk := HS.out.1
    have rm : IntKind.i64.wrap ((m : Int) - (i : Int)) = ((m - i : Nat) : Int) := by rw [IntKind.wrap_i64]; omega
    have hsw : ∀ (x y z : Nat), x + z ≤ y → y + z ≤ dk.size → Calls Try.prog 98 #[.slice (some ⟨blk, off, none⟩) d.size cap, .int .i64 x, .int .i64 y, .int .i64 z, vc] wr fun e w' => e = .returned (.tuple #[]) ∧ ∃ d', SwR x y z dk d' ∧ SW enc w0 blk off d' w' := fun x y z h1 h2 => by
      have := swapRange_any enc blk off cap x y z vc d0 dk w0 wr HR.out (by omega) SJ.out h1 h2 (by omega)
      rw [hsk] at this
      exact this
    rcases Nat.lt_trichotomy i j with hlt | heq | hgt
    · have z1 : ((i : Int) != (j : Int)) = true := by simp; omega
      have z1' : ¬ (i : Int) = (j : Int) := by omega
      have z2 : decide ((i : Int) > (j : Int)) = false := decide_eq_false (by omega)
      have z2' : ¬ (j : Int) < (i : Int) := by omega
      have HC := Lib.hid (hsw (m - i) (m + j - i) i (by omega) (by omega))
      have ra : IntKind.i64.wrap ((m : Int) + (j : Int)) = ((m + j : Nat) : Int) := by rw [IntKind.wrap_i64]; omega
      have rb : IntKind.i64.wrap (((m + j : Nat) : Int) - (i : Int)) = ((m + j - i : Nat) : Int) := by rw [IntKind.wrap_i64]; omega
      have rj : IntKind.i64.wrap ((j : Int) - (i : Int)) = ((j - i : Nat) : Int) := by rw [IntKind.wrap_i64]; omega
      have HN : Aside (∀ d1, SwR (m - i) (m + j - i) i dk d1 → d1.size = d.size ∧ RotW a m b i (j - i) d d1) := fun d1 h => ⟨h.1.trans hsk, fun d' h' => HS.out.2 d' (Rot.right f2 f1 hlt h h')⟩
      have HF2 : Aside (0 < i ∧ i ≤ m ∧ 0 < j - i ∧ m + (j - i) ≤ d.size) := ⟨by omega, by omega, by omega, by omega⟩
      have hm2 : i + (j - i) < gk := by omega
      obtain ⟨p1, hp1⟩ : ∃ q, q = m - i := ⟨_, rfl⟩
      obtain ⟨p2, hp2⟩ : ∃ q, q = m + j := ⟨_, rfl⟩
      obtain ⟨p3, hp3⟩ : ∃ q, q = m + j - i := ⟨_, rfl⟩
      obtain ⟨p4, hp4⟩ : ∃ q, q = j - i := ⟨_, rfl⟩
      rw [← hp3, ← hp1] at HC HN
      rw [← hp1] at rm
      rw [← hp2] at ra
      rw [← hp3, ← hp2] at rb
      rw [← hp4] at rj HF2 HN hm2
      clear hp1 hp2 hp3 hp4 hsw hsk HS SJ HF f1 f2 f3 f4 hlt
      go_wp2_with (go_at_call 98; refine HC.out.mono ?_; rintro e w2 ⟨rfl, d1, h1, S1⟩)
      have HN1 := Lib.hid (HN.out d1 h1)
      have HS1 := Lib.hid (S1)
      clear HN h1 S1 HC
      go_wp2
      go_roundg (i + p4)
      case measure => exact hm2
      case rel => exact ⟨i, p4, d1, rfl, rfl, Nat.le_refl _, HF2, HN1, HS1⟩
    · subst heq
      have HC := Lib.hid (hsw (m - i) m i (by omega) (by omega))
      have HN : Aside (∀ d1, SwR (m - i) m i dk d1 → Rot a m b d d1) := fun d1 h => HS.out.2 d1 (Rot.last f2 h)
      obtain ⟨p1, hp1⟩ : ∃ q, q = m - i := ⟨_, rfl⟩
      rw [← hp1] at HC HN rm
      clear hp1 hsw hsk HS SJ HF f1 f2 f3 f4
      go_wp2_with (go_at_call 98; refine HC.out.mono ?_; rintro e w2 ⟨rfl, d1, h1, S1⟩)
      go_end0
      exact ⟨rfl, d1, HN.out d1 h1, S1⟩
    · have z1 : ((i : Int) != (j : Int)) = true := by simp; omega
      have z1' : ¬ (i : Int) = (j : Int) := by omega
      have z2 : decide ((i : Int) > (j : Int)) = true := decide_eq_true (by omega)
      have z2' : (j : Int) < (i : Int) := by omega
      have HC := Lib.hid (hsw (m - i) m j (by omega) (by omega))
      have ri : IntKind.i64.wrap ((i : Int) - (j : Int)) = ((i - j : Nat) : Int) := by rw [IntKind.wrap_i64]; omega
      have HN : Aside (∀ d1, SwR (m - i) m j dk d1 → d1.size = d.size ∧ RotW a m b (i - j) j d d1) := fun d1 h => ⟨h.1.trans hsk, fun d' h' => HS.out.2 d' (Rot.left f2 f3 hgt h h')⟩
      have HF2 : Aside (0 < i - j ∧ i - j ≤ m ∧ 0 < j ∧ m + j ≤ d.size) := ⟨by omega, by omega, by omega, by omega⟩
      have hm2 : i - j + j < gk := by omega
      obtain ⟨p1, hp1⟩ : ∃ q, q = m - i := ⟨_, rfl⟩
      obtain ⟨p4, hp4⟩ : ∃ q, q = i - j := ⟨_, rfl⟩
      rw [← hp1] at HC HN rm
      rw [← hp4] at ri HF2 HN hm2
      clear hp1 hp4 hsw hsk HS SJ HF f1 f2 f3 f4 hgt
      go_wp2_with (go_at_call 98; refine HC.out.mono ?_; rintro e w2 ⟨rfl, d1, h1, S1⟩)
      have HN1 := Lib.hid (HN.out d1 h1)
      have HS1 := Lib.hid (S1)
      clear HN h1 S1 HC
      go_wp2
      go_roundg (p4 + j)
      case measure => exact hm2
      case rel => exact ⟨p4, j, d1, rfl, rfl, Nat.le_refl _, HF2, HN1, HS1⟩
end Go.Proofs.Yteennnhinfnahaa
