/-
  WALKS over slices.SortStableFunc's family at numbers, first part: swapRangeCmpFunc, rotateCmpFunc. (From a world of the sort's to a world of the sort's: the kit's SW.)
  WALKS over slices.SortStableFunc's family at numbers, second part: symMergeCmpFunc: one element on a side.
  WALKS over slices.SortStableFunc's family at numbers, third part: symMergeCmpFunc.
  WALKS over slices.SortStableFunc's family at numbers, fourth part: stableCmpFunc, SortStableFunc.
-/
import Derived.Test.YteennnhinfnahaaProg
import Derived.Test.YteennnhinfnahaaLzMq
import Derived.Shelf.SlSortCmp.Insertion1
import Derived.BigRegion
import Derived.Lib.Hide
import Derived.BigQuiet
import Derived.Test.YteennnhinfnahaaShf
namespace Go.Proofs.Yteennnhinfnahaa
open Go.RowKit Go.Shelf Go.Lib Go.Sort
set_option linter.unusedVariables false
set_option linter.unusedSimpArgs false
variable {α : Type} [Inhabited α]
theorem mixedLz : Try.prog.follows .mixedOrders = true := by kernel_rfl

set_option maxHeartbeats 4000000 in
set_option maxRecDepth 1000000 in
theorem swapRange_any (enc : α → Value) (blk off cap a b m : Nat) (vc : Value) (d0 d : Array α) (w0 w : World) (R : Row1 enc w0 blk off d0) (hs : d0.size = d.size) (S : SW enc w0 blk off d w) (hab : a + m ≤ b) (hb : b + m ≤ d.size) (hsz : d.size < 4611686018427387904) :
    Calls Try.prog 98 #[.slice (some ⟨blk, off, none⟩) d.size cap, .int .i64 a, .int .i64 b, .int .i64 m, vc] w fun e w' => e = .returned (.tuple #[]) ∧ ∃ d', SwR a b m d d' ∧ SW enc w0 blk off d' w' := by
  have mixed := mixedLz
  have S0 : Aside (SW enc w0 blk off d w) := S
  have HR : Aside (Row1 enc w0 blk off d0) := R
  have hcl0 := R.hO.cells
  simp only [Value.cells] at hcl0
  have hst := R.hO.store Try.prog
  clear S R
  go_enter Try.func98, Try.ntmps98
  go_wp2
  go_loopg [10] m (fun g1 vi wr => ∃ (i : Nat) (dk : Array α), vi = .int .i64 i ∧ i ≤ m ∧ m - i ≤ g1 ∧ Aside (SwR a b i d dk) ∧ Aside (SW enc w0 blk off dk wr))
  case atStart => exact ⟨0, d, by go_num, Nat.zero_le _, Nat.le_refl _, SwR.zero a b d, S0⟩
  case round =>
    clear S0
    obtain ⟨i, dk, rfl, hi, hg, HS, SJ⟩ := hrel
    by_cases hlt : i < m
    · have hltz : (i : Int) < (m : Int) := by omega
      have hsk : dk.size = d.size := HS.out.1
      have HS2 : Aside (SwR a b (i + 1) d (swp dk (a + i) (b + i))) := HS.out.step hab hlt hb
      obtain ⟨iN, hiN⟩ : ∃ q, q = a + i := ⟨_, rfl⟩
      obtain ⟨jN, hjN⟩ : ∃ q, q = b + i := ⟨_, rfl⟩
      have ea : ((a : Int) + (i : Int)).toNat = iN := by omega
      have pa : (0 : Int) ≤ (a : Int) + (i : Int) := by omega
      have ba : (a : Int) + (i : Int) < (d.size : Int) := by omega
      have ra : IntKind.i64.wrap ((a : Int) + (i : Int)) = (a : Int) + (i : Int) := by rw [IntKind.wrap_i64]; omega
      have ec : ((b : Int) + (i : Int)).toNat = jN := by omega
      have pc : (0 : Int) ≤ (b : Int) + (i : Int) := by omega
      have bc : (b : Int) + (i : Int) < (d.size : Int) := by omega
      have rc : IntKind.i64.wrap ((b : Int) + (i : Int)) = (b : Int) + (i : Int) := by rw [IntKind.wrap_i64]; omega
      obtain ⟨x, hx⟩ : ∃ x, x = dk[a + i]! := ⟨_, rfl⟩
      obtain ⟨y, hy⟩ : ∃ x, x = dk[b + i]! := ⟨_, rfl⟩
      have S3 : Aside (SW enc w0 blk off (swp dk (a + i) (b + i)) ((wr.setCell ⟨blk, off + iN, none⟩ (enc y)).setCell ⟨blk, off + jN, none⟩ (enc x)).drew) := by rw [hiN, hjN, hx, hy]; exact SJ.out.swapped HR.out (a + i) (b + i) (by omega) (by omega)
      have ca := SJ.out.c1 HR.out (by omega) (a + i) (by omega)
      have cb := SJ.out.c1 HR.out (by omega) (b + i) (by omega)
      have fa := SJ.out.f1 HR.out (by omega) (a + i) (by omega)
      have fb := SJ.out.f1 HR.out (by omega) (b + i) (by omega)
      obtain ⟨u, cc⟩ := SJ.out.c2 HR.out (by omega) (a + i) (b + i) (by omega) (by omega) (enc y)
      rw [← hjN, ← hiN] at cc
      rw [← hx, ← hiN] at ca
      rw [← hy, ← hjN] at cb
      rw [← hiN] at fa
      rw [← hjN] at fb
      clear SJ hx hy hiN hjN HS
      go_wp2_with fail
      go_big_region_o
      clear ca cb cc fa fb
      generalize ((wr.setCell ⟨blk, off + iN, none⟩ (enc y)).setCell ⟨blk, off + jN, none⟩ (enc x)).drew = w3 at S3 ⊢
      clear ea ec
      go_wp2
      go_roundg (m - (i + 1))
      case measure => omega
      case rel => exact ⟨i + 1, _, by go_num, by omega, Nat.le_refl _, HS2, S3⟩
    · have hltz : ¬ (i : Int) < (m : Int) := by omega
      obtain rfl : i = m := by omega
      go_wp2
      go_end0
      exact ⟨rfl, dk, HS.out, SJ.out⟩

/-- A rotation under way: what is left to rotate, and what comes of it. -/
def RotW (a m b i j : Nat) (d dk : Array α) : Prop := ∀ d', Rot (m - i) m (m + j) dk d' → Rot a m b d d'

set_option maxHeartbeats 4000000 in
set_option maxRecDepth 1000000 in
theorem rotate_any (enc : α → Value) (blk off cap a m b : Nat) (vc : Value) (d0 d : Array α) (w0 w : World) (R : Row1 enc w0 blk off d0) (hs : d0.size = d.size) (S : SW enc w0 blk off d w) (ham : a < m) (hmb : m < b) (hb : b ≤ d.size) (hsz : d.size < 4611686018427387904) :
    Calls Try.prog 89 #[.slice (some ⟨blk, off, none⟩) d.size cap, .int .i64 a, .int .i64 m, .int .i64 b, vc] w fun e w' => e = .returned (.tuple #[]) ∧ ∃ d', Rot a m b d d' ∧ SW enc w0 blk off d' w' := by
  have mixed := mixedLz
  have S0 : Aside (SW enc w0 blk off d w) := S
  have HR : Aside (Row1 enc w0 blk off d0) := R
  have r1 : IntKind.i64.wrap ((m : Int) - (a : Int)) = ((m - a : Nat) : Int) := by rw [IntKind.wrap_i64]; omega
  have r2 : IntKind.i64.wrap ((b : Int) - (m : Int)) = ((b - m : Nat) : Int) := by rw [IntKind.wrap_i64]; omega
  obtain ⟨i0, hi0⟩ : ∃ q, q = m - a := ⟨_, rfl⟩
  obtain ⟨j0, hj0⟩ : ∃ q, q = b - m := ⟨_, rfl⟩
  rw [← hi0] at r1
  rw [← hj0] at r2
  have HW0 : Aside (RotW a m b i0 j0 d d) := fun d' h => by rw [hi0, hj0] at h; rw [show m - (m - a) = a by omega, show m + (b - m) = b by omega] at h; exact h
  have F0 : Aside (0 < i0 ∧ i0 ≤ m ∧ 0 < j0 ∧ m + j0 ≤ d.size) := ⟨by omega, by omega, by omega, by omega⟩
  clear S R hi0 hj0
  go_enter Try.func89, Try.ntmps89
  go_wp2
  go_loopg [10, 11] (i0 + j0) (fun g1 vi vj wr => ∃ (i j : Nat) (dk : Array α), vi = .int .i64 i ∧ vj = .int .i64 j ∧ i + j ≤ g1 ∧ Aside (0 < i ∧ i ≤ m ∧ 0 < j ∧ m + j ≤ d.size) ∧ Aside (dk.size = d.size ∧ RotW a m b i j d dk) ∧ Aside (SW enc w0 blk off dk wr))
  case atStart => exact ⟨i0, j0, d, rfl, rfl, Nat.le_refl _, F0, ⟨rfl, HW0.out⟩, S0⟩
  case round =>
    clear S0 HW0 F0 r1 r2
    obtain ⟨i, j, dk, rfl, rfl, hg, HF, HS, SJ⟩ := hrel
    obtain ⟨f1, f2, f3, f4⟩ := HF.out
    have hsk := HS.out.1
    have rm : IntKind.i64.wrap ((m : Int) - (i : Int)) = ((m - i : Nat) : Int) := by rw [IntKind.wrap_i64]; omega
    have hsw : ∀ (x y z : Nat), x + z ≤ y → y + z ≤ dk.size → Calls Try.prog 98 #[.slice (some ⟨blk, off, none⟩) d.size cap, .int .i64 x, .int .i64 y, .int .i64 z, vc] wr fun e w' => e = .returned (.tuple #[]) ∧ ∃ d', SwR x y z dk d' ∧ SW enc w0 blk off d' w' := fun x y z h1 h2 => by
      have := swapRange_any enc blk off cap x y z vc d0 dk w0 wr HR.out (by omega) SJ.out h1 h2 (by omega)
      rw [hsk] at this
      exact this
    rcases Nat.lt_trichotomy i j with hlt | heq | hgt
    · have z1 : ((i : Int) != (j : Int)) = true := by simp; omega
      have z1' : ¬ (i : Int) = (j : Int) := by omega
      have z2 : decide ((i : Int) > (j : Int)) = false := decide_eq_false (by omega)
      have z2' : ¬ (j : Int) < (i : Int) := by omega
      have HC := Lib.hid (hsw (m - i) (m + j - i) i (by omega) (by omega))
      have ra : IntKind.i64.wrap ((m : Int) + (j : Int)) = ((m + j : Nat) : Int) := by rw [IntKind.wrap_i64]; omega
      have rb : IntKind.i64.wrap (((m + j : Nat) : Int) - (i : Int)) = ((m + j - i : Nat) : Int) := by rw [IntKind.wrap_i64]; omega
      have rj : IntKind.i64.wrap ((j : Int) - (i : Int)) = ((j - i : Nat) : Int) := by rw [IntKind.wrap_i64]; omega
      have HN : Aside (∀ d1, SwR (m - i) (m + j - i) i dk d1 → d1.size = d.size ∧ RotW a m b i (j - i) d d1) := fun d1 h => ⟨h.1.trans hsk, fun d' h' => HS.out.2 d' (Rot.right f2 f1 hlt h h')⟩
      have HF2 : Aside (0 < i ∧ i ≤ m ∧ 0 < j - i ∧ m + (j - i) ≤ d.size) := ⟨by omega, by omega, by omega, by omega⟩
      have hm2 : i + (j - i) < gk := by omega
      obtain ⟨p1, hp1⟩ : ∃ q, q = m - i := ⟨_, rfl⟩
      obtain ⟨p2, hp2⟩ : ∃ q, q = m + j := ⟨_, rfl⟩
      obtain ⟨p3, hp3⟩ : ∃ q, q = m + j - i := ⟨_, rfl⟩
      obtain ⟨p4, hp4⟩ : ∃ q, q = j - i := ⟨_, rfl⟩
      rw [← hp3, ← hp1] at HC HN
      rw [← hp1] at rm
      rw [← hp2] at ra
      rw [← hp3, ← hp2] at rb
      rw [← hp4] at rj HF2 HN hm2
      clear hp1 hp2 hp3 hp4 hsw hsk HS SJ HF f1 f2 f3 f4 hlt
      go_wp2_with (go_at_call 98; refine HC.out.mono ?_; rintro e w2 ⟨rfl, d1, h1, S1⟩)
      have HN1 := Lib.hid (HN.out d1 h1)
      have HS1 := Lib.hid (S1)
      clear HN h1 S1 HC
      go_wp2
      go_roundg (i + p4)
      case measure => exact hm2
      case rel => exact ⟨i, p4, d1, rfl, rfl, Nat.le_refl _, HF2, HN1, HS1⟩
    · subst heq
      have HC := Lib.hid (hsw (m - i) m i (by omega) (by omega))
      have HN : Aside (∀ d1, SwR (m - i) m i dk d1 → Rot a m b d d1) := fun d1 h => HS.out.2 d1 (Rot.last f2 h)
      obtain ⟨p1, hp1⟩ : ∃ q, q = m - i := ⟨_, rfl⟩
      rw [← hp1] at HC HN rm
      clear hp1 hsw hsk HS SJ HF f1 f2 f3 f4
      go_wp2_with (go_at_call 98; refine HC.out.mono ?_; rintro e w2 ⟨rfl, d1, h1, S1⟩)
      go_end0
      exact ⟨rfl, d1, HN.out d1 h1, S1⟩
    · have z1 : ((i : Int) != (j : Int)) = true := by simp; omega
      have z1' : ¬ (i : Int) = (j : Int) := by omega
      have z2 : decide ((i : Int) > (j : Int)) = true := decide_eq_true (by omega)
      have z2' : (j : Int) < (i : Int) := by omega
      have HC := Lib.hid (hsw (m - i) m j (by omega) (by omega))
      have ri : IntKind.i64.wrap ((i : Int) - (j : Int)) = ((i - j : Nat) : Int) := by rw [IntKind.wrap_i64]; omega
      have HN : Aside (∀ d1, SwR (m - i) m j dk d1 → d1.size = d.size ∧ RotW a m b (i - j) j d d1) := fun d1 h => ⟨h.1.trans hsk, fun d' h' => HS.out.2 d' (Rot.left f2 f3 hgt h h')⟩
      have HF2 : Aside (0 < i - j ∧ i - j ≤ m ∧ 0 < j ∧ m + j ≤ d.size) := ⟨by omega, by omega, by omega, by omega⟩
      have hm2 : i - j + j < gk := by omega
      obtain ⟨p1, hp1⟩ : ∃ q, q = m - i := ⟨_, rfl⟩
      obtain ⟨p4, hp4⟩ : ∃ q, q = i - j := ⟨_, rfl⟩
      rw [← hp1] at HC HN rm
      rw [← hp4] at ri HF2 HN hm2
      clear hp1 hp4 hsw hsk HS SJ HF f1 f2 f3 f4 hgt
      go_wp2_with (go_at_call 98; refine HC.out.mono ?_; rintro e w2 ⟨rfl, d1, h1, S1⟩)
      have HN1 := Lib.hid (HN.out d1 h1)
      have HS1 := Lib.hid (S1)
      clear HN h1 S1 HC
      go_wp2
      go_roundg (p4 + j)
      case measure => exact hm2
      case rel => exact ⟨p4, j, d1, rfl, rfl, Nat.le_refl _, HF2, HN1, HS1⟩
end Go.Proofs.Yteennnhinfnahaa
namespace Go.Proofs.Yteennnhinfnahaa
open Go.RowKit Go.Shelf Go.Lib Go.Sort
set_option linter.unusedVariables false
set_option linter.unusedSimpArgs false
variable {α : Type} [Inhabited α]

/-- What a merge leaves. -/
def SymV (enc : α → Value) (lt : α → α → Bool) (nu : α → Nat) (w0 : World) (blk off a b : Nat) (d : Array α) (e : Ending) (w' : World) : Prop := e = .returned (.tuple #[]) ∧ ∃ d', Mrg lt nu a b d d' ∧ SW enc w0 blk off d' w'

set_option maxHeartbeats 8000000 in
set_option maxRecDepth 1000000 in
theorem symLeft_any (enc : α → Value) (cf : α → α → Int) (nu : α → Nat) (O : SWO (ltOf cf)) (g : Nat) (cb : Array Value) (blk off cap a m b : Nat) (d0 d : Array α) (w0 w : World)
    (eg : ∀ args w, (callFunc g args).run Try.prog w = .ok (.enter g args) w) (hcmp : CmpLays1 Try.prog g cb enc cf blk off d0.size w0) (R : Row1 enc w0 blk off d0) (hs : d0.size = d.size) (S : SW enc w0 blk off d w)
    (hm : m = a + 1) (hmb : m < b) (hb : b ≤ d.size) (hsz : d.size < 4611686018427387904) (hr : SoT (ltOf cf) nu d m b) (ho : Old nu d a m b) :
    Calls Try.prog 76 #[.slice (some ⟨blk, off, none⟩) d.size cap, .int .i64 a, .int .i64 m, .int .i64 b, .func (.func g) #[] cb] w (SymV enc (ltOf cf) nu w0 blk off a b d) := by
  have mixed := mixedLz
  have S0 : Aside (SW enc w0 blk off d w) := S
  have HR : Aside (Row1 enc w0 blk off d0) := R
  have HC : Aside _ := hcmp
  have HEND : Aside (∀ i e, a + 1 ≤ i → i ≤ b → (i = a + 1 ∨ (ltOf cf) d[i - 1]! d[a]! = true) → (i = b ∨ (ltOf cf) d[i]! d[a]! = false) → Rot a (a + 1) i d e → Mrg (ltOf cf) nu a b d e) := fun i e h1 h2 P1 P2 hR => mrg_one_left O h1 h2 (by rw [hm] at hr; exact hr) (by rw [hm] at ho; exact ho) P1 P2 hR
  have hcl0 := R.hO.cells
  simp only [Value.cells] at hcl0
  have hst := R.hO.store Try.prog
  have hm1 : (m : Int) = (a : Int) + 1 := by omega
  have r0 : IntKind.i64.wrap ((m : Int) - (a : Int)) = 1 := by rw [IntKind.wrap_i64]; omega
  have ham : a < m := by omega
  have HM : Aside (m = a + 1) := hm
  have haI : (a : Int) < (d.size : Int) := by omega
  clear S R hcmp hr ho hm hm1 O
  go_enter Try.func76, Try.ntmps76
  go_wp2
  go_loopg [10, 11] (b - m) (fun g1 vi vj wr => ∃ i j : Nat, vi = .int .i64 i ∧ vj = .int .i64 j ∧ m ≤ i ∧ i ≤ j ∧ j ≤ b ∧ j - i ≤ g1 ∧ Aside ((i = a + 1 ∨ (ltOf cf) d[i - 1]! d[a]! = true) ∧ (j = b ∨ (ltOf cf) d[j]! d[a]! = false)) ∧ Aside (SW enc w0 blk off d wr))
  case atStart => exact ⟨m, b, rfl, rfl, Nat.le_refl _, by omega, Nat.le_refl _, Nat.le_refl _, ⟨Or.inl HM.out, Or.inl rfl⟩, S0⟩
  case round =>
    clear S0
    obtain ⟨i, j, rfl, rfl, hmi, hij, hjb, hg, HP, SJ⟩ := hrel
    by_cases hlt : i < j
    · have hltz : (i : Int) < (j : Int) := by omega
      obtain ⟨h, hh⟩ : ∃ h, h = (i + j) / 2 := ⟨_, rfl⟩
      have hhI : ((i : Int) + (j : Int)) / 2 = (h : Int) := by omega
      have rij : IntKind.i64.wrap ((i : Int) + (j : Int)) = (i : Int) + (j : Int) := by rw [IntKind.wrap_i64]; omega
      have hb1 : i ≤ h := by omega
      have hb2 : h < j := by omega
      have hhs : (h : Int) < (d.size : Int) := by omega
      clear hh
      obtain ⟨x, hx⟩ : ∃ x, x = d[h]! := ⟨_, rfl⟩
      obtain ⟨y, hy⟩ : ∃ x, x = d[a]! := ⟨_, rfl⟩
      have l1 := SJ.out.cl HR.out (by omega) h (by omega)
      have l2 := SJ.out.cl HR.out (by omega) a (by omega)
      rw [← hx] at l1
      rw [← hy] at l2
      have hc1 := SJ.out.cmp HC.out (by omega) x y
      cases hlv : (ltOf cf) d[h]! d[a]! with
      | true =>
        have hv : cf x y < 0 := by rw [hx, hy]; exact of_decide_eq_true hlv
        have hd1 : decide (cf x y < 0) = true := decide_eq_true hv
        have HP2 : Aside ((h + 1 = a + 1 ∨ (ltOf cf) d[h + 1 - 1]! d[a]! = true) ∧ (j = b ∨ (ltOf cf) d[j]! d[a]! = false)) := ⟨Or.inr hlv, HP.out.2⟩
        clear hx hy hlv HP
        go_wp2_with fail
        go_quiet_grown (first | (go_at_fn g; refine Calls.grown_of (hc1 _ _)))
        have S2 : Aside (SW enc w0 blk off d (grow (wr.drewN nq) osq)) := SJ.out.grown nq osq
        clear l1 l2 hc1 SJ
        generalize grow (wr.drewN nq) osq = w2 at S2 ⊢
        clear nq osq
        go_wp2
        go_roundg (j - (h + 1))
        case measure => omega
        case rel => exact ⟨h + 1, j, by go_num, rfl, by omega, by omega, hjb, Nat.le_refl _, HP2, S2⟩
      | false =>
        have hv : ¬ cf x y < 0 := by rw [hx, hy]; exact of_decide_eq_false hlv
        have hd1 : decide (cf x y < 0) = false := decide_eq_false hv
        have HP2 : Aside ((i = a + 1 ∨ (ltOf cf) d[i - 1]! d[a]! = true) ∧ (h = b ∨ (ltOf cf) d[h]! d[a]! = false)) := ⟨HP.out.1, Or.inr hlv⟩
        clear hx hy hlv HP
        go_wp2_with fail
        go_quiet_grown (first | (go_at_fn g; refine Calls.grown_of (hc1 _ _)))
        have S2 : Aside (SW enc w0 blk off d (grow (wr.drewN nq) osq)) := SJ.out.grown nq osq
        clear l1 l2 hc1 SJ
        generalize grow (wr.drewN nq) osq = w2 at S2 ⊢
        clear nq osq
        go_wp2
        go_roundg (h - i)
        case measure => omega
        case rel => exact ⟨i, h, rfl, rfl, hmi, by omega, by omega, Nat.le_refl _, HP2, S2⟩
    · obtain rfl : i = j := by omega
      have hltz : ¬ (i : Int) < (i : Int) := by omega
      have HE : Aside (∀ e, Rot a (a + 1) i d e → Mrg (ltOf cf) nu a b d e) := fun e hR => HEND.out i e (by have := HM.out; omega) hjb HP.out.1 HP.out.2 hR
      have ri : IntKind.i64.wrap ((i : Int) - 1) = ((i - 1 : Nat) : Int) := by rw [IntKind.wrap_i64]; omega
      obtain ⟨i1, hi1⟩ : ∃ q, q = i - 1 := ⟨_, rfl⟩
      rw [← hi1] at ri
      have hii : i = i1 + 1 := by omega
      have ha1 : a ≤ i1 := by have := HM.out; omega
      have HE2 : Aside (∀ e, Rot a (a + 1) (i1 + 1) d e → Mrg (ltOf cf) nu a b d e) := fun e hR => HE.out e (by rw [hii]; exact hR)
      have hi1s : i1 < d.size := by omega
      clear HE HEND HP hi1 hii
      go_wp2
      go_loopg [13] (i1 - a) (fun g2 vk wr => ∃ (k : Nat) (dk : Array α), vk = .int .i64 k ∧ a ≤ k ∧ k ≤ i1 ∧ i1 - k ≤ g2 ∧ Aside (Rot a (a + 1) (k + 1) d dk) ∧ Aside (SW enc w0 blk off dk wr))
      case atStart => exact ⟨a, d, rfl, Nat.le_refl _, ha1, Nat.le_refl _, Rot.none ⟨Or.inr rfl, by omega, by omega⟩, SJ⟩
      case round =>
        clear SJ
        obtain ⟨k, dk, rfl, hak, hki, hg2, HS, SJ⟩ := hrel
        by_cases hlt2 : k < i1
        · have hltz2 : (k : Int) < (i1 : Int) := by omega
          have hsk : dk.size = d.size := HS.out.1
          have HS2 : Aside (Rot a (a + 1) (k + 2) d (swp dk k (k + 1))) := Rot.up hak (by omega) HS.out
          obtain ⟨iN, hiN⟩ : ∃ q, q = k := ⟨_, rfl⟩
          obtain ⟨jN, hjN⟩ : ∃ q, q = k + 1 := ⟨_, rfl⟩
          have ea : ((k : Int)).toNat = iN := by omega
          have pa : (0 : Int) ≤ (k : Int) := by omega
          have ba : (k : Int) < (d.size : Int) := by omega
          have ra : IntKind.i64.wrap ((k : Int)) = (k : Int) := by rw [IntKind.wrap_i64]; omega
          have ec : ((k : Int) + 1).toNat = jN := by omega
          have pc : (0 : Int) ≤ (k : Int) + 1 := by omega
          have bc : (k : Int) + 1 < (d.size : Int) := by omega
          have rc : IntKind.i64.wrap ((k : Int) + 1) = (k : Int) + 1 := by rw [IntKind.wrap_i64]; omega
          obtain ⟨x, hx⟩ : ∃ x, x = dk[k]! := ⟨_, rfl⟩
          obtain ⟨y, hy⟩ : ∃ x, x = dk[k + 1]! := ⟨_, rfl⟩
          have S3 : Aside (SW enc w0 blk off (swp dk k (k + 1)) ((wr.setCell ⟨blk, off + iN, none⟩ (enc y)).setCell ⟨blk, off + jN, none⟩ (enc x)).drew) := by rw [hiN, hjN, hx, hy]; exact SJ.out.swapped HR.out k (k + 1) (by omega) (by omega)
          have ca := SJ.out.c1 HR.out (by omega) k (by omega)
          have cb' := SJ.out.c1 HR.out (by omega) (k + 1) (by omega)
          have fa := SJ.out.f1 HR.out (by omega) k (by omega)
          have fb := SJ.out.f1 HR.out (by omega) (k + 1) (by omega)
          obtain ⟨u, cc⟩ := SJ.out.c2 HR.out (by omega) k (k + 1) (by omega) (by omega) (enc y)
          rw [← hjN, ← hiN] at cc
          rw [← hx, ← hiN] at ca
          rw [← hy, ← hjN] at cb'
          rw [← hiN] at fa
          rw [← hjN] at fb
          clear SJ hx hy hiN hjN HS
          go_wp2_with fail
          go_big_region_o
          clear ca cb' cc fa fb
          generalize ((wr.setCell ⟨blk, off + iN, none⟩ (enc y)).setCell ⟨blk, off + jN, none⟩ (enc x)).drew = w3 at S3 ⊢
          clear ea ec
          go_wp2
          go_roundg (i1 - (k + 1))
          case measure => omega
          case rel => exact ⟨k + 1, _, by go_num, by omega, by omega, Nat.le_refl _, HS2, S3⟩
        · have hltz2 : ¬ (k : Int) < (i1 : Int) := by omega
          obtain rfl : k = i1 := by omega
          have HF : Aside (SymV enc (ltOf cf) nu w0 blk off a b d (.returned (.tuple #[])) wr) := ⟨rfl, dk, HE2.out dk HS.out, SJ.out⟩
          go_wp2
          first
            | (go_end0; exact HF.out)
            | (go_ret; exact HF.out)
            | ((try simp only [Exit.inBlock, Exit.then]); refine bodyPost_ret (results_none rfl _ _ _) rfl ?_; exact HF.out)

set_option maxHeartbeats 8000000 in
set_option maxRecDepth 1000000 in
theorem symRight_any (enc : α → Value) (cf : α → α → Int) (nu : α → Nat) (O : SWO (ltOf cf)) (g : Nat) (cb : Array Value) (blk off cap a m b : Nat) (d0 d : Array α) (w0 w : World)
    (eg : ∀ args w, (callFunc g args).run Try.prog w = .ok (.enter g args) w) (hcmp : CmpLays1 Try.prog g cb enc cf blk off d0.size w0) (R : Row1 enc w0 blk off d0) (hs : d0.size = d.size) (S : SW enc w0 blk off d w)
    (ham : a < m) (ham1 : m ≠ a + 1) (hm : b = m + 1) (hb : b ≤ d.size) (hsz : d.size < 4611686018427387904) (hl : SoT (ltOf cf) nu d a m) (ho : Old nu d a m b) :
    Calls Try.prog 76 #[.slice (some ⟨blk, off, none⟩) d.size cap, .int .i64 a, .int .i64 m, .int .i64 b, .func (.func g) #[] cb] w (SymV enc (ltOf cf) nu w0 blk off a b d) := by
  have mixed := mixedLz
  have S0 : Aside (SW enc w0 blk off d w) := S
  have HR : Aside (Row1 enc w0 blk off d0) := R
  have HC : Aside _ := hcmp
  have HEND : Aside (∀ i e, a ≤ i → i ≤ m → (i = a ∨ (ltOf cf) d[m]! d[i - 1]! = false) → (i = m ∨ (ltOf cf) d[m]! d[i]! = true) → Rot i m (m + 1) d e → Mrg (ltOf cf) nu a b d e) := fun i e h1 h2 P1 P2 hR => by rw [hm]; exact mrg_one_right O h1 h2 hl (by rw [hm] at ho; exact ho) P1 P2 hR
  have hcl0 := R.hO.cells
  simp only [Value.cells] at hcl0
  have hst := R.hO.store Try.prog
  have r0 : IntKind.i64.wrap ((m : Int) - (a : Int)) = ((m - a : Nat) : Int) := by rw [IntKind.wrap_i64]; omega
  have r0n : (((m - a : Nat) : Int) == 1) = false := by simp; omega
  obtain ⟨p0, hp0⟩ : ∃ q, q = m - a := ⟨_, rfl⟩
  rw [← hp0] at r0 r0n
  have r0n' : ¬ (p0 : Int) = 1 := by omega
  have r1 : IntKind.i64.wrap ((b : Int) - (m : Int)) = 1 := by rw [IntKind.wrap_i64]; omega
  have hms : m < d.size := by omega
  have HM : Aside (b = m + 1) := hm
  have haI : (m : Int) < (d.size : Int) := by omega
  clear S R hcmp hl ho hm O hp0 ham1
  go_enter Try.func76, Try.ntmps76
  go_wp2
  go_loopg [14, 15] (m - a) (fun g1 vi vj wr => ∃ i j : Nat, vi = .int .i64 i ∧ vj = .int .i64 j ∧ a ≤ i ∧ i ≤ j ∧ j ≤ m ∧ j - i ≤ g1 ∧ Aside ((i = a ∨ (ltOf cf) d[m]! d[i - 1]! = false) ∧ (j = m ∨ (ltOf cf) d[m]! d[j]! = true)) ∧ Aside (SW enc w0 blk off d wr))
  case atStart => exact ⟨a, m, rfl, rfl, Nat.le_refl _, by omega, Nat.le_refl _, Nat.le_refl _, ⟨Or.inl rfl, Or.inl rfl⟩, S0⟩
  case round =>
    clear S0
    obtain ⟨i, j, rfl, rfl, hmi, hij, hjb, hg, HP, SJ⟩ := hrel
    by_cases hlt : i < j
    · have hltz : (i : Int) < (j : Int) := by omega
      obtain ⟨h, hh⟩ : ∃ h, h = (i + j) / 2 := ⟨_, rfl⟩
      have hhI : ((i : Int) + (j : Int)) / 2 = (h : Int) := by omega
      have rij : IntKind.i64.wrap ((i : Int) + (j : Int)) = (i : Int) + (j : Int) := by rw [IntKind.wrap_i64]; omega
      have hb1 : i ≤ h := by omega
      have hb2 : h < j := by omega
      have hhs : (h : Int) < (d.size : Int) := by omega
      clear hh
      obtain ⟨x, hx⟩ : ∃ x, x = d[m]! := ⟨_, rfl⟩
      obtain ⟨y, hy⟩ : ∃ x, x = d[h]! := ⟨_, rfl⟩
      have l1 := SJ.out.cl HR.out (by omega) m (by omega)
      have l2 := SJ.out.cl HR.out (by omega) h (by omega)
      rw [← hx] at l1
      rw [← hy] at l2
      have hc1 := SJ.out.cmp HC.out (by omega) x y
      cases hlv : (ltOf cf) d[m]! d[h]! with
      | false =>
        have hv : ¬ cf x y < 0 := by rw [hx, hy]; exact of_decide_eq_false hlv
        have hd1 : decide (cf x y < 0) = false := decide_eq_false hv
        have HP2 : Aside ((h + 1 = a ∨ (ltOf cf) d[m]! d[h + 1 - 1]! = false) ∧ (j = m ∨ (ltOf cf) d[m]! d[j]! = true)) := ⟨Or.inr hlv, HP.out.2⟩
        clear hx hy hlv HP
        go_wp2_with fail
        go_quiet_grown (first | (go_at_fn g; refine Calls.grown_of (hc1 _ _)))
        have S2 : Aside (SW enc w0 blk off d (grow (wr.drewN nq) osq)) := SJ.out.grown nq osq
        clear l1 l2 hc1 SJ
        generalize grow (wr.drewN nq) osq = w2 at S2 ⊢
        clear nq osq
        go_wp2
        go_roundg (j - (h + 1))
        case measure => omega
        case rel => exact ⟨h + 1, j, by go_num, rfl, by omega, by omega, hjb, Nat.le_refl _, HP2, S2⟩
      | true =>
        have hv : cf x y < 0 := by rw [hx, hy]; exact of_decide_eq_true hlv
        have hd1 : decide (cf x y < 0) = true := decide_eq_true hv
        have HP2 : Aside ((i = a ∨ (ltOf cf) d[m]! d[i - 1]! = false) ∧ (h = m ∨ (ltOf cf) d[m]! d[h]! = true)) := ⟨HP.out.1, Or.inr hlv⟩
        clear hx hy hlv HP
        go_wp2_with fail
        go_quiet_grown (first | (go_at_fn g; refine Calls.grown_of (hc1 _ _)))
        have S2 : Aside (SW enc w0 blk off d (grow (wr.drewN nq) osq)) := SJ.out.grown nq osq
        clear l1 l2 hc1 SJ
        generalize grow (wr.drewN nq) osq = w2 at S2 ⊢
        clear nq osq
        go_wp2
        go_roundg (h - i)
        case measure => omega
        case rel => exact ⟨i, h, rfl, rfl, hmi, by omega, by omega, Nat.le_refl _, HP2, S2⟩
    · obtain rfl : i = j := by omega
      have hltz : ¬ (i : Int) < (i : Int) := by omega
      have HE2 : Aside (∀ e, Rot i m (m + 1) d e → Mrg (ltOf cf) nu a b d e) := fun e hR => HEND.out i e hmi hjb HP.out.1 HP.out.2 hR
      clear HEND HP
      go_wp2
      go_loopg [17] (m - i) (fun g2 vk wr => ∃ (k : Nat) (dk : Array α), vk = .int .i64 k ∧ i ≤ k ∧ k ≤ m ∧ k - i ≤ g2 ∧ Aside (Rot k m (m + 1) d dk) ∧ Aside (SW enc w0 blk off dk wr))
      case atStart => exact ⟨m, d, rfl, hjb, Nat.le_refl _, Nat.le_refl _, Rot.none ⟨Or.inl rfl, by omega, by omega⟩, SJ⟩
      case round =>
        clear SJ
        obtain ⟨k, dk, rfl, hak, hki, hg2, HS, SJ⟩ := hrel
        by_cases hlt2 : i < k
        · have hltz2 : (i : Int) < (k : Int) := by omega
          have hltd2 : decide ((k : Int) > (i : Int)) = true := decide_eq_true (by omega)
          have hsk : dk.size = d.size := HS.out.1
          obtain ⟨k', hk'⟩ : ∃ q, q + 1 = k := ⟨k - 1, by omega⟩
          subst hk'
          have HS2 : Aside (Rot k' m (m + 1) d (swp dk (k' + 1) k')) := Rot.down (by omega) hms HS.out
          obtain ⟨iN, hiN⟩ : ∃ q, q = k' + 1 := ⟨_, rfl⟩
          obtain ⟨jN, hjN⟩ : ∃ q, q = k' := ⟨_, rfl⟩
          have ea : ((iN : Int)).toNat = iN := by omega
          have pa : (0 : Int) ≤ (iN : Int) := by omega
          have ba : (iN : Int) < (d.size : Int) := by omega
          have rc : IntKind.i64.wrap ((iN : Int) - 1) = (jN : Int) := by rw [IntKind.wrap_i64]; omega
          have ec : ((jN : Int)).toNat = jN := by omega
          have pc : (0 : Int) ≤ (jN : Int) := by omega
          have bc : (jN : Int) < (d.size : Int) := by omega
          obtain ⟨x, hx⟩ : ∃ x, x = dk[k' + 1]! := ⟨_, rfl⟩
          obtain ⟨y, hy⟩ : ∃ x, x = dk[k']! := ⟨_, rfl⟩
          have S3 : Aside (SW enc w0 blk off (swp dk (k' + 1) k') ((wr.setCell ⟨blk, off + iN, none⟩ (enc y)).setCell ⟨blk, off + jN, none⟩ (enc x)).drew) := by rw [hiN, hjN, hx, hy]; exact SJ.out.swapped HR.out (k' + 1) k' (by omega) (by omega)
          have ca := SJ.out.c1 HR.out (by omega) (k' + 1) (by omega)
          have cb' := SJ.out.c1 HR.out (by omega) k' (by omega)
          have fa := SJ.out.f1 HR.out (by omega) (k' + 1) (by omega)
          have fb := SJ.out.f1 HR.out (by omega) k' (by omega)
          obtain ⟨u, cc⟩ := SJ.out.c2 HR.out (by omega) (k' + 1) k' (by omega) (by omega) (enc y)
          have HN : Aside (i ≤ jN ∧ jN ≤ m ∧ jN - i < gk ∧ jN = k') := ⟨by omega, by omega, by omega, hjN⟩
          rw [← hiN] at hltz2 hltd2
          rw [← hx] at ca
          rw [← hy] at cb'
          rw [← hiN] at ca fa cc ⊢
          rw [← hjN] at cb' fb cc
          clear SJ hx hy hiN hjN HS
          go_wp2_with fail
          go_big_region_o
          clear ca cb' cc fa fb
          generalize ((wr.setCell ⟨blk, off + iN, none⟩ (enc y)).setCell ⟨blk, off + jN, none⟩ (enc x)).drew = w3 at S3 ⊢
          clear ea ec
          go_wp2
          go_roundg (jN - i)
          case measure => exact HN.out.2.2.1
          case rel => exact ⟨jN, swp dk (k' + 1) k', by go_num, HN.out.1, HN.out.2.1, Nat.le_refl _, (by rw [HN.out.2.2.2]; exact HS2), S3⟩
        · have hltz2 : ¬ (i : Int) < (k : Int) := by omega
          have hltd2 : decide ((k : Int) > (i : Int)) = false := decide_eq_false (by omega)
          obtain rfl : k = i := by omega
          have HF : Aside (SymV enc (ltOf cf) nu w0 blk off a b d (.returned (.tuple #[])) wr) := ⟨rfl, dk, HE2.out dk HS.out, SJ.out⟩
          go_wp2
          first
            | (go_end0; exact HF.out)
            | (go_ret; exact HF.out)
            | ((try simp only [Exit.inBlock, Exit.then]); refine bodyPost_ret (results_none rfl _ _ _) rfl ?_; exact HF.out)
end Go.Proofs.Yteennnhinfnahaa
namespace Go.Proofs.Yteennnhinfnahaa
open Go.RowKit Go.Shelf Go.Lib Go.Sort
set_option linter.unusedVariables false
set_option linter.unusedSimpArgs false
variable {α : Type} [Inhabited α]

/-- What the tail of symMerge knows: the cut s, the rotation's end t. -/
structure Cut (lt : α → α → Bool) (nu : α → Nat) (d : Array α) (a m b mid s t : Nat) : Prop where
  h1 : a ≤ s
  h2 : s ≤ m
  h3 : m ≤ t
  h4 : t ≤ b
  hmid : s + (t - m) = mid
  C1 : ∀ i j, a ≤ i → i < s → t ≤ j → j < b → Tr lt nu d[i]! d[j]!
  C2 : ∀ i j, s ≤ i → i < m → m ≤ j → j < t → Tr lt nu d[j]! d[i]!
  hl : SoT lt nu d a m
  hr : SoT lt nu d m b
  ho : Old nu d a m b
  m1 : a < mid
  m2 : mid < b

/-- The recursion, as it is given. -/
def SymIH (enc : α → Value) (cf : α → α → Int) (nu : α → Nat) (g : Nat) (cb : Array Value) (blk off cap N : Nat) (w0 : World) (f : Nat) : Prop :=
  ∀ (a m b : Nat) (d : Array α) (w : World), b - a ≤ f → a < m → m < b → b ≤ N → d.size = N → SW enc w0 blk off d w → SoT (ltOf cf) nu d a m → SoT (ltOf cf) nu d m b → Old nu d a m b →
    Calls Try.prog 76 #[.slice (some ⟨blk, off, none⟩) N cap, .int .i64 a, .int .i64 m, .int .i64 b, .func (.func g) #[] cb] w (SymV enc (ltOf cf) nu w0 blk off a b d)
section
variable {enc : α → Value} {cf : α → α → Int} {nu : α → Nat} {g : Nat} {cb : Array Value} {blk off cap N : Nat} {w0 : World} {f a m b mid s t : Nat} {d0 d : Array α}
theorem symRec2 (O : SWO (ltOf cf)) (IH : SymIH enc cf nu g cb blk off cap N w0 f) (hN : d0.size = N) (hd : d.size = N) (K : Cut (ltOf cf) nu d a m b mid s t) (hf : b - a ≤ f + 1) (ham : a < m) (hmb : m < b) (hb : b ≤ N) :
    ∀ d1 w1, Rot s m t d d1 → SW enc w0 blk off d1 w1 → a < s → s < mid → Calls Try.prog 76 #[.slice (some ⟨blk, off, none⟩) N cap, .int .i64 a, .int .i64 s, .int .i64 mid, .func (.func g) #[] cb] w1 (SymV enc (ltOf cf) nu w0 blk off a mid d1) := fun d1 w1 hR S h1 h2 => by
  obtain ⟨p1, p2, p3, p4⟩ := rot_parts O K.h1 K.h2 K.h3 K.h4 K.hl K.hr hR
  have o1 := (rot_old K.h1 K.h2 K.h3 K.h4 K.ho hR).1
  have k1 := K.h1; have k2 := K.h2; have k3 := K.h3; have k4 := K.h4; have k5 := K.hmid; have k6 := K.m1; have k7 := K.m2
  rw [k5] at p2 o1
  exact IH a s mid d1 w1 (by omega) h1 h2 (by omega) (hR.1.trans hd) S p1 p2 o1
theorem symRec3 (O : SWO (ltOf cf)) (IH : SymIH enc cf nu g cb blk off cap N w0 f) (hN : d0.size = N) (hd : d.size = N) (K : Cut (ltOf cf) nu d a m b mid s t) (hf : b - a ≤ f + 1) (ham : a < m) (hmb : m < b) (hb : b ≤ N) :
    ∀ d1 d2 w2, Rot s m t d d1 → Mrg (ltOf cf) nu a mid d1 d2 → SW enc w0 blk off d2 w2 → mid < t → t < b → Calls Try.prog 76 #[.slice (some ⟨blk, off, none⟩) N cap, .int .i64 mid, .int .i64 t, .int .i64 b, .func (.func g) #[] cb] w2 (SymV enc (ltOf cf) nu w0 blk off mid b d2) := fun d1 d2 w2 hR hM S h1 h2 => by
  obtain ⟨p1, p2, p3, p4⟩ := rot_parts O K.h1 K.h2 K.h3 K.h4 K.hl K.hr hR
  have o1 := (rot_old K.h1 K.h2 K.h3 K.h4 K.ho hR).2
  have k1 := K.h1; have k2 := K.h2; have k3 := K.h3; have k4 := K.h4; have k5 := K.hmid; have k6 := K.m1; have k7 := K.m2
  rw [k5] at p3 o1
  exact IH mid t b d2 w2 (by omega) h1 h2 hb ((hM.1.size.trans hR.1).trans hd) S (p3.same fun k e1 e2 => hM.1.out k (by omega)) (p4.same fun k e1 e2 => hM.1.out k (by omega)) (o1.same (fun k e1 e2 => hM.1.out k (by omega)) (by omega))
theorem symIdle2 (O : SWO (ltOf cf)) (K : Cut (ltOf cf) nu d a m b mid s t) {d1 : Array α} (hR : Rot s m t d d1) (h : s ≤ a ∨ mid ≤ s) : Mrg (ltOf cf) nu a mid d1 d1 := by
  obtain ⟨p1, p2, p3, p4⟩ := rot_parts O K.h1 K.h2 K.h3 K.h4 K.hl K.hr hR
  rw [K.hmid] at p2
  exact mrg_idle h p1 p2
theorem symIdle3 (O : SWO (ltOf cf)) (K : Cut (ltOf cf) nu d a m b mid s t) {d1 d2 : Array α} (hR : Rot s m t d d1) (hM : Mrg (ltOf cf) nu a mid d1 d2) (h : t ≤ mid ∨ b ≤ t) : Mrg (ltOf cf) nu mid b d2 d2 := by
  obtain ⟨p1, p2, p3, p4⟩ := rot_parts O K.h1 K.h2 K.h3 K.h4 K.hl K.hr hR
  have k1 := K.h1; have k2 := K.h2; have k3 := K.h3; have k4 := K.h4; have k5 := K.hmid; have k6 := K.m1; have k7 := K.m2
  rw [k5] at p3
  exact mrg_idle h (p3.same fun k e1 e2 => hM.1.out k (by omega)) (p4.same fun k e1 e2 => hM.1.out k (by omega))
theorem symFin (O : SWO (ltOf cf)) (K : Cut (ltOf cf) nu d a m b mid s t) : ∀ d1 d2 d3 w3, Rot s m t d d1 → Mrg (ltOf cf) nu a mid d1 d2 → Mrg (ltOf cf) nu mid b d2 d3 → SW enc w0 blk off d3 w3 → SymV enc (ltOf cf) nu w0 blk off a b d (.returned (.tuple #[])) w3 := fun d1 d2 d3 w3 hR M2 M3 S =>
  ⟨rfl, d3, mrg_fin O K.h1 K.h2 K.h3 K.h4 K.hmid K.hl K.hr K.C1 K.C2 hR M2 M3, S⟩
end

set_option maxHeartbeats 8000000 in
set_option maxRecDepth 1000000 in
theorem symMerge_step (enc : α → Value) (cf : α → α → Int) (nu : α → Nat) (O : SWO (ltOf cf)) (g : Nat) (cb : Array Value) (blk off cap N : Nat) (d0 : Array α) (w0 : World)
    (eg : ∀ args w, (callFunc g args).run Try.prog w = .ok (.enter g args) w) (hcmp : CmpLays1 Try.prog g cb enc cf blk off d0.size w0) (R : Row1 enc w0 blk off d0) (hN : d0.size = N) (hsz : N < 4611686018427387904) (f : Nat)
    (IH : SymIH enc cf nu g cb blk off cap N w0 f) (a m b : Nat) (d : Array α) (w : World) (hf : b - a ≤ f + 1) (ham : a < m) (hmb : m < b) (hb : b ≤ N) (hd : d.size = N) (S : SW enc w0 blk off d w) (hl : SoT (ltOf cf) nu d a m) (hr : SoT (ltOf cf) nu d m b) (ho : Old nu d a m b) :
    Calls Try.prog 76 #[.slice (some ⟨blk, off, none⟩) N cap, .int .i64 a, .int .i64 m, .int .i64 b, .func (.func g) #[] cb] w (SymV enc (ltOf cf) nu w0 blk off a b d) := by
    by_cases q1 : m = a + 1
    · have := symLeft_any enc cf nu O g cb blk off cap a m b d0 d w0 w eg hcmp R (by omega) S q1 hmb (by omega) (by omega) hr ho
      rw [hd] at this
      exact this
    by_cases q2 : b = m + 1
    · have := symRight_any enc cf nu O g cb blk off cap a m b d0 d w0 w eg hcmp R (by omega) S ham q1 q2 (by omega) (by omega) hl ho
      rw [hd] at this
      exact this
    have mixed := mixedLz
    have S0 : Aside (SW enc w0 blk off d w) := S
    have HR : Aside (Row1 enc w0 blk off d0) := R
    have HC : Aside _ := hcmp
    have HO : Aside (SWO (ltOf cf)) := O
    have HN : Aside (d0.size = N) := hN
    have HD : Aside (d.size = N) := hd
    have HIH := Lib.hid IH
    obtain ⟨mid, hmid⟩ : ∃ q, q = (a + b) / 2 := ⟨_, rfl⟩
    have m1 : a < mid := by omega
    have m2 : mid < b := by omega
    have HK : Aside (∀ s0 r0 s, SrB a m b mid s0 r0 → s0 ≤ s → s ≤ r0 → (s = s0 ∨ (ltOf cf) d[mid + m - 1 - (s - 1)]! d[s - 1]! = false) → (s = r0 ∨ (ltOf cf) d[mid + m - 1 - s]! d[s]! = true) → Cut (ltOf cf) nu d a m b mid s (mid + m - s)) := fun s0 r0 s hB e1 e2 P1 P2 => by
      obtain ⟨k1, k2, k3, k4, k5, k6, k7⟩ := mrg_cut O ham hmb hmid hB e1 e2 hl hr ho P1 P2
      exact ⟨k1, k2, k3, k4, k5, k6, k7, hl, hr, ho, m1, m2⟩
    have hmI : ((a : Int) + (b : Int)) / 2 = (mid : Int) := by omega
    have rab : IntKind.i64.wrap ((a : Int) + (b : Int)) = (a : Int) + (b : Int) := by rw [IntKind.wrap_i64]; omega
    have r0 : IntKind.i64.wrap ((m : Int) - (a : Int)) = ((m - a : Nat) : Int) := by rw [IntKind.wrap_i64]; omega
    have r0n : (((m - a : Nat) : Int) == 1) = false := by simp; omega
    obtain ⟨p0, hp0⟩ : ∃ q, q = m - a := ⟨_, rfl⟩
    rw [← hp0] at r0 r0n
    have r0n' : ¬ (p0 : Int) = 1 := by omega
    have r1 : IntKind.i64.wrap ((b : Int) - (m : Int)) = ((b - m : Nat) : Int) := by rw [IntKind.wrap_i64]; omega
    have r1n : (((b - m : Nat) : Int) == 1) = false := by simp; omega
    obtain ⟨p1, hp1⟩ : ∃ q, q = b - m := ⟨_, rfl⟩
    rw [← hp1] at r1 r1n
    have r1n' : ¬ (p1 : Int) = 1 := by omega
    have rn : IntKind.i64.wrap ((mid : Int) + (m : Int)) = ((mid + m : Nat) : Int) := by rw [IntKind.wrap_i64]; omega
    have rp : IntKind.i64.wrap (((mid + m : Nat) : Int) - 1) = ((mid + m - 1 : Nat) : Int) := by rw [IntKind.wrap_i64]; omega
    have rb : mid < m → IntKind.i64.wrap (((mid + m : Nat) : Int) - (b : Int)) = ((mid + m - b : Nat) : Int) := fun h => by rw [IntKind.wrap_i64]; omega
    have hB1 : mid < m → SrB a m b mid (mid + m - b) mid ∧ mid + m - b ≤ mid := fun h => ⟨Or.inl ⟨h, rfl, rfl⟩, by omega⟩
    have hB2 : ¬ mid < m → SrB a m b mid a m ∧ a ≤ m := fun h => ⟨Or.inr ⟨by omega, rfl, rfl⟩, by omega⟩
    obtain ⟨n, hn⟩ : ∃ q, q = mid + m := ⟨_, rfl⟩
    rw [← hn] at rn rp HK rb hB1
    obtain ⟨p, hp⟩ : ∃ q, q = n - 1 := ⟨_, rfl⟩
    rw [← hp] at rp HK
    have HP : Aside (n = mid + m ∧ p = n - 1 ∧ mid = (a + b) / 2) := ⟨hn, hp, hmid⟩
    clear S R hcmp hl hr ho O hp0 hp1 IH q1 q2 hN hd hmid hn hp
    by_cases hmm : mid < m
    · have z1 : (mid : Int) < (m : Int) := by omega
      have z2 : decide ((m : Int) > (mid : Int)) = true := decide_eq_true (by omega)
      have HBB := Lib.hid (hB1 hmm)
      have rb' := rb hmm
      obtain ⟨s0, hs0⟩ : ∃ q, q = n - b := ⟨_, rfl⟩
      rw [← hs0] at HBB rb'
      clear hB1 hB2 rb hs0
      go_enter Try.func76, Try.ntmps76
      go_wp2
      clear hmI rab r0 r0n r0n' r1 r1n r1n' rn rp z1 z2 rb'
      go_loopg [20, 21] (mid - s0) (fun g1 vi vj wr => ∃ i j : Nat, vi = .int .i64 i ∧ vj = .int .i64 j ∧ i ≤ j ∧ j - i ≤ g1 ∧ Aside (s0 ≤ i ∧ j ≤ mid ∧ (i = s0 ∨ (ltOf cf) d[p - (i - 1)]! d[i - 1]! = false) ∧ (j = mid ∨ (ltOf cf) d[p - j]! d[j]! = true)) ∧ Aside (SW enc w0 blk off d wr))
      case atStart => exact ⟨s0, mid, rfl, rfl, HBB.out.2, Nat.le_refl _, ⟨Nat.le_refl _, Nat.le_refl _, Or.inl rfl, Or.inl rfl⟩, S0⟩
      case round =>
        clear S0
        obtain ⟨i, j, rfl, rfl, hij, hg, HP4, SJ⟩ := hrel
        have hbd : a ≤ i ∧ j ≤ m ∧ j ≤ mid ∧ mid + m ≤ b + i := by have h1 := HBB.out.1; have h2 := HP4.out; have h3 := HP.out.2.2; unfold SrB at h1; omega
        by_cases hlt : i < j
        · have hltz : (i : Int) < (j : Int) := by omega
          obtain ⟨h, hh⟩ : ∃ h, h = (i + j) / 2 := ⟨_, rfl⟩
          have hhI : ((i : Int) + (j : Int)) / 2 = (h : Int) := by omega
          have rij : IntKind.i64.wrap ((i : Int) + (j : Int)) = (i : Int) + (j : Int) := by rw [IntKind.wrap_i64]; omega
          have hb1 : i ≤ h := by omega
          have hb2 : h < j := by omega
          have hhs : (h : Int) < (N : Int) := by omega
          have hp3 := HP.out
          have rph : IntKind.i64.wrap ((p : Int) - (h : Int)) = ((p - h : Nat) : Int) := by rw [IntKind.wrap_i64]; omega
          have hphN : p - h < N := by omega
          obtain ⟨k, hk⟩ : ∃ q, q = p - h := ⟨_, rfl⟩
          rw [← hk] at rph hphN
          have hks : (k : Int) < (N : Int) := by omega
          obtain ⟨x, hx⟩ : ∃ x, x = d[p - h]! := ⟨_, rfl⟩
          obtain ⟨y, hy⟩ : ∃ x, x = d[h]! := ⟨_, rfl⟩
          have l1 := SJ.out.cl HR.out (by rw [HD.out, HN.out]) (p - h) (by rw [HD.out]; omega)
          have l2 := SJ.out.cl HR.out (by rw [HD.out, HN.out]) h (by rw [HD.out]; omega)
          rw [← hx, ← hk] at l1
          rw [← hy] at l2
          have hc1 := SJ.out.cmp HC.out (by rw [HD.out, HN.out]) x y
          cases hlv : (ltOf cf) d[p - h]! d[h]! with
          | false =>
            have hv : ¬ cf x y < 0 := by rw [hx, hy]; exact of_decide_eq_false hlv
            have hd1 : decide (cf x y < 0) = false := decide_eq_false hv
            have HP2 : Aside (s0 ≤ h + 1 ∧ j ≤ mid ∧ (h + 1 = s0 ∨ (ltOf cf) d[p - (h + 1 - 1)]! d[h + 1 - 1]! = false) ∧ (j = mid ∨ (ltOf cf) d[p - j]! d[j]! = true)) := ⟨by have := HP4.out.1; omega, HP4.out.2.1, Or.inr hlv, HP4.out.2.2.2⟩
            clear hx hy hlv HP4 hh hk hp3 hbd
            go_wp2_with fail
            refine wp_region_quiet_grown (by assumption) (by kernel_rfl) ?_
            repeat (go_big_quiet_step ((go_at_fn g; refine Calls.grown_of (hc1 _ _))))
            refine wpQuiet_nil ?_
            intro _ hw'
            obtain ⟨⟨nq, osq⟩, hw''⟩ := hw'
            subst hw''
            have S2 : Aside (SW enc w0 blk off d (grow (wr.drewN nq) osq)) := SJ.out.grown nq osq
            clear l1 l2 hc1 SJ
            generalize grow (wr.drewN nq) osq = w2 at S2 ⊢
            clear nq osq
            go_wp2
            go_roundg (j - (h + 1))
            case measure => omega
            case rel => exact ⟨h + 1, j, by go_num, rfl, by omega, Nat.le_refl _, HP2, S2⟩
          | true =>
            have hv : cf x y < 0 := by rw [hx, hy]; exact of_decide_eq_true hlv
            have hd1 : decide (cf x y < 0) = true := decide_eq_true hv
            have HP2 : Aside (s0 ≤ i ∧ h ≤ mid ∧ (i = s0 ∨ (ltOf cf) d[p - (i - 1)]! d[i - 1]! = false) ∧ (h = mid ∨ (ltOf cf) d[p - h]! d[h]! = true)) := ⟨HP4.out.1, by have := HP4.out.2.1; omega, HP4.out.2.2.1, Or.inr hlv⟩
            clear hx hy hlv HP4 hh hk hp3 hbd
            go_wp2_with fail
            refine wp_region_quiet_grown (by assumption) (by kernel_rfl) ?_
            repeat (go_big_quiet_step ((go_at_fn g; refine Calls.grown_of (hc1 _ _))))
            refine wpQuiet_nil ?_
            intro _ hw'
            obtain ⟨⟨nq, osq⟩, hw''⟩ := hw'
            subst hw''
            have S2 : Aside (SW enc w0 blk off d (grow (wr.drewN nq) osq)) := SJ.out.grown nq osq
            clear l1 l2 hc1 SJ
            generalize grow (wr.drewN nq) osq = w2 at S2 ⊢
            clear nq osq
            go_wp2
            go_roundg (h - i)
            case measure => omega
            case rel => exact ⟨i, h, rfl, rfl, by omega, Nat.le_refl _, HP2, S2⟩
        · obtain rfl : i = j := by omega
          have hltz : ¬ (i : Int) < (i : Int) := by omega
          have hK := HK.out _ _ i HBB.out.1 HP4.out.1 HP4.out.2.1 HP4.out.2.2.1 HP4.out.2.2.2
          have rt : IntKind.i64.wrap ((n : Int) - (i : Int)) = ((n - i : Nat) : Int) := by have := HP.out.1; rw [IntKind.wrap_i64]; omega
          obtain ⟨t, ht⟩ : ∃ q, q = n - i := ⟨_, rfl⟩
          rw [← ht] at hK rt
          have HCU := Lib.hid hK
          have c1 := hK.h1
          have c2 := hK.h2
          have c3 := hK.h3
          have c4 := hK.h4
          have c5 := hK.hmid
          clear HK HBB HP4 ht hbd hK
          -- the rotation
          by_cases cA : i < m ∧ m < t
          · obtain ⟨cA1, cA2⟩ := cA
            have k1 : (i : Int) < (m : Int) := by omega
            have k2 : (m : Int) < (t : Int) := by omega
            have hrot := rotate_any enc blk off cap i m t (.func (.func g) #[] cb) d0 d w0 wr HR.out (by rw [HD.out, HN.out]) SJ.out cA1 cA2 (by rw [HD.out]; omega) (by rw [HD.out]; omega)
            rw [HD.out] at hrot
            have HROT := Lib.hid hrot
            have k3 : (mid : Int) < (t : Int) := by omega
            have k4 : (i : Int) < (mid : Int) := by omega
            clear hrot SJ
            have HREC2 := Lib.hid (symRec2 HO.out HIH.out HN.out HD.out HCU.out hf ham hmb hb)
            have HREC3 := Lib.hid (symRec3 HO.out HIH.out HN.out HD.out HCU.out hf ham hmb hb)
            have HFIN := Lib.hid (symFin (w0 := w0) (enc := enc) (blk := blk) (off := off) HO.out HCU.out)
            clear HIH HR HC
            by_cases cB : a < i
            · have k5 : (a : Int) < (i : Int) := by omega
              by_cases cC : t < b
              · have k6 : (t : Int) < (b : Int) := by omega
                go_wp2_with (go_at_call 89; refine HROT.out.mono ?_; rintro e w2 ⟨rfl, d1, hR1, S1⟩)
                have HR1 : Aside (Rot i m t d d1) := hR1
                have H2 := Lib.hid (HREC2.out d1 w2 hR1 S1 cB (by omega))
                clear HROT HREC2 hR1 S1
                (try go_wp2_with fail)
                refine H2.out.mono ?_
                rintro e w3 ⟨rfl, d2, hM2, S2⟩
                have HM2 : Aside (Mrg (ltOf cf) nu a mid d1 d2) := hM2
                have H3 := Lib.hid (HREC3.out d1 d2 w3 HR1.out hM2 S2 (by omega) cC)
                clear H2 HREC3 hM2 S2
                (try go_wp2_with fail)
                refine H3.out.mono ?_
                rintro e w4 ⟨rfl, d3, hM3, S3⟩
                have HE := Lib.hid (HFIN.out d1 d2 d3 w4 HR1.out HM2.out hM3 S3)
                clear H3 hM3 S3 HFIN HM2 HR1
                (try go_wp2_with fail)
                (first | go_end0 | go_ret)
                exact HE.out
              · have k6 : ¬ (t : Int) < (b : Int) := by omega
                go_wp2_with (go_at_call 89; refine HROT.out.mono ?_; rintro e w2 ⟨rfl, d1, hR1, S1⟩)
                have HR1 : Aside (Rot i m t d d1) := hR1
                have H2 := Lib.hid (HREC2.out d1 w2 hR1 S1 cB (by omega))
                clear HROT HREC2 hR1 S1
                (try go_wp2_with fail)
                refine H2.out.mono ?_
                rintro e w3 ⟨rfl, d2, hM2, S2⟩
                have HE := Lib.hid (HFIN.out d1 d2 d2 w3 HR1.out hM2 (symIdle3 HO.out HCU.out HR1.out hM2 (Or.inr (by omega))) S2)
                clear H2 hM2 S2 HFIN HR1 HREC3
                (try go_wp2_with fail)
                (first | go_end0 | go_ret)
                exact HE.out
            · have k5 : ¬ (a : Int) < (i : Int) := by omega
              by_cases cC : t < b
              · have k6 : (t : Int) < (b : Int) := by omega
                go_wp2_with (go_at_call 89; refine HROT.out.mono ?_; rintro e w2 ⟨rfl, d1, hR1, S1⟩)
                have HR1 : Aside (Rot i m t d d1) := hR1
                have HM2 : Aside (Mrg (ltOf cf) nu a mid d1 d1) := symIdle2 HO.out HCU.out hR1 (Or.inl (by omega))
                have H3 := Lib.hid (HREC3.out d1 d1 w2 hR1 HM2.out S1 (by omega) cC)
                clear HROT HREC3 HREC2 hR1 S1
                (try go_wp2_with fail)
                refine H3.out.mono ?_
                rintro e w4 ⟨rfl, d3, hM3, S3⟩
                have HE := Lib.hid (HFIN.out d1 d1 d3 w4 HR1.out HM2.out hM3 S3)
                clear H3 hM3 S3 HFIN HM2 HR1
                (try go_wp2_with fail)
                (first | go_end0 | go_ret)
                exact HE.out
              · have k6 : ¬ (t : Int) < (b : Int) := by omega
                go_wp2_with (go_at_call 89; refine HROT.out.mono ?_; rintro e w2 ⟨rfl, d1, hR1, S1⟩)
                have HM2 : Aside (Mrg (ltOf cf) nu a mid d1 d1) := symIdle2 HO.out HCU.out hR1 (Or.inl (by omega))
                have HE := Lib.hid (HFIN.out d1 d1 d1 w2 hR1 HM2.out (symIdle3 HO.out HCU.out hR1 HM2.out (Or.inr (by omega))) S1)
                clear hR1 S1 HFIN HREC3 HREC2 HROT HM2
                (try go_wp2_with fail)
                (first | go_end0 | go_ret)
                exact HE.out
          · have HR1 : Aside (Rot i m t d d) := Rot.none ⟨by omega, c2, c3⟩
            have HREC2 := Lib.hid (symRec2 HO.out HIH.out HN.out HD.out HCU.out hf ham hmb hb)
            have HREC3 := Lib.hid (symRec3 HO.out HIH.out HN.out HD.out HCU.out hf ham hmb hb)
            have HFIN := Lib.hid (symFin (w0 := w0) (enc := enc) (blk := blk) (off := off) HO.out HCU.out)
            clear HIH HR HC
            by_cases cD : i < m
            · -- nothing of the right part moves: t = m, i = mid
              have k1 : (i : Int) < (m : Int) := by omega
              have k2 : ¬ (m : Int) < (t : Int) := by omega
              have k3 : (mid : Int) < (t : Int) := by omega
              have k4 : ¬ (i : Int) < (mid : Int) := by omega
              have k5 : (a : Int) < (i : Int) := by omega
              have k6 : (t : Int) < (b : Int) := by omega
              have HM2 : Aside (Mrg (ltOf cf) nu a mid d d) := symIdle2 HO.out HCU.out HR1.out (Or.inr (by omega))
              have H3 := Lib.hid (HREC3.out d d wr HR1.out HM2.out SJ.out (by omega) (by omega))
              clear HREC3 HREC2 SJ cA
              (try go_wp2_with fail)
              refine H3.out.mono ?_
              rintro e w4 ⟨rfl, d3, hM3, S3⟩
              have HE := Lib.hid (HFIN.out d d d3 w4 HR1.out HM2.out hM3 S3)
              clear H3 hM3 S3 HFIN HM2 HR1
              (try go_wp2_with fail)
              (first | go_end0 | go_ret)
              exact HE.out
            · exfalso; omega
    · have z1 : ¬ (mid : Int) < (m : Int) := by omega
      have z2 : decide ((m : Int) > (mid : Int)) = false := decide_eq_false (by omega)
      have HBB := Lib.hid (hB2 hmm)
      clear hB1 hB2 rb
      go_enter Try.func76, Try.ntmps76
      go_wp2
      clear hmI rab r0 r0n r0n' r1 r1n r1n' rn rp z1 z2
      go_loopg [20, 21] (m - a) (fun g1 vi vj wr => ∃ i j : Nat, vi = .int .i64 i ∧ vj = .int .i64 j ∧ i ≤ j ∧ j - i ≤ g1 ∧ Aside (a ≤ i ∧ j ≤ m ∧ (i = a ∨ (ltOf cf) d[p - (i - 1)]! d[i - 1]! = false) ∧ (j = m ∨ (ltOf cf) d[p - j]! d[j]! = true)) ∧ Aside (SW enc w0 blk off d wr))
      case atStart => exact ⟨a, m, rfl, rfl, HBB.out.2, Nat.le_refl _, ⟨Nat.le_refl _, Nat.le_refl _, Or.inl rfl, Or.inl rfl⟩, S0⟩
      case round =>
        clear S0
        obtain ⟨i, j, rfl, rfl, hij, hg, HP4, SJ⟩ := hrel
        have hbd : a ≤ i ∧ j ≤ m ∧ j ≤ mid ∧ mid + m ≤ b + i := by have h1 := HBB.out.1; have h2 := HP4.out; have h3 := HP.out.2.2; unfold SrB at h1; omega
        by_cases hlt : i < j
        · have hltz : (i : Int) < (j : Int) := by omega
          obtain ⟨h, hh⟩ : ∃ h, h = (i + j) / 2 := ⟨_, rfl⟩
          have hhI : ((i : Int) + (j : Int)) / 2 = (h : Int) := by omega
          have rij : IntKind.i64.wrap ((i : Int) + (j : Int)) = (i : Int) + (j : Int) := by rw [IntKind.wrap_i64]; omega
          have hb1 : i ≤ h := by omega
          have hb2 : h < j := by omega
          have hhs : (h : Int) < (N : Int) := by omega
          have hp3 := HP.out
          have rph : IntKind.i64.wrap ((p : Int) - (h : Int)) = ((p - h : Nat) : Int) := by rw [IntKind.wrap_i64]; omega
          have hphN : p - h < N := by omega
          obtain ⟨k, hk⟩ : ∃ q, q = p - h := ⟨_, rfl⟩
          rw [← hk] at rph hphN
          have hks : (k : Int) < (N : Int) := by omega
          obtain ⟨x, hx⟩ : ∃ x, x = d[p - h]! := ⟨_, rfl⟩
          obtain ⟨y, hy⟩ : ∃ x, x = d[h]! := ⟨_, rfl⟩
          have l1 := SJ.out.cl HR.out (by rw [HD.out, HN.out]) (p - h) (by rw [HD.out]; omega)
          have l2 := SJ.out.cl HR.out (by rw [HD.out, HN.out]) h (by rw [HD.out]; omega)
          rw [← hx, ← hk] at l1
          rw [← hy] at l2
          have hc1 := SJ.out.cmp HC.out (by rw [HD.out, HN.out]) x y
          cases hlv : (ltOf cf) d[p - h]! d[h]! with
          | false =>
            have hv : ¬ cf x y < 0 := by rw [hx, hy]; exact of_decide_eq_false hlv
            have hd1 : decide (cf x y < 0) = false := decide_eq_false hv
            have HP2 : Aside (a ≤ h + 1 ∧ j ≤ m ∧ (h + 1 = a ∨ (ltOf cf) d[p - (h + 1 - 1)]! d[h + 1 - 1]! = false) ∧ (j = m ∨ (ltOf cf) d[p - j]! d[j]! = true)) := ⟨by have := HP4.out.1; omega, HP4.out.2.1, Or.inr hlv, HP4.out.2.2.2⟩
            clear hx hy hlv HP4 hh hk hp3 hbd
            go_wp2_with fail
            refine wp_region_quiet_grown (by assumption) (by kernel_rfl) ?_
            repeat (go_big_quiet_step ((go_at_fn g; refine Calls.grown_of (hc1 _ _))))
            refine wpQuiet_nil ?_
            intro _ hw'
            obtain ⟨⟨nq, osq⟩, hw''⟩ := hw'
            subst hw''
            have S2 : Aside (SW enc w0 blk off d (grow (wr.drewN nq) osq)) := SJ.out.grown nq osq
            clear l1 l2 hc1 SJ
            generalize grow (wr.drewN nq) osq = w2 at S2 ⊢
            clear nq osq
            go_wp2
            go_roundg (j - (h + 1))
            case measure => omega
            case rel => exact ⟨h + 1, j, by go_num, rfl, by omega, Nat.le_refl _, HP2, S2⟩
          | true =>
            have hv : cf x y < 0 := by rw [hx, hy]; exact of_decide_eq_true hlv
            have hd1 : decide (cf x y < 0) = true := decide_eq_true hv
            have HP2 : Aside (a ≤ i ∧ h ≤ m ∧ (i = a ∨ (ltOf cf) d[p - (i - 1)]! d[i - 1]! = false) ∧ (h = m ∨ (ltOf cf) d[p - h]! d[h]! = true)) := ⟨HP4.out.1, by have := HP4.out.2.1; omega, HP4.out.2.2.1, Or.inr hlv⟩
            clear hx hy hlv HP4 hh hk hp3 hbd
            go_wp2_with fail
            refine wp_region_quiet_grown (by assumption) (by kernel_rfl) ?_
            repeat (go_big_quiet_step ((go_at_fn g; refine Calls.grown_of (hc1 _ _))))
            refine wpQuiet_nil ?_
            intro _ hw'
            obtain ⟨⟨nq, osq⟩, hw''⟩ := hw'
            subst hw''
            have S2 : Aside (SW enc w0 blk off d (grow (wr.drewN nq) osq)) := SJ.out.grown nq osq
            clear l1 l2 hc1 SJ
            generalize grow (wr.drewN nq) osq = w2 at S2 ⊢
            clear nq osq
            go_wp2
            go_roundg (h - i)
            case measure => omega
            case rel => exact ⟨i, h, rfl, rfl, by omega, Nat.le_refl _, HP2, S2⟩
        · obtain rfl : i = j := by omega
          have hltz : ¬ (i : Int) < (i : Int) := by omega
          have hK := HK.out _ _ i HBB.out.1 HP4.out.1 HP4.out.2.1 HP4.out.2.2.1 HP4.out.2.2.2
          have rt : IntKind.i64.wrap ((n : Int) - (i : Int)) = ((n - i : Nat) : Int) := by have := HP.out.1; rw [IntKind.wrap_i64]; omega
          obtain ⟨t, ht⟩ : ∃ q, q = n - i := ⟨_, rfl⟩
          rw [← ht] at hK rt
          have HCU := Lib.hid hK
          have c1 := hK.h1
          have c2 := hK.h2
          have c3 := hK.h3
          have c4 := hK.h4
          have c5 := hK.hmid
          clear HK HBB HP4 ht hbd hK
          -- the rotation
          by_cases cA : i < m ∧ m < t
          · obtain ⟨cA1, cA2⟩ := cA
            have k1 : (i : Int) < (m : Int) := by omega
            have k2 : (m : Int) < (t : Int) := by omega
            have hrot := rotate_any enc blk off cap i m t (.func (.func g) #[] cb) d0 d w0 wr HR.out (by rw [HD.out, HN.out]) SJ.out cA1 cA2 (by rw [HD.out]; omega) (by rw [HD.out]; omega)
            rw [HD.out] at hrot
            have HROT := Lib.hid hrot
            have k3 : (mid : Int) < (t : Int) := by omega
            have k4 : (i : Int) < (mid : Int) := by omega
            clear hrot SJ
            have HREC2 := Lib.hid (symRec2 HO.out HIH.out HN.out HD.out HCU.out hf ham hmb hb)
            have HREC3 := Lib.hid (symRec3 HO.out HIH.out HN.out HD.out HCU.out hf ham hmb hb)
            have HFIN := Lib.hid (symFin (w0 := w0) (enc := enc) (blk := blk) (off := off) HO.out HCU.out)
            clear HIH HR HC
            by_cases cB : a < i
            · have k5 : (a : Int) < (i : Int) := by omega
              by_cases cC : t < b
              · have k6 : (t : Int) < (b : Int) := by omega
                go_wp2_with (go_at_call 89; refine HROT.out.mono ?_; rintro e w2 ⟨rfl, d1, hR1, S1⟩)
                have HR1 : Aside (Rot i m t d d1) := hR1
                have H2 := Lib.hid (HREC2.out d1 w2 hR1 S1 cB (by omega))
                clear HROT HREC2 hR1 S1
                (try go_wp2_with fail)
                refine H2.out.mono ?_
                rintro e w3 ⟨rfl, d2, hM2, S2⟩
                have HM2 : Aside (Mrg (ltOf cf) nu a mid d1 d2) := hM2
                have H3 := Lib.hid (HREC3.out d1 d2 w3 HR1.out hM2 S2 (by omega) cC)
                clear H2 HREC3 hM2 S2
                (try go_wp2_with fail)
                refine H3.out.mono ?_
                rintro e w4 ⟨rfl, d3, hM3, S3⟩
                have HE := Lib.hid (HFIN.out d1 d2 d3 w4 HR1.out HM2.out hM3 S3)
                clear H3 hM3 S3 HFIN HM2 HR1
                (try go_wp2_with fail)
                (first | go_end0 | go_ret)
                exact HE.out
              · have k6 : ¬ (t : Int) < (b : Int) := by omega
                go_wp2_with (go_at_call 89; refine HROT.out.mono ?_; rintro e w2 ⟨rfl, d1, hR1, S1⟩)
                have HR1 : Aside (Rot i m t d d1) := hR1
                have H2 := Lib.hid (HREC2.out d1 w2 hR1 S1 cB (by omega))
                clear HROT HREC2 hR1 S1
                (try go_wp2_with fail)
                refine H2.out.mono ?_
                rintro e w3 ⟨rfl, d2, hM2, S2⟩
                have HE := Lib.hid (HFIN.out d1 d2 d2 w3 HR1.out hM2 (symIdle3 HO.out HCU.out HR1.out hM2 (Or.inr (by omega))) S2)
                clear H2 hM2 S2 HFIN HR1 HREC3
                (try go_wp2_with fail)
                (first | go_end0 | go_ret)
                exact HE.out
            · have k5 : ¬ (a : Int) < (i : Int) := by omega
              by_cases cC : t < b
              · have k6 : (t : Int) < (b : Int) := by omega
                go_wp2_with (go_at_call 89; refine HROT.out.mono ?_; rintro e w2 ⟨rfl, d1, hR1, S1⟩)
                have HR1 : Aside (Rot i m t d d1) := hR1
                have HM2 : Aside (Mrg (ltOf cf) nu a mid d1 d1) := symIdle2 HO.out HCU.out hR1 (Or.inl (by omega))
                have H3 := Lib.hid (HREC3.out d1 d1 w2 hR1 HM2.out S1 (by omega) cC)
                clear HROT HREC3 HREC2 hR1 S1
                (try go_wp2_with fail)
                refine H3.out.mono ?_
                rintro e w4 ⟨rfl, d3, hM3, S3⟩
                have HE := Lib.hid (HFIN.out d1 d1 d3 w4 HR1.out HM2.out hM3 S3)
                clear H3 hM3 S3 HFIN HM2 HR1
                (try go_wp2_with fail)
                (first | go_end0 | go_ret)
                exact HE.out
              · have k6 : ¬ (t : Int) < (b : Int) := by omega
                go_wp2_with (go_at_call 89; refine HROT.out.mono ?_; rintro e w2 ⟨rfl, d1, hR1, S1⟩)
                have HM2 : Aside (Mrg (ltOf cf) nu a mid d1 d1) := symIdle2 HO.out HCU.out hR1 (Or.inl (by omega))
                have HE := Lib.hid (HFIN.out d1 d1 d1 w2 hR1 HM2.out (symIdle3 HO.out HCU.out hR1 HM2.out (Or.inr (by omega))) S1)
                clear hR1 S1 HFIN HREC3 HREC2 HROT HM2
                (try go_wp2_with fail)
                (first | go_end0 | go_ret)
                exact HE.out
          · have HR1 : Aside (Rot i m t d d) := Rot.none ⟨by omega, c2, c3⟩
            have HREC2 := Lib.hid (symRec2 HO.out HIH.out HN.out HD.out HCU.out hf ham hmb hb)
            have HREC3 := Lib.hid (symRec3 HO.out HIH.out HN.out HD.out HCU.out hf ham hmb hb)
            have HFIN := Lib.hid (symFin (w0 := w0) (enc := enc) (blk := blk) (off := off) HO.out HCU.out)
            clear HIH HR HC
            by_cases cD : i < m
            · exfalso; omega
            · have k1 : ¬ (i : Int) < (m : Int) := by omega
              have k3 : ¬ (mid : Int) < (t : Int) := by omega
              have k5 : (a : Int) < (i : Int) := by omega
              by_cases cE : i < mid
              · have k4 : (i : Int) < (mid : Int) := by omega
                have H2 := Lib.hid (HREC2.out d wr HR1.out SJ.out (by omega) cE)
                clear HREC2 SJ cA
                (try go_wp2_with fail)
                refine H2.out.mono ?_
                rintro e w3 ⟨rfl, d2, hM2, S2⟩
                have HE := Lib.hid (HFIN.out d d2 d2 w3 HR1.out hM2 (symIdle3 HO.out HCU.out HR1.out hM2 (Or.inl (by omega))) S2)
                clear H2 hM2 S2 HFIN HR1 HREC3
                (try go_wp2_with fail)
                (first | go_end0 | go_ret)
                exact HE.out
              · have k4 : ¬ (i : Int) < (mid : Int) := by omega
                have HM2 : Aside (Mrg (ltOf cf) nu a mid d d) := symIdle2 HO.out HCU.out HR1.out (Or.inr (by omega))
                have HE := Lib.hid (HFIN.out d d d wr HR1.out HM2.out (symIdle3 HO.out HCU.out HR1.out HM2.out (Or.inl (by omega))) SJ.out)
                clear SJ HFIN HREC3 HREC2 HM2 cA HR1
                go_wp2
                (first | go_end0 | go_ret)
                exact HE.out
theorem symMerge_any (enc : α → Value) (cf : α → α → Int) (nu : α → Nat) (O : SWO (ltOf cf)) (g : Nat) (cb : Array Value) (blk off cap N : Nat) (d0 : Array α) (w0 : World)
    (eg : ∀ args w, (callFunc g args).run Try.prog w = .ok (.enter g args) w) (hcmp : CmpLays1 Try.prog g cb enc cf blk off d0.size w0) (R : Row1 enc w0 blk off d0) (hN : d0.size = N) (hsz : N < 4611686018427387904) (f : Nat) :
    SymIH enc cf nu g cb blk off cap N w0 f := by
  induction f with
  | zero => exact fun a m b d w hf ham hmb => absurd hf (by omega)
  | succ f IH => exact symMerge_step enc cf nu O g cb blk off cap N d0 w0 eg hcmp R hN hsz f IH
end Go.Proofs.Yteennnhinfnahaa
namespace Go.Proofs.Yteennnhinfnahaa
open Go.RowKit Go.Shelf Go.Lib Go.Sort
set_option linter.unusedVariables false
set_option linter.unusedSimpArgs false
variable {α : Type} [Inhabited α]

theorem ph1_start {lt : α → α → Bool} {nu : α → Nat} {N : Nat} {d0 : Array α} (h0 : ∀ k, k < N → nu d0[k]! = k) : Ph1 lt nu N 20 0 d0 := ⟨Nat.dvd_zero _, Nat.zero_le _, fun x _ h => absurd h (by omega), fun k _ h => h0 k h⟩
theorem allB_end {lt : α → α → Bool} {nu : α → Nat} {N s : Nat} {d : Array α} (h : AllB lt nu N s d) (hs : N ≤ s) : SoT lt nu d 0 N := by
  have := (h 0 (Nat.dvd_zero _) (Nat.zero_le _)).1
  rw [Nat.min_eq_right (by omega)] at this
  exact this

set_option maxHeartbeats 8000000 in
set_option maxRecDepth 1000000 in
theorem stable_any (enc : α → Value) (cf : α → α → Int) (nu : α → Nat) (O : SWO (ltOf cf)) (g : Nat) (cb : Array Value) (blk off cap N : Nat) (d0 : Array α) (w0 : World)
    (eg : ∀ args w, (callFunc g args).run Try.prog w = .ok (.enter g args) w) (hcmp : CmpLays1 Try.prog g cb enc cf blk off d0.size w0) (R : Row1 enc w0 blk off d0) (hN : d0.size = N) (hsz : N < 2305843009213693952) (h0 : ∀ k, k < N → nu d0[k]! = k) :
    Calls Try.prog 59 #[.slice (some ⟨blk, off, none⟩) N cap, .int .i64 N, .func (.func g) #[] cb] w0 fun e w' => e = .returned (.tuple #[]) ∧ ∃ d', Mvd 0 N d0 d' ∧ SoT (ltOf cf) nu d' 0 N ∧ SW enc w0 blk off d' w' := by
  have mixed := mixedLz
  have HR : Aside (Row1 enc w0 blk off d0) := R
  have HC : Aside _ := hcmp
  have HO : Aside (SWO (ltOf cf)) := O
  have HN : Aside (d0.size = N) := hN
  have S0 : Aside (SW enc w0 blk off d0 w0) := SW.start R.hH
  have HP0 : Aside (Ph1 (ltOf cf) nu N 20 0 d0 ∧ Mvd 0 N d0 d0) := ⟨ph1_start h0, Mvd.refl _ _ _⟩
  have HINS := Lib.hid (fun (A B : Nat) (dk : Array α) (wr : World) (hd : dk.size = N) (S : SW enc w0 blk off dk wr) (h1 : A ≤ B) (h2 : B ≤ N) => by
    have := Any.insertionSortCmpFunc_s Try.laysInsI enc cf g cb blk off cap A B d0 dk w0 wr eg hcmp R (hN.trans hd.symm) S h1 (by omega) (by omega)
    rw [hd] at this
    exact this)
  have HSYM := Lib.hid (fun (a m b : Nat) (dk : Array α) (wr : World) (hd : dk.size = N) (S : SW enc w0 blk off dk wr) (h1 : a < m) (h2 : m < b) (h3 : b ≤ N) (p : OkB (ltOf cf) nu dk a m) (q : OkB (ltOf cf) nu dk m b) =>
    symMerge_any enc cf nu O g cb blk off cap N d0 w0 eg hcmp R hN (by omega) (b - a) a m b dk wr (Nat.le_refl _) h1 h2 h3 hd S p.1 q.1 (p.old q))
  clear R hcmp O h0
  go_enter Try.func59, Try.ntmps59
  go_wp2
  go_loopg [7, 8] N (fun g1 va vb wr => ∃ (A B : Nat) (dk : Array α), va = .int .i64 A ∧ vb = .int .i64 B ∧ N - A ≤ g1 ∧ Aside (B = A + 20 ∧ A ≤ N) ∧ Aside (Ph1 (ltOf cf) nu N 20 A dk ∧ Mvd 0 N d0 dk) ∧ Aside (SW enc w0 blk off dk wr))
  case atStart => exact ⟨0, 20, d0, by go_num, by go_num, by omega, ⟨rfl, Nat.zero_le _⟩, HP0, S0⟩
  case round =>
    clear S0 HP0
    obtain ⟨A, B, dk, rfl, rfl, hg, HAB, HP, SJ⟩ := hrel
    have HD : Aside (dk.size = N) := HP.out.2.size.trans HN.out
    by_cases hlt : B ≤ N
    · have hltz : (B : Int) ≤ (N : Int) := by omega
      have hltz' : ¬ (N : Int) < (B : Int) := by omega
      have hI := HINS.out A B dk wr HD.out SJ.out (by have := HAB.out.1; omega) hlt
      have HI := Lib.hid hI
      have HP2 : Aside (Ph1 (ltOf cf) nu N 20 B (insertionSort (ltOf cf) dk A B) ∧ Mvd 0 N d0 (insertionSort (ltOf cf) dk A B)) := by
        have e := HAB.out.1
        have := HP.out.1.step HO.out (by omega) HD.out.symm (by omega)
        rw [← e] at this
        exact ⟨this.1, HP.out.2.trans this.2⟩
      have rB : IntKind.i64.wrap ((B : Int) + 20) = ((B + 20 : Nat) : Int) := by rw [IntKind.wrap_i64]; omega
      obtain ⟨B2, hB2⟩ : ∃ q, q = B + 20 := ⟨_, rfl⟩
      rw [← hB2] at rB
      have HB2 : Aside (B2 = B + 20 ∧ B ≤ N) := ⟨hB2, hlt⟩
      have hm : N - B < gk := by have := HAB.out; omega
      clear hI SJ HP HD HAB hB2
      go_wp2_with (go_at_call 75; refine HI.out.mono ?_; rintro e w2 ⟨rfl, S1⟩)
      have HS1 := Lib.hid S1
      clear S1 HI
      go_wp2
      go_roundg (N - B)
      case measure => exact hm
      case rel => exact ⟨B, B2, _, rfl, rfl, Nat.le_refl _, HB2, HP2, HS1.out⟩
    · have hltz : ¬ (B : Int) ≤ (N : Int) := by omega
      have hltz' : (N : Int) < (B : Int) := by omega
      have hI := HINS.out A N dk wr HD.out SJ.out HAB.out.2 (Nat.le_refl _)
      have HI := Lib.hid hI
      have HP2 : Aside (AllB (ltOf cf) nu N 20 (insertionSort (ltOf cf) dk A N) ∧ Mvd 0 N d0 (insertionSort (ltOf cf) dk A N)) := by
        have e := HAB.out.1
        have := HP.out.1.last HO.out (by omega) HD.out.symm (by omega)
        exact ⟨this.1, HP.out.2.trans this.2⟩
      obtain ⟨d1, hd1⟩ : ∃ q, insertionSort (ltOf cf) dk A N = q := ⟨_, rfl⟩
      rw [hd1] at HI HP2
      clear hI SJ HP HD HAB HINS hd1
      go_wp2_with (go_at_call 75; refine HI.out.mono ?_; rintro e w2 ⟨rfl, S1⟩)
      have HS1 := Lib.hid S1
      clear S1 HI
      go_wp2
      go_loopg [6] N (fun g2 vs wr => ∃ (s : Nat) (dk : Array α), vs = .int .i64 s ∧ N - s ≤ g2 ∧ Aside (0 < s) ∧ Aside (AllB (ltOf cf) nu N s dk ∧ Mvd 0 N d0 dk) ∧ Aside (SW enc w0 blk off dk wr))
      case atStart => exact ⟨20, d1, rfl, by omega, (show (0 : Nat) < 20 by omega), HP2.out, HS1.out⟩
      case round =>
        clear HS1 HP2
        obtain ⟨s, dk, rfl, hg2, HS, HP, SJ⟩ := hrel
        by_cases hsN : s < N
        · have hsz1 : (s : Int) < (N : Int) := by omega
          have r2 : IntKind.i64.wrap (2 * (s : Int)) = ((2 * s : Nat) : Int) := by rw [IntKind.wrap_i64]; omega
          have r2' : IntKind.i64.wrap ((s : Int) * 2) = ((2 * s : Nat) : Int) := by rw [IntKind.wrap_i64]; omega
          obtain ⟨t, ht⟩ : ∃ q, q = 2 * s := ⟨_, rfl⟩
          rw [← ht] at r2 r2'
          have HT : Aside (t = 2 * s) := ht
          have htb : t < 4611686018427387904 := by omega
          have hm : N - t < gk := by have := HS.out; omega
          have HSB : Aside (s < N) := hsN
          have HQ0 : Aside (Ph2 (ltOf cf) nu N s 0 dk ∧ Mvd 0 N d0 dk) := ⟨Ph2.start HP.out.1, HP.out.2⟩
          clear HP ht
          go_wp2
          go_loopg [7, 8] N (fun g3 va vb wr => ∃ (A B : Nat) (dk : Array α), va = .int .i64 A ∧ vb = .int .i64 B ∧ N - A ≤ g3 ∧ Aside (B = A + t ∧ A ≤ N) ∧ Aside (Ph2 (ltOf cf) nu N s A dk ∧ Mvd 0 N d0 dk) ∧ Aside (SW enc w0 blk off dk wr))
          case atStart => exact ⟨0, t, dk, by go_num, rfl, by omega, ⟨by omega, Nat.zero_le _⟩, HQ0, SJ⟩
          case round =>
            clear SJ HQ0
            obtain ⟨A, B, dk, rfl, rfl, hg3, HAB, HP, SJ⟩ := hrel
            have HD : Aside (dk.size = N) := HP.out.2.size.trans HN.out
            have rAs : IntKind.i64.wrap ((A : Int) + (s : Int)) = ((A + s : Nat) : Int) := by have := HAB.out; have := HSB.out; rw [IntKind.wrap_i64]; omega
            obtain ⟨M, hM⟩ : ∃ q, q = A + s := ⟨_, rfl⟩
            rw [← hM] at rAs
            have HM : Aside (M = A + s) := hM
            clear hM
            by_cases hlt : B ≤ N
            · have hltz : (B : Int) ≤ (N : Int) := by omega
              have hltz' : ¬ (N : Int) < (B : Int) := by omega
              have e1 := HAB.out.1
              have e2 := HT.out
              have e3 := HM.out
              have e4 := HS.out
              have hpq := HP.out.1.pre e4 (b := B) (.inl ⟨by omega, by omega⟩)
              rw [← e3] at hpq
              have HI := Lib.hid (HSYM.out A M B dk wr HD.out SJ.out (by omega) (by omega) hlt hpq.1 hpq.2)
              have HP2 : Aside (∀ d2, Mrg (ltOf cf) nu A B dk d2 → Ph2 (ltOf cf) nu N s B d2 ∧ Mvd 0 N d0 d2) := fun d2 hMg => by
                have eB : B = A + 2 * s := by omega
                have hmv := hMg.1.mono (Nat.zero_le A) hlt
                rw [eB] at hMg ⊢
                exact ⟨HP.out.1.step e4 (by omega) hMg, HP.out.2.trans hmv⟩
              have rB : IntKind.i64.wrap ((B : Int) + (t : Int)) = ((B + t : Nat) : Int) := by rw [IntKind.wrap_i64]; omega
              obtain ⟨B2, hB2⟩ : ∃ q, q = B + t := ⟨_, rfl⟩
              rw [← hB2] at rB
              have HB2 : Aside (B2 = B + t ∧ B ≤ N) := ⟨hB2, hlt⟩
              have hm3 : N - B < gk := by omega
              clear SJ HP HD HAB hB2 hpq e1 e2 e3 e4
              go_wp2_with (go_at_call 76; refine HI.out.mono ?_; rintro e w3 ⟨rfl, d2, hMg, S2⟩)
              have HS2 := Lib.hid S2
              have HP3 := Lib.hid (HP2.out d2 hMg)
              clear S2 HI HP2 hMg
              go_wp2
              go_roundg (N - B)
              case measure => exact hm3
              case rel => exact ⟨B, B2, d2, rfl, rfl, Nat.le_refl _, HB2, HP3.out, HS2.out⟩
            · have hltz : ¬ (B : Int) ≤ (N : Int) := by omega
              have hltz' : (N : Int) < (B : Int) := by omega
              have e1 := HAB.out.1
              have e2 := HT.out
              have e3 := HM.out
              have e4 := HS.out
              by_cases hMN : M < N
              · have hMz : (M : Int) < (N : Int) := by omega
                have hpq := HP.out.1.pre e4 (b := N) (.inr ⟨by omega, by omega, rfl⟩)
                rw [← e3] at hpq
                have HI := Lib.hid (HSYM.out A M N dk wr HD.out SJ.out (by omega) hMN (Nat.le_refl _) hpq.1 hpq.2)
                have HP2 : Aside (∀ d2, Mrg (ltOf cf) nu A N dk d2 → AllB (ltOf cf) nu N t d2 ∧ Mvd 0 N d0 d2) := fun d2 hMg => by
                  rw [e2]
                  exact ⟨HP.out.1.last e4 (by omega) (.inl ⟨by omega, hMg⟩), HP.out.2.trans (hMg.1.mono (Nat.zero_le _) (Nat.le_refl _))⟩
                have HT0 : Aside (0 < t) := (show 0 < t by omega)
                clear SJ HP HD HAB hpq e1 e2 e3 e4 HSYM
                go_wp2_with (go_at_call 76; refine HI.out.mono ?_; rintro e w3 ⟨rfl, d2, hMg, S2⟩)
                have HS2 := Lib.hid S2
                have HP3 := Lib.hid (HP2.out d2 hMg)
                clear S2 HI HP2 hMg
                go_wp2
                go_roundg (N - t)
                case measure => exact hm
                case rel => exact ⟨t, d2, rfl, Nat.le_refl _, HT0, HP3.out, HS2.out⟩
              · have hMz : ¬ (M : Int) < (N : Int) := by omega
                have HP3 : Aside (AllB (ltOf cf) nu N t dk ∧ Mvd 0 N d0 dk) := by
                  rw [e2]
                  exact ⟨HP.out.1.last e4 (by omega) (.inr ⟨by omega, rfl⟩), HP.out.2⟩
                have HT0 : Aside (0 < t) := (show 0 < t by omega)
                clear HP HD HAB e1 e2 e3 e4 HSYM
                go_wp2
                go_roundg (N - t)
                case measure => exact hm
                case rel => exact ⟨t, dk, rfl, Nat.le_refl _, HT0, HP3.out, SJ.out⟩
        · have hsz1 : ¬ (s : Int) < (N : Int) := by omega
          have HE : Aside (Mvd 0 N d0 dk ∧ SoT (ltOf cf) nu dk 0 N) := ⟨HP.out.2, allB_end HP.out.1 (by omega)⟩
          clear HP HSYM
          go_wp2
          go_end0
          exact ⟨rfl, dk, HE.out.1, HE.out.2, SJ.out⟩

set_option maxHeartbeats 2000000 in
set_option maxRecDepth 1000000 in
/-- slices.SortStableFunc at numbers: what a stable sort does, where the numbers nu say the places at the start. -/
theorem sortStable_any (enc : α → Value) (cf : α → α → Int) (nu : α → Nat) (O : SWO (ltOf cf)) (g : Nat) (cb : Array Value) (blk off cap N : Nat) (d0 : Array α) (w0 : World)
    (eg : ∀ args w, (callFunc g args).run Try.prog w = .ok (.enter g args) w) (hcmp : CmpLays1 Try.prog g cb enc cf blk off d0.size w0) (R : Row1 enc w0 blk off d0) (hN : d0.size = N) (hsz : N < 2305843009213693952) (h0 : ∀ k, k < N → nu d0[k]! = k) :
    Calls Try.prog 37 #[.slice (some ⟨blk, off, none⟩) N cap, .func (.func g) #[] cb] w0 fun e w' => e = .returned (.tuple #[]) ∧ ∃ d', Mvd 0 N d0 d' ∧ SoT (ltOf cf) nu d' 0 N ∧ SW enc w0 blk off d' w' := by
  have HST := Lib.hid (stable_any enc cf nu O g cb blk off cap N d0 w0 eg hcmp R hN hsz h0)
  clear hcmp R O h0
  go_enter Try.func37, Try.ntmps37
  go_wp2_with (go_at_call 59; refine HST.out.mono ?_; rintro e w2 ⟨rfl, d', h1, h2, h3⟩)
  go_end0
  exact ⟨rfl, d', h1, h2, h3⟩
end Go.Proofs.Yteennnhinfnahaa
