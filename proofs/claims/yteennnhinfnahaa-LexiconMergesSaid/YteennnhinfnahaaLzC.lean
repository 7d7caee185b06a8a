/-
  WALKS over slices.SortStableFunc's family at numbers, second part: symMergeCmpFunc: one element on a side.
-/
import Derived.Test.YteennnhinfnahaaLzA
namespace Go.Proofs.Yteennnhinfnahaa
open Go.RowKit Go.Shelf Go.Lib Go.Sort
set_option linter.unusedVariables false
set_option linter.unusedSimpArgs false
variable {α : Type} [Inhabited α]

/-- What a merge leaves. -/
def SymV (enc : α → Value) (lt : α → α → Bool) (nu : α → Nat) (w0 : World) (blk off a b : Nat) (d : Array α) (e : Ending) (w' : World) : Prop := e = .returned (.tuple #[]) ∧ ∃ d', Mrg lt nu a b d d' ∧ SW enc w0 blk off d' w'

set_option maxHeartbeats 8000000 in
set_option maxRecDepth 1000000 in
theorem symLeft_any (enc : α → Value) (cf : α → α → Int) (nu : α → Nat) (O : SWO (ltOf cf)) (g : Nat) (cb : Array Value) (blk off cap a m b : Nat) (d0 d : Array α) (w0 w : World)
    (eg : ∀ args w, (callFunc g args).run Try.prog w = .ok (.enter g args) w) (hcmp : CmpLays1 Try.prog g cb enc cf blk off d0.size w0) (R : Row1 enc w0 blk off d0) (hs : d0.size = d.size) (S : SW enc w0 blk off d w)
    (hm : m = a + 1) (hmb : m < b) (hb : b ≤ d.size) (hsz : d.size < 4611686018427387904) (hr : SoT (ltOf cf) nu d m b) (ho : Old nu d a m b) :
    Calls Try.prog 76 #[.slice (some ⟨blk, off, none⟩) d.size cap, .int .i64 a, .int .i64 m, .int .i64 b, .func (.func g) #[] cb] w (SymV enc (ltOf cf) nu w0 blk off a b d) := by
  have mixed := mixedLz
  have S0 : Aside (SW enc w0 blk off d w) := S
  have HR : Aside (Row1 enc w0 blk off d0) := R
  have HC : Aside _ := hcmp
  have HEND : Aside (∀ i e, a + 1 ≤ i → i ≤ b → (i = a + 1 ∨ (ltOf cf) d[i - 1]! d[a]! = true) → (i = b ∨ (ltOf cf) d[i]! d[a]! = false) → Rot a (a + 1) i d e → Mrg (ltOf cf) nu a b d e) := fun i e h1 h2 P1 P2 hR => mrg_one_left O h1 h2 (by rw [hm] at hr; exact hr) (by rw [hm] at ho; exact ho) P1 P2 hR
  have hcl0 := R.hO.cells
  simp only [Value.cells] at hcl0
  have hst := R.hO.store Try.prog
  have hm1 : (m : Int) = (a : Int) + 1 := by omega
  have r0 : IntKind.i64.wrap ((m : Int) - (a : Int)) = 1 := by rw [IntKind.wrap_i64]; omega
  have ham : a < m := by omega
  have HM : Aside (m = a + 1) := hm
  have haI : (a : Int) < (d.size : Int) := by omega
  clear S R hcmp hr ho hm hm1 O
  go_enter Try.func76, Try.ntmps76
  go_wp2
  go_loopg [10, 11] (b - m) (fun g1 vi vj wr => ∃ i j : Nat, vi = .int .i64 i ∧ vj = .int .i64 j ∧ m ≤ i ∧ i ≤ j ∧ j ≤ b ∧ j - i ≤ g1 ∧ Aside ((i = a + 1 ∨ (ltOf cf) d[i - 1]! d[a]! = true) ∧ (j = b ∨ (ltOf cf) d[j]! d[a]! = false)) ∧ Aside (SW enc w0 blk off d wr))
  case atStart => exact ⟨m, b, rfl, rfl, Nat.le_refl _, by omega, Nat.le_refl _, Nat.le_refl _, ⟨Or.inl HM.out, Or.inl rfl⟩, S0⟩
  case round =>
    clear S0
    obtain ⟨i, j, rfl, rfl, hmi, hij, hjb, hg, HP, SJ⟩ := hrel
    by_cases hlt : i < j
    · have hltz : (i : Int) < (j : Int) := by omega
      obtain ⟨h, hh⟩ : ∃ h, h = (i + j) / 2 := ⟨_, rfl⟩
      have hhI : ((i : Int) + (j : Int)) / 2 = (h : Int) := by omega
      have rij : IntKind.i64.wrap ((i : Int) + (j : Int)) = (i : Int) + (j : Int) := by rw [IntKind.wrap_i64]; omega
      have hb1 : i ≤ h := by omega
      have hb2 : h < j := by omega
      have hhs : (h : Int) < (d.size : Int) := by omega
      clear hh
      obtain ⟨x, hx⟩ : ∃ x, x = d[h]! := ⟨_, rfl⟩
      obtain ⟨y, hy⟩ : ∃ x, x = d[a]! := ⟨_, rfl⟩
      have l1 := SJ.out.cl HR.out (by omega) h (by omega)
      have l2 := SJ.out.cl HR.out (by omega) a (by omega)
      rw [← hx] at l1
      rw [← hy] at l2
      have hc1 := SJ.out.cmp HC.out (by omega) x y
      cases hlv : (ltOf cf) d[h]! d[a]! with
      | true =>
        have hv : cf x y < 0 := by rw [hx, hy]; exact of_decide_eq_true hlv
        have hd1 : decide (cf x y < 0) = true := decide_eq_true hv
        have HP2 : Aside ((h + 1 = a + 1 ∨ (ltOf cf) d[h + 1 - 1]! d[a]! = true) ∧ (j = b ∨ (ltOf cf) d[j]! d[a]! = false)) := ⟨Or.inr hlv, HP.out.2⟩
        clear hx hy hlv HP
        go_wp2_with fail
        go_quiet_grown (first | (go_at_fn g; refine Calls.grown_of (hc1 _ _)))
        have S2 : Aside (SW enc w0 blk off d (grow (wr.drewN nq) osq)) := SJ.out.grown nq osq
        clear l1 l2 hc1 SJ
        generalize grow (wr.drewN nq) osq = w2 at S2 ⊢
        clear nq osq
        go_wp2
        go_roundg (j - (h + 1))
        case measure => omega
        case rel => exact ⟨h + 1, j, by go_num, rfl, by omega, by omega, hjb, Nat.le_refl _, HP2, S2⟩
      | false =>
        have hv : ¬ cf x y < 0 := by rw [hx, hy]; exact of_decide_eq_false hlv
        have hd1 : decide (cf x y < 0) = false := decide_eq_false hv
        have HP2 : Aside ((i = a + 1 ∨ (ltOf cf) d[i - 1]! d[a]! = true) ∧ (h = b ∨ (ltOf cf) d[h]! d[a]! = false)) := ⟨HP.out.1, Or.inr hlv⟩
        clear hx hy hlv HP
        go_wp2_with fail
        go_quiet_grown (first | (go_at_fn g; refine Calls.grown_of (hc1 _ _)))
        have S2 : Aside (SW enc w0 blk off d (grow (wr.drewN nq) osq)) := SJ.out.grown nq osq
        clear l1 l2 hc1 SJ
        generalize grow (wr.drewN nq) osq = w2 at S2 ⊢
        clear nq osq
        go_wp2
        go_roundg (h - i)
        case measure => omega
        case rel => exact ⟨i, h, rfl, rfl, hmi, by omega, by omega, Nat.le_refl _, HP2, S2⟩
    · obtain rfl : i = j := by omega
      have hltz : ¬ (i : Int) < (i : Int) := by omega
      have HE : Aside (∀ e, Rot a (a + 1) i d e → Mrg (ltOf cf) nu a b d e) := fun e hR => HEND.out i e (by have := HM.out; omega) hjb HP.out.1 HP.out.2 hR
      have ri : IntKind.i64.wrap ((i : Int) - 1) = ((i - 1 : Nat) : Int) := by rw [IntKind.wrap_i64]; omega
      obtain ⟨i1, hi1⟩ : ∃ q, q = i - 1 := ⟨_, rfl⟩
      rw [← hi1] at ri
      have hii : i = i1 + 1 := by omega
      have ha1 : a ≤ i1 := by have := HM.out; omega
      have HE2 : Aside (∀ e, Rot a (a + 1) (i1 + 1) d e → Mrg (ltOf cf) nu a b d e) := fun e hR => HE.out e (by rw [hii]; exact hR)
      have hi1s : i1 < d.size := by omega
      clear HE HEND HP hi1 hii
      go_wp2
      go_loopg [13] (i1 - a) (fun g2 vk wr => ∃ (k : Nat) (dk : Array α), vk = .int .i64 k ∧ a ≤ k ∧ k ≤ i1 ∧ i1 - k ≤ g2 ∧ Aside (Rot a (a + 1) (k + 1) d dk) ∧ Aside (SW enc w0 blk off dk wr))
      case atStart => exact ⟨a, d, rfl, Nat.le_refl _, ha1, Nat.le_refl _, Rot.none ⟨Or.inr rfl, by omega, by omega⟩, SJ⟩
      case round =>
        clear SJ
        obtain ⟨k, dk, rfl, hak, hki, hg2, HS, SJ⟩ := hrel
        by_cases hlt2 : k < i1
        · have hltz2 : (k : Int) < (i1 : Int) := by omega
          have hsk : dk.size = d.size := HS.out.1
          have HS2 : Aside (Rot a (a + 1) (k + 2) d (swp dk k (k + 1))) := Rot.up hak (by omega) HS.out
          obtain ⟨iN, hiN⟩ : ∃ q, q = k := ⟨_, rfl⟩
          obtain ⟨jN, hjN⟩ : ∃ q, q = k + 1 := ⟨_, rfl⟩
          have ea : ((k : Int)).toNat = iN := by omega
          have pa : (0 : Int) ≤ (k : Int) := by omega
          have ba : (k : Int) < (d.size : Int) := by omega
          have ra : IntKind.i64.wrap ((k : Int)) = (k : Int) := by rw [IntKind.wrap_i64]; omega
          have ec : ((k : Int) + 1).toNat = jN := by omega
          have pc : (0 : Int) ≤ (k : Int) + 1 := by omega
          have bc : (k : Int) + 1 < (d.size : Int) := by omega
          have rc : IntKind.i64.wrap ((k : Int) + 1) = (k : Int) + 1 := by rw [IntKind.wrap_i64]; omega
          obtain ⟨x, hx⟩ : ∃ x, x = dk[k]! := ⟨_, rfl⟩
          obtain ⟨y, hy⟩ : ∃ x, x = dk[k + 1]! := ⟨_, rfl⟩
          have S3 : Aside (SW enc w0 blk off (swp dk k (k + 1)) ((wr.setCell ⟨blk, off + iN, none⟩ (enc y)).setCell ⟨blk, off + jN, none⟩ (enc x)).drew) := by rw [hiN, hjN, hx, hy]; exact SJ.out.swapped HR.out k (k + 1) (by omega) (by omega)
          have ca := SJ.out.c1 HR.out (by omega) k (by omega)
          have cb' := SJ.out.c1 HR.out (by omega) (k + 1) (by omega)
          have fa := SJ.out.f1 HR.out (by omega) k (by omega)
          have fb := SJ.out.f1 HR.out (by omega) (k + 1) (by omega)
          obtain ⟨u, cc⟩ := SJ.out.c2 HR.out (by omega) k (k + 1) (by omega) (by omega) (enc y)
          rw [← hjN, ← hiN] at cc
          rw [← hx, ← hiN] at ca
          rw [← hy, ← hjN] at cb'
          rw [← hiN] at fa
          rw [← hjN] at fb
          clear SJ hx hy hiN hjN HS
          go_wp2_with fail
          go_big_region_o
          clear ca cb' cc fa fb
          generalize ((wr.setCell ⟨blk, off + iN, none⟩ (enc y)).setCell ⟨blk, off + jN, none⟩ (enc x)).drew = w3 at S3 ⊢
          clear ea ec
          go_wp2
          go_roundg (i1 - (k + 1))
          case measure => omega
          case rel => exact ⟨k + 1, _, by go_num, by omega, by omega, Nat.le_refl _, HS2, S3⟩
        · have hltz2 : ¬ (k : Int) < (i1 : Int) := by omega
          obtain rfl : k = i1 := by omega
          have HF : Aside (SymV enc (ltOf cf) nu w0 blk off a b d (.returned (.tuple #[])) wr) := ⟨rfl, dk, HE2.out dk HS.out, SJ.out⟩
          go_wp2
          first
            | (go_end0; exact HF.out)
            | (go_ret; exact HF.out)
            | ((try simp only [Exit.inBlock, Exit.then]); refine bodyPost_ret (results_none rfl _ _ _) rfl ?_; exact HF.out)

set_option maxHeartbeats 8000000 in
set_option maxRecDepth 1000000 in
theorem symRight_any (enc : α → Value) (cf : α → α → Int) (nu : α → Nat) (O : SWO (ltOf cf)) (g : Nat) (cb : Array Value) (blk off cap a m b : Nat) (d0 d : Array α) (w0 w : World)
    (eg : ∀ args w, (callFunc g args).run Try.prog w = .ok (.enter g args) w) (hcmp : CmpLays1 Try.prog g cb enc cf blk off d0.size w0) (R : Row1 enc w0 blk off d0) (hs : d0.size = d.size) (S : SW enc w0 blk off d w)
    (ham : a < m) (ham1 : m ≠ a + 1) (hm : b = m + 1) (hb : b ≤ d.size) (hsz : d.size < 4611686018427387904) (hl : SoT (ltOf cf) nu d a m) (ho : Old nu d a m b) :
    Calls Try.prog 76 #[.slice (some ⟨blk, off, none⟩) d.size cap, .int .i64 a, .int .i64 m, .int .i64 b, .func (.func g) #[] cb] w (SymV enc (ltOf cf) nu w0 blk off a b d) := by
  have mixed := mixedLz
  have S0 : Aside (SW enc w0 blk off d w) := S
  have HR : Aside (Row1 enc w0 blk off d0) := R
  have HC : Aside _ := hcmp
  have HEND : Aside (∀ i e, a ≤ i → i ≤ m → (i = a ∨ (ltOf cf) d[m]! d[i - 1]! = false) → (i = m ∨ (ltOf cf) d[m]! d[i]! = true) → Rot i m (m + 1) d e → Mrg (ltOf cf) nu a b d e) := fun i e h1 h2 P1 P2 hR => by rw [hm]; exact mrg_one_right O h1 h2 hl (by rw [hm] at ho; exact ho) P1 P2 hR
  have hcl0 := R.hO.cells
  simp only [Value.cells] at hcl0
  have hst := R.hO.store Try.prog
  have r0 : IntKind.i64.wrap ((m : Int) - (a : Int)) = ((m - a : Nat) : Int) := by rw [IntKind.wrap_i64]; omega
  have r0n : (((m - a : Nat) : Int) == 1) = false := by simp; omega
  obtain ⟨p0, hp0⟩ : ∃ q, q = m - a := ⟨_, rfl⟩
  rw [← hp0] at r0 r0n
  have r0n' : ¬ (p0 : Int) = 1 := by omega
  have r1 : IntKind.i64.wrap ((b : Int) - (m : Int)) = 1 := by rw [IntKind.wrap_i64]; omega
  have hms : m < d.size := by omega
  have HM : Aside (b = m + 1) := hm
  have haI : (m : Int) < (d.size : Int) := by omega
  clear S R hcmp hl ho hm O hp0 ham1
  go_enter Try.func76, Try.ntmps76
  go_wp2
  go_loopg [14, 15] (m - a) (fun g1 vi vj wr => ∃ i j : Nat, vi = .int .i64 i ∧ vj = .int .i64 j ∧ a ≤ i ∧ i ≤ j ∧ j ≤ m ∧ j - i ≤ g1 ∧ Aside ((i = a ∨ (ltOf cf) d[m]! d[i - 1]! = false) ∧ (j = m ∨ (ltOf cf) d[m]! d[j]! = true)) ∧ Aside (SW enc w0 blk off d wr))
  case atStart => exact ⟨a, m, rfl, rfl, Nat.le_refl _, by omega, Nat.le_refl _, Nat.le_refl _, ⟨Or.inl rfl, Or.inl rfl⟩, S0⟩
  case round =>
    clear S0
    obtain ⟨i, j, rfl, rfl, hmi, hij, hjb, hg, HP, SJ⟩ := hrel
    by_cases hlt : i < j
    · have hltz : (i : Int) < (j : Int) := by omega
      obtain ⟨h, hh⟩ : ∃ h, h = (i + j) / 2 := ⟨_, rfl⟩
      have hhI : ((i : Int) + (j : Int)) / 2 = (h : Int) := by omega
      have rij : IntKind.i64.wrap ((i : Int) + (j : Int)) = (i : Int) + (j : Int) := by rw [IntKind.wrap_i64]; omega
      have hb1 : i ≤ h := by omega
      have hb2 : h < j := by omega
      have hhs : (h : Int) < (d.size : Int) := by omega
      clear hh
      obtain ⟨x, hx⟩ : ∃ x, x = d[m]! := ⟨_, rfl⟩
      obtain ⟨y, hy⟩ : ∃ x, x = d[h]! := ⟨_, rfl⟩
      have l1 := SJ.out.cl HR.out (by omega) m (by omega)
      have l2 := SJ.out.cl HR.out (by omega) h (by omega)
      rw [← hx] at l1
      rw [← hy] at l2
      have hc1 := SJ.out.cmp HC.out (by omega) x y
      cases hlv : (ltOf cf) d[m]! d[h]! with
      | false =>
        have hv : ¬ cf x y < 0 := by rw [hx, hy]; exact of_decide_eq_false hlv
        have hd1 : decide (cf x y < 0) = false := decide_eq_false hv
        have HP2 : Aside ((h + 1 = a ∨ (ltOf cf) d[m]! d[h + 1 - 1]! = false) ∧ (j = m ∨ (ltOf cf) d[m]! d[j]! = true)) := ⟨Or.inr hlv, HP.out.2⟩
        clear hx hy hlv HP
        go_wp2_with fail
        go_quiet_grown (first | (go_at_fn g; refine Calls.grown_of (hc1 _ _)))
        have S2 : Aside (SW enc w0 blk off d (grow (wr.drewN nq) osq)) := SJ.out.grown nq osq
        clear l1 l2 hc1 SJ
        generalize grow (wr.drewN nq) osq = w2 at S2 ⊢
        clear nq osq
        go_wp2
        go_roundg (j - (h + 1))
        case measure => omega
        case rel => exact ⟨h + 1, j, by go_num, rfl, by omega, by omega, hjb, Nat.le_refl _, HP2, S2⟩
      | true =>
        have hv : cf x y < 0 := by rw [hx, hy]; exact of_decide_eq_true hlv
        have hd1 : decide (cf x y < 0) = true := decide_eq_true hv
        have HP2 : Aside ((i = a ∨ (ltOf cf) d[m]! d[i - 1]! = false) ∧ (h = m ∨ (ltOf cf) d[m]! d[h]! = true)) := ⟨HP.out.1, Or.inr hlv⟩
        clear hx hy hlv HP
        go_wp2_with fail
        go_quiet_grown (first | (go_at_fn g; refine Calls.grown_of (hc1 _ _)))
        have S2 : Aside (SW enc w0 blk off d (grow (wr.drewN nq) osq)) := SJ.out.grown nq osq
        clear l1 l2 hc1 SJ
        generalize grow (wr.drewN nq) osq = w2 at S2 ⊢
        clear nq osq
        go_wp2
        go_roundg (h - i)
        case measure => omega
        case rel => exact ⟨i, h, rfl, rfl, hmi, by omega, by omega, Nat.le_refl _, HP2, S2⟩
    · obtain rfl : i = j := by omega
      have hltz : ¬ (i : Int) < (i : Int) := by omega
      have HE2 : Aside (∀ e, Rot i m (m + 1) d e → Mrg (ltOf cf) nu a b d e) := fun e hR => HEND.out i e hmi hjb HP.out.1 HP.out.2 hR
      clear HEND HP
      go_wp2
      go_loopg [17] (m - i) (fun g2 vk wr => ∃ (k : Nat) (dk : Array α), vk = .int .i64 k ∧ i ≤ k ∧ k ≤ m ∧ k - i ≤ g2 ∧ Aside (Rot k m (m + 1) d dk) ∧ Aside (SW enc w0 blk off dk wr))
      case atStart => exact ⟨m, d, rfl, hjb, Nat.le_refl _, Nat.le_refl _, Rot.none ⟨Or.inl rfl, by omega, by omega⟩, SJ⟩
      case round =>
        clear SJ
        obtain ⟨k, dk, rfl, hak, hki, hg2, HS, SJ⟩ := hrel
        by_cases hlt2 : i < k
        · have hltz2 : (i : Int) < (k : Int) := by omega
          have hltd2 : decide ((k : Int) > (i : Int)) = true := decide_eq_true (by omega)
          have hsk : dk.size = d.size := HS.out.1
          obtain ⟨k', hk'⟩ : ∃ q, q + 1 = k := ⟨k - 1, by omega⟩
          subst hk'
          have HS2 : Aside (Rot k' m (m + 1) d (swp dk (k' + 1) k')) := Rot.down (by omega) hms HS.out
          obtain ⟨iN, hiN⟩ : ∃ q, q = k' + 1 := ⟨_, rfl⟩
          obtain ⟨jN, hjN⟩ : ∃ q, q = k' := ⟨_, rfl⟩
          have ea : ((iN : Int)).toNat = iN := by omega
          have pa : (0 : Int) ≤ (iN : Int) := by omega
          have ba : (iN : Int) < (d.size : Int) := by omega
          have rc : IntKind.i64.wrap ((iN : Int) - 1) = (jN : Int) := by rw [IntKind.wrap_i64]; omega
          have ec : ((jN : Int)).toNat = jN := by omega
          have pc : (0 : Int) ≤ (jN : Int) := by omega
          have bc : (jN : Int) < (d.size : Int) := by omega
          obtain ⟨x, hx⟩ : ∃ x, x = dk[k' + 1]! := ⟨_, rfl⟩
          obtain ⟨y, hy⟩ : ∃ x, x = dk[k']! := ⟨_, rfl⟩
          have S3 : Aside (SW enc w0 blk off (swp dk (k' + 1) k') ((wr.setCell ⟨blk, off + iN, none⟩ (enc y)).setCell ⟨blk, off + jN, none⟩ (enc x)).drew) := by rw [hiN, hjN, hx, hy]; exact SJ.out.swapped HR.out (k' + 1) k' (by omega) (by omega)
          have ca := SJ.out.c1 HR.out (by omega) (k' + 1) (by omega)
          have cb' := SJ.out.c1 HR.out (by omega) k' (by omega)
          have fa := SJ.out.f1 HR.out (by omega) (k' + 1) (by omega)
          have fb := SJ.out.f1 HR.out (by omega) k' (by omega)
          obtain ⟨u, cc⟩ := SJ.out.c2 HR.out (by omega) (k' + 1) k' (by omega) (by omega) (enc y)
          have HN : Aside (i ≤ jN ∧ jN ≤ m ∧ jN - i < gk ∧ jN = k') := ⟨by omega, by omega, by omega, hjN⟩
          rw [← hiN] at hltz2 hltd2
          rw [← hx] at ca
          rw [← hy] at cb'
          rw [← hiN] at ca fa cc ⊢
          rw [← hjN] at cb' fb cc
          clear SJ hx hy hiN hjN HS
          go_wp2_with fail
          go_big_region_o
          clear ca cb' cc fa fb
          generalize ((wr.setCell ⟨blk, off + iN, none⟩ (enc y)).setCell ⟨blk, off + jN, none⟩ (enc x)).drew = w3 at S3 ⊢
          clear ea ec
          go_wp2
          go_roundg (jN - i)
          case measure => exact HN.out.2.2.1
          case rel => exact ⟨jN, swp dk (k' + 1) k', by go_num, HN.out.1, HN.out.2.1, Nat.le_refl _, (by rw [HN.out.2.2.2]; exact HS2), S3⟩
        · have hltz2 : ¬ (i : Int) < (k : Int) := by omega
          have hltd2 : decide ((k : Int) > (i : Int)) = false := decide_eq_false (by omega)
          obtain rfl : k = i := by omega
          have HF : Aside (SymV enc (ltOf cf) nu w0 blk off a b d (.returned (.tuple #[])) wr) := ⟨rfl, dk, HE2.out dk HS.out, SJ.out⟩
          go_wp2
          first
            | (go_end0; exact HF.out)
            | (go_ret; exact HF.out)
            | ((try simp only [Exit.inBlock, Exit.then]); refine bodyPost_ret (results_none rfl _ _ _) rfl ?_; exact HF.out)
end Go.Proofs.Yteennnhinfnahaa
