/-
  WALKS over slices.SortStableFunc's family at numbers, third part: symMergeCmpFunc.
-/
import Derived.Test.YteennnhinfnahaaLzC
import Derived.BigQuiet
namespace Go.Proofs.Yteennnhinfnahaa
open Go.RowKit Go.Shelf Go.Lib Go.Sort
set_option linter.unusedVariables false
set_option linter.unusedSimpArgs false
variable {α : Type} [Inhabited α]

/-- What the tail of symMerge knows: the cut s, the rotation's end t. -/
structure Cut (lt : α → α → Bool) (nu : α → Nat) (d : Array α) (a m b mid s t : Nat) : Prop where
  h1 : a ≤ s
  h2 : s ≤ m
  h3 : m ≤ t
  h4 : t ≤ b
  hmid : s + (t - m) = mid
  C1 : ∀ i j, a ≤ i → i < s → t ≤ j → j < b → Tr lt nu d[i]! d[j]!
  C2 : ∀ i j, s ≤ i → i < m → m ≤ j → j < t → Tr lt nu d[j]! d[i]!
  hl : SoT lt nu d a m
  hr : SoT lt nu d m b
  ho : Old nu d a m b
  m1 : a < mid
  m2 : mid < b

/-- The recursion, as it is given. -/
def SymIH (enc : α → Value) (cf : α → α → Int) (nu : α → Nat) (g : Nat) (cb : Array Value) (blk off cap N : Nat) (w0 : World) (f : Nat) : Prop :=
  ∀ (a m b : Nat) (d : Array α) (w : World), b - a ≤ f → a < m → m < b → b ≤ N → d.size = N → SW enc w0 blk off d w → SoT (ltOf cf) nu d a m → SoT (ltOf cf) nu d m b → Old nu d a m b →
    Calls Try.prog 76 #[.slice (some ⟨blk, off, none⟩) N cap, .int .i64 a, .int .i64 m, .int .i64 b, .func (.func g) #[] cb] w (SymV enc (ltOf cf) nu w0 blk off a b d)
section
variable {enc : α → Value} {cf : α → α → Int} {nu : α → Nat} {g : Nat} {cb : Array Value} {blk off cap N : Nat} {w0 : World} {f a m b mid s t : Nat} {d0 d : Array α}
theorem symRec2 (O : SWO (ltOf cf)) (IH : SymIH enc cf nu g cb blk off cap N w0 f) (hN : d0.size = N) (hd : d.size = N) (K : Cut (ltOf cf) nu d a m b mid s t) (hf : b - a ≤ f + 1) (ham : a < m) (hmb : m < b) (hb : b ≤ N) :
    ∀ d1 w1, Rot s m t d d1 → SW enc w0 blk off d1 w1 → a < s → s < mid → Calls Try.prog 76 #[.slice (some ⟨blk, off, none⟩) N cap, .int .i64 a, .int .i64 s, .int .i64 mid, .func (.func g) #[] cb] w1 (SymV enc (ltOf cf) nu w0 blk off a mid d1) := fun d1 w1 hR S h1 h2 => by
  obtain ⟨p1, p2, p3, p4⟩ := rot_parts O K.h1 K.h2 K.h3 K.h4 K.hl K.hr hR
  have o1 := (rot_old K.h1 K.h2 K.h3 K.h4 K.ho hR).1
  have k1 := K.h1; have k2 := K.h2; have k3 := K.h3; have k4 := K.h4; have k5 := K.hmid; have k6 := K.m1; have k7 := K.m2
  rw [k5] at p2 o1
  exact IH a s mid d1 w1 (by omega) h1 h2 (by omega) (hR.1.trans hd) S p1 p2 o1
theorem symRec3 (O : SWO (ltOf cf)) (IH : SymIH enc cf nu g cb blk off cap N w0 f) (hN : d0.size = N) (hd : d.size = N) (K : Cut (ltOf cf) nu d a m b mid s t) (hf : b - a ≤ f + 1) (ham : a < m) (hmb : m < b) (hb : b ≤ N) :
    ∀ d1 d2 w2, Rot s m t d d1 → Mrg (ltOf cf) nu a mid d1 d2 → SW enc w0 blk off d2 w2 → mid < t → t < b → Calls Try.prog 76 #[.slice (some ⟨blk, off, none⟩) N cap, .int .i64 mid, .int .i64 t, .int .i64 b, .func (.func g) #[] cb] w2 (SymV enc (ltOf cf) nu w0 blk off mid b d2) := fun d1 d2 w2 hR hM S h1 h2 => by
  obtain ⟨p1, p2, p3, p4⟩ := rot_parts O K.h1 K.h2 K.h3 K.h4 K.hl K.hr hR
  have o1 := (rot_old K.h1 K.h2 K.h3 K.h4 K.ho hR).2
  have k1 := K.h1; have k2 := K.h2; have k3 := K.h3; have k4 := K.h4; have k5 := K.hmid; have k6 := K.m1; have k7 := K.m2
  rw [k5] at p3 o1
  exact IH mid t b d2 w2 (by omega) h1 h2 hb ((hM.1.size.trans hR.1).trans hd) S (p3.same fun k e1 e2 => hM.1.out k (by omega)) (p4.same fun k e1 e2 => hM.1.out k (by omega)) (o1.same (fun k e1 e2 => hM.1.out k (by omega)) (by omega))
theorem symIdle2 (O : SWO (ltOf cf)) (K : Cut (ltOf cf) nu d a m b mid s t) {d1 : Array α} (hR : Rot s m t d d1) (h : s ≤ a ∨ mid ≤ s) : Mrg (ltOf cf) nu a mid d1 d1 := by
  obtain ⟨p1, p2, p3, p4⟩ := rot_parts O K.h1 K.h2 K.h3 K.h4 K.hl K.hr hR
  rw [K.hmid] at p2
  exact mrg_idle h p1 p2
theorem symIdle3 (O : SWO (ltOf cf)) (K : Cut (ltOf cf) nu d a m b mid s t) {d1 d2 : Array α} (hR : Rot s m t d d1) (hM : Mrg (ltOf cf) nu a mid d1 d2) (h : t ≤ mid ∨ b ≤ t) : Mrg (ltOf cf) nu mid b d2 d2 := by
  obtain ⟨p1, p2, p3, p4⟩ := rot_parts O K.h1 K.h2 K.h3 K.h4 K.hl K.hr hR
  have k1 := K.h1; have k2 := K.h2; have k3 := K.h3; have k4 := K.h4; have k5 := K.hmid; have k6 := K.m1; have k7 := K.m2
  rw [k5] at p3
  exact mrg_idle h (p3.same fun k e1 e2 => hM.1.out k (by omega)) (p4.same fun k e1 e2 => hM.1.out k (by omega))
theorem symFin (O : SWO (ltOf cf)) (K : Cut (ltOf cf) nu d a m b mid s t) : ∀ d1 d2 d3 w3, Rot s m t d d1 → Mrg (ltOf cf) nu a mid d1 d2 → Mrg (ltOf cf) nu mid b d2 d3 → SW enc w0 blk off d3 w3 → SymV enc (ltOf cf) nu w0 blk off a b d (.returned (.tuple #[])) w3 := fun d1 d2 d3 w3 hR M2 M3 S =>
  ⟨rfl, d3, mrg_fin O K.h1 K.h2 K.h3 K.h4 K.hmid K.hl K.hr K.C1 K.C2 hR M2 M3, S⟩
end

set_option maxHeartbeats 8000000 in
set_option maxRecDepth 1000000 in
theorem symMerge_step (enc : α → Value) (cf : α → α → Int) (nu : α → Nat) (O : SWO (ltOf cf)) (g : Nat) (cb : Array Value) (blk off cap N : Nat) (d0 : Array α) (w0 : World)
    (eg : ∀ args w, (callFunc g args).run Try.prog w = .ok (.enter g args) w) (hcmp : CmpLays1 Try.prog g cb enc cf blk off d0.size w0) (R : Row1 enc w0 blk off d0) (hN : d0.size = N) (hsz : N < 4611686018427387904) (f : Nat)
    (IH : SymIH enc cf nu g cb blk off cap N w0 f) (a m b : Nat) (d : Array α) (w : World) (hf : b - a ≤ f + 1) (ham : a < m) (hmb : m < b) (hb : b ≤ N) (hd : d.size = N) (S : SW enc w0 blk off d w) (hl : SoT (ltOf cf) nu d a m) (hr : SoT (ltOf cf) nu d m b) (ho : Old nu d a m b) :
    Calls Try.prog 76 #[.slice (some ⟨blk, off, none⟩) N cap, .int .i64 a, .int .i64 m, .int .i64 b, .func (.func g) #[] cb] w (SymV enc (ltOf cf) nu w0 blk off a b d) := by
    by_cases q1 : m = a + 1
    · have := symLeft_any enc cf nu O g cb blk off cap a m b d0 d w0 w eg hcmp R (by omega) S q1 hmb (by omega) (by omega) hr ho
      rw [hd] at this
      exact this
    by_cases q2 : b = m + 1
    · have := symRight_any enc cf nu O g cb blk off cap a m b d0 d w0 w eg hcmp R (by omega) S ham q1 q2 (by omega) (by omega) hl ho
      rw [hd] at this
      exact this
    have mixed := mixedLz
    have S0 : Aside (SW enc w0 blk off d w) := S
    have HR : Aside (Row1 enc w0 blk off d0) := R
    have HC : Aside _ := hcmp
    have HO : Aside (SWO (ltOf cf)) := O
    have HN : Aside (d0.size = N) := hN
    have HD : Aside (d.size = N) := hd
    have HIH := Lib.hid IH
    obtain ⟨mid, hmid⟩ : ∃ q, q = (a + b) / 2 := ⟨_, rfl⟩
    have m1 : a < mid := by omega
    have m2 : mid < b := by omega
    have HK : Aside (∀ s0 r0 s, SrB a m b mid s0 r0 → s0 ≤ s → s ≤ r0 → (s = s0 ∨ (ltOf cf) d[mid + m - 1 - (s - 1)]! d[s - 1]! = false) → (s = r0 ∨ (ltOf cf) d[mid + m - 1 - s]! d[s]! = true) → Cut (ltOf cf) nu d a m b mid s (mid + m - s)) := fun s0 r0 s hB e1 e2 P1 P2 => by
      obtain ⟨k1, k2, k3, k4, k5, k6, k7⟩ := mrg_cut O ham hmb hmid hB e1 e2 hl hr ho P1 P2
      exact ⟨k1, k2, k3, k4, k5, k6, k7, hl, hr, ho, m1, m2⟩
    have hmI : ((a : Int) + (b : Int)) / 2 = (mid : Int) := by omega
    have rab : IntKind.i64.wrap ((a : Int) + (b : Int)) = (a : Int) + (b : Int) := by rw [IntKind.wrap_i64]; omega
    have r0 : IntKind.i64.wrap ((m : Int) - (a : Int)) = ((m - a : Nat) : Int) := by rw [IntKind.wrap_i64]; omega
    have r0n : (((m - a : Nat) : Int) == 1) = false := by simp; omega
    obtain ⟨p0, hp0⟩ : ∃ q, q = m - a := ⟨_, rfl⟩
    rw [← hp0] at r0 r0n
    have r0n' : ¬ (p0 : Int) = 1 := by omega
    have r1 : IntKind.i64.wrap ((b : Int) - (m : Int)) = ((b - m : Nat) : Int) := by rw [IntKind.wrap_i64]; omega
    have r1n : (((b - m : Nat) : Int) == 1) = false := by simp; omega
    obtain ⟨p1, hp1⟩ : ∃ q, q = b - m := ⟨_, rfl⟩
    rw [← hp1] at r1 r1n
    have r1n' : ¬ (p1 : Int) = 1 := by omega
    have rn : IntKind.i64.wrap ((mid : Int) + (m : Int)) = ((mid + m : Nat) : Int) := by rw [IntKind.wrap_i64]; omega
    have rp : IntKind.i64.wrap (((mid + m : Nat) : Int) - 1) = ((mid + m - 1 : Nat) : Int) := by rw [IntKind.wrap_i64]; omega
    have rb : mid < m → IntKind.i64.wrap (((mid + m : Nat) : Int) - (b : Int)) = ((mid + m - b : Nat) : Int) := fun h => by rw [IntKind.wrap_i64]; omega
    have hB1 : mid < m → SrB a m b mid (mid + m - b) mid ∧ mid + m - b ≤ mid := fun h => ⟨Or.inl ⟨h, rfl, rfl⟩, by omega⟩
    have hB2 : ¬ mid < m → SrB a m b mid a m ∧ a ≤ m := fun h => ⟨Or.inr ⟨by omega, rfl, rfl⟩, by omega⟩
    obtain ⟨n, hn⟩ : ∃ q, q = mid + m := ⟨_, rfl⟩
    rw [← hn] at rn rp HK rb hB1
    obtain ⟨p, hp⟩ : ∃ q, q = n - 1 := ⟨_, rfl⟩
    rw [← hp] at rp HK
    have HP : Aside (n = mid + m ∧ p = n - 1 ∧ mid = (a + b) / 2) := ⟨hn, hp, hmid⟩
    clear S R hcmp hl hr ho O hp0 hp1 IH q1 q2 hN hd hmid hn hp
    by_cases hmm : mid < m
    · have z1 : (mid : Int) < (m : Int) := by omega
      have z2 : decide ((m : Int) > (mid : Int)) = true := decide_eq_true (by omega)
      have HBB := Lib.hid (hB1 hmm)
      have rb' := rb hmm
      obtain ⟨s0, hs0⟩ : ∃ q, q = n - b := ⟨_, rfl⟩
      rw [← hs0] at HBB rb'
      clear hB1 hB2 rb hs0
      go_enter Try.func76, Try.ntmps76
      go_wp2
      clear hmI rab r0 r0n r0n' r1 r1n r1n' rn rp z1 z2 rb'
      go_loopg [20, 21] (mid - s0) (fun g1 vi vj wr => ∃ i j : Nat, vi = .int .i64 i ∧ vj = .int .i64 j ∧ i ≤ j ∧ j - i ≤ g1 ∧ Aside (s0 ≤ i ∧ j ≤ mid ∧ (i = s0 ∨ (ltOf cf) d[p - (i - 1)]! d[i - 1]! = false) ∧ (j = mid ∨ (ltOf cf) d[p - j]! d[j]! = true)) ∧ Aside (SW enc w0 blk off d wr))
      case atStart => exact ⟨s0, mid, rfl, rfl, HBB.out.2, Nat.le_refl _, ⟨Nat.le_refl _, Nat.le_refl _, Or.inl rfl, Or.inl rfl⟩, S0⟩
      case round =>
        clear S0
        obtain ⟨i, j, rfl, rfl, hij, hg, HP4, SJ⟩ := hrel
        have hbd : a ≤ i ∧ j ≤ m ∧ j ≤ mid ∧ mid + m ≤ b + i := by have h1 := HBB.out.1; have h2 := HP4.out; have h3 := HP.out.2.2; unfold SrB at h1; omega
        by_cases hlt : i < j
        · have hltz : (i : Int) < (j : Int) := by omega
          obtain ⟨h, hh⟩ : ∃ h, h = (i + j) / 2 := ⟨_, rfl⟩
          have hhI : ((i : Int) + (j : Int)) / 2 = (h : Int) := by omega
          have rij : IntKind.i64.wrap ((i : Int) + (j : Int)) = (i : Int) + (j : Int) := by rw [IntKind.wrap_i64]; omega
          have hb1 : i ≤ h := by omega
          have hb2 : h < j := by omega
          have hhs : (h : Int) < (N : Int) := by omega
          have hp3 := HP.out
          have rph : IntKind.i64.wrap ((p : Int) - (h : Int)) = ((p - h : Nat) : Int) := by rw [IntKind.wrap_i64]; omega
          have hphN : p - h < N := by omega
          obtain ⟨k, hk⟩ : ∃ q, q = p - h := ⟨_, rfl⟩
          rw [← hk] at rph hphN
          have hks : (k : Int) < (N : Int) := by omega
          obtain ⟨x, hx⟩ : ∃ x, x = d[p - h]! := ⟨_, rfl⟩
          obtain ⟨y, hy⟩ : ∃ x, x = d[h]! := ⟨_, rfl⟩
          have l1 := SJ.out.cl HR.out (by rw [HD.out, HN.out]) (p - h) (by rw [HD.out]; omega)
          have l2 := SJ.out.cl HR.out (by rw [HD.out, HN.out]) h (by rw [HD.out]; omega)
          rw [← hx, ← hk] at l1
          rw [← hy] at l2
          have hc1 := SJ.out.cmp HC.out (by rw [HD.out, HN.out]) x y
          cases hlv : (ltOf cf) d[p - h]! d[h]! with
          | false =>
            have hv : ¬ cf x y < 0 := by rw [hx, hy]; exact of_decide_eq_false hlv
            have hd1 : decide (cf x y < 0) = false := decide_eq_false hv
            have HP2 : Aside (s0 ≤ h + 1 ∧ j ≤ mid ∧ (h + 1 = s0 ∨ (ltOf cf) d[p - (h + 1 - 1)]! d[h + 1 - 1]! = false) ∧ (j = mid ∨ (ltOf cf) d[p - j]! d[j]! = true)) := ⟨by have := HP4.out.1; omega, HP4.out.2.1, Or.inr hlv, HP4.out.2.2.2⟩
            clear hx hy hlv HP4 hh hk hp3 hbd
            go_wp2_with fail
            refine wp_region_quiet_grown (by assumption) (by kernel_rfl) ?_
            repeat (go_big_quiet_step ((go_at_fn g; refine Calls.grown_of (hc1 _ _))))
            refine wpQuiet_nil ?_
            intro _ hw'
            obtain ⟨⟨nq, osq⟩, hw''⟩ := hw'
            subst hw''
            have S2 : Aside (SW enc w0 blk off d (grow (wr.drewN nq) osq)) := SJ.out.grown nq osq
            clear l1 l2 hc1 SJ
            generalize grow (wr.drewN nq) osq = w2 at S2 ⊢
            clear nq osq
            go_wp2
            go_roundg (j - (h + 1))
            case measure => omega
            case rel => exact ⟨h + 1, j, by go_num, rfl, by omega, Nat.le_refl _, HP2, S2⟩
          | true =>
            have hv : cf x y < 0 := by rw [hx, hy]; exact of_decide_eq_true hlv
            have hd1 : decide (cf x y < 0) = true := decide_eq_true hv
            have HP2 : Aside (s0 ≤ i ∧ h ≤ mid ∧ (i = s0 ∨ (ltOf cf) d[p - (i - 1)]! d[i - 1]! = false) ∧ (h = mid ∨ (ltOf cf) d[p - h]! d[h]! = true)) := ⟨HP4.out.1, by have := HP4.out.2.1; omega, HP4.out.2.2.1, Or.inr hlv⟩
            clear hx hy hlv HP4 hh hk hp3 hbd
            go_wp2_with fail
            refine wp_region_quiet_grown (by assumption) (by kernel_rfl) ?_
            repeat (go_big_quiet_step ((go_at_fn g; refine Calls.grown_of (hc1 _ _))))
            refine wpQuiet_nil ?_
            intro _ hw'
            obtain ⟨⟨nq, osq⟩, hw''⟩ := hw'
            subst hw''
            have S2 : Aside (SW enc w0 blk off d (grow (wr.drewN nq) osq)) := SJ.out.grown nq osq
            clear l1 l2 hc1 SJ
            generalize grow (wr.drewN nq) osq = w2 at S2 ⊢
            clear nq osq
            go_wp2
            go_roundg (h - i)
            case measure => omega
            case rel => exact ⟨i, h, rfl, rfl, by omega, Nat.le_refl _, HP2, S2⟩
        · obtain rfl : i = j := by omega
          have hltz : ¬ (i : Int) < (i : Int) := by omega
          have hK := HK.out _ _ i HBB.out.1 HP4.out.1 HP4.out.2.1 HP4.out.2.2.1 HP4.out.2.2.2
          have rt : IntKind.i64.wrap ((n : Int) - (i : Int)) = ((n - i : Nat) : Int) := by have := HP.out.1; rw [IntKind.wrap_i64]; omega
          obtain ⟨t, ht⟩ : ∃ q, q = n - i := ⟨_, rfl⟩
          rw [← ht] at hK rt
          have HCU := Lib.hid hK
          have c1 := hK.h1
          have c2 := hK.h2
          have c3 := hK.h3
          have c4 := hK.h4
          have c5 := hK.hmid
          clear HK HBB HP4 ht hbd hK
          -- the rotation
          by_cases cA : i < m ∧ m < t
          · obtain ⟨cA1, cA2⟩ := cA
            have k1 : (i : Int) < (m : Int) := by omega
            have k2 : (m : Int) < (t : Int) := by omega
            have hrot := rotate_any enc blk off cap i m t (.func (.func g) #[] cb) d0 d w0 wr HR.out (by rw [HD.out, HN.out]) SJ.out cA1 cA2 (by rw [HD.out]; omega) (by rw [HD.out]; omega)
            rw [HD.out] at hrot
            have HROT := Lib.hid hrot
            have k3 : (mid : Int) < (t : Int) := by omega
            have k4 : (i : Int) < (mid : Int) := by omega
            clear hrot SJ
            have HREC2 := Lib.hid (symRec2 HO.out HIH.out HN.out HD.out HCU.out hf ham hmb hb)
            have HREC3 := Lib.hid (symRec3 HO.out HIH.out HN.out HD.out HCU.out hf ham hmb hb)
            have HFIN := Lib.hid (symFin (w0 := w0) (enc := enc) (blk := blk) (off := off) HO.out HCU.out)
            clear HIH HR HC
            by_cases cB : a < i
            · have k5 : (a : Int) < (i : Int) := by omega
              by_cases cC : t < b
              · have k6 : (t : Int) < (b : Int) := by omega
                go_wp2_with (go_at_call 89; refine HROT.out.mono ?_; rintro e w2 ⟨rfl, d1, hR1, S1⟩)
                have HR1 : Aside (Rot i m t d d1) := hR1
                have H2 := Lib.hid (HREC2.out d1 w2 hR1 S1 cB (by omega))
                clear HROT HREC2 hR1 S1
                (try go_wp2_with fail)
                refine H2.out.mono ?_
                rintro e w3 ⟨rfl, d2, hM2, S2⟩
                have HM2 : Aside (Mrg (ltOf cf) nu a mid d1 d2) := hM2
                have H3 := Lib.hid (HREC3.out d1 d2 w3 HR1.out hM2 S2 (by omega) cC)
                clear H2 HREC3 hM2 S2
                (try go_wp2_with fail)
                refine H3.out.mono ?_
                rintro e w4 ⟨rfl, d3, hM3, S3⟩
                have HE := Lib.hid (HFIN.out d1 d2 d3 w4 HR1.out HM2.out hM3 S3)
                clear H3 hM3 S3 HFIN HM2 HR1
                (try go_wp2_with fail)
                (first | go_end0 | go_ret)
                exact HE.out
              · have k6 : ¬ (t : Int) < (b : Int) := by omega
                go_wp2_with (go_at_call 89; refine HROT.out.mono ?_; rintro e w2 ⟨rfl, d1, hR1, S1⟩)
                have HR1 : Aside (Rot i m t d d1) := hR1
                have H2 := Lib.hid (HREC2.out d1 w2 hR1 S1 cB (by omega))
                clear HROT HREC2 hR1 S1
                (try go_wp2_with fail)
                refine H2.out.mono ?_
                rintro e w3 ⟨rfl, d2, hM2, S2⟩
                have HE := Lib.hid (HFIN.out d1 d2 d2 w3 HR1.out hM2 (symIdle3 HO.out HCU.out HR1.out hM2 (Or.inr (by omega))) S2)
                clear H2 hM2 S2 HFIN HR1 HREC3
                (try go_wp2_with fail)
                (first | go_end0 | go_ret)
                exact HE.out
            · have k5 : ¬ (a : Int) < (i : Int) := by omega
              by_cases cC : t < b
              · have k6 : (t : Int) < (b : Int) := by omega
                go_wp2_with (go_at_call 89; refine HROT.out.mono ?_; rintro e w2 ⟨rfl, d1, hR1, S1⟩)
                have HR1 : Aside (Rot i m t d d1) := hR1
                have HM2 : Aside (Mrg (ltOf cf) nu a mid d1 d1) := symIdle2 HO.out HCU.out hR1 (Or.inl (by omega))
                have H3 := Lib.hid (HREC3.out d1 d1 w2 hR1 HM2.out S1 (by omega) cC)
                clear HROT HREC3 HREC2 hR1 S1
                (try go_wp2_with fail)
                refine H3.out.mono ?_
                rintro e w4 ⟨rfl, d3, hM3, S3⟩
                have HE := Lib.hid (HFIN.out d1 d1 d3 w4 HR1.out HM2.out hM3 S3)
                clear H3 hM3 S3 HFIN HM2 HR1
                (try go_wp2_with fail)
                (first | go_end0 | go_ret)
                exact HE.out
              · have k6 : ¬ (t : Int) < (b : Int) := by omega
                go_wp2_with (go_at_call 89; refine HROT.out.mono ?_; rintro e w2 ⟨rfl, d1, hR1, S1⟩)
                have HM2 : Aside (Mrg (ltOf cf) nu a mid d1 d1) := symIdle2 HO.out HCU.out hR1 (Or.inl (by omega))
                have HE := Lib.hid (HFIN.out d1 d1 d1 w2 hR1 HM2.out (symIdle3 HO.out HCU.out hR1 HM2.out (Or.inr (by omega))) S1)
                clear hR1 S1 HFIN HREC3 HREC2 HROT HM2
                (try go_wp2_with fail)
                (first | go_end0 | go_ret)
                exact HE.out
          · have HR1 : Aside (Rot i m t d d) := Rot.none ⟨by omega, c2, c3⟩
            have HREC2 := Lib.hid (symRec2 HO.out HIH.out HN.out HD.out HCU.out hf ham hmb hb)
            have HREC3 := Lib.hid (symRec3 HO.out HIH.out HN.out HD.out HCU.out hf ham hmb hb)
            have HFIN := Lib.hid (symFin (w0 := w0) (enc := enc) (blk := blk) (off := off) HO.out HCU.out)
            clear HIH HR HC
            by_cases cD : i < m
            · -- nothing of the right part moves: t = m, i = mid
              have k1 : (i : Int) < (m : Int) := by omega
              have k2 : ¬ (m : Int) < (t : Int) := by omega
              have k3 : (mid : Int) < (t : Int) := by omega
              have k4 : ¬ (i : Int) < (mid : Int) := by omega
              have k5 : (a : Int) < (i : Int) := by omega
              have k6 : (t : Int) < (b : Int) := by omega
              have HM2 : Aside (Mrg (ltOf cf) nu a mid d d) := symIdle2 HO.out HCU.out HR1.out (Or.inr (by omega))
              have H3 := Lib.hid (HREC3.out d d wr HR1.out HM2.out SJ.out (by omega) (by omega))
              clear HREC3 HREC2 SJ cA
              (try go_wp2_with fail)
              refine H3.out.mono ?_
              rintro e w4 ⟨rfl, d3, hM3, S3⟩
              have HE := Lib.hid (HFIN.out d d d3 w4 HR1.out HM2.out hM3 S3)
              clear H3 hM3 S3 HFIN HM2 HR1
              (try go_wp2_with fail)
              (first | go_end0 | go_ret)
              exact HE.out
            · exfalso; omega
    · have z1 : ¬ (mid : Int) < (m : Int) := by omega
      have z2 : decide ((m : Int) > (mid : Int)) = false := decide_eq_false (by omega)
      have HBB := Lib.hid (hB2 hmm)
      clear hB1 hB2 rb
      go_enter Try.func76, Try.ntmps76
      go_wp2
      clear hmI rab r0 r0n r0n' r1 r1n r1n' rn rp z1 z2
      go_loopg [20, 21] (m - a) (fun g1 vi vj wr => ∃ i j : Nat, vi = .int .i64 i ∧ vj = .int .i64 j ∧ i ≤ j ∧ j - i ≤ g1 ∧ Aside (a ≤ i ∧ j ≤ m ∧ (i = a ∨ (ltOf cf) d[p - (i - 1)]! d[i - 1]! = false) ∧ (j = m ∨ (ltOf cf) d[p - j]! d[j]! = true)) ∧ Aside (SW enc w0 blk off d wr))
      case atStart => exact ⟨a, m, rfl, rfl, HBB.out.2, Nat.le_refl _, ⟨Nat.le_refl _, Nat.le_refl _, Or.inl rfl, Or.inl rfl⟩, S0⟩
      case round =>
        clear S0
        obtain ⟨i, j, rfl, rfl, hij, hg, HP4, SJ⟩ := hrel
        have hbd : a ≤ i ∧ j ≤ m ∧ j ≤ mid ∧ mid + m ≤ b + i := by have h1 := HBB.out.1; have h2 := HP4.out; have h3 := HP.out.2.2; unfold SrB at h1; omega
        by_cases hlt : i < j
        · have hltz : (i : Int) < (j : Int) := by omega
          obtain ⟨h, hh⟩ : ∃ h, h = (i + j) / 2 := ⟨_, rfl⟩
          have hhI : ((i : Int) + (j : Int)) / 2 = (h : Int) := by omega
          have rij : IntKind.i64.wrap ((i : Int) + (j : Int)) = (i : Int) + (j : Int) := by rw [IntKind.wrap_i64]; omega
          have hb1 : i ≤ h := by omega
          have hb2 : h < j := by omega
          have hhs : (h : Int) < (N : Int) := by omega
          have hp3 := HP.out
          have rph : IntKind.i64.wrap ((p : Int) - (h : Int)) = ((p - h : Nat) : Int) := by rw [IntKind.wrap_i64]; omega
          have hphN : p - h < N := by omega
          obtain ⟨k, hk⟩ : ∃ q, q = p - h := ⟨_, rfl⟩
          rw [← hk] at rph hphN
          have hks : (k : Int) < (N : Int) := by omega
          obtain ⟨x, hx⟩ : ∃ x, x = d[p - h]! := ⟨_, rfl⟩
          obtain ⟨y, hy⟩ : ∃ x, x = d[h]! := ⟨_, rfl⟩
          have l1 := SJ.out.cl HR.out (by rw [HD.out, HN.out]) (p - h) (by rw [HD.out]; omega)
          have l2 := SJ.out.cl HR.out (by rw [HD.out, HN.out]) h (by rw [HD.out]; omega)
          rw [← hx, ← hk] at l1
          rw [← hy] at l2
          have hc1 := SJ.out.cmp HC.out (by rw [HD.out, HN.out]) x y
          cases hlv : (ltOf cf) d[p - h]! d[h]! with
          | false =>
            have hv : ¬ cf x y < 0 := by rw [hx, hy]; exact of_decide_eq_false hlv
            have hd1 : decide (cf x y < 0) = false := decide_eq_false hv
            have HP2 : Aside (a ≤ h + 1 ∧ j ≤ m ∧ (h + 1 = a ∨ (ltOf cf) d[p - (h + 1 - 1)]! d[h + 1 - 1]! = false) ∧ (j = m ∨ (ltOf cf) d[p - j]! d[j]! = true)) := ⟨by have := HP4.out.1; omega, HP4.out.2.1, Or.inr hlv, HP4.out.2.2.2⟩
            clear hx hy hlv HP4 hh hk hp3 hbd
            go_wp2_with fail
            refine wp_region_quiet_grown (by assumption) (by kernel_rfl) ?_
            repeat (go_big_quiet_step ((go_at_fn g; refine Calls.grown_of (hc1 _ _))))
            refine wpQuiet_nil ?_
            intro _ hw'
            obtain ⟨⟨nq, osq⟩, hw''⟩ := hw'
            subst hw''
            have S2 : Aside (SW enc w0 blk off d (grow (wr.drewN nq) osq)) := SJ.out.grown nq osq
            clear l1 l2 hc1 SJ
            generalize grow (wr.drewN nq) osq = w2 at S2 ⊢
            clear nq osq
            go_wp2
            go_roundg (j - (h + 1))
            case measure => omega
            case rel => exact ⟨h + 1, j, by go_num, rfl, by omega, Nat.le_refl _, HP2, S2⟩
          | true =>
            have hv : cf x y < 0 := by rw [hx, hy]; exact of_decide_eq_true hlv
            have hd1 : decide (cf x y < 0) = true := decide_eq_true hv
            have HP2 : Aside (a ≤ i ∧ h ≤ m ∧ (i = a ∨ (ltOf cf) d[p - (i - 1)]! d[i - 1]! = false) ∧ (h = m ∨ (ltOf cf) d[p - h]! d[h]! = true)) := ⟨HP4.out.1, by have := HP4.out.2.1; omega, HP4.out.2.2.1, Or.inr hlv⟩
            clear hx hy hlv HP4 hh hk hp3 hbd
            go_wp2_with fail
            refine wp_region_quiet_grown (by assumption) (by kernel_rfl) ?_
            repeat (go_big_quiet_step ((go_at_fn g; refine Calls.grown_of (hc1 _ _))))
            refine wpQuiet_nil ?_
            intro _ hw'
            obtain ⟨⟨nq, osq⟩, hw''⟩ := hw'
            subst hw''
            have S2 : Aside (SW enc w0 blk off d (grow (wr.drewN nq) osq)) := SJ.out.grown nq osq
            clear l1 l2 hc1 SJ
            generalize grow (wr.drewN nq) osq = w2 at S2 ⊢
            clear nq osq
            go_wp2
            go_roundg (h - i)
            case measure => omega
            case rel => exact ⟨i, h, rfl, rfl, by omega, Nat.le_refl _, HP2, S2⟩
        · obtain rfl : i = j := by omega
          have hltz : ¬ (i : Int) < (i : Int) := by omega
          have hK := HK.out _ _ i HBB.out.1 HP4.out.1 HP4.out.2.1 HP4.out.2.2.1 HP4.out.2.2.2
          have rt : IntKind.i64.wrap ((n : Int) - (i : Int)) = ((n - i : Nat) : Int) := by have := HP.out.1; rw [IntKind.wrap_i64]; omega
          obtain ⟨t, ht⟩ : ∃ q, q = n - i := ⟨_, rfl⟩
          rw [← ht] at hK rt
          have HCU := Lib.hid hK
          have c1 := hK.h1
          have c2 := hK.h2
          have c3 := hK.h3
          have c4 := hK.h4
          have c5 := hK.hmid
          clear HK HBB HP4 ht hbd hK
          -- the rotation
          by_cases cA : i < m ∧ m < t
          · obtain ⟨cA1, cA2⟩ := cA
            have k1 : (i : Int) < (m : Int) := by omega
            have k2 : (m : Int) < (t : Int) := by omega
            have hrot := rotate_any enc blk off cap i m t (.func (.func g) #[] cb) d0 d w0 wr HR.out (by rw [HD.out, HN.out]) SJ.out cA1 cA2 (by rw [HD.out]; omega) (by rw [HD.out]; omega)
            rw [HD.out] at hrot
            have HROT := Lib.hid hrot
            have k3 : (mid : Int) < (t : Int) := by omega
            have k4 : (i : Int) < (mid : Int) := by omega
            clear hrot SJ
            have HREC2 := Lib.hid (symRec2 HO.out HIH.out HN.out HD.out HCU.out hf ham hmb hb)
            have HREC3 := Lib.hid (symRec3 HO.out HIH.out HN.out HD.out HCU.out hf ham hmb hb)
            have HFIN := Lib.hid (symFin (w0 := w0) (enc := enc) (blk := blk) (off := off) HO.out HCU.out)
            clear HIH HR HC
            by_cases cB : a < i
            · have k5 : (a : Int) < (i : Int) := by omega
              by_cases cC : t < b
              · have k6 : (t : Int) < (b : Int) := by omega
                go_wp2_with (go_at_call 89; refine HROT.out.mono ?_; rintro e w2 ⟨rfl, d1, hR1, S1⟩)
                have HR1 : Aside (Rot i m t d d1) := hR1
                have H2 := Lib.hid (HREC2.out d1 w2 hR1 S1 cB (by omega))
                clear HROT HREC2 hR1 S1
                (try go_wp2_with fail)
                refine H2.out.mono ?_
                rintro e w3 ⟨rfl, d2, hM2, S2⟩
                have HM2 : Aside (Mrg (ltOf cf) nu a mid d1 d2) := hM2
                have H3 := Lib.hid (HREC3.out d1 d2 w3 HR1.out hM2 S2 (by omega) cC)
                clear H2 HREC3 hM2 S2
                (try go_wp2_with fail)
                refine H3.out.mono ?_
                rintro e w4 ⟨rfl, d3, hM3, S3⟩
                have HE := Lib.hid (HFIN.out d1 d2 d3 w4 HR1.out HM2.out hM3 S3)
                clear H3 hM3 S3 HFIN HM2 HR1
                (try go_wp2_with fail)
                (first | go_end0 | go_ret)
                exact HE.out
              · have k6 : ¬ (t : Int) < (b : Int) := by omega
                go_wp2_with (go_at_call 89; refine HROT.out.mono ?_; rintro e w2 ⟨rfl, d1, hR1, S1⟩)
                have HR1 : Aside (Rot i m t d d1) := hR1
                have H2 := Lib.hid (HREC2.out d1 w2 hR1 S1 cB (by omega))
                clear HROT HREC2 hR1 S1
                (try go_wp2_with fail)
                refine H2.out.mono ?_
                rintro e w3 ⟨rfl, d2, hM2, S2⟩
                have HE := Lib.hid (HFIN.out d1 d2 d2 w3 HR1.out hM2 (symIdle3 HO.out HCU.out HR1.out hM2 (Or.inr (by omega))) S2)
                clear H2 hM2 S2 HFIN HR1 HREC3
                (try go_wp2_with fail)
                (first | go_end0 | go_ret)
                exact HE.out
            · have k5 : ¬ (a : Int) < (i : Int) := by omega
              by_cases cC : t < b
              · have k6 : (t : Int) < (b : Int) := by omega
                go_wp2_with (go_at_call 89; refine HROT.out.mono ?_; rintro e w2 ⟨rfl, d1, hR1, S1⟩)
                have HR1 : Aside (Rot i m t d d1) := hR1
                have HM2 : Aside (Mrg (ltOf cf) nu a mid d1 d1) := symIdle2 HO.out HCU.out hR1 (Or.inl (by omega))
                have H3 := Lib.hid (HREC3.out d1 d1 w2 hR1 HM2.out S1 (by omega) cC)
                clear HROT HREC3 HREC2 hR1 S1
                (try go_wp2_with fail)
                refine H3.out.mono ?_
                rintro e w4 ⟨rfl, d3, hM3, S3⟩
                have HE := Lib.hid (HFIN.out d1 d1 d3 w4 HR1.out HM2.out hM3 S3)
                clear H3 hM3 S3 HFIN HM2 HR1
                (try go_wp2_with fail)
                (first | go_end0 | go_ret)
                exact HE.out
              · have k6 : ¬ (t : Int) < (b : Int) := by omega
                go_wp2_with (go_at_call 89; refine HROT.out.mono ?_; rintro e w2 ⟨rfl, d1, hR1, S1⟩)
                have HM2 : Aside (Mrg (ltOf cf) nu a mid d1 d1) := symIdle2 HO.out HCU.out hR1 (Or.inl (by omega))
                have HE := Lib.hid (HFIN.out d1 d1 d1 w2 hR1 HM2.out (symIdle3 HO.out HCU.out hR1 HM2.out (Or.inr (by omega))) S1)
                clear hR1 S1 HFIN HREC3 HREC2 HROT HM2
                (try go_wp2_with fail)
                (first | go_end0 | go_ret)
                exact HE.out
          · have HR1 : Aside (Rot i m t d d) := Rot.none ⟨by omega, c2, c3⟩
            have HREC2 := Lib.hid (symRec2 HO.out HIH.out HN.out HD.out HCU.out hf ham hmb hb)
            have HREC3 := Lib.hid (symRec3 HO.out HIH.out HN.out HD.out HCU.out hf ham hmb hb)
            have HFIN := Lib.hid (symFin (w0 := w0) (enc := enc) (blk := blk) (off := off) HO.out HCU.out)
            clear HIH HR HC
            by_cases cD : i < m
            · exfalso; omega
            · have k1 : ¬ (i : Int) < (m : Int) := by omega
              have k3 : ¬ (mid : Int) < (t : Int) := by omega
              have k5 : (a : Int) < (i : Int) := by omega
              by_cases cE : i < mid
              · have k4 : (i : Int) < (mid : Int) := by omega
                have H2 := Lib.hid (HREC2.out d wr HR1.out SJ.out (by omega) cE)
                clear HREC2 SJ cA
                (try go_wp2_with fail)
                refine H2.out.mono ?_
                rintro e w3 ⟨rfl, d2, hM2, S2⟩
                have HE := Lib.hid (HFIN.out d d2 d2 w3 HR1.out hM2 (symIdle3 HO.out HCU.out HR1.out hM2 (Or.inl (by omega))) S2)
                clear H2 hM2 S2 HFIN HR1 HREC3
                (try go_wp2_with fail)
                (first | go_end0 | go_ret)
                exact HE.out
              · have k4 : ¬ (i : Int) < (mid : Int) := by omega
                have HM2 : Aside (Mrg (ltOf cf) nu a mid d d) := symIdle2 HO.out HCU.out HR1.out (Or.inr (by omega))
                have HE := Lib.hid (HFIN.out d d d wr HR1.out HM2.out (symIdle3 HO.out HCU.out HR1.out HM2.out (Or.inl (by omega))) SJ.out)
                clear SJ HFIN HREC3 HREC2 HM2 cA HR1
                go_wp2
                (first | go_end0 | go_ret)
                exact HE.out
theorem symMerge_any (enc : α → Value) (cf : α → α → Int) (nu : α → Nat) (O : SWO (ltOf cf)) (g : Nat) (cb : Array Value) (blk off cap N : Nat) (d0 : Array α) (w0 : World)
    (eg : ∀ args w, (callFunc g args).run Try.prog w = .ok (.enter g args) w) (hcmp : CmpLays1 Try.prog g cb enc cf blk off d0.size w0) (R : Row1 enc w0 blk off d0) (hN : d0.size = N) (hsz : N < 4611686018427387904) (f : Nat) :
    SymIH enc cf nu g cb blk off cap N w0 f := by
  induction f with
  | zero => exact fun a m b d w hf ham hmb => absurd hf (by omega)
  | succ f IH => exact symMerge_step enc cf nu O g cb blk off cap N d0 w0 eg hcmp R hN hsz f IH
end Go.Proofs.Yteennnhinfnahaa
