/-
  WALKS over slices.SortStableFunc's family at numbers, fourth part: stableCmpFunc, SortStableFunc.
-/
import Derived.Test.YteennnhinfnahaaLzD
import Derived.Test.YteennnhinfnahaaShf
namespace Go.Proofs.Yteennnhinfnahaa
open Go.RowKit Go.Shelf Go.Lib Go.Sort
set_option linter.unusedVariables false
set_option linter.unusedSimpArgs false
variable {α : Type} [Inhabited α]

theorem ph1_start {lt : α → α → Bool} {nu : α → Nat} {N : Nat} {d0 : Array α} (h0 : ∀ k, k < N → nu d0[k]! = k) : Ph1 lt nu N 20 0 d0 := ⟨Nat.dvd_zero _, Nat.zero_le _, fun x _ h => absurd h (by omega), fun k _ h => h0 k h⟩
theorem allB_end {lt : α → α → Bool} {nu : α → Nat} {N s : Nat} {d : Array α} (h : AllB lt nu N s d) (hs : N ≤ s) : SoT lt nu d 0 N := by
  have := (h 0 (Nat.dvd_zero _) (Nat.zero_le _)).1
  rw [Nat.min_eq_right (by omega)] at this
  exact this

set_option maxHeartbeats 8000000 in
set_option maxRecDepth 1000000 in
theorem stable_any (enc : α → Value) (cf : α → α → Int) (nu : α → Nat) (O : SWO (ltOf cf)) (g : Nat) (cb : Array Value) (blk off cap N : Nat) (d0 : Array α) (w0 : World)
    (eg : ∀ args w, (callFunc g args).run Try.prog w = .ok (.enter g args) w) (hcmp : CmpLays1 Try.prog g cb enc cf blk off d0.size w0) (R : Row1 enc w0 blk off d0) (hN : d0.size = N) (hsz : N < 2305843009213693952) (h0 : ∀ k, k < N → nu d0[k]! = k) :
    Calls Try.prog 59 #[.slice (some ⟨blk, off, none⟩) N cap, .int .i64 N, .func (.func g) #[] cb] w0 fun e w' => e = .returned (.tuple #[]) ∧ ∃ d', Mvd 0 N d0 d' ∧ SoT (ltOf cf) nu d' 0 N ∧ SW enc w0 blk off d' w' := by
  have mixed := mixedLz
  have HR : Aside (Row1 enc w0 blk off d0) := R
  have HC : Aside _ := hcmp
  have HO : Aside (SWO (ltOf cf)) := O
  have HN : Aside (d0.size = N) := hN
  have S0 : Aside (SW enc w0 blk off d0 w0) := SW.start R.hH
  have HP0 : Aside (Ph1 (ltOf cf) nu N 20 0 d0 ∧ Mvd 0 N d0 d0) := ⟨ph1_start h0, Mvd.refl _ _ _⟩
  have HINS := Lib.hid (fun (A B : Nat) (dk : Array α) (wr : World) (hd : dk.size = N) (S : SW enc w0 blk off dk wr) (h1 : A ≤ B) (h2 : B ≤ N) => by
    have := Any.insertionSortCmpFunc_s Try.laysInsI enc cf g cb blk off cap A B d0 dk w0 wr eg hcmp R (hN.trans hd.symm) S h1 (by omega) (by omega)
    rw [hd] at this
    exact this)
  have HSYM := Lib.hid (fun (a m b : Nat) (dk : Array α) (wr : World) (hd : dk.size = N) (S : SW enc w0 blk off dk wr) (h1 : a < m) (h2 : m < b) (h3 : b ≤ N) (p : OkB (ltOf cf) nu dk a m) (q : OkB (ltOf cf) nu dk m b) =>
    symMerge_any enc cf nu O g cb blk off cap N d0 w0 eg hcmp R hN (by omega) (b - a) a m b dk wr (Nat.le_refl _) h1 h2 h3 hd S p.1 q.1 (p.old q))
  clear R hcmp O h0
  go_enter Try.func59, Try.ntmps59
  go_wp2
  go_loopg [7, 8] N (fun g1 va vb wr => ∃ (A B : Nat) (dk : Array α), va = .int .i64 A ∧ vb = .int .i64 B ∧ N - A ≤ g1 ∧ Aside (B = A + 20 ∧ A ≤ N) ∧ Aside (Ph1 (ltOf cf) nu N 20 A dk ∧ Mvd 0 N d0 dk) ∧ Aside (SW enc w0 blk off dk wr))
  case atStart => exact ⟨0, 20, d0, by go_num, by go_num, by omega, ⟨rfl, Nat.zero_le _⟩, HP0, S0⟩
  case round =>
    clear S0 HP0
    obtain ⟨A, B, dk, rfl, rfl, hg, HAB, HP, SJ⟩ := hrel
    have HD : Aside (dk.size = N) := HP.out.2.size.trans HN.out
    by_cases hlt : B ≤ N
    · have hltz : (B : Int) ≤ (N : Int) := by omega
      have hltz' : ¬ (N : Int) < (B : Int) := by omega
      have hI := HINS.out A B dk wr HD.out SJ.out (by have := HAB.out.1; omega) hlt
      have HI := Lib.hid hI
      have HP2 : Aside (Ph1 (ltOf cf) nu N 20 B (insertionSort (ltOf cf) dk A B) ∧ Mvd 0 N d0 (insertionSort (ltOf cf) dk A B)) := by
        have e := HAB.out.1
        have := HP.out.1.step HO.out (by omega) HD.out.symm (by omega)
        rw [← e] at this
        exact ⟨this.1, HP.out.2.trans this.2⟩
      have rB : IntKind.i64.wrap ((B : Int) + 20) = ((B + 20 : Nat) : Int) := by rw [IntKind.wrap_i64]; omega
      obtain ⟨B2, hB2⟩ : ∃ q, q = B + 20 := ⟨_, rfl⟩
      rw [← hB2] at rB
      have HB2 : Aside (B2 = B + 20 ∧ B ≤ N) := ⟨hB2, hlt⟩
      have hm : N - B < gk := by have := HAB.out; omega
      clear hI SJ HP HD HAB hB2
      go_wp2_with (go_at_call 75; refine HI.out.mono ?_; rintro e w2 ⟨rfl, S1⟩)
      have HS1 := Lib.hid S1
      clear S1 HI
      go_wp2
      go_roundg (N - B)
      case measure => exact hm
      case rel => exact ⟨B, B2, _, rfl, rfl, Nat.le_refl _, HB2, HP2, HS1.out⟩
    · have hltz : ¬ (B : Int) ≤ (N : Int) := by omega
      have hltz' : (N : Int) < (B : Int) := by omega
      have hI := HINS.out A N dk wr HD.out SJ.out HAB.out.2 (Nat.le_refl _)
      have HI := Lib.hid hI
      have HP2 : Aside (AllB (ltOf cf) nu N 20 (insertionSort (ltOf cf) dk A N) ∧ Mvd 0 N d0 (insertionSort (ltOf cf) dk A N)) := by
        have e := HAB.out.1
        have := HP.out.1.last HO.out (by omega) HD.out.symm (by omega)
        exact ⟨this.1, HP.out.2.trans this.2⟩
      obtain ⟨d1, hd1⟩ : ∃ q, insertionSort (ltOf cf) dk A N = q := ⟨_, rfl⟩
      rw [hd1] at HI HP2
      clear hI SJ HP HD HAB HINS hd1
      go_wp2_with (go_at_call 75; refine HI.out.mono ?_; rintro e w2 ⟨rfl, S1⟩)
      have HS1 := Lib.hid S1
      clear S1 HI
      go_wp2
      go_loopg [6] N (fun g2 vs wr => ∃ (s : Nat) (dk : Array α), vs = .int .i64 s ∧ N - s ≤ g2 ∧ Aside (0 < s) ∧ Aside (AllB (ltOf cf) nu N s dk ∧ Mvd 0 N d0 dk) ∧ Aside (SW enc w0 blk off dk wr))
      case atStart => exact ⟨20, d1, rfl, by omega, (show (0 : Nat) < 20 by omega), HP2.out, HS1.out⟩
      case round =>
        clear HS1 HP2
        obtain ⟨s, dk, rfl, hg2, HS, HP, SJ⟩ := hrel
        by_cases hsN : s < N
        · have hsz1 : (s : Int) < (N : Int) := by omega
          have r2 : IntKind.i64.wrap (2 * (s : Int)) = ((2 * s : Nat) : Int) := by rw [IntKind.wrap_i64]; omega
          have r2' : IntKind.i64.wrap ((s : Int) * 2) = ((2 * s : Nat) : Int) := by rw [IntKind.wrap_i64]; omega
          obtain ⟨t, ht⟩ : ∃ q, q = 2 * s := ⟨_, rfl⟩
          rw [← ht] at r2 r2'
          have HT : Aside (t = 2 * s) := ht
          have htb : t < 4611686018427387904 := by omega
          have hm : N - t < gk := by have := HS.out; omega
          have HSB : Aside (s < N) := hsN
          have HQ0 : Aside (Ph2 (ltOf cf) nu N s 0 dk ∧ Mvd 0 N d0 dk) := ⟨Ph2.start HP.out.1, HP.out.2⟩
          clear HP ht
          go_wp2
          go_loopg [7, 8] N (fun g3 va vb wr => ∃ (A B : Nat) (dk : Array α), va = .int .i64 A ∧ vb = .int .i64 B ∧ N - A ≤ g3 ∧ Aside (B = A + t ∧ A ≤ N) ∧ Aside (Ph2 (ltOf cf) nu N s A dk ∧ Mvd 0 N d0 dk) ∧ Aside (SW enc w0 blk off dk wr))
          case atStart => exact ⟨0, t, dk, by go_num, rfl, by omega, ⟨by omega, Nat.zero_le _⟩, HQ0, SJ⟩
          case round =>
            clear SJ HQ0
            obtain ⟨A, B, dk, rfl, rfl, hg3, HAB, HP, SJ⟩ := hrel
            have HD : Aside (dk.size = N) := HP.out.2.size.trans HN.out
            have rAs : IntKind.i64.wrap ((A : Int) + (s : Int)) = ((A + s : Nat) : Int) := by have := HAB.out; have := HSB.out; rw [IntKind.wrap_i64]; omega
            obtain ⟨M, hM⟩ : ∃ q, q = A + s := ⟨_, rfl⟩
            rw [← hM] at rAs
            have HM : Aside (M = A + s) := hM
            clear hM
            by_cases hlt : B ≤ N
            · have hltz : (B : Int) ≤ (N : Int) := by omega
              have hltz' : ¬ (N : Int) < (B : Int) := by omega
              have e1 := HAB.out.1
              have e2 := HT.out
              have e3 := HM.out
              have e4 := HS.out
              have hpq := HP.out.1.pre e4 (b := B) (.inl ⟨by omega, by omega⟩)
              rw [← e3] at hpq
              have HI := Lib.hid (HSYM.out A M B dk wr HD.out SJ.out (by omega) (by omega) hlt hpq.1 hpq.2)
              have HP2 : Aside (∀ d2, Mrg (ltOf cf) nu A B dk d2 → Ph2 (ltOf cf) nu N s B d2 ∧ Mvd 0 N d0 d2) := fun d2 hMg => by
                have eB : B = A + 2 * s := by omega
                have hmv := hMg.1.mono (Nat.zero_le A) hlt
                rw [eB] at hMg ⊢
                exact ⟨HP.out.1.step e4 (by omega) hMg, HP.out.2.trans hmv⟩
              have rB : IntKind.i64.wrap ((B : Int) + (t : Int)) = ((B + t : Nat) : Int) := by rw [IntKind.wrap_i64]; omega
              obtain ⟨B2, hB2⟩ : ∃ q, q = B + t := ⟨_, rfl⟩
              rw [← hB2] at rB
              have HB2 : Aside (B2 = B + t ∧ B ≤ N) := ⟨hB2, hlt⟩
              have hm3 : N - B < gk := by omega
              clear SJ HP HD HAB hB2 hpq e1 e2 e3 e4
              go_wp2_with (go_at_call 76; refine HI.out.mono ?_; rintro e w3 ⟨rfl, d2, hMg, S2⟩)
              have HS2 := Lib.hid S2
              have HP3 := Lib.hid (HP2.out d2 hMg)
              clear S2 HI HP2 hMg
              go_wp2
              go_roundg (N - B)
              case measure => exact hm3
              case rel => exact ⟨B, B2, d2, rfl, rfl, Nat.le_refl _, HB2, HP3.out, HS2.out⟩
            · have hltz : ¬ (B : Int) ≤ (N : Int) := by omega
              have hltz' : (N : Int) < (B : Int) := by omega
              have e1 := HAB.out.1
              have e2 := HT.out
              have e3 := HM.out
              have e4 := HS.out
              by_cases hMN : M < N
              · have hMz : (M : Int) < (N : Int) := by omega
                have hpq := HP.out.1.pre e4 (b := N) (.inr ⟨by omega, by omega, rfl⟩)
                rw [← e3] at hpq
                have HI := Lib.hid (HSYM.out A M N dk wr HD.out SJ.out (by omega) hMN (Nat.le_refl _) hpq.1 hpq.2)
                have HP2 : Aside (∀ d2, Mrg (ltOf cf) nu A N dk d2 → AllB (ltOf cf) nu N t d2 ∧ Mvd 0 N d0 d2) := fun d2 hMg => by
                  rw [e2]
                  exact ⟨HP.out.1.last e4 (by omega) (.inl ⟨by omega, hMg⟩), HP.out.2.trans (hMg.1.mono (Nat.zero_le _) (Nat.le_refl _))⟩
                have HT0 : Aside (0 < t) := (show 0 < t by omega)
                clear SJ HP HD HAB hpq e1 e2 e3 e4 HSYM
                go_wp2_with (go_at_call 76; refine HI.out.mono ?_; rintro e w3 ⟨rfl, d2, hMg, S2⟩)
                have HS2 := Lib.hid S2
                have HP3 := Lib.hid (HP2.out d2 hMg)
                clear S2 HI HP2 hMg
                go_wp2
                go_roundg (N - t)
                case measure => exact hm
                case rel => exact ⟨t, d2, rfl, Nat.le_refl _, HT0, HP3.out, HS2.out⟩
              · have hMz : ¬ (M : Int) < (N : Int) := by omega
                have HP3 : Aside (AllB (ltOf cf) nu N t dk ∧ Mvd 0 N d0 dk) := by
                  rw [e2]
                  exact ⟨HP.out.1.last e4 (by omega) (.inr ⟨by omega, rfl⟩), HP.out.2⟩
                have HT0 : Aside (0 < t) := (show 0 < t by omega)
                clear HP HD HAB e1 e2 e3 e4 HSYM
                go_wp2
                go_roundg (N - t)
                case measure => exact hm
                case rel => exact ⟨t, dk, rfl, Nat.le_refl _, HT0, HP3.out, SJ.out⟩
        · have hsz1 : ¬ (s : Int) < (N : Int) := by omega
          have HE : Aside (Mvd 0 N d0 dk ∧ SoT (ltOf cf) nu dk 0 N) := ⟨HP.out.2, allB_end HP.out.1 (by omega)⟩
          clear HP HSYM
          go_wp2
          go_end0
          exact ⟨rfl, dk, HE.out.1, HE.out.2, SJ.out⟩

set_option maxHeartbeats 2000000 in
set_option maxRecDepth 1000000 in
/-- slices.SortStableFunc at numbers: what a stable sort does, where the numbers nu say the places at the start. -/
theorem sortStable_any (enc : α → Value) (cf : α → α → Int) (nu : α → Nat) (O : SWO (ltOf cf)) (g : Nat) (cb : Array Value) (blk off cap N : Nat) (d0 : Array α) (w0 : World)
    (eg : ∀ args w, (callFunc g args).run Try.prog w = .ok (.enter g args) w) (hcmp : CmpLays1 Try.prog g cb enc cf blk off d0.size w0) (R : Row1 enc w0 blk off d0) (hN : d0.size = N) (hsz : N < 2305843009213693952) (h0 : ∀ k, k < N → nu d0[k]! = k) :
    Calls Try.prog 37 #[.slice (some ⟨blk, off, none⟩) N cap, .func (.func g) #[] cb] w0 fun e w' => e = .returned (.tuple #[]) ∧ ∃ d', Mvd 0 N d0 d' ∧ SoT (ltOf cf) nu d' 0 N ∧ SW enc w0 blk off d' w' := by
  have HST := Lib.hid (stable_any enc cf nu O g cb blk off cap N d0 w0 eg hcmp R hN hsz h0)
  clear hcmp R O h0
  go_enter Try.func37, Try.ntmps37
  go_wp2_with (go_at_call 59; refine HST.out.mono ?_; rintro e w2 ⟨rfl, d', h1, h2, h3⟩)
  go_end0
  exact ⟨rfl, d', h1, h2, h3⟩
end Go.Proofs.Yteennnhinfnahaa
