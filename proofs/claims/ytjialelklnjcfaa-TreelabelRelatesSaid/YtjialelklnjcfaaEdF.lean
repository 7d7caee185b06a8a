/-
  WALKS over the reference of treelabel, last part: Common.
-/
import Derived.Test.YtjialelklnjcfaaEdE
namespace Go.Proofs.Ytjialelklnjcfaa
open Go.RowKit Go.Shelf Go.Lib
set_option linter.unusedVariables false
set_option linter.unusedSimpArgs false

set_option maxRecDepth 100000 in
set_option maxHeartbeats 8000000 in
theorem refCommon_any {w : World} {v : Value} {L : List Lb} (hv : Rows 3 ELb w v L) (hl : L.length ≤ maxLen) (i j : Int) :
    Calls Try.prog 27 #[v, .int .i64 i, .int .i64 j] w fun e w' => e = .returned (.int .i64 (commonL L i j)) ∧ Below w.heap.size w w' := by
  have HP := Lib.hid (refParents_any hv hl)
  obtain ⟨A, cap, rfl, hc⟩ := hv.form
  obtain ⟨R1, R2, hR⟩ : ∃ a b, parentsL L = (a, b) := ⟨_, _, rfl⟩
  have hno : ¬ ((0 ≤ i ∧ i < L.length) ∧ (0 ≤ j ∧ j < L.length) ∧ (parentsL L).2 = 0) → commonL L i j = -1 := fun h => com_no fun hok => h (okOf_iff.1 hok)
  have hyes := fun (h : (0 ≤ i ∧ i < L.length) ∧ (0 ≤ j ∧ j < L.length) ∧ (parentsL L).2 = 0) => com_ok (okOf_iff.2 h)
  have hpl := parents_len (L := L)
  have hok := fun e => (parents_ok (L := L) e).1
  obtain ⟨q, hq⟩ : ∃ q, commonL L i j = q := ⟨_, rfl⟩
  rw [hq] at hno hyes ⊢
  rw [hR] at HP hno hyes hpl hok
  simp only at HP hno hyes hpl hok
  obtain ⟨n, hn⟩ : ∃ n, L.length = n := ⟨_, rfl⟩
  rw [hn] at hc HP hno hyes hpl ⊢
  clear hn hv hR hq
  by_cases h0 : R2 = 0
  · subst h0
    have hpz := hpl rfl
    have HPL := Lib.hid hpz
    have HO := Lib.hid (hok rfl)
    clear hpl hok
    by_cases hi : i < 0
    · obtain rfl := hno (fun h => by omega)
      clear hno hyes hpz
      go_enter Try.func27, Try.ntmps27
      go_wp2_with fail
      refine HP.out.mono ?_
      rintro e w1 ⟨⟨vr, rfl, hrow⟩, hb1⟩
      obtain ⟨Ar, cr, rfl, hcr⟩ := hrow.form
      have HB1 := Lib.hid hb1
      clear hrow hb1
      go_wp2_with fail
      go_ret
      exact ⟨rfl, HB1.out⟩
    · by_cases hi2 : i ≥ (n : Int)
      · obtain rfl := hno (fun h => by omega)
        clear hno hyes hpz
        go_enter Try.func27, Try.ntmps27
        go_wp2_with fail
        refine HP.out.mono ?_
        rintro e w1 ⟨⟨vr, rfl, hrow⟩, hb1⟩
        obtain ⟨Ar, cr, rfl, hcr⟩ := hrow.form
        rw [HPL.out] at hcr ⊢
        have HB1 := Lib.hid hb1
        clear hrow hb1
        go_wp2_with fail
        go_ret
        exact ⟨rfl, HB1.out⟩
      · by_cases hj : j < 0
        · obtain rfl := hno (fun h => by omega)
          clear hno hyes hpz
          go_enter Try.func27, Try.ntmps27
          go_wp2_with fail
          refine HP.out.mono ?_
          rintro e w1 ⟨⟨vr, rfl, hrow⟩, hb1⟩
          obtain ⟨Ar, cr, rfl, hcr⟩ := hrow.form
          rw [HPL.out] at hcr ⊢
          have HB1 := Lib.hid hb1
          clear hrow hb1
          go_wp2_with fail
          go_ret
          exact ⟨rfl, HB1.out⟩
        · by_cases hj2 : j ≥ (n : Int)
          · obtain rfl := hno (fun h => by omega)
            clear hno hyes hpz
            go_enter Try.func27, Try.ntmps27
            go_wp2_with fail
            refine HP.out.mono ?_
            rintro e w1 ⟨⟨vr, rfl, hrow⟩, hb1⟩
            obtain ⟨Ar, cr, rfl, hcr⟩ := hrow.form
            rw [HPL.out] at hcr ⊢
            have HB1 := Lib.hid hb1
            clear hrow hb1
            go_wp2_with fail
            go_ret
            exact ⟨rfl, HB1.out⟩
          · have hyz := hyes ⟨⟨by omega, by omega⟩, ⟨by omega, by omega⟩, rfl⟩
            obtain ⟨x, rfl⟩ : ∃ x : Nat, i = (x : Int) := ⟨i.toNat, by omega⟩
            obtain ⟨y, rfl⟩ : ∃ y : Nat, j = (y : Int) := ⟨j.toNat, by omega⟩
            rw [Int.toNat_natCast, Int.toNat_natCast] at hyz
            have HRES := Lib.hid hyz.symm
            have hxn : x < n := by omega
            have hyn : y < n := by omega
            have hn0 : 0 < n := by omega
            have d1 : decide ((x : Int) < 0) = false := decide_eq_false (by omega)
            have d2 : decide (n ≤ x) = false := decide_eq_false (by omega)
            have d3 : decide ((y : Int) < 0) = false := decide_eq_false (by omega)
            have d4 : decide (n ≤ y) = false := decide_eq_false (by omega)
            clear hno hyes hpz hyz
            go_enter Try.func27, Try.ntmps27
            go_wp2_with fail
            refine HP.out.mono ?_
            rintro e w1 ⟨⟨vr, rfl, hrow⟩, hb1⟩
            obtain ⟨Ar, cr, rfl, hcr⟩ := hrow.form
            rw [HPL.out] at hcr hrow ⊢
            have HROW := Lib.hid (fun W (hb : Below w1.heap.size w1 W) => hrow.below stays_int hb)
            have HB1 := Lib.hid hb1
            clear hrow hb1
            go_wp2_with fail
            clear d1 d2 d3 d4
            go_loopg [9] (farZ R1 x) (fun gg av wr => ∃ a : Int, av = .int .i64 a ∧ farZ R1 a ≤ gg ∧ Hid ((a = -1 ∧ q = -1) ∨ ∃ t : Nat, a = (t : Int) ∧ t < n ∧ comH R1 t y = q) ∧ Hid (Below w1.heap.size w1 wr))
            case atStart => exact ⟨x, rfl, Nat.le_refl _, Lib.hid (.inr ⟨x, rfl, hxn, HRES.out⟩), Lib.hid (Below.refl _ _)⟩
            case round =>
              obtain ⟨a, rfl, hgg, HA, HB⟩ := hrel
              have HEND := Lib.hid (HB1.out.trans (HB.out.mono HB1.out.size))
              rcases HA.out with ⟨ha, hr⟩ | ⟨t, ha, ht, hr⟩
              · subst ha
                subst hr
                clear HA
                go_wp2_with fail
                go_ret
                exact ⟨rfl, HEND.out⟩
              · subst ha
                have HR := Lib.hid hr
                have hti : (t : Int) ≥ 0 := by omega
                clear HA hr
                go_wp2_with fail
                go_loopg [10] (farZ R1 y) (fun gg2 bv wr2 => ∃ b : Int, bv = .int .i64 b ∧ farZ R1 b ≤ gg2 ∧ Hid ((b = -1 ∧ t ∉ way R1 y) ∨ ∃ s : Nat, b = (s : Int) ∧ s < n ∧ (t ∈ way R1 y ↔ t ∈ way R1 s)) ∧ Hid (Below w1.heap.size w1 wr2))
                case atStart => exact ⟨y, rfl, Nat.le_refl _, Lib.hid (.inr ⟨y, rfl, hyn, Iff.rfl⟩), HB⟩
                case round =>
                  obtain ⟨b, rfl, hgg2, HA2, HB2⟩ := hrel
                  have HEND2 := Lib.hid (HB1.out.trans (HB2.out.mono HB1.out.size))
                  rcases HA2.out with ⟨hb, hr⟩ | ⟨s, hb, hs, hr⟩
                  · subst hb
                    have hrn := HR.out
                    rw [find_way HO.out, if_neg hr] at hrn
                    obtain ⟨br, orr, rfl, -, hcell⟩ := at_int (HROW.out wr HB2.out) (by rw [HPL.out]; exact hn0)
                    have hfar : farZ R1 (t : Int) = (way R1 t).length := by unfold farZ; rw [if_neg (by omega), Int.toNat_natCast]
                    rcases HO.out.at (i := t) (by rw [HPL.out]; exact ht) with ⟨hx1, hs1⟩ | ⟨b, hx1, hb1, hs1⟩
                    · have u0 := hcell t _ hx1
                      rw [hs1] at hrn
                      have HNX := Lib.hid hrn.symm
                      have hfp : 0 < (way R1 t).length := List.length_pos_of_mem (way_self t)
                      clear hcell hx1 hs1 hrn HA2 hr
                      go_wp2_with fail
                      go_roundg 0
                      case measure => omega
                      case rel => exact ⟨-1, rfl, by unfold farZ; simp, Lib.hid (.inl ⟨rfl, HNX.out⟩), HB2⟩
                    · have u0 := hcell t _ hx1
                      rw [hs1] at hrn
                      have HNX := Lib.hid (show (((b : Int) = -1) ∧ q = -1) ∨ ∃ s : Nat, (b : Int) = (s : Int) ∧ s < n ∧ comH R1 s y = q from .inr ⟨b, rfl, by rw [← HPL.out]; exact hb1, hrn⟩)
                      have hfb : farZ R1 (b : Int) = (way R1 b).length := by unfold farZ; rw [if_neg (by omega), Int.toNat_natCast]
                      have hfp : (way R1 t).length = (way R1 b).length + 1 := by rw [way_step HO.out hs1, List.length_cons]
                      clear hcell hx1 hs1 hrn hb1 HA2 hr
                      go_wp2_with fail
                      go_roundg (farZ R1 (b : Int))
                      case measure => omega
                      case rel => exact ⟨b, rfl, Nat.le_refl _, HNX, HB2⟩
                  · subst hb
                    have hsi : (s : Int) ≥ 0 := by omega
                    by_cases hts : t = s
                    · subst hts
                      have hrt : q = (t : Int) := by
                        rw [← HR.out, find_way HO.out, if_pos (hr.2 (way_self t))]
                      subst hrt
                      clear HA2 hr
                      go_wp2_with fail
                      go_ret
                      exact ⟨rfl, HEND2.out⟩
                    · have hne : ¬ ((t : Int) = (s : Int)) := by omega
                      obtain ⟨br, orr, rfl, -, hcell⟩ := at_int (HROW.out wr HB2.out) (by rw [HPL.out]; exact hn0)
                      have hfar : farZ R1 (s : Int) = (way R1 s).length := by unfold farZ; rw [if_neg (by omega), Int.toNat_natCast]
                      rcases HO.out.at (i := s) (by rw [HPL.out]; exact hs) with ⟨hx1, hs1⟩ | ⟨b, hx1, hb1, hs1⟩
                      · have u0 := hcell s _ hx1
                        have hnm : t ∉ way R1 y := fun hm => by
                          have := hr.1 hm
                          rw [way_eq HO.out, hs1] at this
                          exact hts (List.mem_singleton.1 this)
                        have HNX := Lib.hid hnm
                        have hfp : 0 < (way R1 s).length := List.length_pos_of_mem (way_self s)
                        clear hcell hx1 hs1 HA2 hr hnm
                        go_wp2_with fail
                        go_roundg 0
                        case measure => omega
                        case rel => exact ⟨-1, rfl, by unfold farZ; simp, Lib.hid (.inl ⟨rfl, HNX.out⟩), HB2⟩
                      · have u0 := hcell s _ hx1
                        have hst := way_step HO.out hs1
                        have hiff : t ∈ way R1 y ↔ t ∈ way R1 b := by
                          rw [hr, hst, List.mem_cons]
                          exact ⟨fun h => h.resolve_left hts, .inr⟩
                        have HNX := Lib.hid (show (((b : Int) = -1) ∧ t ∉ way R1 y) ∨ ∃ s : Nat, (b : Int) = (s : Int) ∧ s < n ∧ (t ∈ way R1 y ↔ t ∈ way R1 s) from .inr ⟨b, rfl, by rw [← HPL.out]; exact hb1, hiff⟩)
                        have hfb : farZ R1 (b : Int) = (way R1 b).length := by unfold farZ; rw [if_neg (by omega), Int.toNat_natCast]
                        have hfp : (way R1 s).length = (way R1 b).length + 1 := by rw [hst, List.length_cons]
                        clear hcell hx1 hs1 hb1 HA2 hr hst hiff
                        go_wp2_with fail
                        go_roundg (farZ R1 (b : Int))
                        case measure => omega
                        case rel => exact ⟨b, rfl, Nat.le_refl _, HNX, HB2⟩
  · obtain rfl := hno (fun h => h0 h.2.2)
    have h0b : (R2 != 0) = true := by simp [h0]
    clear hno hyes hpl hok
    go_enter Try.func27, Try.ntmps27
    go_wp2_with fail
    refine HP.out.mono ?_
    rintro e w1 ⟨⟨vr, rfl, hrow⟩, hb1⟩
    obtain ⟨Ar, cr, rfl, hcr⟩ := hrow.form
    have HB1 := Lib.hid hb1
    clear hrow hb1
    go_wp2_with fail
    go_ret
    exact ⟨rfl, HB1.out⟩
end Go.Proofs.Ytjialelklnjcfaa
