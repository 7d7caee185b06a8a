/-
  WALKS over the reference of treelabel, last part: Sisters, Common.
-/
import Derived.Test.YtjialelklnjcfaaEdC
import Derived.Test.YtjialelklnjcfaaEbL
namespace Go.Proofs.Ytjialelklnjcfaa
open Go.RowKit Go.Shelf Go.Lib
set_option linter.unusedVariables false
set_option linter.unusedSimpArgs false

theorem par_rows {L : List Lb} (h : (parentsL L).2 ≠ 0) : (parentsL L).1 = [] := by
  unfold parentsL at h ⊢
  split
  · rfl
  · rename_i h4
    rw [if_neg h4] at h
    split
    · rename_i hh
      rw [if_pos hh] at h
      exact absurd rfl h
    · rfl
set_option maxRecDepth 100000 in
set_option maxHeartbeats 4000000 in
theorem refSisters_any {w : World} {v : Value} {L : List Lb} (hv : Rows 3 ELb w v L) (hl : L.length ≤ maxLen) (i j : Int) :
    Calls Try.prog 25 #[v, .int .i64 i, .int .i64 j] w fun e w' => e = .returned (.bool (sistersL L i j)) ∧ Below w.heap.size w w' := by
  have HP := Lib.hid (refParents_any hv hl)
  obtain ⟨A, cap, rfl, hc⟩ := hv.form
  obtain ⟨R1, R2, hR⟩ : ∃ a b, parentsL L = (a, b) := ⟨_, _, rfl⟩
  have hno : ¬ ((0 ≤ i ∧ i < L.length) ∧ (0 ≤ j ∧ j < L.length) ∧ (parentsL L).2 = 0) → sistersL L i j = false := fun h => sis_no fun hok => h (okOf_iff.1 hok)
  have hyes := fun (h : (0 ≤ i ∧ i < L.length) ∧ (0 ≤ j ∧ j < L.length) ∧ (parentsL L).2 = 0) => sis_ok (okOf_iff.2 h)
  have hpl := parents_len (L := L)
  obtain ⟨q, hq⟩ : ∃ q, sistersL L i j = q := ⟨_, rfl⟩
  rw [hq] at hno hyes ⊢
  rw [hR] at HP hno hyes hpl
  simp only at HP hno hyes hpl
  obtain ⟨n, hn⟩ : ∃ n, L.length = n := ⟨_, rfl⟩
  rw [hn] at hc HP hno hyes hpl ⊢
  clear hn hv hR hq
  by_cases h0 : R2 = 0
  · subst h0
    have hpz := hpl rfl
    have HPL := Lib.hid hpz
    clear hpl
    by_cases hi : i ≥ 0
    · by_cases hi2 : i < (n : Int)
      · by_cases hj : j ≥ 0
        · by_cases hj2 : j < (n : Int)
          · have hyz := hyes ⟨⟨hi, hi2⟩, ⟨hj, hj2⟩, rfl⟩
            obtain ⟨x, rfl⟩ : ∃ x : Nat, i = (x : Int) := ⟨i.toNat, by omega⟩
            obtain ⟨y, rfl⟩ : ∃ y : Nat, j = (y : Int) := ⟨j.toNat, by omega⟩
            rw [Int.toNat_natCast, Int.toNat_natCast] at hyz
            have hx := List.getElem?_eq_getElem (l := R1) (i := x) (by omega)
            have hy := List.getElem?_eq_getElem (l := R1) (i := y) (by omega)
            obtain ⟨a, ha⟩ : ∃ a, R1[x]'(by omega) = a := ⟨_, rfl⟩
            obtain ⟨b, hb⟩ : ∃ a, R1[y]'(by omega) = a := ⟨_, rfl⟩
            rw [ha] at hx
            rw [hb] at hy
            rw [getD_of hx, getD_of hy] at hyz
            have HQ := Lib.hid hyz.symm
            have HX := Lib.hid (And.intro hx hy)
            have hn0 : 0 < n := by omega
            clear hno hyes hyz hpz hx hy ha hb
            go_enter Try.func25, Try.ntmps25
            go_wp2_with fail
            refine HP.out.mono ?_
            rintro e w1 ⟨⟨vr, rfl, hrow⟩, hb1⟩
            obtain ⟨Ar, cr, rfl, hcr⟩ := hrow.form
            rw [HPL.out] at hcr hrow ⊢
            obtain ⟨br, orr, rfl, -, hcell⟩ := at_int hrow (by rw [HPL.out]; exact hn0)
            have u1 := hcell x a HX.out.1
            have u2 := hcell y b HX.out.2
            have HB1 := Lib.hid hb1
            clear hcell hrow hb1
            by_cases hxy : x = y
            · subst hxy
              have hqf := HQ.out
              rw [show decide ((x : Int) ≠ (x : Int)) = false by simp, Bool.false_and] at hqf
              subst hqf
              go_wp2_with fail
              go_quiet (fail)
              go_wp2_with fail
              go_ret
              exact ⟨rfl, below_drewN HB1.out _⟩
            · have hne : ¬ ((x : Int) = (y : Int)) := by omega
              have hnb : ((x : Int) != (y : Int)) = true := by simp; omega
              have hqf := HQ.out
              rw [show decide ((x : Int) ≠ (y : Int)) = true by simp; omega, Bool.true_and] at hqf
              by_cases hab : a = b
              · subst hab
                rw [decide_eq_true rfl] at hqf
                subst hqf
                clear HQ
                go_wp2_with fail
                go_quiet (fail)
                go_wp2_with fail
                go_ret
                exact ⟨rfl, below_drewN HB1.out _⟩
              · rw [decide_eq_false hab] at hqf
                subst hqf
                have hbb : (a == b) = false := by simp [hab]
                go_wp2_with fail
                go_quiet (fail)
                go_wp2_with fail
                go_ret
                exact ⟨rfl, below_drewN HB1.out _⟩
          · obtain rfl := hno (fun h => hj2 h.2.1.2)
            have d1 : decide (j < (n : Int)) = false := decide_eq_false hj2
            clear hno hyes hpz
            go_enter Try.func25, Try.ntmps25
            go_wp2_with fail
            refine HP.out.mono ?_
            rintro e w1 ⟨⟨vr, rfl, hrow⟩, hb1⟩
            obtain ⟨Ar, cr, rfl, hcr⟩ := hrow.form
            rw [HPL.out] at hcr ⊢
            have HB1 := Lib.hid hb1
            clear hrow hb1
            go_wp2_with fail
            go_quiet (fail)
            go_wp2_with fail
            go_ret
            exact ⟨rfl, below_drewN HB1.out _⟩
        · obtain rfl := hno (fun h => hj h.2.1.1)
          have d1 : decide (0 ≤ j) = false := decide_eq_false hj
          clear hno hyes hpz
          go_enter Try.func25, Try.ntmps25
          go_wp2_with fail
          refine HP.out.mono ?_
          rintro e w1 ⟨⟨vr, rfl, hrow⟩, hb1⟩
          obtain ⟨Ar, cr, rfl, hcr⟩ := hrow.form
          rw [HPL.out] at hcr ⊢
          have HB1 := Lib.hid hb1
          clear hrow hb1
          go_wp2_with fail
          go_quiet (fail)
          go_wp2_with fail
          go_ret
          exact ⟨rfl, below_drewN HB1.out _⟩
      · obtain rfl := hno (fun h => hi2 h.1.2)
        have d1 : decide (i < (n : Int)) = false := decide_eq_false hi2
        clear hno hyes hpz
        go_enter Try.func25, Try.ntmps25
        go_wp2_with fail
        refine HP.out.mono ?_
        rintro e w1 ⟨⟨vr, rfl, hrow⟩, hb1⟩
        obtain ⟨Ar, cr, rfl, hcr⟩ := hrow.form
        rw [HPL.out] at hcr ⊢
        have HB1 := Lib.hid hb1
        clear hrow hb1
        go_wp2_with fail
        go_quiet (fail)
        go_wp2_with fail
        go_ret
        exact ⟨rfl, below_drewN HB1.out _⟩
    · obtain rfl := hno (fun h => hi h.1.1)
      have d1 : decide (0 ≤ i) = false := decide_eq_false hi
      clear hno hyes hpz
      go_enter Try.func25, Try.ntmps25
      go_wp2_with fail
      refine HP.out.mono ?_
      rintro e w1 ⟨⟨vr, rfl, hrow⟩, hb1⟩
      obtain ⟨Ar, cr, rfl, hcr⟩ := hrow.form
      have HB1 := Lib.hid hb1
      clear hrow hb1
      go_wp2_with fail
      go_quiet (fail)
      go_wp2_with fail
      go_ret
      exact ⟨rfl, below_drewN HB1.out _⟩
  · obtain rfl := hno (fun h => h0 h.2.2)
    have h0b : (R2 == 0) = false := by simp [h0]
    clear hno hyes hpl
    go_enter Try.func25, Try.ntmps25
    go_wp2_with fail
    refine HP.out.mono ?_
    rintro e w1 ⟨⟨vr, rfl, hrow⟩, hb1⟩
    obtain ⟨Ar, cr, rfl, hcr⟩ := hrow.form
    have HB1 := Lib.hid hb1
    clear hrow hb1
    go_wp2_with fail
    go_quiet (fail)
    go_wp2_with fail
    go_ret
    exact ⟨rfl, below_drewN HB1.out _⟩
end Go.Proofs.Ytjialelklnjcfaa
