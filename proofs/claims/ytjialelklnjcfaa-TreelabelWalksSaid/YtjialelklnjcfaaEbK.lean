/-
  WALKS over package treelabel, eleventh part: Sisters.
-/
import Derived.Test.YtjialelklnjcfaaEbJ
import Derived.StillTailTactics
namespace Go.Proofs.Ytjialelklnjcfaa
open Go.RowKit Go.Shelf Go.Lib
set_option linter.unusedVariables false
set_option linter.unusedSimpArgs false

theorem parents_len {L : List Lb} (e : (parentsL L).2 = 0) : (parentsL L).1.length = L.length := by
  obtain ⟨h1, h2⟩ := parents_ok e
  have := labH_len h1
  rw [h2] at this
  exact this.symm
theorem okOf_iff {L : List Lb} {i j : Int} : okOf L i j = true ↔ (0 ≤ i ∧ i < L.length) ∧ (0 ≤ j ∧ j < L.length) ∧ (parentsL L).2 = 0 := by
  unfold okOf inL
  rw [Bool.and_eq_true, Bool.and_eq_true, decide_eq_true_iff, decide_eq_true_iff, decide_eq_true_iff]
  exact ⟨fun h => ⟨h.1.1, h.1.2, h.2⟩, fun h => ⟨⟨h.1, h.2.1⟩, h.2.2⟩⟩
theorem sis_no {L : List Lb} {i j : Int} (h : okOf L i j ≠ true) : sistersL L i j = false := by
  rw [← Bool.not_eq_true]
  intro hs
  unfold sistersL at hs
  simp only [Bool.and_eq_true, decide_eq_true_iff] at hs
  exact h (okOf_iff.2 ⟨hs.1.1.2.1, hs.1.1.2.2, hs.1.1.1⟩)
theorem sis_ok {L : List Lb} {i j : Int} (h : okOf L i j = true) : sistersL L i j = (decide (i ≠ j) && decide ((parentsL L).1.getD i.toNat 0 = (parentsL L).1.getD j.toNat 0)) := by
  obtain ⟨h1, h2, h3⟩ := okOf_iff.1 h
  unfold sistersL
  rw [decide_eq_true h1, decide_eq_true h2, decide_eq_true h3]
  rfl
theorem com_no {L : List Lb} {i j : Int} (h : okOf L i j ≠ true) : commonL L i j = -1 := by
  unfold commonL
  rw [if_neg]
  rintro ⟨h1, h2, h3⟩
  exact h (okOf_iff.2 ⟨h2, h3, h1⟩)
theorem com_ok {L : List Lb} {i j : Int} (h : okOf L i j = true) : commonL L i j = comH (parentsL L).1 i.toNat j.toNat := by
  obtain ⟨h1, h2, h3⟩ := okOf_iff.1 h
  unfold commonL
  rw [if_pos ⟨h3, h1, h2⟩]

set_option maxRecDepth 100000 in
set_option maxHeartbeats 4000000 in
theorem sisters_any {w : World} {v : Value} {L : List Lb} (hv : Rows 3 ELb w v L) (hl : L.length ≤ maxLen) (i j : Int) :
    Calls Try.prog 24 #[v, .int .i64 i, .int .i64 j] w fun e w' => e = .returned (.bool (sistersL L i j)) ∧ Below w.heap.size w w' := by
  have HP := Lib.hid (parentsOf_any hv hl i j)
  obtain ⟨A, cap, rfl, hc⟩ := hv.form
  by_cases hok : okOf L i j = true
  · rw [sis_ok hok]
    obtain ⟨hi, hj, h0⟩ := okOf_iff.1 hok
    have hpl := parents_len h0
    rw [hok] at HP
    obtain ⟨p, hp⟩ : ∃ p, (parentsL L).1 = p := ⟨_, rfl⟩
    rw [hp] at hpl HP ⊢
    obtain ⟨n, hn⟩ : ∃ n, L.length = n := ⟨_, rfl⟩
    rw [hn] at hi hj hpl hc HP ⊢
    obtain ⟨x, rfl⟩ : ∃ x : Nat, i = (x : Int) := ⟨i.toNat, by omega⟩
    obtain ⟨y, rfl⟩ : ∃ y : Nat, j = (y : Int) := ⟨j.toNat, by omega⟩
    rw [Int.toNat_natCast, Int.toNat_natCast]
    have hx := List.getElem?_eq_getElem (l := p) (i := x) (by omega)
    have hy := List.getElem?_eq_getElem (l := p) (i := y) (by omega)
    obtain ⟨a, ha⟩ : ∃ a, p[x]'(by omega) = a := ⟨_, rfl⟩
    obtain ⟨b, hb⟩ : ∃ a, p[y]'(by omega) = a := ⟨_, rfl⟩
    rw [ha] at hx
    rw [hb] at hy
    rw [getD_of hx, getD_of hy]
    obtain ⟨q, hq⟩ : ∃ q, (decide ((x : Int) ≠ (y : Int)) && decide (a = b)) = q := ⟨_, rfl⟩
    rw [hq]
    have HQ := Lib.hid hq
    have hxi : (x : Int) < (n : Int) := by omega
    have hyi : (y : Int) < (n : Int) := by omega
    have HX := Lib.hid (And.intro hx (And.intro hy hpl))
    have hn0 : 0 < n := by omega
    clear hok h0 hp hx hy ha hb hn hv hq
    go_enter Try.func24, Try.ntmps24
    go_wp2_with fail
    refine HP.out.mono ?_
    rintro e w1 ⟨⟨vr, rfl, hrow⟩, hb1⟩
    have hrow := hrow (by trivial)
    obtain ⟨Ar, cr, rfl, hcr⟩ := hrow.form
    rw [HX.out.2.2] at hcr hrow ⊢
    obtain ⟨br, orr, rfl, -, hcell⟩ := at_int hrow (by rw [HX.out.2.2]; exact hn0)
    have u1 := hcell x a HX.out.1
    have u2 := hcell y b HX.out.2.1
    have HB1 := Lib.hid hb1
    clear hcell hrow hb1
    by_cases hxy : x = y
    · subst hxy
      have hqf := HQ.out
      rw [show decide ((x : Int) ≠ (x : Int)) = false by simp, Bool.false_and] at hqf
      subst hqf
      go_wp2_with fail
      go_quiet (fail)
      go_wp2_with fail
      go_ret
      exact ⟨rfl, below_drewN HB1.out _⟩
    · have hne : ¬ ((x : Int) = (y : Int)) := by omega
      have hnb : ((x : Int) != (y : Int)) = true := by simp; omega
      have hqf := HQ.out
      rw [show decide ((x : Int) ≠ (y : Int)) = true by simp; omega, Bool.true_and] at hqf
      by_cases hab : a = b
      · subst hab
        rw [decide_eq_true rfl] at hqf
        subst hqf
        clear HQ
        go_wp2_with fail
        go_quiet (fail)
        go_wp2_with fail
        go_ret
        exact ⟨rfl, below_drewN HB1.out _⟩
      · rw [decide_eq_false hab] at hqf
        subst hqf
        have hbb : (a == b) = false := by simp [hab]
        go_wp2_with fail
        go_quiet (fail)
        go_wp2_with fail
        go_ret
        exact ⟨rfl, below_drewN HB1.out _⟩
  · rw [sis_no hok]
    have hok2 : okOf L i j = false := by simpa using hok
    rw [hok2] at HP
    obtain ⟨n, hn⟩ : ∃ n, L.length = n := ⟨_, rfl⟩
    rw [hn] at hc HP ⊢
    clear hok hok2 hn hv
    go_enter Try.func24, Try.ntmps24
    go_wp2_with fail
    refine HP.out.mono ?_
    rintro e w1 ⟨⟨vr, rfl, -⟩, hb1⟩
    have HB1 := Lib.hid hb1
    clear hb1
    go_wp2_with fail
    go_quiet (fail)
    go_wp2_with fail
    go_ret
    exact ⟨rfl, below_drewN HB1.out _⟩

end Go.Proofs.Ytjialelklnjcfaa
