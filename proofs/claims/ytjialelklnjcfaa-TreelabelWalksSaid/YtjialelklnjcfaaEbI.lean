/-
  WALKS over package treelabel, ninth part: Parents, parentsOf, Sisters, Common.
-/
import Derived.Test.YtjialelklnjcfaaEbH
namespace Go.Proofs.Ytjialelklnjcfaa
open Go.RowKit Go.Shelf Go.Lib
set_option linter.unusedVariables false
set_option linter.unusedSimpArgs false

theorem scan_none {L : List Lb} {n : Nat} (hn : L.length = n) (hn4 : n ≤ 4096) {ord : List Nat} (hp : ord.Perm (List.range n)) (hs : ord.Pairwise fun i j => (L.getD i (0, 0, 0)).1 ≤ (L.getD j (0, 0, 0)).1) {r : Option (List Int)} (hr : scanL L ord (List.replicate n 0) [-1] = r) (hno : ∀ p, r = some p → (assignH p).1 ≠ L) : parentsL L = ([], 9) := by
  refine parents_no (by omega) fun p hO e => ?_
  have hpl : p.length = n := by rw [← hn, ← e, labH_len hO]
  have h1 := rebuild_ok hO (by rw [← e]; exact labH_of hO) (L := L) (order := ord) (by rw [hpl]; exact hp) hs
  rw [hpl, hr] at h1
  refine hno p h1 ?_
  unfold assignH
  rw [if_pos (okh_check.2 hO)]
  exact e
theorem scan_some {L : List Lb} {n : Nat} (hn : L.length = n) {p : List Int} (hpl : p.length = n) (he : (assignH p).1 = L) : parentsL L = (p, 0) := by
  unfold assignH at he
  by_cases hc : (checkH p).2 = 0
  · rw [if_pos hc] at he
    rw [← he]
    exact parents_of (okh_check.1 hc)
  · rw [if_neg hc] at he
    exfalso
    have he : ([] : List Lb) = L := he
    rw [← he] at hn
    have hp0 : p = [] := List.length_eq_zero_iff.1 (by rw [hpl, ← hn]; rfl)
    subst hp0
    exact hc (by decide +kernel)

set_option maxRecDepth 100000 in
set_option maxHeartbeats 4000000 in
theorem parents_any {w : World} {v : Value} {L : List Lb} (hv : Rows 3 ELb w v L) (hl : L.length ≤ maxLen) :
    Calls Try.prog 15 #[v] w fun e w' => (∃ vr, e = .returned (.tuple #[vr, .int .i64 (parentsL L).2]) ∧ Rows 1 EInt w' vr (parentsL L).1) ∧ Below w.heap.size w w' := by
  have HV := Lib.hid (fun W (hb : Below w.heap.size w W) => hv.below stays_lb hb)
  obtain ⟨A, cap, rfl, hc⟩ := hv.form
  obtain ⟨n, hn⟩ : ∃ n, L.length = n := ⟨_, rfl⟩
  by_cases h4 : 4096 < n
  · have e : parentsL L = ([], 2) := by unfold parentsL; rw [if_pos (by omega)]
    rw [e, hn]
    rw [hn] at hc hl
    unfold maxLen at hl
    have e4 : (n : Int) > 4096 := by omega
    clear hv HV e hn
    go_enter Try.func15, Try.ntmps15
    go_wp2_with fail
    go_ret2
    exact ⟨⟨_, rfl, Rows.nil _⟩, Below.refl _ _⟩
  · have HRB := Lib.hid (rebuild_any hv hn (by omega))
    rw [hn] at hc HV HRB ⊢
    have HN := Lib.hid hn
    have e4 : ¬ (n : Int) > 4096 := by omega
    obtain ⟨R, hR⟩ : ∃ R, parentsL L = R := ⟨_, rfl⟩
    rw [hR]
    have HPR := Lib.hid hR
    obtain ⟨Q, hQ⟩ : ∃ Q : Ending → World → Prop, RbPost L n w = Q := ⟨_, rfl⟩
    rw [hQ] at HRB
    have HQ := Lib.hid hQ
    clear hv hn hR hQ
    go_enter Try.func15, Try.ntmps15
    go_wp2_with fail
    refine HRB.out.mono ?_
    intro e w1 hq
    rw [← HQ.out] at hq
    obtain ⟨⟨ord, vr, hp, hs, rfl, hrow⟩, hb1⟩ := hq
    obtain ⟨r, hr⟩ : ∃ r, scanL L ord (List.replicate n 0) [-1] = r := ⟨_, rfl⟩
    rw [hr] at hrow ⊢
    have HB1 := Lib.hid hb1
    cases r with
    | none =>
      have he := scan_none HN.out (by omega) hp hs hr (fun p e => by cases e)
      rw [HPR.out] at he
      subst he
      clear hrow hr hp hs hb1
      go_wp2_with fail
      go_ret2
      exact ⟨⟨_, rfl, Rows.nil _⟩, HB1.out⟩
    | some p =>
      have hpl : p.length = n := by rw [scan_len ord _ _ p hr]; simp
      have HAS := Lib.hid (assign_any hrow (by show p.length ≤ maxLen; unfold maxLen; omega))
      simp only [Option.getD_some] at HAS hrow
      have HROW := Lib.hid (fun W (hb : Below w1.heap.size w1 W) => hrow.below stays_int hb)
      have HR := Lib.hid (And.intro hp (And.intro hs hr))
      have HPL := Lib.hid hpl
      have hal : (assignH p).1.length ≤ maxLen := by
        unfold assignH maxLen
        split
        · rename_i hc
          simp only
          rw [labH_len (okh_check.1 hc)]
          omega
        · simp
      obtain ⟨a1, a2, a3, ha⟩ : ∃ a b c, assignH p = (a, b, c) := ⟨_, _, _, rfl⟩
      rw [ha] at HAS hal
      have HA := Lib.hid ha
      have HAL := Lib.hid hal
      simp only [Option.isSome_some]
      clear hrow hr hp hs hb1 hpl ha hal
      go_wp2_with fail
      refine HAS.out.mono ?_
      rintro e w2 ⟨⟨lv, rfl, hlv⟩, hb2⟩
      have HB2 := Lib.hid (HB1.out.trans (hb2.mono HB1.out.size))
      have HBB2 := Lib.hid hb2
      have HEQ := Lib.hid (eqLab_any hlv (HV.out w2 HB2.out) HAL.out (by rw [HN.out]; unfold maxLen; omega))
      obtain ⟨q, hq⟩ : ∃ q, decide (a1 = L) = q := ⟨_, rfl⟩
      rw [hq] at HEQ
      have HQQ := Lib.hid hq
      clear hb2 hlv hq
      go_wp2_with fail
      refine HEQ.out.mono ?_
      rintro e w3 ⟨rfl, hb3⟩
      have HB3 := Lib.hid (HB2.out.trans (hb3.mono HB2.out.size))
      have HBB3 := Lib.hid (HBB2.out.trans (hb3.mono HBB2.out.size))
      clear hb3
      cases q with
      | true =>
        have he := scan_some HN.out HPL.out (by rw [HA.out]; exact of_decide_eq_true HQQ.out)
        rw [HPR.out] at he
        subst he
        go_wp2_with fail
        go_ret2
        exact ⟨⟨_, rfl, HROW.out w3 HBB3.out⟩, HB3.out⟩
      | false =>
        have he := scan_none HN.out (by omega) HR.out.1 HR.out.2.1 HR.out.2.2 (fun p' e => by
          cases e
          rw [HA.out]
          exact of_decide_eq_false HQQ.out)
        rw [HPR.out] at he
        subst he
        go_wp2_with fail
        go_ret2
        exact ⟨⟨_, rfl, Rows.nil _⟩, HB3.out⟩
end Go.Proofs.Ytjialelklnjcfaa
