/-
  WALKS over package treelabel, twelfth part: Common.
-/
import Derived.Test.YtjialelklnjcfaaEbK
import Derived.StillTailTactics
namespace Go.Proofs.Ytjialelklnjcfaa
open Go.RowKit Go.Shelf Go.Lib
set_option linter.unusedVariables false
set_option linter.unusedSimpArgs false

/-- How far it is still to the root. -/
def farZ (p : List Int) (a : Int) : Nat := if a < 0 then 0 else (way p a.toNat).length
set_option maxRecDepth 100000 in
set_option maxHeartbeats 8000000 in
theorem common_any {w : World} {v : Value} {L : List Lb} (hv : Rows 3 ELb w v L) (hl : L.length ≤ maxLen) (i j : Int) :
    Calls Try.prog 26 #[v, .int .i64 i, .int .i64 j] w fun e w' => e = .returned (.int .i64 (commonL L i j)) ∧ Below w.heap.size w w' := by
  have HP := Lib.hid (parentsOf_any hv hl i j)
  have HV := Lib.hid (fun W (hb : Below w.heap.size w W) => hv.below stays_lb hb)
  obtain ⟨A, cap, rfl, hc⟩ := hv.form
  by_cases hok : okOf L i j = true
  · rw [com_ok hok]
    obtain ⟨hi, hj, h0⟩ := okOf_iff.1 hok
    have hpl := parents_len h0
    obtain ⟨hO, hlab⟩ := parents_ok h0
    have hLO := labH_of hO
    rw [hlab] at hLO
    rw [hok] at HP
    obtain ⟨p, hp⟩ : ∃ p, (parentsL L).1 = p := ⟨_, rfl⟩
    rw [hp] at hpl HP hO hLO ⊢
    obtain ⟨n, hn⟩ : ∃ n, L.length = n := ⟨_, rfl⟩
    rw [hn] at hi hj hpl hc HP HV ⊢
    obtain ⟨x, rfl⟩ : ∃ x : Nat, i = (x : Int) := ⟨i.toNat, by omega⟩
    obtain ⟨y, rfl⟩ : ∃ y : Nat, j = (y : Int) := ⟨j.toNat, by omega⟩
    rw [Int.toNat_natCast, Int.toNat_natCast]
    obtain ⟨res, hres⟩ : ∃ r, comH p x y = r := ⟨_, rfl⟩
    rw [hres]
    have hxi : (x : Int) < (n : Int) := by omega
    have hyi : (y : Int) < (n : Int) := by omega
    have hxn : x < n := by omega
    have hyn : y < n := by omega
    have HRES := Lib.hid hres
    have HO := Lib.hid hO
    have HLO := Lib.hid hLO
    have HPL := Lib.hid hpl
    have HLN := Lib.hid hn
    clear hok h0 hp hn hv hres hO hLO hlab hpl hi hj
    go_enter Try.func26, Try.ntmps26
    go_wp2_with fail
    refine HP.out.mono ?_
    rintro e w1 ⟨⟨vr, rfl, hrow⟩, hb1⟩
    have hrow := hrow (by trivial)
    obtain ⟨Ar, cr, rfl, hcr⟩ := hrow.form
    rw [HPL.out] at hcr hrow ⊢
    have HROW := Lib.hid (fun W (hb : Below w1.heap.size w1 W) => hrow.below stays_int hb)
    have HB1 := Lib.hid hb1
    clear hrow hb1
    go_wp2_with fail
    go_loopg [1] (farZ p x) (fun gg av wr => ∃ a : Int, av = .int .i64 a ∧ farZ p a ≤ gg ∧ Hid ((a = -1 ∧ res = -1) ∨ ∃ t : Nat, a = (t : Int) ∧ t < n ∧ comH p t y = res) ∧ Hid (Below w1.heap.size w1 wr))
    case atStart => exact ⟨x, rfl, Nat.le_refl _, Lib.hid (.inr ⟨x, rfl, hxn, HRES.out⟩), Lib.hid (Below.refl _ _)⟩
    case round =>
      obtain ⟨a, rfl, hgg, HA, HB⟩ := hrel
      have hend := HB1.out.trans (HB.out.mono HB1.out.size)
      have HEND := Lib.hid hend
      rcases HA.out with ⟨ha, hr⟩ | ⟨t, ha, ht, hr⟩
      · subst ha
        subst hr
        clear hend HA
        go_wp2_with fail
        go_quiet (fail)
        go_wp2_with fail
        go_ret
        exact ⟨rfl, below_drewN HEND.out _⟩
      · subst ha
        have hti : (t : Int) < (n : Int) := by omega
        have ht1 : ((t : Int) != -1) = true := by simp <;> omega
        have htn1 : ¬ (t : Int) = -1 := by omega
        by_cases hty : t = y
        · subst hty
          have hrt : res = (t : Int) := by
            rw [← hr, find_way HO.out, if_pos (way_self t)]
          subst hrt
          clear hend HA hr htn1
          go_wp2_with fail
          go_quiet (fail)
          go_wp2_with fail
          go_ret
          exact ⟨rfl, below_drewN HEND.out _⟩
        · have htyi : ¬ (t : Int) = (y : Int) := by omega
          have htyb : ((t : Int) != (y : Int)) = true := by simp <;> omega
          have hp0 : 0 < n := by omega
          obtain ⟨bl, ol, rfl, hbl, hcl⟩ := at_lb (HV.out wr hend) (by rw [HLN.out]; exact hp0)
          obtain ⟨u, hu⟩ : ∃ u, L[t]? = some u := ⟨_, List.getElem?_eq_getElem (by rw [HLN.out]; exact ht)⟩
          obtain ⟨z, hz⟩ : ∃ u, L[y]? = some u := ⟨_, List.getElem?_eq_getElem (by rw [HLN.out]; exact hyn)⟩
          have hdom := HLO.out.dom HO.out hu hz
          obtain ⟨u1, u2, u3⟩ := u
          obtain ⟨z1, z2, z3⟩ := z
          obtain ⟨c1, c2, c3⟩ := hcl t _ hu
          obtain ⟨d1, d2, d3⟩ := hcl y _ hz
          simp only at c1 c2 c3 d1 d2 d3
          obtain ⟨w3, hw3⟩ : ∃ X, wr.drew = X := ⟨_, rfl⟩
          have HDOM := Lib.hid (dominates_any (u1, u2, u3) (z1, z2, z3) w3)
          obtain ⟨q, hq⟩ : ∃ q, domL (u1, u2, u3) (z1, z2, z3) = q := ⟨_, rfl⟩
          rw [hq] at hdom HDOM
          unfold lbA at HDOM
          simp only at HDOM
          have HB3 := Lib.hid (show Below w1.heap.size w1 w3 by rw [← hw3]; exact HB.out.drew)
          have HW3 := Lib.hid hw3
          have HDD := Lib.hid hdom
          have HRR := Lib.hid hr
          have HEND3 := Lib.hid (show Below w.heap.size w w3 by rw [← hw3]; exact hend.drew)
          clear hend HA hr hq hdom hcl hu hz hw3 hbl HB HEND
          go_wp2_with fail
          go_still_tail 16, (by kernel_rfl)
          change wpList _ _ _ _ _ wr.drew
          rw [HW3.out]
          clear c1 c2 c3 d1 d2 d3
          go_wp2_with fail
          refine HDOM.out.mono ?_
          rintro e w4 ⟨rfl, hb4⟩
          have HB4 := Lib.hid (HB3.out.trans (hb4.mono HB3.out.size))
          have HEND4 := Lib.hid (HEND3.out.trans (hb4.mono HEND3.out.size))
          clear hb4
          cases q with
          | true =>
            have hrt : res = (t : Int) := by
              rw [← HRR.out, find_way HO.out, if_pos (HDD.out.1 rfl).2]
            subst hrt
            go_wp2_with fail
            go_ret
            exact ⟨rfl, HEND4.out⟩
          | false =>
            have hnw : t ∉ way p y := fun hm => by
              have := HDD.out.2 ⟨hty, hm⟩
              cases this
            have hrn := HRR.out
            rw [find_way HO.out, if_neg hnw] at hrn
            obtain ⟨br, orr, rfl, -, hcell⟩ := at_int (HROW.out w4 HB4.out) (by rw [HPL.out]; exact hp0)
            rcases HO.out.at (i := t) (by rw [HPL.out]; exact ht) with ⟨hx1, hs1⟩ | ⟨b, hx1, hb1, hs1⟩
            · have u0 := hcell t _ hx1
              rw [hs1] at hrn
              have HNX := Lib.hid hrn.symm
              have hfar : farZ p (t : Int) = (way p t).length := by unfold farZ; rw [if_neg (by omega), Int.toNat_natCast]
              have hfp : 0 < (way p t).length := List.length_pos_of_mem (way_self t)
              clear hcell hx1 hs1 hrn hnw htn1
              go_wp2_with fail
              go_roundg 0
              case measure => omega
              case rel => exact ⟨-1, rfl, by unfold farZ; simp, Lib.hid (.inl ⟨rfl, HNX.out⟩), HB4⟩
            · have u0 := hcell t _ hx1
              rw [hs1] at hrn
              have HNX := Lib.hid (show (((b : Int) = -1) ∧ res = -1) ∨ ∃ s : Nat, (b : Int) = (s : Int) ∧ s < n ∧ comH p s y = res from .inr ⟨b, rfl, by rw [← HPL.out]; exact hb1, hrn⟩)
              have hfar : farZ p (t : Int) = (way p t).length := by unfold farZ; rw [if_neg (by omega), Int.toNat_natCast]
              have hfb : farZ p (b : Int) = (way p b).length := by unfold farZ; rw [if_neg (by omega), Int.toNat_natCast]
              have hfp : (way p t).length = (way p b).length + 1 := by rw [way_step HO.out hs1, List.length_cons]
              clear hcell hx1 hs1 hrn hnw hb1 htn1
              go_wp2_with fail
              go_roundg (farZ p (b : Int))
              case measure => omega
              case rel => exact ⟨b, rfl, Nat.le_refl _, HNX, HB4⟩
  · rw [com_no hok]
    have hok2 : okOf L i j = false := by simpa using hok
    rw [hok2] at HP
    obtain ⟨n, hn⟩ : ∃ n, L.length = n := ⟨_, rfl⟩
    rw [hn] at hc HP ⊢
    clear hok hok2 hn hv HV
    go_enter Try.func26, Try.ntmps26
    go_wp2_with fail
    refine HP.out.mono ?_
    rintro e w1 ⟨⟨vr, rfl, -⟩, hb1⟩
    have HB1 := Lib.hid hb1
    clear hb1
    go_wp2_with fail
    go_ret
    exact ⟨rfl, HB1.out⟩
end Go.Proofs.Ytjialelklnjcfaa
