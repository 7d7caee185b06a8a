/-
  DependConnects is proved: for every list of numbers and every number and every number the call of the law returns true, and each argument reads afterwards as it read before. The package-level variables that the row lists hold what the program's text lays in them: this is tied to the text.
-/
import Derived.Test.YtdhnaiikhdabmaaDoorRows
import Derived.Test.YtdhnaiikhdabmaaDoorCards
import Derived.Test.YtdhnaiikhdabmaaDoorTie
import Derived.Test.YtdhnaiikhdabmaaDoorDcL
import Derived.Test.YtdhnaiikhdabmaaDoorDcE
import Derived.ProofKit
import Derived.OpenShut
import Derived.Carry
import Derived.SevenTiedAt
import Derived.LaidMore
import Derived.Stop.Joined
namespace Go.Proofs.YtdhnaiikhdabmaaDoor.dependConnects
open Go.ChangeShapes Go.WideShapes Go.ChangeAt Go.RowKit Go.Shelf Go.Lib
set_option linter.unusedVariables false

theorem path_cases (h : List Int) (a b : Int) : (∃ e : Int, e ≠ 0 ∧ pathH h a b = ([], e) ∧ pathH h b a = ([], e)) ∨
    ∃ (x y : Nat) (l : List Nat), a = x ∧ b = y ∧ pathH h a b = (l, 0) ∧ pathH h b a = (l.reverse, 0) ∧ Con h x y l ∧ Okh h := by
  unfold pathH
  by_cases hc : okH h = true ∧ (0 ≤ a ∧ a < h.length) ∧ (0 ≤ b ∧ b < h.length)
  · rw [if_pos hc, if_pos ⟨hc.1, hc.2.2, hc.2.1⟩]
    have hO := okh_iff.1 hc.1
    obtain ⟨x, rfl⟩ : ∃ x : Nat, a = x := ⟨a.toNat, by omega⟩
    obtain ⟨y, rfl⟩ : ∃ y : Nat, b = y := ⟨b.toNat, by omega⟩
    rw [Int.toNat_natCast, Int.toNat_natCast]
    by_cases e : rootH h x = rootH h y
    · right
      obtain ⟨l, h1, h2, h3⟩ := connect hO (a := x) (b := y) (by omega) (by omega) e
      exact ⟨x, y, l, rfl, rfl, h1, h2, h3, hO⟩
    · left
      exact ⟨11, by decide, joinW_none hO e, joinW_none hO (fun h => e h.symm)⟩
  · left
    rw [if_neg hc, if_neg (fun hh => hc ⟨hh.1, hh.2.2, hh.2.1⟩)]
    exact ⟨1, by decide, rfl, rfl⟩
theorem con_len {h : List Int} {a b : Nat} {l : List Nat} (hC : Con h a b l) : l.length ≤ h.length := nodup_le _ _ hC.nd hC.lt
set_option maxRecDepth 100000 in
set_option maxHeartbeats 8000000 in
theorem walk {w : World} (v : Value) (h : List Int) (hv : Rows 1 EInt w v h) (hl : h.length ≤ maxLen) (_ : ∀ x ∈ h, -9223372036854775808 ≤ x ∧ x ≤ 9223372036854775807) (a : Int) (_ : -9223372036854775808 ≤ a) (_ : a ≤ 9223372036854775807) (b : Int) (_ : -9223372036854775808 ≤ b) (_ : b ≤ 9223372036854775807) (hE : ErrAt w) :
    Calls Tryd.prog 6 #[v, .int .i64 a, .int .i64 b] w fun e w1 => e = .returned (.bool true) ∧ Below w.heap.size w w1 := by
  have HC := Lib.hid (fun (a b : Int) (W : World) (hb : Below w.heap.size w W) => path_any (hv.below stays_int hb) hl a b)
  have HA := Lib.hid (fun (W : World) (hb : Below w.heap.size w W) => awake_any (w := W) (ErrAt.same hE (hb.block _ hE.lt)))
  have HV := Lib.hid (fun W (hb : Below w.heap.size w W) => hv.below stays_int hb)
  have hcs := path_cases h a b
  have hcl := fun (a b : Nat) (l : List Nat) => con_len (h := h) (a := a) (b := b) (l := l)
  obtain ⟨A, cap, rfl, hc⟩ := hv.form
  obtain ⟨n, hn⟩ : ∃ n, h.length = n := ⟨_, rfl⟩
  rw [hn] at HC HV hl hc hcl ⊢
  unfold maxLen at hl
  have HN := Lib.hid hn
  clear hv hc hn hE
  by_cases hn : 60 < n
  · clear hcs hcl
    go_enter Tryd.func6, Tryd.ntmps6
    go_wp2_with fail
    go_ret
    exact ⟨rfl, Below.refl _ _⟩
  have H1 := Lib.hid (HC.out a b)
  have H2 := Lib.hid (HC.out b a)
  rcases hcs with ⟨e, he, hp1, hp2⟩ | ⟨x, y, l, rfl, rfl, hp1, hp2, hC, hO⟩
  · rw [hp1] at H1
    rw [hp2] at H2
    have hee : (e != e) = false := by simp
    have he0 : (e != 0) = true := by simp [he]
    clear hp1 hp2 HC hcl
    go_enter Tryd.func6, Tryd.ntmps6
    go_wp2_with fail
    refine (H1.out w (Below.refl _ _)).mono ?_
    rintro e1 w1 ⟨⟨v1, rfl, hr1⟩, hb1⟩
    obtain ⟨A1, c1, rfl, -, -⟩ := hr1.form
    have HB1 := Lib.hid hb1
    clear hb1 hr1
    go_wp2_with fail
    refine (H2.out w1 HB1.out).mono ?_
    rintro e1 w2 ⟨⟨v2, rfl, hr2⟩, hb2⟩
    obtain ⟨A2, c2, rfl, -, -⟩ := hr2.form
    have HB2 := Lib.hid (HB1.out.trans (hb2.mono HB1.out.size))
    clear hb2 hr2
    simp only [List.length_nil]
    go_wp2_with fail
    refine (HA.out w2 HB2.out).mono ?_
    rintro e1 w4 ⟨rfl, hb4⟩
    have HB4 := Lib.hid (HB2.out.trans (hb4.mono HB2.out.size))
    clear hb4
    go_wp2_with fail
    go_ret
    exact ⟨rfl, HB4.out⟩
  · rw [hp1] at H1
    rw [hp2] at H2
    have hll := hcl x y l hC
    obtain ⟨hfi, hla, hpo, hlt, hnd, harc⟩ := hC
    obtain ⟨m, hm⟩ : ∃ m, l.length = m := ⟨_, rfl⟩
    have hm2 : l.reverse.length = m := by rw [List.length_reverse]; exact hm
    rw [hm] at hll hla hpo
    obtain ⟨m1, hm1⟩ : ∃ z, m = z + 1 := ⟨m - 1, by omega⟩
    have hw1 : IntKind.i64.wrap ((m : Int) - 1) = (m1 : Int) := by rw [IntKind.wrap_i64]; omega
    have hm0 : (m : Int) ≠ 0 := by omega
    have hmb : ((m : Int) == 0) = false := by simp; omega
    have hmm : ((m : Int) != (m : Int)) = false := by simp
    have hxx : ((x : Int) != (x : Int)) = false := by simp
    have hyy : ((y : Int) != (y : Int)) = false := by simp
    have m10 : (0 : Int) ≤ (m1 : Int) := by omega
    have m1m : (m1 : Int) < (m : Int) := by omega
    have mp : (0 : Int) < (m : Int) := by omega
    have HM1 := Lib.hid hm1
    have HM := Lib.hid (And.intro hm hm2)
    have HFI := Lib.hid hfi
    have HLA := Lib.hid hla
    have HLT := Lib.hid hlt
    have HND := Lib.hid hnd
    have HARC := Lib.hid harc
    clear hp1 hp2 HC hcl hfi hla hlt hnd harc hm hm2 hm1
    go_enter Tryd.func6, Tryd.ntmps6
    go_wp2_with fail
    refine (H1.out w (Below.refl _ _)).mono ?_
    rintro e1 w1 ⟨⟨v1, rfl, hr1⟩, hb1⟩
    have HB1 := Lib.hid hb1
    have HR1 := Lib.hid hr1
    clear hb1 hr1
    go_wp2_with fail
    refine (H2.out w1 HB1.out).mono ?_
    rintro e1 w2 ⟨⟨v2, rfl, hr2⟩, hb2⟩
    have HB2 := Lib.hid (HB1.out.trans (hb2.mono HB1.out.size))
    have HR2 := Lib.hid (fun W (hb : Below w2.heap.size w2 W) => And.intro ((HR1.out.below hb2).below hb).rows (hr2.below hb).rows)
    obtain ⟨A1, cp1, rfl, -, -⟩ := (HR1.out.below hb2).form
    obtain ⟨A2, cp2, rfl, -, -⟩ := hr2.form
    obtain ⟨b1, o1, rfl, -, hj1⟩ := at_int (HR2.out w2 (Below.refl _ _)).1 (by rw [intsN_len, HM.out.1]; omega)
    obtain ⟨b2, o2, rfl, -, hj2⟩ := at_int (HR2.out w2 (Below.refl _ _)).2 (by rw [intsN_len, HM.out.2]; omega)
    have hM1 := HM.out.1
    have hM2 := HM.out.2
    rw [hM1, hM2] at HR2
    rw [hM1, hM2]
    clear hM1 hM2
    have u0 := hj1 0 x (intsN_get HFI.out)
    have u1 := hj1 m1 y (intsN_get (by have := HLA.out; rwa [HM1.out, Nat.add_sub_cancel] at this))
    rw [Nat.add_zero] at u0
    clear hb2 hr2 hj1 hj2 HR1 H1 H2
    go_wp2_with fail
    go_loopw [70] (fun sv wr => ∃ i : Nat, i ≤ m ∧ sv = .int .i64 i ∧ Hid (Below w2.heap.size w2 wr)) (fun sv _ => m - (Go.RowKit.intOf sv).toNat)
    case atStart => exact ⟨0, Nat.zero_le _, rfl, Lib.hid (Below.refl _ _)⟩
    case round =>
      obtain ⟨i, hi, rfl, HB⟩ := hrel
      by_cases hlt : i < m
      · obtain ⟨z, hz⟩ : ∃ z, l[i]? = some z := ⟨_, List.getElem?_eq_getElem (by rw [HM.out.1]; exact hlt)⟩
        have hzn : z < n := by have := HLT.out z (List.mem_of_getElem? hz); rw [HN.out] at this; exact this
        obtain ⟨r, hr⟩ : ∃ r, r + 1 + i = m := ⟨m - 1 - i, by omega⟩
        have hzr : l.reverse[r]? = some z := by
          rw [List.getElem?_reverse (by rw [HM.out.1]; omega), HM.out.1, show m - 1 - r = i by omega]
          exact hz
        have hB := HB2.out.trans (HB.out.mono HB2.out.size)
        obtain ⟨_, _, he1, -, hj1⟩ := at_int (HR2.out _ HB.out).1 (by rw [intsN_len, HM.out.1]; omega)
        cases he1
        obtain ⟨_, _, he2, -, hj2⟩ := at_int (HR2.out _ HB.out).2 (by rw [intsN_len, HM.out.2]; omega)
        cases he2
        obtain ⟨bh, oh, rfl, -, hj3⟩ := at_int (HV.out _ hB) (by rw [HN.out]; omega)
        obtain ⟨xz, hxz⟩ : ∃ x, h[z]? = some x := ⟨_, List.getElem?_eq_getElem (by rw [HN.out]; exact hzn)⟩
        have v1 := hj1 i z (intsN_get hz)
        have v2 := hj2 r z (intsN_get hzr)
        have v3 := hj3 z xz hxz
        have hw2 : IntKind.i64.wrap ((m1 : Int) - (i : Int)) = (r : Int) := by rw [IntKind.wrap_i64]; have := HM1.out; omega
        have hw3 : (m1 : Int) - (i : Int) = (r : Int) := by have := HM1.out; omega
        have hw7 : IntKind.i64.wrap (r : Int) = (r : Int) := by rw [IntKind.wrap_i64]; omega
        have hw4 : (m : Int) - 1 - (i : Int) = (r : Int) := by have := HM1.out; omega
        have z0 : ¬ (z : Int) < 0 := by omega
        have z1 : ¬ (z : Int) ≥ (n : Int) := by omega
        have z1' : ¬ (n : Int) ≤ (z : Int) := by omega
        have z2 : ¬ n ≤ z := by omega
        have z3 : z < n := hzn
        have z4 : decide ((z : Int) ≥ (n : Int)) = false := decide_eq_false z1
        have z5 : decide ((n : Int) ≤ (z : Int)) = false := decide_eq_false z1
        have z6 : decide ((z : Int) < 0) = false := decide_eq_false z0
        have z00 : (0 : Int) ≤ (z : Int) := by omega
        have zn : (z : Int) < (n : Int) := by omega
        have i0 : (0 : Int) ≤ (i : Int) := by omega
        have im : (i : Int) < (m : Int) := by omega
        have r0 : (0 : Int) ≤ (r : Int) := by omega
        have rm : (r : Int) < (m : Int) := by omega
        have hzz : ((z : Int) != (z : Int)) = false := by simp
        have HZ := Lib.hid hz
        have HLI := Lib.hid hlt
        have HBB := Lib.hid hB
        by_cases hi0 : i = 0
        · subst hi0
          obtain rfl : r = m1 := by have := HM1.out; omega
          rw [Nat.add_zero] at v1
          clear hj1 hj2 hj3 hz hxz hB hlt hzn hr hzr hw2 hw3 hw4 i0 im
          go_wp2_with fail
          go_quiet (fail)
          obtain ⟨w3, hw3⟩ : ∃ X, wr.drewN nq = X := ⟨_, rfl⟩
          rw [hw3]
          have HB3 := Lib.hid (show Below w2.heap.size w2 w3 by rw [← hw3]; exact below_drewN HB.out nq)
          clear hw3 v1 v2 v3
          go_wp2_with fail
          go_loopw [12] (fun kv wr => kv = .int .i64 0 ∧ Hid (Below w2.heap.size w2 wr)) (fun _ _ => 0)
          case atStart => exact ⟨rfl, HB3⟩
          case round =>
            clear HB3
            obtain ⟨rfl, HB4⟩ := hrel
            go_wp2_with fail
            exact ⟨⟨1, by have := HLI.out; omega, by go_num, HB4⟩, by simp only [Go.RowKit.intOf]; have := HLI.out; omega⟩
        · obtain ⟨p, hp⟩ : ∃ p, p + 1 = i := ⟨i - 1, by omega⟩
          obtain ⟨y1, hy1⟩ : ∃ z, l[p]? = some z := ⟨_, List.getElem?_eq_getElem (by rw [HM.out.1]; omega)⟩
          have hyn : y1 < n := by have := HLT.out y1 (List.mem_of_getElem? hy1); rw [HN.out] at this; exact this
          obtain ⟨xy, hxy⟩ : ∃ x, h[y1]? = some x := ⟨_, List.getElem?_eq_getElem (by rw [HN.out]; exact hyn)⟩
          have v4 := hj1 p y1 (intsN_get hy1)
          have v5 := hj3 y1 xy hxy
          have harc := HARC.out p y1 z hy1 (by rw [hp]; exact hz)
          have hw5 : IntKind.i64.wrap ((i : Int) - 1) = (p : Int) := by rw [IntKind.wrap_i64]; omega
          have hw6 : (i : Int) - 1 = (p : Int) := by omega
          have hw8 : IntKind.i64.wrap (p : Int) = (p : Int) := by rw [IntKind.wrap_i64]; omega
          have p0 : (0 : Int) ≤ (p : Int) := by omega
          have pm : (p : Int) < (m : Int) := by omega
          have y0 : (0 : Int) ≤ (y1 : Int) := by omega
          have yn : (y1 : Int) < (n : Int) := by omega
          have hi1 : (i : Int) > 0 := by omega
          have hi2 : 0 < i := by omega
          have hi3 : (0 : Int) < (i : Int) := by omega
          have hi4 : decide ((i : Int) > 0) = true := decide_eq_true hi1
          have hi5 : decide (0 < (i : Int)) = true := decide_eq_true hi1
          have hi6 : decide (0 < i) = true := decide_eq_true hi2
          by_cases e1 : xz = (y1 : Int)
          · subst e1
            have hq1 : ((y1 : Int) != (y1 : Int)) = false := by simp
            clear hj1 hj2 hj3 hz hxz hB hlt hzn hr hzr hy1 hyn hxy harc hp hi0 v5
            go_wp2_with fail
            go_quiet (fail)
            obtain ⟨w3, hw3⟩ : ∃ X, wr.drewN nq = X := ⟨_, rfl⟩
            rw [hw3]
            have HB3 := Lib.hid (show Below w2.heap.size w2 w3 by rw [← hw3]; exact below_drewN HB.out nq)
            clear hw3 v1 v2 v3 v4
            go_wp2_with fail
            go_loopw [12] (fun kv wr => ∃ k : Nat, k ≤ i ∧ kv = .int .i64 k ∧ Hid (Below w2.heap.size w2 wr)) (fun kv _ => i - (Go.RowKit.intOf kv).toNat)
            case atStart => exact ⟨0, Nat.zero_le _, rfl, HB3⟩
            case round =>
              clear HB3
              obtain ⟨k, hk, rfl, HB4⟩ := hrel
              by_cases hki : k < i
              · obtain ⟨u, hu⟩ : ∃ z, l[k]? = some z := ⟨_, List.getElem?_eq_getElem (by rw [HM.out.1]; have := HLI.out; omega)⟩
                obtain ⟨_, _, he3, -, hj4⟩ := at_int (HR2.out _ HB4.out).1 (by rw [intsN_len, HM.out.1]; have := HLI.out; omega)
                cases he3
                have x1 := hj4 k u (intsN_get hu)
                have x2 := hj4 i z (intsN_get HZ.out)
                have hne : u ≠ z := by
                  intro e
                  subst e
                  obtain ⟨a1, a2⟩ := List.getElem?_eq_some_iff.1 hu
                  obtain ⟨b1, b2⟩ := List.getElem?_eq_some_iff.1 HZ.out
                  have := nodup_inj HND.out a1 b1 (a2.trans b2.symm)
                  omega
                have q1 : ((u : Int) == (z : Int)) = false := by simp; omega
                have q2 : ¬ (u : Int) = (z : Int) := by omega
                have k0 : (0 : Int) ≤ (k : Int) := by omega
                have ki : (k : Int) < (i : Int) := by omega
                have km : (k : Int) < (m : Int) := by omega
                clear hu hj4 hne
                go_wp2_with fail
                go_quiet (fail)
                obtain ⟨w4, hw4⟩ : ∃ X, wr.drewN nq = X := ⟨_, rfl⟩
                rw [hw4]
                have HB5 := Lib.hid (show Below w2.heap.size w2 w4 by rw [← hw4]; exact below_drewN HB4.out nq)
                clear hw4 x1 x2
                go_wp2_with fail
                exact ⟨⟨k + 1, by omega, by go_num, HB5⟩, by simp only [Go.RowKit.intOf]; omega⟩
              · obtain rfl : k = i := by omega
                have hk64 : IntKind.i64.wrap ((k : Int) + 1) = (k : Int) + 1 := by rw [IntKind.wrap_i64]; omega
                go_wp2_with fail
                exact ⟨⟨k + 1, by have := HLI.out; omega, by go_num, HB4⟩, by simp only [Go.RowKit.intOf]; have := HLI.out; omega⟩
          · have hq1 : (xz != (y1 : Int)) = true := by simp [e1]
            obtain rfl : xy = (z : Int) := by
              rcases harc with h | h
              · rw [hxy] at h; exact Option.some.inj h
              · rw [hxz] at h; exact absurd (Option.some.inj h) e1
            clear hj1 hj2 hj3 hz hxz hB hlt hzn hr hzr hy1 hyn hxy harc hp hi0 e1
            go_wp2_with fail
            go_quiet (fail)
            obtain ⟨w3, hw3⟩ : ∃ X, wr.drewN nq = X := ⟨_, rfl⟩
            rw [hw3]
            have HB3 := Lib.hid (show Below w2.heap.size w2 w3 by rw [← hw3]; exact below_drewN HB.out nq)
            clear hw3 v1 v2 v3 v4 v5
            go_wp2_with fail
            go_loopw [12] (fun kv wr => ∃ k : Nat, k ≤ i ∧ kv = .int .i64 k ∧ Hid (Below w2.heap.size w2 wr)) (fun kv _ => i - (Go.RowKit.intOf kv).toNat)
            case atStart => exact ⟨0, Nat.zero_le _, rfl, HB3⟩
            case round =>
              clear HB3
              obtain ⟨k, hk, rfl, HB4⟩ := hrel
              by_cases hki : k < i
              · obtain ⟨u, hu⟩ : ∃ z, l[k]? = some z := ⟨_, List.getElem?_eq_getElem (by rw [HM.out.1]; have := HLI.out; omega)⟩
                obtain ⟨_, _, he3, -, hj4⟩ := at_int (HR2.out _ HB4.out).1 (by rw [intsN_len, HM.out.1]; have := HLI.out; omega)
                cases he3
                have x1 := hj4 k u (intsN_get hu)
                have x2 := hj4 i z (intsN_get HZ.out)
                have hne : u ≠ z := by
                  intro e
                  subst e
                  obtain ⟨a1, a2⟩ := List.getElem?_eq_some_iff.1 hu
                  obtain ⟨b1, b2⟩ := List.getElem?_eq_some_iff.1 HZ.out
                  have := nodup_inj HND.out a1 b1 (a2.trans b2.symm)
                  omega
                have q1 : ((u : Int) == (z : Int)) = false := by simp; omega
                have q2 : ¬ (u : Int) = (z : Int) := by omega
                have k0 : (0 : Int) ≤ (k : Int) := by omega
                have ki : (k : Int) < (i : Int) := by omega
                have km : (k : Int) < (m : Int) := by omega
                clear hu hj4 hne
                go_wp2_with fail
                go_quiet (fail)
                obtain ⟨w4, hw4⟩ : ∃ X, wr.drewN nq = X := ⟨_, rfl⟩
                rw [hw4]
                have HB5 := Lib.hid (show Below w2.heap.size w2 w4 by rw [← hw4]; exact below_drewN HB4.out nq)
                clear hw4 x1 x2
                go_wp2_with fail
                exact ⟨⟨k + 1, by omega, by go_num, HB5⟩, by simp only [Go.RowKit.intOf]; omega⟩
              · obtain rfl : k = i := by omega
                have hk64 : IntKind.i64.wrap ((k : Int) + 1) = (k : Int) + 1 := by rw [IntKind.wrap_i64]; omega
                go_wp2_with fail
                exact ⟨⟨k + 1, by have := HLI.out; omega, by go_num, HB4⟩, by simp only [Go.RowKit.intOf]; have := HLI.out; omega⟩
      · obtain rfl : i = m := by omega
        go_wp2_with fail
        refine (HA.out _ (HB2.out.trans (HB.out.mono HB2.out.size))).mono ?_
        rintro e1 w5 ⟨rfl, hb5⟩
        have HB5 := Lib.hid (HB2.out.trans ((HB.out.trans (hb5.mono HB.out.size)).mono HB2.out.size))
        clear hb5
        go_wp2_with fail
        go_ret
        exact ⟨rfl, HB5.out⟩

theorem own : ownKnob Tryd.prog.godebug = none := by kernel_rfl

set_option maxRecDepth 100000 in
theorem lifted (os : Os) (started : os.Started) (H : Type) (enc : TypeId × Value → H) :
    ReturnsInHanded {} Tryd.checked os 6 .any (fun w args => (Rows.dependConnectsSpec.pre enc Tryd.prog Tryd.f6 [] false w args ∧ laidMetH Tryd.prog Rows.dependConnectsRow.laid w) ∧ sizedMet enc Tryd.prog Tryd.f6 (OpenSpec.ofChange Rows.dependConnectsSpec) false w args)
      (Rows.dependConnectsSpec.post enc Tryd.prog Tryd.f6 false true false false) := by
  refine returnsInHanded_of_change_and (C := Tryd.checked) (X := fun w _ => laidMetH Tryd.prog Rows.dependConnectsRow.laid w) (fun _ _ _ hh h => h.of_heap hh) own started (by kernel_rfl) Tryd.func6
    (ChangeSpec.witness_shaped (enc := enc) (C := Tryd.checked) (os := os) (X := fun w _ => laidMetH Tryd.prog Rows.dependConnectsRow.laid w) false (World.laidAll Tryd.prog os laidAll) #[.slice none 0 0, .int .i64 0, .int .i64 0] 8 (World.laidAll_os _ _ _) (all_shaped os) (by kernel_rfl) (by kernel_rfl) (by kernel_rfl) (all_met os _)) ?_
  intro W base args ds gs before hval0 hW _ _ hL _
  have hval : ∀ (j : Nat) t v, Tryd.f6.params[j]? = some t → args[j]? = some v → Value.okWide Tryd.prog W .any base t v := hval0
  have hW' := hW
  have hplt : ∀ x ∈ before, x.block < W.heap.size := fun x hx => hW.lt x hx
  obtain ⟨p, q, hA0, hV, rfl, hfz, hnd⟩ := hW
  have hA : DataW.TrodAll enc Tryd.prog W 0 (fun _ => true) true Tryd.f6.params.toList args.toList ds p := hA0
  rw [Tryd.params6] at hA hval
  obtain ⟨v0, vs0, d0, ds0, p0, q0, hargs, rfl, rfl, h0, r0⟩ := trodAll_cons hA
  obtain ⟨v1, vs1, d1, ds1, p1, q1, rfl, rfl, rfl, h1, r1⟩ := trodAll_cons r0
  obtain ⟨v2, vs2, d2, ds2, p2, q2, rfl, rfl, rfl, h2, r2⟩ := trodAll_cons r1
  obtain ⟨rfl, rfl, rfl⟩ := trodAll_nil r2
  obtain rfl : args = #[v0, v1, v2] := by cases args; simp_all
  obtain ⟨rfl, rfl⟩ := trodVars_none hV
  obtain ⟨l0, s0, m0, n0⟩ := open_rowI (hval 0 22 v0 rfl rfl) h0
  obtain ⟨x1, rfl, m1, n1⟩ := open_i64 (hval 1 3 v1 rfl rfl) h1
  obtain ⟨x2, rfl, m2, n2⟩ := open_i64 (hval 2 3 v2 rfl rfl) h2
  clear hA0 hval0
  refine (walk v0 l0 s0 m0 n0 x1 m1 n1 x2 m2 n2 (err_of_laid hL)).mono fun e W' ⟨he, bel⟩ => ?_
  subst he
  exact ⟨_, rfl, _, _, _, [], _, [], hW', trodAll_mk1 (shut_bool Tryd.underlying4 _), (trodAll_cons_mk (Below.trod Tryd.laidOut (by kernel_rfl) (of_decide_eq_true (by kernel_rfl)) h0 bel (fun x hx => hplt x (by simp [hx]))) (trodAll_cons_mk (Below.trod Tryd.laidOut (by kernel_rfl) (of_decide_eq_true (by kernel_rfl)) h1 bel (fun x hx => hplt x (by simp [hx]))) (trodAll_cons_mk (Below.trod Tryd.laidOut (by kernel_rfl) (of_decide_eq_true (by kernel_rfl)) h2 bel (fun x hx => hplt x (by simp [hx]))) trodAll_mk0))), rfl, World.keptBut_mono (fun x hx => ⟨hx, Or.inr (by simpa using hx)⟩) (bel.frame (· ∈ _)), fun h => by cases h⟩

theorem over : Rows.dependConnectsRow.holds Tryd.pinned (OpenSpec.ofChange Rows.dependConnectsSpec) :=
  OpenClaim.holds_of_wide 6 Tryd.f6 rfl rfl rfl rfl rfl rfl rfl ⟨rfl, rfl, rfl, rfl, rfl⟩ rfl rfl rfl rfl rfl (by kernel_rfl) Tryd.func6 (by kernel_rfl)
    (of_decide_eq_true (by kernel_rfl)) (by unfold Func.isWrapper; first | (rw [if_pos (by decide +kernel)]; kernel_rfl) | (rw [if_neg (by decide +kernel)]; exact ⟨rfl, rfl⟩))
    (fun os started H enc _ => lifted os started H enc)

/-- THE STATEMENT: the tied card. -/
theorem proved : Rows.DependConnectsCardSaid :=
  Claim7.holds_tied_plain_at .later [] Rows.dependConnectsCard.laidKinds true Rows.dependConnectsCard.stood.harness Rows.dependConnectsCard.stood.looks
    over (fun _ h => by cases h) (by kernel_rfl) (fun _ h => by cases h) dependConnects_row_tie rfl ⟨rfl, rfl⟩ (by kernel_rfl) rfl
    (fun f fn hf hfn => by
      obtain rfl : f = 6 := Option.some.inj ((show Tryd.prog.funcNamed "corpora/corporalaw09.DependConnects" = some 6 by kernel_rfl).symm.trans hf) |>.symm
      obtain rfl : fn = Tryd.f6 := (Option.some.inj (Tryd.func6.symm.trans hfn)).symm
      exact ⟨by kernel_rfl, fun j t ht => by
        rw [Tryd.params6] at ht
        have hm : t ∈ [22, 3, 3] := by simpa using Array.mem_of_getElem? ht
        have hall : ([22, 3, 3].all fun u => !Tryd.prog.wantsStandIn u) = true := by kernel_rfl
        exact (show Tryd.prog.wantsStandIn t = false by simpa using List.all_eq_true.1 hall t hm)⟩)
    (by kernel_rfl)
end Go.Proofs.YtdhnaiikhdabmaaDoor.dependConnects
