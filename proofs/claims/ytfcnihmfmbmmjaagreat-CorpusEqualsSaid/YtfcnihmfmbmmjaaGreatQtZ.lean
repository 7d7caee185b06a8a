/-
  WALKS over the library: slices.Equal at the element types of package corpus.
  WALKS over package corpus: Equal and what it calls.
-/
import Derived.Test.YtfcnihmfmbmmjaaGreatQsA
import Derived.Test.YtfcnihmfmbmmjaaGreatQmV
namespace Go.Proofs.YtfcnihmfmbmmjaaGreat
open Go.RowKit Go.Shelf Go.Lib

set_option maxRecDepth 100000 in
set_option maxHeartbeats 4000000 in
theorem equal_pairs {w : World} {v1 v2 : Value} {l m : List (Bs × Bs)} (hv : Rows 2 EPair w v1 l) (hm : Rows 2 EPair w v2 m) (hl : l.length ≤ maxLen) (hl2 : m.length ≤ maxLen) :
    Calls Tryz.prog 108 #[v1, v2] w fun e w' => e = .returned (.bool (decide (l = m))) ∧ Below w.heap.size w w' := by
  obtain ⟨A, cap, rfl, hc⟩ := hv.form
  obtain ⟨A2, cap2, rfl, hc2⟩ := hm.form
  obtain ⟨n, hn⟩ : ∃ n, l.length = n := ⟨_, rfl⟩
  obtain ⟨n2, hn2⟩ : ∃ n, m.length = n := ⟨_, rfl⟩
  obtain ⟨q, hq⟩ : ∃ q, decide (l = m) = q := ⟨_, rfl⟩
  rw [hq]
  have HQ := Lib.hid hq
  clear hq
  have HV := Lib.hid (fun W (h : Below w.heap.size w W) => hv.below stays_pair h)
  have HM := Lib.hid (fun W (h : Below w.heap.size w W) => hm.below stays_pair h)
  rw [hn] at hc hl HV ⊢
  rw [hn2] at hc2 hl2 HM ⊢
  unfold maxLen at hl hl2
  have HN := Lib.hid hn
  have HN2 := Lib.hid hn2
  clear hn hn2 hv hm
  by_cases he : n = n2
  · subst he
    go_enter Tryz.func108, Tryz.ntmps108
    go_wp2_with fail
    go_loopw [13] (fun i wr => ∃ k : Nat, k ≤ n ∧ i = .int .i64 k ∧ Hid (∀ (j : Nat) (x y : Bs × Bs), j < k → l[j]? = some x → m[j]? = some y → x = y) ∧ Below w.heap.size w wr) (fun i _ => n - (Go.RowKit.intOf i).toNat)
    case atStart => exact ⟨0, Nat.zero_le _, rfl, Lib.hid (fun j x y h => absurd h (by omega)), Below.refl _ _⟩
    case round =>
      obtain ⟨k, hk, rfl, hs, hb⟩ := hrel
      by_cases hlt : k < n
      · obtain ⟨x, hx⟩ : ∃ x, l[k]? = some x := ⟨_, List.getElem?_eq_getElem (by rw [HN.out]; exact hlt)⟩
        obtain ⟨y, hy⟩ : ∃ y, m[k]? = some y := ⟨_, List.getElem?_eq_getElem (by rw [HN2.out]; exact hlt)⟩
        obtain ⟨b1, o1, rfl, -, hj1⟩ := at_pair (HV.out wr hb) (by rw [HN.out]; omega)
        obtain ⟨b2, o2, rfl, -, hj2⟩ := at_pair (HM.out wr hb) (by rw [HN2.out]; omega)
        have HB := Lib.hid hb
        have k0 : (0 : Int) ≤ (k : Int) := by omega
        have k1 : (k : Int) < (n : Int) := by omega
        obtain ⟨xa, xb⟩ := x
        obtain ⟨ya, yb⟩ := y
        obtain ⟨u0, u1⟩ := hj1 k _ hx
        obtain ⟨v0, v1⟩ := hj2 k _ hy
        simp only at u0 v0 u1 v1
        have ta0 : (⟨xa.toArray⟩ : ByteArray).toList = xa := by rw [Lib.toList_data]
        have tb0 : (⟨ya.toArray⟩ : ByteArray).toList = ya := by rw [Lib.toList_data]
        obtain ⟨P0, hP0⟩ : ∃ s : ByteArray, (⟨xa.toArray⟩ : ByteArray) = s := ⟨_, rfl⟩
        obtain ⟨Q0, hQ0⟩ : ∃ s : ByteArray, (⟨ya.toArray⟩ : ByteArray) = s := ⟨_, rfl⟩
        rw [hP0] at u0 ta0
        rw [hQ0] at v0 tb0
        have ta1 : (⟨xb.toArray⟩ : ByteArray).toList = xb := by rw [Lib.toList_data]
        have tb1 : (⟨yb.toArray⟩ : ByteArray).toList = yb := by rw [Lib.toList_data]
        obtain ⟨P1, hP1⟩ : ∃ s : ByteArray, (⟨xb.toArray⟩ : ByteArray) = s := ⟨_, rfl⟩
        obtain ⟨Q1, hQ1⟩ : ∃ s : ByteArray, (⟨yb.toArray⟩ : ByteArray) = s := ⟨_, rfl⟩
        rw [hP1] at u1 ta1
        rw [hQ1] at v1 tb1
        have HX := Lib.hid hx
        have HY := Lib.hid hy
        clear hj1 hj2 hx hy hb
        by_cases h0 : xa = ya
        · by_cases h1 : xb = yb
          · have hs' : Hid (∀ (j : Nat) (x y : Bs × Bs), j < k + 1 → l[j]? = some x → m[j]? = some y → x = y) := Lib.hid fun j x' y' hj h1 h2 => by
              by_cases e : j = k
              · subst e
                rw [HX.out] at h1
                rw [HY.out] at h2
                cases h1
                cases h2
                first | rfl | exact h0 | (rw [h0, h1]) | (rw [h0])
              · exact hs.out j x' y' (by omega) h1 h2
            have q0 : P0.toList = Q0.toList := by rw [ta0, tb0]; exact h0
            have q1 : P1.toList = Q1.toList := by rw [ta1, tb1]; exact h1
            clear hs ta0 tb0 hP0 hQ0 ta1 tb1 hP1 hQ1 h0 h1 HX HY HV HM HN HN2 HQ
            go_wp2_with fail
            go_quiet (fail)
            go_wp2_with fail
            exact ⟨⟨k + 1, by omega, by go_num, hs', below_drewN HB.out _⟩, by simp only [Go.RowKit.intOf]; omega⟩
          · have hxy : ¬ (xa, xb) = (ya, yb) := fun h => h1 (by exact congrArg Prod.snd h)
            have hlm : q = false := by
              rw [← HQ.out, decide_eq_false_iff_not]
              intro h
              have h1 := HX.out
              rw [h, HY.out] at h1
              exact hxy (Option.some.inj h1).symm
            subst hlm
            have q0 : P0.toList = Q0.toList := by rw [ta0, tb0]; exact h0
            have q1 : ¬ P1.toList = Q1.toList := by rw [ta1, tb1]; exact h1
            have z1 : (P1.toList == Q1.toList) = false := by simpa using q1
            clear hxy ta0 tb0 hP0 hQ0 ta1 tb1 hP1 hQ1 h0 h1
            go_wp2_with fail
            go_quiet (fail)
            go_wp2_with fail
            go_ret
            exact ⟨rfl, below_drewN HB.out _⟩
        · have hxy : ¬ (xa, xb) = (ya, yb) := fun h => h0 (by exact congrArg Prod.fst h)
          have hlm : q = false := by
            rw [← HQ.out, decide_eq_false_iff_not]
            intro h
            have h1 := HX.out
            rw [h, HY.out] at h1
            exact hxy (Option.some.inj h1).symm
          subst hlm
          have q0 : ¬ P0.toList = Q0.toList := by rw [ta0, tb0]; exact h0
          have z0 : (P0.toList == Q0.toList) = false := by simpa using q0
          clear hxy ta0 tb0 hP0 hQ0 ta1 tb1 hP1 hQ1 h0
          go_wp2_with fail
          go_quiet (fail)
          go_wp2_with fail
          go_ret
          exact ⟨rfl, below_drewN HB.out _⟩
      · have HB := Lib.hid hb
        obtain rfl : k = n := by omega
        have hlm : q = true := by
          rw [← HQ.out, decide_eq_true_iff]
          refine eq_at (by rw [HN.out, HN2.out]) fun j x y h1 h2 => hs.out j x y ?_ h1 h2
          have := (List.getElem?_eq_some_iff.1 h1).1
          rw [HN.out] at this
          exact this
        subst hlm
        clear hb
        go_wp2_with fail
        go_ret
        exact ⟨rfl, HB.out⟩
  · have hlm : q = false := by
      rw [← HQ.out, decide_eq_false_iff_not]
      intro h
      have h1 := HN.out
      rw [h, HN2.out] at h1
      exact he h1.symm
    have hne : ¬ ((n : Int) = (n2 : Int)) := by omega
    subst hlm
    clear he
    go_enter Tryz.func108, Tryz.ntmps108
    go_wp2_with fail
    go_ret
    exact ⟨rfl, Below.refl _ _⟩

set_option maxRecDepth 100000 in
set_option maxHeartbeats 4000000 in
theorem equal_attrs {w : World} {v1 v2 : Value} {l m : List (Bs × Bool)} (hv : Rows 2 EAttr w v1 l) (hm : Rows 2 EAttr w v2 m) (hl : l.length ≤ maxLen) (hl2 : m.length ≤ maxLen) :
    Calls Tryz.prog 47 #[v1, v2] w fun e w' => e = .returned (.bool (decide (l = m))) ∧ Below w.heap.size w w' := by
  obtain ⟨A, cap, rfl, hc⟩ := hv.form
  obtain ⟨A2, cap2, rfl, hc2⟩ := hm.form
  obtain ⟨n, hn⟩ : ∃ n, l.length = n := ⟨_, rfl⟩
  obtain ⟨n2, hn2⟩ : ∃ n, m.length = n := ⟨_, rfl⟩
  obtain ⟨q, hq⟩ : ∃ q, decide (l = m) = q := ⟨_, rfl⟩
  rw [hq]
  have HQ := Lib.hid hq
  clear hq
  have HV := Lib.hid (fun W (h : Below w.heap.size w W) => hv.below stays_attr h)
  have HM := Lib.hid (fun W (h : Below w.heap.size w W) => hm.below stays_attr h)
  rw [hn] at hc hl HV ⊢
  rw [hn2] at hc2 hl2 HM ⊢
  unfold maxLen at hl hl2
  have HN := Lib.hid hn
  have HN2 := Lib.hid hn2
  clear hn hn2 hv hm
  by_cases he : n = n2
  · subst he
    go_enter Tryz.func47, Tryz.ntmps47
    go_wp2_with fail
    go_loopw [13] (fun i wr => ∃ k : Nat, k ≤ n ∧ i = .int .i64 k ∧ Hid (∀ (j : Nat) (x y : Bs × Bool), j < k → l[j]? = some x → m[j]? = some y → x = y) ∧ Below w.heap.size w wr) (fun i _ => n - (Go.RowKit.intOf i).toNat)
    case atStart => exact ⟨0, Nat.zero_le _, rfl, Lib.hid (fun j x y h => absurd h (by omega)), Below.refl _ _⟩
    case round =>
      obtain ⟨k, hk, rfl, hs, hb⟩ := hrel
      by_cases hlt : k < n
      · obtain ⟨x, hx⟩ : ∃ x, l[k]? = some x := ⟨_, List.getElem?_eq_getElem (by rw [HN.out]; exact hlt)⟩
        obtain ⟨y, hy⟩ : ∃ y, m[k]? = some y := ⟨_, List.getElem?_eq_getElem (by rw [HN2.out]; exact hlt)⟩
        obtain ⟨b1, o1, rfl, -, hj1⟩ := at_attr (HV.out wr hb) (by rw [HN.out]; omega)
        obtain ⟨b2, o2, rfl, -, hj2⟩ := at_attr (HM.out wr hb) (by rw [HN2.out]; omega)
        have HB := Lib.hid hb
        have k0 : (0 : Int) ≤ (k : Int) := by omega
        have k1 : (k : Int) < (n : Int) := by omega
        obtain ⟨xa, xb⟩ := x
        obtain ⟨ya, yb⟩ := y
        obtain ⟨u0, u1⟩ := hj1 k _ hx
        obtain ⟨v0, v1⟩ := hj2 k _ hy
        simp only at u0 v0 u1 v1
        have ta0 : (⟨xa.toArray⟩ : ByteArray).toList = xa := by rw [Lib.toList_data]
        have tb0 : (⟨ya.toArray⟩ : ByteArray).toList = ya := by rw [Lib.toList_data]
        obtain ⟨P0, hP0⟩ : ∃ s : ByteArray, (⟨xa.toArray⟩ : ByteArray) = s := ⟨_, rfl⟩
        obtain ⟨Q0, hQ0⟩ : ∃ s : ByteArray, (⟨ya.toArray⟩ : ByteArray) = s := ⟨_, rfl⟩
        rw [hP0] at u0 ta0
        rw [hQ0] at v0 tb0
        have HX := Lib.hid hx
        have HY := Lib.hid hy
        clear hj1 hj2 hx hy hb
        by_cases h0 : xa = ya
        · by_cases h1 : xb = yb
          · subst h1
            have hs' : Hid (∀ (j : Nat) (x y : Bs × Bool), j < k + 1 → l[j]? = some x → m[j]? = some y → x = y) := Lib.hid fun j x' y' hj h1 h2 => by
              by_cases e : j = k
              · subst e
                rw [HX.out] at h1
                rw [HY.out] at h2
                cases h1
                cases h2
                first | rfl | exact h0 | (rw [h0, h1]) | (rw [h0])
              · exact hs.out j x' y' (by omega) h1 h2
            have q0 : P0.toList = Q0.toList := by rw [ta0, tb0]; exact h0
            clear hs ta0 tb0 hP0 hQ0 h0 HX HY HV HM HN HN2 HQ
            go_wp2_with fail
            go_quiet (fail)
            go_wp2_with fail
            exact ⟨⟨k + 1, by omega, by go_num, hs', below_drewN HB.out _⟩, by simp only [Go.RowKit.intOf]; omega⟩
          · have hxy : ¬ (xa, xb) = (ya, yb) := fun h => h1 (by exact congrArg Prod.snd h)
            have hlm : q = false := by
              rw [← HQ.out, decide_eq_false_iff_not]
              intro h
              have h1 := HX.out
              rw [h, HY.out] at h1
              exact hxy (Option.some.inj h1).symm
            subst hlm
            have q0 : P0.toList = Q0.toList := by rw [ta0, tb0]; exact h0
            clear hxy ta0 tb0 hP0 hQ0 h0
            go_wp2_with fail
            go_quiet (fail)
            go_wp2_with fail
            go_ret
            exact ⟨rfl, below_drewN HB.out _⟩
        · have hxy : ¬ (xa, xb) = (ya, yb) := fun h => h0 (by exact congrArg Prod.fst h)
          have hlm : q = false := by
            rw [← HQ.out, decide_eq_false_iff_not]
            intro h
            have h1 := HX.out
            rw [h, HY.out] at h1
            exact hxy (Option.some.inj h1).symm
          subst hlm
          have q0 : ¬ P0.toList = Q0.toList := by rw [ta0, tb0]; exact h0
          have z0 : (P0.toList == Q0.toList) = false := by simpa using q0
          clear hxy ta0 tb0 hP0 hQ0 h0
          go_wp2_with fail
          go_quiet (fail)
          go_wp2_with fail
          go_ret
          exact ⟨rfl, below_drewN HB.out _⟩
      · have HB := Lib.hid hb
        obtain rfl : k = n := by omega
        have hlm : q = true := by
          rw [← HQ.out, decide_eq_true_iff]
          refine eq_at (by rw [HN.out, HN2.out]) fun j x y h1 h2 => hs.out j x y ?_ h1 h2
          have := (List.getElem?_eq_some_iff.1 h1).1
          rw [HN.out] at this
          exact this
        subst hlm
        clear hb
        go_wp2_with fail
        go_ret
        exact ⟨rfl, HB.out⟩
  · have hlm : q = false := by
      rw [← HQ.out, decide_eq_false_iff_not]
      intro h
      have h1 := HN.out
      rw [h, HN2.out] at h1
      exact he h1.symm
    have hne : ¬ ((n : Int) = (n2 : Int)) := by omega
    subst hlm
    clear he
    go_enter Tryz.func47, Tryz.ntmps47
    go_wp2_with fail
    go_ret
    exact ⟨rfl, Below.refl _ _⟩

set_option maxRecDepth 100000 in
set_option maxHeartbeats 4000000 in
theorem equal_strs {w : World} {v1 v2 : Value} {l m : List (Bs)} (hv : Rows 1 EStr w v1 l) (hm : Rows 1 EStr w v2 m) (hl : l.length ≤ maxLen) (hl2 : m.length ≤ maxLen) :
    Calls Tryz.prog 49 #[v1, v2] w fun e w' => e = .returned (.bool (decide (l = m))) ∧ Below w.heap.size w w' := by
  obtain ⟨A, cap, rfl, hc⟩ := hv.form
  obtain ⟨A2, cap2, rfl, hc2⟩ := hm.form
  obtain ⟨n, hn⟩ : ∃ n, l.length = n := ⟨_, rfl⟩
  obtain ⟨n2, hn2⟩ : ∃ n, m.length = n := ⟨_, rfl⟩
  obtain ⟨q, hq⟩ : ∃ q, decide (l = m) = q := ⟨_, rfl⟩
  rw [hq]
  have HQ := Lib.hid hq
  clear hq
  have HV := Lib.hid (fun W (h : Below w.heap.size w W) => hv.below stays_str h)
  have HM := Lib.hid (fun W (h : Below w.heap.size w W) => hm.below stays_str h)
  rw [hn] at hc hl HV ⊢
  rw [hn2] at hc2 hl2 HM ⊢
  unfold maxLen at hl hl2
  have HN := Lib.hid hn
  have HN2 := Lib.hid hn2
  clear hn hn2 hv hm
  by_cases he : n = n2
  · subst he
    go_enter Tryz.func49, Tryz.ntmps49
    go_wp2_with fail
    go_loopw [13] (fun i wr => ∃ k : Nat, k ≤ n ∧ i = .int .i64 k ∧ Hid (∀ (j : Nat) (x y : Bs), j < k → l[j]? = some x → m[j]? = some y → x = y) ∧ Below w.heap.size w wr) (fun i _ => n - (Go.RowKit.intOf i).toNat)
    case atStart => exact ⟨0, Nat.zero_le _, rfl, Lib.hid (fun j x y h => absurd h (by omega)), Below.refl _ _⟩
    case round =>
      obtain ⟨k, hk, rfl, hs, hb⟩ := hrel
      by_cases hlt : k < n
      · obtain ⟨x, hx⟩ : ∃ x, l[k]? = some x := ⟨_, List.getElem?_eq_getElem (by rw [HN.out]; exact hlt)⟩
        obtain ⟨y, hy⟩ : ∃ y, m[k]? = some y := ⟨_, List.getElem?_eq_getElem (by rw [HN2.out]; exact hlt)⟩
        obtain ⟨b1, o1, rfl, -, hj1⟩ := at_str (HV.out wr hb) (by rw [HN.out]; omega)
        obtain ⟨b2, o2, rfl, -, hj2⟩ := at_str (HM.out wr hb) (by rw [HN2.out]; omega)
        have HB := Lib.hid hb
        have k0 : (0 : Int) ≤ (k : Int) := by omega
        have k1 : (k : Int) < (n : Int) := by omega
        obtain ⟨xa, rfl⟩ : ∃ a, a = x := ⟨_, rfl⟩
        obtain ⟨ya, rfl⟩ : ∃ a, a = y := ⟨_, rfl⟩
        have u0 := hj1 k _ hx
        have v0 := hj2 k _ hy
        have ta0 : (⟨xa.toArray⟩ : ByteArray).toList = xa := by rw [Lib.toList_data]
        have tb0 : (⟨ya.toArray⟩ : ByteArray).toList = ya := by rw [Lib.toList_data]
        obtain ⟨P0, hP0⟩ : ∃ s : ByteArray, (⟨xa.toArray⟩ : ByteArray) = s := ⟨_, rfl⟩
        obtain ⟨Q0, hQ0⟩ : ∃ s : ByteArray, (⟨ya.toArray⟩ : ByteArray) = s := ⟨_, rfl⟩
        rw [hP0] at u0 ta0
        rw [hQ0] at v0 tb0
        have HX := Lib.hid hx
        have HY := Lib.hid hy
        clear hj1 hj2 hx hy hb
        by_cases h0 : xa = ya
        · have hs' : Hid (∀ (j : Nat) (x y : Bs), j < k + 1 → l[j]? = some x → m[j]? = some y → x = y) := Lib.hid fun j x' y' hj h1 h2 => by
            by_cases e : j = k
            · subst e
              rw [HX.out] at h1
              rw [HY.out] at h2
              cases h1
              cases h2
              first | rfl | exact h0 | (rw [h0, h1]) | (rw [h0])
            · exact hs.out j x' y' (by omega) h1 h2
          have q0 : P0.toList = Q0.toList := by rw [ta0, tb0]; exact h0
          have z0 : (P0.toList == Q0.toList) = true := by simpa using q0
          clear hs ta0 tb0 hP0 hQ0 h0 HX HY HV HM HN HN2 HQ
          go_wp2_with fail
          go_quiet (fail)
          go_wp2_with fail
          exact ⟨⟨k + 1, by omega, by go_num, hs', below_drewN HB.out _⟩, by simp only [Go.RowKit.intOf]; omega⟩
        · have hxy : ¬ xa = ya := fun h => h0 (by exact h)
          have hlm : q = false := by
            rw [← HQ.out, decide_eq_false_iff_not]
            intro h
            have h1 := HX.out
            rw [h, HY.out] at h1
            exact hxy (Option.some.inj h1).symm
          subst hlm
          have q0 : ¬ P0.toList = Q0.toList := by rw [ta0, tb0]; exact h0
          have z0 : (P0.toList == Q0.toList) = false := by simpa using q0
          clear hxy ta0 tb0 hP0 hQ0 h0
          go_wp2_with fail
          go_quiet (fail)
          go_wp2_with fail
          go_ret
          exact ⟨rfl, below_drewN HB.out _⟩
      · have HB := Lib.hid hb
        obtain rfl : k = n := by omega
        have hlm : q = true := by
          rw [← HQ.out, decide_eq_true_iff]
          refine eq_at (by rw [HN.out, HN2.out]) fun j x y h1 h2 => hs.out j x y ?_ h1 h2
          have := (List.getElem?_eq_some_iff.1 h1).1
          rw [HN.out] at this
          exact this
        subst hlm
        clear hb
        go_wp2_with fail
        go_ret
        exact ⟨rfl, HB.out⟩
  · have hlm : q = false := by
      rw [← HQ.out, decide_eq_false_iff_not]
      intro h
      have h1 := HN.out
      rw [h, HN2.out] at h1
      exact he h1.symm
    have hne : ¬ ((n : Int) = (n2 : Int)) := by omega
    subst hlm
    clear he
    go_enter Tryz.func49, Tryz.ntmps49
    go_wp2_with fail
    go_ret
    exact ⟨rfl, Below.refl _ _⟩

set_option maxRecDepth 100000 in
set_option maxHeartbeats 4000000 in
theorem equal_ints {w : World} {v1 v2 : Value} {l m : List (Int)} (hv : Rows 1 EInt w v1 l) (hm : Rows 1 EInt w v2 m) (hl : l.length ≤ maxLen) (hl2 : m.length ≤ maxLen) :
    Calls Tryz.prog 55 #[v1, v2] w fun e w' => e = .returned (.bool (decide (l = m))) ∧ Below w.heap.size w w' := by
  obtain ⟨A, cap, rfl, hc⟩ := hv.form
  obtain ⟨A2, cap2, rfl, hc2⟩ := hm.form
  obtain ⟨n, hn⟩ : ∃ n, l.length = n := ⟨_, rfl⟩
  obtain ⟨n2, hn2⟩ : ∃ n, m.length = n := ⟨_, rfl⟩
  obtain ⟨q, hq⟩ : ∃ q, decide (l = m) = q := ⟨_, rfl⟩
  rw [hq]
  have HQ := Lib.hid hq
  clear hq
  have HV := Lib.hid (fun W (h : Below w.heap.size w W) => hv.below stays_int h)
  have HM := Lib.hid (fun W (h : Below w.heap.size w W) => hm.below stays_int h)
  rw [hn] at hc hl HV ⊢
  rw [hn2] at hc2 hl2 HM ⊢
  unfold maxLen at hl hl2
  have HN := Lib.hid hn
  have HN2 := Lib.hid hn2
  clear hn hn2 hv hm
  by_cases he : n = n2
  · subst he
    go_enter Tryz.func55, Tryz.ntmps55
    go_wp2_with fail
    go_loopw [13] (fun i wr => ∃ k : Nat, k ≤ n ∧ i = .int .i64 k ∧ Hid (∀ (j : Nat) (x y : Int), j < k → l[j]? = some x → m[j]? = some y → x = y) ∧ Below w.heap.size w wr) (fun i _ => n - (Go.RowKit.intOf i).toNat)
    case atStart => exact ⟨0, Nat.zero_le _, rfl, Lib.hid (fun j x y h => absurd h (by omega)), Below.refl _ _⟩
    case round =>
      obtain ⟨k, hk, rfl, hs, hb⟩ := hrel
      by_cases hlt : k < n
      · obtain ⟨x, hx⟩ : ∃ x, l[k]? = some x := ⟨_, List.getElem?_eq_getElem (by rw [HN.out]; exact hlt)⟩
        obtain ⟨y, hy⟩ : ∃ y, m[k]? = some y := ⟨_, List.getElem?_eq_getElem (by rw [HN2.out]; exact hlt)⟩
        obtain ⟨b1, o1, rfl, -, hj1⟩ := at_int (HV.out wr hb) (by rw [HN.out]; omega)
        obtain ⟨b2, o2, rfl, -, hj2⟩ := at_int (HM.out wr hb) (by rw [HN2.out]; omega)
        have HB := Lib.hid hb
        have k0 : (0 : Int) ≤ (k : Int) := by omega
        have k1 : (k : Int) < (n : Int) := by omega
        obtain ⟨xa, rfl⟩ : ∃ a, a = x := ⟨_, rfl⟩
        obtain ⟨ya, rfl⟩ : ∃ a, a = y := ⟨_, rfl⟩
        have u0 := hj1 k _ hx
        have v0 := hj2 k _ hy
        have HX := Lib.hid hx
        have HY := Lib.hid hy
        clear hj1 hj2 hx hy hb
        by_cases h0 : xa = ya
        · subst h0
          have hs' : Hid (∀ (j : Nat) (x y : Int), j < k + 1 → l[j]? = some x → m[j]? = some y → x = y) := Lib.hid fun j x' y' hj h1 h2 => by
            by_cases e : j = k
            · subst e
              rw [HX.out] at h1
              rw [HY.out] at h2
              cases h1
              cases h2
              first | rfl | exact h0 | (rw [h0, h1]) | (rw [h0])
            · exact hs.out j x' y' (by omega) h1 h2

          clear hs   HX HY HV HM HN HN2 HQ
          go_wp2_with fail
          go_quiet (fail)
          go_wp2_with fail
          exact ⟨⟨k + 1, by omega, by go_num, hs', below_drewN HB.out _⟩, by simp only [Go.RowKit.intOf]; omega⟩
        · have hxy : ¬ xa = ya := fun h => h0 (by exact h)
          have hlm : q = false := by
            rw [← HQ.out, decide_eq_false_iff_not]
            intro h
            have h1 := HX.out
            rw [h, HY.out] at h1
            exact hxy (Option.some.inj h1).symm
          subst hlm
          clear hxy  
          go_wp2_with fail
          go_quiet (fail)
          go_wp2_with fail
          go_ret
          exact ⟨rfl, below_drewN HB.out _⟩
      · have HB := Lib.hid hb
        obtain rfl : k = n := by omega
        have hlm : q = true := by
          rw [← HQ.out, decide_eq_true_iff]
          refine eq_at (by rw [HN.out, HN2.out]) fun j x y h1 h2 => hs.out j x y ?_ h1 h2
          have := (List.getElem?_eq_some_iff.1 h1).1
          rw [HN.out] at this
          exact this
        subst hlm
        clear hb
        go_wp2_with fail
        go_ret
        exact ⟨rfl, HB.out⟩
  · have hlm : q = false := by
      rw [← HQ.out, decide_eq_false_iff_not]
      intro h
      have h1 := HN.out
      rw [h, HN2.out] at h1
      exact he h1.symm
    have hne : ¬ ((n : Int) = (n2 : Int)) := by omega
    subst hlm
    clear he
    go_enter Tryz.func55, Tryz.ntmps55
    go_wp2_with fail
    go_ret
    exact ⟨rfl, Below.refl _ _⟩

set_option maxRecDepth 100000 in
set_option maxHeartbeats 4000000 in
theorem equal_nds {w : World} {v1 v2 : Value} {l m : List (Nd)} (hv : Rows 4 ENd w v1 l) (hm : Rows 4 ENd w v2 m) (hl : l.length ≤ maxLen) (hl2 : m.length ≤ maxLen) :
    Calls Tryz.prog 54 #[v1, v2] w fun e w' => e = .returned (.bool (decide (l = m))) ∧ Below w.heap.size w w' := by
  obtain ⟨A, cap, rfl, hc⟩ := hv.form
  obtain ⟨A2, cap2, rfl, hc2⟩ := hm.form
  obtain ⟨n, hn⟩ : ∃ n, l.length = n := ⟨_, rfl⟩
  obtain ⟨n2, hn2⟩ : ∃ n, m.length = n := ⟨_, rfl⟩
  obtain ⟨q, hq⟩ : ∃ q, decide (l = m) = q := ⟨_, rfl⟩
  rw [hq]
  have HQ := Lib.hid hq
  clear hq
  have HV := Lib.hid (fun W (h : Below w.heap.size w W) => hv.below stays_nd h)
  have HM := Lib.hid (fun W (h : Below w.heap.size w W) => hm.below stays_nd h)
  rw [hn] at hc hl HV ⊢
  rw [hn2] at hc2 hl2 HM ⊢
  unfold maxLen at hl hl2
  have HN := Lib.hid hn
  have HN2 := Lib.hid hn2
  clear hn hn2 hv hm
  by_cases he : n = n2
  · subst he
    go_enter Tryz.func54, Tryz.ntmps54
    go_wp2_with fail
    go_loopw [13] (fun i wr => ∃ k : Nat, k ≤ n ∧ i = .int .i64 k ∧ Hid (∀ (j : Nat) (x y : Nd), j < k → l[j]? = some x → m[j]? = some y → x = y) ∧ Below w.heap.size w wr) (fun i _ => n - (Go.RowKit.intOf i).toNat)
    case atStart => exact ⟨0, Nat.zero_le _, rfl, Lib.hid (fun j x y h => absurd h (by omega)), Below.refl _ _⟩
    case round =>
      obtain ⟨k, hk, rfl, hs, hb⟩ := hrel
      by_cases hlt : k < n
      · obtain ⟨x, hx⟩ : ∃ x, l[k]? = some x := ⟨_, List.getElem?_eq_getElem (by rw [HN.out]; exact hlt)⟩
        obtain ⟨y, hy⟩ : ∃ y, m[k]? = some y := ⟨_, List.getElem?_eq_getElem (by rw [HN2.out]; exact hlt)⟩
        obtain ⟨b1, o1, rfl, -, hj1⟩ := at_nd (HV.out wr hb) (by rw [HN.out]; omega)
        obtain ⟨b2, o2, rfl, -, hj2⟩ := at_nd (HM.out wr hb) (by rw [HN2.out]; omega)
        have HB := Lib.hid hb
        have k0 : (0 : Int) ≤ (k : Int) := by omega
        have k1 : (k : Int) < (n : Int) := by omega
        obtain ⟨xa, xb, xc, xd⟩ := x
        obtain ⟨ya, yb, yc, yd⟩ := y
        obtain ⟨u0, u1, u2, u3⟩ := hj1 k _ hx
        obtain ⟨v0, v1, v2, v3⟩ := hj2 k _ hy
        simp only at u0 v0 u1 v1 u2 v2 u3 v3
        have ta0 : (⟨xa.toArray⟩ : ByteArray).toList = xa := by rw [Lib.toList_data]
        have tb0 : (⟨ya.toArray⟩ : ByteArray).toList = ya := by rw [Lib.toList_data]
        obtain ⟨P0, hP0⟩ : ∃ s : ByteArray, (⟨xa.toArray⟩ : ByteArray) = s := ⟨_, rfl⟩
        obtain ⟨Q0, hQ0⟩ : ∃ s : ByteArray, (⟨ya.toArray⟩ : ByteArray) = s := ⟨_, rfl⟩
        rw [hP0] at u0 ta0
        rw [hQ0] at v0 tb0
        have HX := Lib.hid hx
        have HY := Lib.hid hy
        clear hj1 hj2 hx hy hb
        by_cases h0 : xa = ya
        · by_cases h1 : xb = yb
          · subst h1
            by_cases h2 : xc = yc
            · subst h2
              by_cases h3 : xd = yd
              · subst h3
                have hs' : Hid (∀ (j : Nat) (x y : Nd), j < k + 1 → l[j]? = some x → m[j]? = some y → x = y) := Lib.hid fun j x' y' hj h1 h2 => by
                  by_cases e : j = k
                  · subst e
                    rw [HX.out] at h1
                    rw [HY.out] at h2
                    cases h1
                    cases h2
                    first | rfl | exact h0 | (rw [h0, h1]) | (rw [h0])
                  · exact hs.out j x' y' (by omega) h1 h2
                have q0 : P0.toList = Q0.toList := by rw [ta0, tb0]; exact h0
                clear hs ta0 tb0 hP0 hQ0 h0 HX HY HV HM HN HN2 HQ
                go_wp2_with fail
                go_quiet (fail)
                go_wp2_with fail
                exact ⟨⟨k + 1, by omega, by go_num, hs', below_drewN HB.out _⟩, by simp only [Go.RowKit.intOf]; omega⟩
              · have hxy : ¬ (⟨xa, xb, xc, xd⟩ : Nd) = (⟨ya, xb, xc, yd⟩ : Nd) := fun h => h3 (by exact congrArg Nd.parent h)
                have hlm : q = false := by
                  rw [← HQ.out, decide_eq_false_iff_not]
                  intro h
                  have h1 := HX.out
                  rw [h, HY.out] at h1
                  exact hxy (Option.some.inj h1).symm
                subst hlm
                have q0 : P0.toList = Q0.toList := by rw [ta0, tb0]; exact h0
                clear hxy ta0 tb0 hP0 hQ0 h0
                go_wp2_with fail
                go_quiet (fail)
                go_wp2_with fail
                go_ret
                exact ⟨rfl, below_drewN HB.out _⟩
            · have hxy : ¬ (⟨xa, xb, xc, xd⟩ : Nd) = (⟨ya, xb, yc, yd⟩ : Nd) := fun h => h2 (by exact congrArg Nd.e h)
              have hlm : q = false := by
                rw [← HQ.out, decide_eq_false_iff_not]
                intro h
                have h1 := HX.out
                rw [h, HY.out] at h1
                exact hxy (Option.some.inj h1).symm
              subst hlm
              have q0 : P0.toList = Q0.toList := by rw [ta0, tb0]; exact h0
              clear hxy ta0 tb0 hP0 hQ0 h0
              go_wp2_with fail
              go_quiet (fail)
              go_wp2_with fail
              go_ret
              exact ⟨rfl, below_drewN HB.out _⟩
          · have hxy : ¬ (⟨xa, xb, xc, xd⟩ : Nd) = (⟨ya, yb, yc, yd⟩ : Nd) := fun h => h1 (by exact congrArg Nd.b h)
            have hlm : q = false := by
              rw [← HQ.out, decide_eq_false_iff_not]
              intro h
              have h1 := HX.out
              rw [h, HY.out] at h1
              exact hxy (Option.some.inj h1).symm
            subst hlm
            have q0 : P0.toList = Q0.toList := by rw [ta0, tb0]; exact h0
            clear hxy ta0 tb0 hP0 hQ0 h0
            go_wp2_with fail
            go_quiet (fail)
            go_wp2_with fail
            go_ret
            exact ⟨rfl, below_drewN HB.out _⟩
        · have hxy : ¬ (⟨xa, xb, xc, xd⟩ : Nd) = (⟨ya, yb, yc, yd⟩ : Nd) := fun h => h0 (by exact congrArg Nd.label h)
          have hlm : q = false := by
            rw [← HQ.out, decide_eq_false_iff_not]
            intro h
            have h1 := HX.out
            rw [h, HY.out] at h1
            exact hxy (Option.some.inj h1).symm
          subst hlm
          have q0 : ¬ P0.toList = Q0.toList := by rw [ta0, tb0]; exact h0
          have z0 : (P0.toList == Q0.toList) = false := by simpa using q0
          clear hxy ta0 tb0 hP0 hQ0 h0
          go_wp2_with fail
          go_quiet (fail)
          go_wp2_with fail
          go_ret
          exact ⟨rfl, below_drewN HB.out _⟩
      · have HB := Lib.hid hb
        obtain rfl : k = n := by omega
        have hlm : q = true := by
          rw [← HQ.out, decide_eq_true_iff]
          refine eq_at (by rw [HN.out, HN2.out]) fun j x y h1 h2 => hs.out j x y ?_ h1 h2
          have := (List.getElem?_eq_some_iff.1 h1).1
          rw [HN.out] at this
          exact this
        subst hlm
        clear hb
        go_wp2_with fail
        go_ret
        exact ⟨rfl, HB.out⟩
  · have hlm : q = false := by
      rw [← HQ.out, decide_eq_false_iff_not]
      intro h
      have h1 := HN.out
      rw [h, HN2.out] at h1
      exact he h1.symm
    have hne : ¬ ((n : Int) = (n2 : Int)) := by omega
    subst hlm
    clear he
    go_enter Tryz.func54, Tryz.ntmps54
    go_wp2_with fail
    go_ret
    exact ⟨rfl, Below.refl _ _⟩
end Go.Proofs.YtfcnihmfmbmmjaaGreat
namespace Go.Proofs.YtfcnihmfmbmmjaaGreat
open Go.RowKit Go.Shelf Go.Lib
set_option linter.unusedVariables false
attribute [local go_sem ↓] Go.wp_at_zero Go.wp_at_succ

theorem Tryz.sizeEx : (Tryz.prog.info? 132).map (·.size) = some 3 := by kernel_rfl
theorem results_ext {fn : Func} {p u : Tmp} (h : fn.results = #[.cell p 132, .tmp u]) (tmps : Array Value) (w : World) (g : Nat) (cs : Array Value)
    (hp : tmps.getD p undef = .pointer (some ⟨g, 0, none⟩)) (hg : w.heap[g]? = some (.cells cs 132 (0, 0))) (hs : cs.size = 3) :
    (results fn tmps).run Tryz.prog w = .ok (.tuple #[.agg cs, tmps.getD u undef]) w := by
  have hp' : (asAddr (tmps.getD p undef)).run Tryz.prog w = .ok ⟨g, 0, none⟩ w := by rw [hp]; simp [asAddr]
  have hl := run_loadVar_row (P := Tryz.prog) w g 132 132 cs (0, 0) _ hg Tryz.underlying132 rfl (by rw [hs]; exact Tryz.sizeEx)
  rw [results_cell_tmp h, hp', Result.andThen_ok, hl, Result.andThen_ok]

set_option maxRecDepth 100000 in
set_option maxHeartbeats 4000000 in
theorem equalFunc_tok {w : World} {v1 v2 : Value} {l m : List Fs} (hv : Rows 1 ETok w v1 l) (hm : Rows 1 ETok w v2 m) (hl : l.length ≤ maxLen) (hl2 : m.length ≤ maxLen) (hle : ∀ t ∈ l, t.length ≤ maxLen) (hle2 : ∀ t ∈ m, t.length ≤ maxLen) :
    Calls Tryz.prog 48 #[v1, v2, .func (.func 49) #[] #[]] w fun e w' => e = .returned (.bool (decide (l = m))) ∧ Below w.heap.size w w' := by
  obtain ⟨A, cap, rfl, hc⟩ := hv.form
  obtain ⟨A2, cap2, rfl, hc2⟩ := hm.form
  obtain ⟨n, hn⟩ : ∃ n, l.length = n := ⟨_, rfl⟩
  obtain ⟨n2, hn2⟩ : ∃ n, m.length = n := ⟨_, rfl⟩
  obtain ⟨q, hq⟩ : ∃ q, decide (l = m) = q := ⟨_, rfl⟩
  rw [hq]
  have HQ := Lib.hid hq
  clear hq
  have HV := Lib.hid (fun W (h : Below w.heap.size w W) => hv.below stays_tok h)
  have HM := Lib.hid (fun W (h : Below w.heap.size w W) => hm.below stays_tok h)
  rw [hn] at hc hl HV ⊢
  rw [hn2] at hc2 hl2 HM ⊢
  unfold maxLen at hl hl2
  have HN := Lib.hid hn
  have HN2 := Lib.hid hn2
  have HL := Lib.hid (And.intro hle hle2)
  clear hle hle2
  clear hn hn2 hv hm
  by_cases he : n = n2
  · subst he
    go_enter Tryz.func48, Tryz.ntmps48
    go_wp2_with fail
    go_loopw [17] (fun i wr => ∃ k : Nat, k ≤ n ∧ i = .int .i64 k ∧ Hid (∀ (j : Nat) (x y : Fs), j < k → l[j]? = some x → m[j]? = some y → x = y) ∧ Below w.heap.size w wr) (fun i _ => n - (Go.RowKit.intOf i).toNat)
    case atStart => exact ⟨0, Nat.zero_le _, rfl, Lib.hid (fun j x y h => absurd h (by omega)), Below.refl _ _⟩
    case round =>
      obtain ⟨k, hk, rfl, hs, hb⟩ := hrel
      by_cases hlt : k < n
      · obtain ⟨x, hx⟩ : ∃ x, l[k]? = some x := ⟨_, List.getElem?_eq_getElem (by rw [HN.out]; exact hlt)⟩
        obtain ⟨y, hy⟩ : ∃ y, m[k]? = some y := ⟨_, List.getElem?_eq_getElem (by rw [HN2.out]; exact hlt)⟩
        obtain ⟨b1, o1, rfl, -, hj1⟩ := at_tok (HV.out wr hb) (by rw [HN.out]; omega)
        obtain ⟨b2, o2, rfl, -, hj2⟩ := at_tok (HM.out wr hb) (by rw [HN2.out]; omega)
        have HB := Lib.hid hb
        have k0 : (0 : Int) ≤ (k : Int) := by omega
        have k1 : (k : Int) < (n : Int) := by omega
        have HX := Lib.hid hx
        have HY := Lib.hid hy
        obtain ⟨t, ht⟩ : ∃ t, decide (x = y) = t := ⟨_, rfl⟩
        obtain ⟨u, u0, ru⟩ := hj1 k x hx
        obtain ⟨v, v0, rv⟩ := hj2 k y hy
        have hcall := equal_strs ru rv (HL.out.1 x (List.mem_of_getElem? hx)) (HL.out.2 y (List.mem_of_getElem? hy))
        obtain ⟨Au, pu, rfl, -⟩ := ru.form
        obtain ⟨Bv, pv, rfl, -⟩ := rv.form
        obtain ⟨nu, hnu⟩ : ∃ n, x.length = n := ⟨_, rfl⟩
        obtain ⟨nv, hnv⟩ : ∃ n, y.length = n := ⟨_, rfl⟩
        rw [hnu] at u0 hcall
        rw [hnv] at v0 hcall
        rw [ht] at hcall
        have HC := Lib.hid hcall
        clear hj1 hj2 hx hy hb hcall ru rv hnu hnv
        cases t with
        | true =>
          have hs' : Hid (∀ (j : Nat) (x y : Fs), j < k + 1 → l[j]? = some x → m[j]? = some y → x = y) := Lib.hid fun j x' y' hj h1 h2 => by
            by_cases e : j = k
            · subst e
              rw [HX.out] at h1
              rw [HY.out] at h2
              cases h1
              cases h2
              exact of_decide_eq_true ht
            · exact hs.out j x' y' (by omega) h1 h2
          clear hs ht HX HY HV HM HN HN2 HQ
          go_wp2_with fail
          refine HC.out.mono ?_
          rintro e w' ⟨rfl, hb'⟩
          have HB2 := Lib.hid (HB.out.trans (hb'.mono HB.out.size))
          clear hb'
          go_wp2_with fail
          exact ⟨⟨k + 1, by omega, by go_num, hs', HB2.out⟩, by simp only [Go.RowKit.intOf]; omega⟩
        | false =>
          have hlm : q = false := by
            rw [← HQ.out, decide_eq_false_iff_not]
            intro h
            have h1 := HX.out
            rw [h, HY.out] at h1
            exact of_decide_eq_false ht (Option.some.inj h1).symm
          subst hlm
          clear hs ht HX HY HV HM HN HN2 HQ
          go_wp2_with fail
          refine HC.out.mono ?_
          rintro e w' ⟨rfl, hb'⟩
          have HB2 := Lib.hid (HB.out.trans (hb'.mono HB.out.size))
          clear hb'
          go_wp2_with fail
          go_ret
          exact ⟨rfl, HB2.out⟩
      · have HB := Lib.hid hb
        obtain rfl : k = n := by omega
        have hlm : q = true := by
          rw [← HQ.out, decide_eq_true_iff]
          refine eq_at (by rw [HN.out, HN2.out]) fun j x y h1 h2 => hs.out j x y ?_ h1 h2
          have := (List.getElem?_eq_some_iff.1 h1).1
          rw [HN.out] at this
          exact this
        subst hlm
        clear hb
        go_wp2_with fail
        go_ret
        exact ⟨rfl, HB.out⟩
  · have hlm : q = false := by
      rw [← HQ.out, decide_eq_false_iff_not]
      intro h
      have h1 := HN.out
      rw [h, HN2.out] at h1
      exact he h1.symm
    have hne : ¬ ((n : Int) = (n2 : Int)) := by omega
    subst hlm
    clear he
    go_enter Tryz.func48, Tryz.ntmps48
    go_wp2_with fail
    go_ret
    exact ⟨rfl, Below.refl _ _⟩

set_option maxRecDepth 100000 in
set_option maxHeartbeats 4000000 in
theorem ofText_any (P : ByteArray) (b e : Int) (A : Option Addr) (n c : Nat) (w : World) :
    Calls Tryz.prog 51 #[.agg #[.string P, .int .i64 b, .int .i64 e, .slice A n c]] w fun r w' => r = .returned (.tuple #[.agg #[.string P, .int .i64 b, .int .i64 e], .slice A n c]) ∧ Below w.heap.size w w' := by
  obtain ⟨N0, hN0⟩ : ∃ N0, w.heap.size = N0 := ⟨_, rfl⟩
  obtain ⟨X, hX⟩ : ∃ X, (w.alloc (.cells #[.string P, .int .i64 b, .int .i64 e, .slice A n c] 65)).alloc (.cells #[.string ⟨#[]⟩, .int .i64 0, .int .i64 0] 132) = X := ⟨_, rfl⟩
  have hbX : Below w.heap.size w X := by rw [← hX]; exact (below_box w _).trans ((below_box _ _).mono (by simp))
  have x1 : X.heap[N0]? = some (.cells #[.string P, .int .i64 b, .int .i64 e, .slice A n c] 65 (0, 0)) := by rw [← hX, ← hN0]; exact block_alloc _ (block_new w _)
  have x2 : X.heap[N0 + 1]? = some (.cells #[.string ⟨#[]⟩, .int .i64 0, .int .i64 0] 132 (0, 0)) := by
    have := block_new (w.alloc (.cells #[.string P, .int .i64 b, .int .i64 e, .slice A n c] 65)) (.cells #[.string ⟨#[]⟩, .int .i64 0, .int .i64 0] 132)
    rw [alloc_sz, hN0] at this
    rw [← hX]
    exact this
  have c0 : X.cell? ⟨N0, 0, none⟩ = some (.string P) := cell_of x1 rfl
  have c1 : X.cell? ⟨N0, 1, none⟩ = some (.int .i64 b) := cell_of x1 rfl
  have c2 : X.cell? ⟨N0, 2, none⟩ = some (.int .i64 e) := cell_of x1 rfl
  have c3 : X.cell? ⟨N0, 3, none⟩ = some (.slice A n c) := cell_of x1 rfl
  have o0 : X.cell? ⟨N0 + 1, 0, none⟩ = some (.string ⟨#[]⟩) := cell_of x2 rfl
  have o1 : X.cell? ⟨N0 + 1, 1, none⟩ = some (.int .i64 0) := cell_of x2 rfl
  have o2 : X.cell? ⟨N0 + 1, 2, none⟩ = some (.int .i64 0) := cell_of x2 rfl
  have f0 : X.frozen? ⟨N0 + 1, 0, none⟩ = false := frozen_of x2
  have f1 : X.frozen? ⟨N0 + 1, 1, none⟩ = false := frozen_of x2
  have f2 : X.frozen? ⟨N0 + 1, 2, none⟩ = false := frozen_of x2
  have HX := Lib.hid hX
  have HN0 := Lib.hid hN0
  have HBX := Lib.hid hbX
  have HX2 := Lib.hid x2
  clear hX hN0 hbX x1 x2
  go_enter Tryz.func51, Tryz.ntmps51
  go_wp2_with fail
  rw [HX.out, HN0.out]
  go_region
  have hz : (((X.setCell ⟨N0 + 1, 0, none⟩ (.string P)).setCell ⟨N0 + 1, 1, none⟩ (.int .i64 b)).setCell ⟨N0 + 1, 2, none⟩ (.int .i64 e)).drew.heap[N0 + 1]? = some (.cells #[.string P, .int .i64 b, .int .i64 e] 132 (0, 0)) := set_of (set_of (set_of HX2.out _) _) _
  have hbl : Below w.heap.size w (((X.setCell ⟨N0 + 1, 0, none⟩ (.string P)).setCell ⟨N0 + 1, 1, none⟩ (.int .i64 b)).setCell ⟨N0 + 1, 2, none⟩ (.int .i64 e)).drew := (((HBX.out.setCell (by rw [HN0.out]; exact Nat.le_succ _) _).setCell (by rw [HN0.out]; exact Nat.le_succ _) _).setCell (by rw [HN0.out]; exact Nat.le_succ _) _).drew
  clear c0 c1 c2 c3 o0 o1 o2 f0 f1 f2
  go_wp2_with fail
  exact bodyPost_ret (v := .tuple #[.agg #[.string P, .int .i64 b, .int .i64 e], .slice A n c]) (results_ext Tryz.results51 _ _ (N0 + 1) _ rfl hz rfl) rfl ⟨rfl, hbl⟩

set_option maxRecDepth 100000 in
set_option maxHeartbeats 8000000 in
theorem closeText_any (x y : Ex) (v1 v2 : Value) (P0 : Nat) {W : World} (hv : Rows 2 EPair W v1 x.ps) (hm : Rows 2 EPair W v2 y.ps) (hl : x.ps.length ≤ maxLen) (hl2 : y.ps.length ≤ maxLen) (hP : P0 < W.heap.size) (hc : W.cell? ⟨P0, 0, none⟩ = some (.func (.func 51) #[] #[])) :
    Calls Tryz.prog 107 (#[.agg #[.string ⟨x.name.toArray⟩, .int .i64 x.b, .int .i64 x.e, v1], .agg #[.string ⟨y.name.toArray⟩, .int .i64 y.b, .int .i64 y.e, v2]] ++ #[.pointer (some ⟨P0, 0, none⟩)]) W fun e w' => e = .returned (.bool (decide (x = y))) ∧ Below W.heap.size W w' := by
  have hsp := fun W' (h : Below W.heap.size W W') => equal_pairs (hv.below stays_pair h) (hm.below stays_pair h) hl hl2
  obtain ⟨A, c1, rfl, -⟩ := hv.form
  obtain ⟨A2, c2, rfl, -⟩ := hm.form
  have hxs : x = y ↔ (x.name = y.name ∧ x.b = y.b ∧ x.e = y.e ∧ x.ps = y.ps) := by
    obtain ⟨f0, f1, f2, f3⟩ := x
    obtain ⟨g0, g1, g2, g3⟩ := y
    simp only [Ex.mk.injEq]
  obtain ⟨l1, hl1⟩ : ∃ n, x.ps.length = n := ⟨_, rfl⟩
  obtain ⟨l2, hl2'⟩ : ∃ n, y.ps.length = n := ⟨_, rfl⟩
  obtain ⟨P, hPP⟩ : ∃ s : ByteArray, (⟨x.name.toArray⟩ : ByteArray) = s := ⟨_, rfl⟩
  obtain ⟨Q, hQQ⟩ : ∃ s : ByteArray, (⟨y.name.toArray⟩ : ByteArray) = s := ⟨_, rfl⟩
  have hnn : P.toList = Q.toList ↔ x.name = y.name := by rw [← hPP, ← hQQ, Lib.toList_data, Lib.toList_data]
  obtain ⟨xb, hxb⟩ : ∃ z, x.b = z := ⟨_, rfl⟩
  obtain ⟨xe, hxe⟩ : ∃ z, x.e = z := ⟨_, rfl⟩
  obtain ⟨yb, hyb⟩ : ∃ z, y.b = z := ⟨_, rfl⟩
  obtain ⟨ye, hye⟩ : ∃ z, y.e = z := ⟨_, rfl⟩
  obtain ⟨bp, hbp⟩ : ∃ z, decide (x.ps = y.ps) = z := ⟨_, rfl⟩
  obtain ⟨q, hq⟩ : ∃ z, decide (x = y) = z := ⟨_, rfl⟩
  rw [hxb, hyb, hxe, hye] at hxs
  rw [hl1, hl2', hbp] at hsp
  rw [hPP, hQQ, hxb, hxe, hyb, hye, hl1, hl2', hq]
  obtain ⟨N0, hN0⟩ : ∃ N0, W.heap.size = N0 := ⟨_, rfl⟩
  obtain ⟨X, hX⟩ : ∃ X, (W.alloc (.cells #[.string P, .int .i64 xb, .int .i64 xe, .slice A l1 c1] 65)).alloc (.cells #[.string Q, .int .i64 yb, .int .i64 ye, .slice A2 l2 c2] 65) = X := ⟨_, rfl⟩
  have hbX : Below W.heap.size W X := by rw [← hX]; exact (below_box W _).trans ((below_box _ _).mono (by simp))
  have x1 : X.heap[N0]? = some (.cells #[.string P, .int .i64 xb, .int .i64 xe, .slice A l1 c1] 65 (0, 0)) := by rw [← hX, ← hN0]; exact block_alloc _ (block_new W _)
  have x2 : X.heap[N0 + 1]? = some (.cells #[.string Q, .int .i64 yb, .int .i64 ye, .slice A2 l2 c2] 65 (0, 0)) := by
    have := block_new (W.alloc (.cells #[.string P, .int .i64 xb, .int .i64 xe, .slice A l1 c1] 65)) (.cells #[.string Q, .int .i64 yb, .int .i64 ye, .slice A2 l2 c2] 65)
    rw [alloc_sz, hN0] at this
    rw [← hX]
    exact this
  have hp1 : X.cell? ⟨P0, 0, none⟩ = some (.func (.func 51) #[] #[]) := (hbX.cell hP).trans hc
  have HK := Lib.hid (fun W' (h : Below X.heap.size X W') => show (W'.cell? ⟨P0, 0, none⟩ = some (.func (.func 51) #[] #[])) ∧ W'.heap[N0 + 1]? = some (.cells #[.string Q, .int .i64 yb, .int .i64 ye, .slice A2 l2 c2] 65 (0, 0)) from
    ⟨(h.cell (show P0 < X.heap.size from Nat.lt_of_lt_of_le hP hbX.size)).trans hp1, block_below x2 h (Array.getElem?_eq_some_iff.1 x2).1⟩)
  have d0 : X.cell? ⟨N0, 0, none⟩ = some (.string P) := cell_of x1 rfl
  have d1 : X.cell? ⟨N0, 1, none⟩ = some (.int .i64 xb) := cell_of x1 rfl
  have d2 : X.cell? ⟨N0, 2, none⟩ = some (.int .i64 xe) := cell_of x1 rfl
  have d3 : X.cell? ⟨N0, 3, none⟩ = some (.slice A l1 c1) := cell_of x1 rfl
  rw [← hX, ← hN0] at d0 d1 d2 d3
  rw [← hX] at hp1
  have HSP := Lib.hid hsp
  have HX := Lib.hid hX
  have HN0 := Lib.hid hN0
  have HBX := Lib.hid hbX
  have HF1 := Lib.hid (ofText_any P xb xe A l1 c1)
  have HF2 := Lib.hid (ofText_any Q yb ye A2 l2 c2)
  have HXS := Lib.hid hxs
  have HNN := Lib.hid hnn
  have HBP := Lib.hid hbp
  have HQ := Lib.hid hq
  clear hv hm hl hl2 hP hc hsp hxs hl1 hl2' hPP hQQ hnn hxb hxe hyb hye hbp hq hN0 hX hbX x1 x2
  by_cases hn : x.name = y.name
  · have z1 : (P.toList == Q.toList) = true := by simpa using HNN.out.2 hn
    have z2 : P.toList = Q.toList := HNN.out.2 hn
    by_cases hbb : xb = yb
    · by_cases hee : xe = ye
      · have hqb : q = bp := by
          rw [← HQ.out, ← HBP.out, Bool.eq_iff_iff, decide_eq_true_iff, decide_eq_true_iff, HXS.out]
          exact ⟨fun h => h.2.2.2, fun h => ⟨hn, hbb, hee, h⟩⟩
        subst hqb hbb hee
        clear HXS HNN HBP HQ hn
        go_enter Tryz.func107, Tryz.ntmps107
        go_wp2_with fail
        rw [HX.out, HN0.out]
        refine (HF1.out _).mono ?_
        rintro e w2 ⟨rfl, hb2⟩
        obtain ⟨k2, y2⟩ := HK.out w2 hb2
        obtain ⟨G2, hG2⟩ : ∃ G, w2.heap.size = G := ⟨_, rfl⟩
        have a0 : (w2.alloc (.cells #[.string P, .int .i64 xb, .int .i64 xe] 132)).cell? ⟨P0, 0, none⟩ = some (.func (.func 51) #[] #[]) := Lib.cell?_alloc_some _ k2
        have a1 : (w2.alloc (.cells #[.string P, .int .i64 xb, .int .i64 xe] 132)).cell? ⟨N0 + 1, 0, none⟩ = some (.string Q) := cell_of (block_alloc _ y2) rfl
        have a2 : (w2.alloc (.cells #[.string P, .int .i64 xb, .int .i64 xe] 132)).cell? ⟨N0 + 1, 1, none⟩ = some (.int .i64 xb) := cell_of (block_alloc _ y2) rfl
        have a3 : (w2.alloc (.cells #[.string P, .int .i64 xb, .int .i64 xe] 132)).cell? ⟨N0 + 1, 2, none⟩ = some (.int .i64 xe) := cell_of (block_alloc _ y2) rfl
        have a4 : (w2.alloc (.cells #[.string P, .int .i64 xb, .int .i64 xe] 132)).cell? ⟨N0 + 1, 3, none⟩ = some (.slice A2 l2 c2) := cell_of (block_alloc _ y2) rfl
        have n2 := block_new w2 (.cells #[.string P, .int .i64 xb, .int .i64 xe] 132)
        rw [hG2] at n2
        have hb2' := hb2.trans ((below_box w2 (.cells #[.string P, .int .i64 xb, .int .i64 xe] 132)).mono hb2.size)
        have HB2 := Lib.hid hb2'
        have HN2 := Lib.hid n2
        have HG2 := Lib.hid hG2
        clear hb2 hb2' k2 y2 n2 hG2 d0 d1 d2 d3 hp1
        go_wp2_with fail
        rw [HG2.out]
        refine (HF2.out _).mono ?_
        rintro e w3 ⟨rfl, hb3⟩
        obtain ⟨G3, hG3⟩ : ∃ G, w3.heap.size = G := ⟨_, rfl⟩
        have m3 := block_below HN2.out hb3 (Array.getElem?_eq_some_iff.1 HN2.out).1
        have m4 := block_alloc (.cells #[.string Q, .int .i64 xb, .int .i64 xe] 132) m3
        have n3 := block_new w3 (.cells #[.string Q, .int .i64 xb, .int .i64 xe] 132)
        rw [hG3] at n3
        have e0 := cell_of (i := 0) m4 rfl
        have e1 := cell_of (i := 1) m4 rfl
        have e2 := cell_of (i := 2) m4 rfl
        have e3 := cell_of (i := 0) n3 rfl
        have e4 := cell_of (i := 1) n3 rfl
        have e5 := cell_of (i := 2) n3 rfl
        have hb4 := HB2.out.trans ((hb3.trans ((below_box w3 (.cells #[.string Q, .int .i64 xb, .int .i64 xe] 132)).mono hb3.size)).mono HB2.out.size)
        have HB4 := Lib.hid (HBX.out.trans (hb4.mono HBX.out.size))
        have HG3 := Lib.hid hG3
        clear hb3 hb4 m3 m4 n3 a0 a1 a2 a3 a4 hG3
        go_wp2_with fail
        rw [HG3.out]
        go_wp2_with fail
        refine (HSP.out _ HB4.out).mono ?_
        rintro e w5 ⟨rfl, hb5⟩
        have HB5 := Lib.hid (HB4.out.trans (hb5.mono HB4.out.size))
        clear hb5
        go_wp2_with fail
        go_ret
        exact ⟨rfl, HB5.out⟩
      · have hqf : q = false := by rw [← HQ.out, decide_eq_false_iff_not, HXS.out]; exact fun h => hee h.2.2.1
        subst hqf hbb
        clear HXS HNN HBP HQ hn
        go_enter Tryz.func107, Tryz.ntmps107
        go_wp2_with fail
        rw [HX.out, HN0.out]
        refine (HF1.out _).mono ?_
        rintro e w2 ⟨rfl, hb2⟩
        obtain ⟨k2, y2⟩ := HK.out w2 hb2
        obtain ⟨G2, hG2⟩ : ∃ G, w2.heap.size = G := ⟨_, rfl⟩
        have a0 : (w2.alloc (.cells #[.string P, .int .i64 xb, .int .i64 xe] 132)).cell? ⟨P0, 0, none⟩ = some (.func (.func 51) #[] #[]) := Lib.cell?_alloc_some _ k2
        have a1 : (w2.alloc (.cells #[.string P, .int .i64 xb, .int .i64 xe] 132)).cell? ⟨N0 + 1, 0, none⟩ = some (.string Q) := cell_of (block_alloc _ y2) rfl
        have a2 : (w2.alloc (.cells #[.string P, .int .i64 xb, .int .i64 xe] 132)).cell? ⟨N0 + 1, 1, none⟩ = some (.int .i64 xb) := cell_of (block_alloc _ y2) rfl
        have a3 : (w2.alloc (.cells #[.string P, .int .i64 xb, .int .i64 xe] 132)).cell? ⟨N0 + 1, 2, none⟩ = some (.int .i64 ye) := cell_of (block_alloc _ y2) rfl
        have a4 : (w2.alloc (.cells #[.string P, .int .i64 xb, .int .i64 xe] 132)).cell? ⟨N0 + 1, 3, none⟩ = some (.slice A2 l2 c2) := cell_of (block_alloc _ y2) rfl
        have n2 := block_new w2 (.cells #[.string P, .int .i64 xb, .int .i64 xe] 132)
        rw [hG2] at n2
        have hb2' := hb2.trans ((below_box w2 (.cells #[.string P, .int .i64 xb, .int .i64 xe] 132)).mono hb2.size)
        have HB2 := Lib.hid hb2'
        have HN2 := Lib.hid n2
        have HG2 := Lib.hid hG2
        clear hb2 hb2' k2 y2 n2 hG2 d0 d1 d2 d3 hp1
        go_wp2_with fail
        rw [HG2.out]
        refine (HF2.out _).mono ?_
        rintro e w3 ⟨rfl, hb3⟩
        obtain ⟨G3, hG3⟩ : ∃ G, w3.heap.size = G := ⟨_, rfl⟩
        have m3 := block_below HN2.out hb3 (Array.getElem?_eq_some_iff.1 HN2.out).1
        have m4 := block_alloc (.cells #[.string Q, .int .i64 xb, .int .i64 ye] 132) m3
        have n3 := block_new w3 (.cells #[.string Q, .int .i64 xb, .int .i64 ye] 132)
        rw [hG3] at n3
        have e0 := cell_of (i := 0) m4 rfl
        have e1 := cell_of (i := 1) m4 rfl
        have e2 := cell_of (i := 2) m4 rfl
        have e3 := cell_of (i := 0) n3 rfl
        have e4 := cell_of (i := 1) n3 rfl
        have e5 := cell_of (i := 2) n3 rfl
        have hb4 := HB2.out.trans ((hb3.trans ((below_box w3 (.cells #[.string Q, .int .i64 xb, .int .i64 ye] 132)).mono hb3.size)).mono HB2.out.size)
        have HB4 := Lib.hid (HBX.out.trans (hb4.mono HBX.out.size))
        have HG3 := Lib.hid hG3
        clear hb3 hb4 m3 m4 n3 a0 a1 a2 a3 a4 hG3
        go_wp2_with fail
        rw [HG3.out]
        go_wp2_with fail
        go_ret
        exact ⟨rfl, HB4.out⟩
    · have hqf : q = false := by rw [← HQ.out, decide_eq_false_iff_not, HXS.out]; exact fun h => hbb h.2.1
      subst hqf
      clear HXS HNN HBP HQ hn
      go_enter Tryz.func107, Tryz.ntmps107
      go_wp2_with fail
      rw [HX.out, HN0.out]
      refine (HF1.out _).mono ?_
      rintro e w2 ⟨rfl, hb2⟩
      obtain ⟨k2, y2⟩ := HK.out w2 hb2
      obtain ⟨G2, hG2⟩ : ∃ G, w2.heap.size = G := ⟨_, rfl⟩
      have a0 : (w2.alloc (.cells #[.string P, .int .i64 xb, .int .i64 xe] 132)).cell? ⟨P0, 0, none⟩ = some (.func (.func 51) #[] #[]) := Lib.cell?_alloc_some _ k2
      have a1 : (w2.alloc (.cells #[.string P, .int .i64 xb, .int .i64 xe] 132)).cell? ⟨N0 + 1, 0, none⟩ = some (.string Q) := cell_of (block_alloc _ y2) rfl
      have a2 : (w2.alloc (.cells #[.string P, .int .i64 xb, .int .i64 xe] 132)).cell? ⟨N0 + 1, 1, none⟩ = some (.int .i64 yb) := cell_of (block_alloc _ y2) rfl
      have a3 : (w2.alloc (.cells #[.string P, .int .i64 xb, .int .i64 xe] 132)).cell? ⟨N0 + 1, 2, none⟩ = some (.int .i64 ye) := cell_of (block_alloc _ y2) rfl
      have a4 : (w2.alloc (.cells #[.string P, .int .i64 xb, .int .i64 xe] 132)).cell? ⟨N0 + 1, 3, none⟩ = some (.slice A2 l2 c2) := cell_of (block_alloc _ y2) rfl
      have n2 := block_new w2 (.cells #[.string P, .int .i64 xb, .int .i64 xe] 132)
      rw [hG2] at n2
      have hb2' := hb2.trans ((below_box w2 (.cells #[.string P, .int .i64 xb, .int .i64 xe] 132)).mono hb2.size)
      have HB2 := Lib.hid hb2'
      have HN2 := Lib.hid n2
      have HG2 := Lib.hid hG2
      clear hb2 hb2' k2 y2 n2 hG2 d0 d1 d2 d3 hp1
      go_wp2_with fail
      rw [HG2.out]
      refine (HF2.out _).mono ?_
      rintro e w3 ⟨rfl, hb3⟩
      obtain ⟨G3, hG3⟩ : ∃ G, w3.heap.size = G := ⟨_, rfl⟩
      have m3 := block_below HN2.out hb3 (Array.getElem?_eq_some_iff.1 HN2.out).1
      have m4 := block_alloc (.cells #[.string Q, .int .i64 yb, .int .i64 ye] 132) m3
      have n3 := block_new w3 (.cells #[.string Q, .int .i64 yb, .int .i64 ye] 132)
      rw [hG3] at n3
      have e0 := cell_of (i := 0) m4 rfl
      have e1 := cell_of (i := 1) m4 rfl
      have e2 := cell_of (i := 2) m4 rfl
      have e3 := cell_of (i := 0) n3 rfl
      have e4 := cell_of (i := 1) n3 rfl
      have e5 := cell_of (i := 2) n3 rfl
      have hb4 := HB2.out.trans ((hb3.trans ((below_box w3 (.cells #[.string Q, .int .i64 yb, .int .i64 ye] 132)).mono hb3.size)).mono HB2.out.size)
      have HB4 := Lib.hid (HBX.out.trans (hb4.mono HBX.out.size))
      have HG3 := Lib.hid hG3
      clear hb3 hb4 m3 m4 n3 a0 a1 a2 a3 a4 hG3
      go_wp2_with fail
      rw [HG3.out]
      go_wp2_with fail
      go_ret
      exact ⟨rfl, HB4.out⟩
  · have z1 : (P.toList == Q.toList) = false := by simpa using mt HNN.out.1 hn
    have z2 : ¬ P.toList = Q.toList := mt HNN.out.1 hn
    have hqf : q = false := by rw [← HQ.out, decide_eq_false_iff_not, HXS.out]; exact fun h => hn h.1
    subst hqf
    clear HXS HNN HBP HQ hn
    go_enter Tryz.func107, Tryz.ntmps107
    go_wp2_with fail
    rw [HX.out, HN0.out]
    refine (HF1.out _).mono ?_
    rintro e w2 ⟨rfl, hb2⟩
    obtain ⟨k2, y2⟩ := HK.out w2 hb2
    obtain ⟨G2, hG2⟩ : ∃ G, w2.heap.size = G := ⟨_, rfl⟩
    have a0 : (w2.alloc (.cells #[.string P, .int .i64 xb, .int .i64 xe] 132)).cell? ⟨P0, 0, none⟩ = some (.func (.func 51) #[] #[]) := Lib.cell?_alloc_some _ k2
    have a1 : (w2.alloc (.cells #[.string P, .int .i64 xb, .int .i64 xe] 132)).cell? ⟨N0 + 1, 0, none⟩ = some (.string Q) := cell_of (block_alloc _ y2) rfl
    have a2 : (w2.alloc (.cells #[.string P, .int .i64 xb, .int .i64 xe] 132)).cell? ⟨N0 + 1, 1, none⟩ = some (.int .i64 yb) := cell_of (block_alloc _ y2) rfl
    have a3 : (w2.alloc (.cells #[.string P, .int .i64 xb, .int .i64 xe] 132)).cell? ⟨N0 + 1, 2, none⟩ = some (.int .i64 ye) := cell_of (block_alloc _ y2) rfl
    have a4 : (w2.alloc (.cells #[.string P, .int .i64 xb, .int .i64 xe] 132)).cell? ⟨N0 + 1, 3, none⟩ = some (.slice A2 l2 c2) := cell_of (block_alloc _ y2) rfl
    have n2 := block_new w2 (.cells #[.string P, .int .i64 xb, .int .i64 xe] 132)
    rw [hG2] at n2
    have hb2' := hb2.trans ((below_box w2 (.cells #[.string P, .int .i64 xb, .int .i64 xe] 132)).mono hb2.size)
    have HB2 := Lib.hid hb2'
    have HN2 := Lib.hid n2
    have HG2 := Lib.hid hG2
    clear hb2 hb2' k2 y2 n2 hG2 d0 d1 d2 d3 hp1
    go_wp2_with fail
    rw [HG2.out]
    refine (HF2.out _).mono ?_
    rintro e w3 ⟨rfl, hb3⟩
    obtain ⟨G3, hG3⟩ : ∃ G, w3.heap.size = G := ⟨_, rfl⟩
    have m3 := block_below HN2.out hb3 (Array.getElem?_eq_some_iff.1 HN2.out).1
    have m4 := block_alloc (.cells #[.string Q, .int .i64 yb, .int .i64 ye] 132) m3
    have n3 := block_new w3 (.cells #[.string Q, .int .i64 yb, .int .i64 ye] 132)
    rw [hG3] at n3
    have e0 := cell_of (i := 0) m4 rfl
    have e1 := cell_of (i := 1) m4 rfl
    have e2 := cell_of (i := 2) m4 rfl
    have e3 := cell_of (i := 0) n3 rfl
    have e4 := cell_of (i := 1) n3 rfl
    have e5 := cell_of (i := 2) n3 rfl
    have hb4 := HB2.out.trans ((hb3.trans ((below_box w3 (.cells #[.string Q, .int .i64 yb, .int .i64 ye] 132)).mono hb3.size)).mono HB2.out.size)
    have HB4 := Lib.hid (HBX.out.trans (hb4.mono HBX.out.size))
    have HG3 := Lib.hid hG3
    clear hb3 hb4 m3 m4 n3 a0 a1 a2 a3 a4 hG3
    go_wp2_with fail
    rw [HG3.out]
    go_wp2_with fail
    go_ret
    exact ⟨rfl, HB4.out⟩

set_option maxRecDepth 100000 in
set_option maxHeartbeats 4000000 in
theorem equalFunc_Text {w : World} {v1 v2 : Value} {l m : List Ex} (hv : Rows 4 EEx w v1 l) (hm : Rows 4 EEx w v2 m) (hl : l.length ≤ maxLen) (hl2 : m.length ≤ maxLen) (hle : ∀ t ∈ l, t.ps.length ≤ maxLen) (hle2 : ∀ t ∈ m, t.ps.length ≤ maxLen) (P0 : Nat) (hP : P0 < w.heap.size) (hpc : w.cell? ⟨P0, 0, none⟩ = some (.func (.func 51) #[] #[])) :
    Calls Tryz.prog 106 #[v1, v2, .func (.func 107) #[] #[.pointer (some ⟨P0, 0, none⟩)]] w fun e w' => e = .returned (.bool (decide (l = m))) ∧ Below w.heap.size w w' := by
  obtain ⟨A, cap, rfl, hc⟩ := hv.form
  obtain ⟨A2, cap2, rfl, hc2⟩ := hm.form
  obtain ⟨n, hn⟩ : ∃ n, l.length = n := ⟨_, rfl⟩
  obtain ⟨n2, hn2⟩ : ∃ n, m.length = n := ⟨_, rfl⟩
  obtain ⟨q, hq⟩ : ∃ q, decide (l = m) = q := ⟨_, rfl⟩
  rw [hq]
  have HQ := Lib.hid hq
  clear hq
  have HV := Lib.hid (fun W (h : Below w.heap.size w W) => hv.below stays_ex h)
  have HM := Lib.hid (fun W (h : Below w.heap.size w W) => hm.below stays_ex h)
  rw [hn] at hc hl HV ⊢
  rw [hn2] at hc2 hl2 HM ⊢
  unfold maxLen at hl hl2
  have HN := Lib.hid hn
  have HN2 := Lib.hid hn2
  have HL := Lib.hid (And.intro hle hle2)
  have HKP := Lib.hid (fun W (h : Below w.heap.size w W) => And.intro (Nat.lt_of_lt_of_le hP h.size) ((h.cell (show (⟨P0, 0, none⟩ : Addr).block < w.heap.size from hP)).trans hpc))
  clear hle hle2 hP hpc
  clear hn hn2 hv hm
  by_cases he : n = n2
  · subst he
    go_enter Tryz.func106, Tryz.ntmps106
    go_wp2_with fail
    go_loopw [17] (fun i wr => ∃ k : Nat, k ≤ n ∧ i = .int .i64 k ∧ Hid (∀ (j : Nat) (x y : Ex), j < k → l[j]? = some x → m[j]? = some y → x = y) ∧ Below w.heap.size w wr) (fun i _ => n - (Go.RowKit.intOf i).toNat)
    case atStart => exact ⟨0, Nat.zero_le _, rfl, Lib.hid (fun j x y h => absurd h (by omega)), Below.refl _ _⟩
    case round =>
      obtain ⟨k, hk, rfl, hs, hb⟩ := hrel
      by_cases hlt : k < n
      · obtain ⟨x, hx⟩ : ∃ x, l[k]? = some x := ⟨_, List.getElem?_eq_getElem (by rw [HN.out]; exact hlt)⟩
        obtain ⟨y, hy⟩ : ∃ y, m[k]? = some y := ⟨_, List.getElem?_eq_getElem (by rw [HN2.out]; exact hlt)⟩
        obtain ⟨b1, o1, rfl, -, hj1⟩ := at_ex (HV.out wr hb) (by rw [HN.out]; omega)
        obtain ⟨b2, o2, rfl, -, hj2⟩ := at_ex (HM.out wr hb) (by rw [HN2.out]; omega)
        have HB := Lib.hid hb
        have k0 : (0 : Int) ≤ (k : Int) := by omega
        have k1 : (k : Int) < (n : Int) := by omega
        have HX := Lib.hid hx
        have HY := Lib.hid hy
        obtain ⟨t, ht⟩ : ∃ t, decide (x = y) = t := ⟨_, rfl⟩
        obtain ⟨u, ru, u0, u1, u2, u3⟩ := hj1 k x hx
        obtain ⟨v, rv, v0, v1, v2, v3⟩ := hj2 k y hy
        have hcl := fun W (h : Below wr.heap.size wr W) => closeText_any x y u v P0 (ru.below stays_pair h) (rv.below stays_pair h) (HL.out.1 x (List.mem_of_getElem? hx)) (HL.out.2 y (List.mem_of_getElem? hy)) (HKP.out W (hb.trans (h.mono hb.size))).1 (HKP.out W (hb.trans (h.mono hb.size))).2
        rw [ht] at hcl
        obtain ⟨Au, pu, rfl, -⟩ := ru.form
        obtain ⟨Bv, pv, rfl, -⟩ := rv.form
        obtain ⟨nu, hnu⟩ : ∃ n, x.ps.length = n := ⟨_, rfl⟩
        obtain ⟨nv, hnv⟩ : ∃ n, y.ps.length = n := ⟨_, rfl⟩
        obtain ⟨P, hP⟩ : ∃ s : ByteArray, (⟨x.name.toArray⟩ : ByteArray) = s := ⟨_, rfl⟩
        obtain ⟨Q, hQ⟩ : ∃ s : ByteArray, (⟨y.name.toArray⟩ : ByteArray) = s := ⟨_, rfl⟩
        obtain ⟨xb, hxb⟩ : ∃ z, x.b = z := ⟨_, rfl⟩
        obtain ⟨xe, hxe⟩ : ∃ z, x.e = z := ⟨_, rfl⟩
        obtain ⟨yb, hyb⟩ : ∃ z, y.b = z := ⟨_, rfl⟩
        obtain ⟨ye, hye⟩ : ∃ z, y.e = z := ⟨_, rfl⟩
        rw [hP] at u0
        rw [hxb] at u1
        rw [hxe] at u2
        rw [hnu] at u3
        rw [hQ] at v0
        rw [hyb] at v1
        rw [hye] at v2
        rw [hnv] at v3
        rw [hP, hQ, hxb, hxe, hyb, hye, hnu, hnv] at hcl
        have hb12 : Below wr.heap.size wr ((wr.alloc (.cells #[.string P, .int .i64 xb, .int .i64 xe, .slice Au nu pu] 65)).alloc (.cells #[.string Q, .int .i64 yb, .int .i64 ye, .slice Bv nv pv] 65)) := (below_box wr _).trans ((below_box _ _).mono (by simp))
        have v0' := Lib.cell?_alloc_some (.cells #[.string P, .int .i64 xb, .int .i64 xe, .slice Au nu pu] 65) v0
        have v1' := Lib.cell?_alloc_some (.cells #[.string P, .int .i64 xb, .int .i64 xe, .slice Au nu pu] 65) v1
        have v2' := Lib.cell?_alloc_some (.cells #[.string P, .int .i64 xb, .int .i64 xe, .slice Au nu pu] 65) v2
        have v3' := Lib.cell?_alloc_some (.cells #[.string P, .int .i64 xb, .int .i64 xe, .slice Au nu pu] 65) v3
        have q1 := block_alloc (.cells #[.string Q, .int .i64 yb, .int .i64 ye, .slice Bv nv pv] 65) (block_new wr (.cells #[.string P, .int .i64 xb, .int .i64 xe, .slice Au nu pu] 65))
        have q2 := block_new (wr.alloc (.cells #[.string P, .int .i64 xb, .int .i64 xe, .slice Au nu pu] 65)) (.cells #[.string Q, .int .i64 yb, .int .i64 ye, .slice Bv nv pv] 65)
        rw [alloc_sz] at q2
        have r0 := cell_of (i := 0) q1 rfl
        have r1 := cell_of (i := 1) q1 rfl
        have r2 := cell_of (i := 2) q1 rfl
        have r3 := cell_of (i := 3) q1 rfl
        have s0 := cell_of (i := 0) q2 rfl
        have s1 := cell_of (i := 1) q2 rfl
        have s2 := cell_of (i := 2) q2 rfl
        have s3 := cell_of (i := 3) q2 rfl
        have HC := Lib.hid (hcl _ hb12)
        have HB12 := Lib.hid hb12
        clear hj1 hj2 hx hy hb hcl ru rv hnu hnv hP hQ hxb hxe hyb hye hb12 v0 v1 v2 v3 q1 q2
        cases t with
        | true =>
          have hs' : Hid (∀ (j : Nat) (x y : Ex), j < k + 1 → l[j]? = some x → m[j]? = some y → x = y) := Lib.hid fun j x' y' hj h1 h2 => by
            by_cases e : j = k
            · subst e
              rw [HX.out] at h1
              rw [HY.out] at h2
              cases h1
              cases h2
              exact of_decide_eq_true ht
            · exact hs.out j x' y' (by omega) h1 h2
          clear hs ht HX HY HV HM HN HN2 HQ
          go_wp2_with fail
          refine HC.out.mono ?_
          rintro e w' ⟨rfl, hb'⟩
          have HB2 := Lib.hid (HB.out.trans ((HB12.out.trans (hb'.mono HB12.out.size)).mono HB.out.size))
          clear hb' u0 u1 u2 u3 v0' v1' v2' v3' r0 r1 r2 r3 s0 s1 s2 s3
          go_wp2_with fail
          exact ⟨⟨k + 1, by omega, by go_num, hs', HB2.out⟩, by simp only [Go.RowKit.intOf]; omega⟩
        | false =>
          have hlm : q = false := by
            rw [← HQ.out, decide_eq_false_iff_not]
            intro h
            have h1 := HX.out
            rw [h, HY.out] at h1
            exact of_decide_eq_false ht (Option.some.inj h1).symm
          subst hlm
          clear hs ht HX HY HV HM HN HN2 HQ
          go_wp2_with fail
          refine HC.out.mono ?_
          rintro e w' ⟨rfl, hb'⟩
          have HB2 := Lib.hid (HB.out.trans ((HB12.out.trans (hb'.mono HB12.out.size)).mono HB.out.size))
          clear hb' u0 u1 u2 u3 v0' v1' v2' v3' r0 r1 r2 r3 s0 s1 s2 s3
          go_wp2_with fail
          go_ret
          exact ⟨rfl, HB2.out⟩
      · have HB := Lib.hid hb
        obtain rfl : k = n := by omega
        have hlm : q = true := by
          rw [← HQ.out, decide_eq_true_iff]
          refine eq_at (by rw [HN.out, HN2.out]) fun j x y h1 h2 => hs.out j x y ?_ h1 h2
          have := (List.getElem?_eq_some_iff.1 h1).1
          rw [HN.out] at this
          exact this
        subst hlm
        clear hb
        go_wp2_with fail
        go_ret
        exact ⟨rfl, HB.out⟩
  · have hlm : q = false := by
      rw [← HQ.out, decide_eq_false_iff_not]
      intro h
      have h1 := HN.out
      rw [h, HN2.out] at h1
      exact he h1.symm
    have hne : ¬ ((n : Int) = (n2 : Int)) := by omega
    subst hlm
    clear he
    go_enter Tryz.func106, Tryz.ntmps106
    go_wp2_with fail
    go_ret
    exact ⟨rfl, Below.refl _ _⟩

set_option maxRecDepth 100000 in
set_option maxHeartbeats 4000000 in
theorem eeText_any {w : World} {v1 v2 : Value} {l m : List Ex} (hv : Rows 4 EEx w v1 l) (hm : Rows 4 EEx w v2 m) (hl : l.length ≤ maxLen) (hl2 : m.length ≤ maxLen) (hle : ∀ t ∈ l, t.ps.length ≤ maxLen) (hle2 : ∀ t ∈ m, t.ps.length ≤ maxLen) :
    Calls Tryz.prog 50 #[v1, v2, .func (.func 51) #[] #[]] w fun e w' => e = .returned (.bool (decide (l = m))) ∧ Below w.heap.size w w' := by
  have hb := below_box w (.cells #[.func (.func 51) #[] #[]] 89)
  have HE := Lib.hid (equalFunc_Text (hv.below stays_ex hb) (hm.below stays_ex hb) hl hl2 hle hle2 w.heap.size (by simp) (cell_of (block_new w _) rfl))
  have HB := Lib.hid hb
  obtain ⟨A, c1, rfl, -⟩ := hv.form
  obtain ⟨A2, c2, rfl, -⟩ := hm.form
  obtain ⟨l1, hl1⟩ : ∃ n, l.length = n := ⟨_, rfl⟩
  obtain ⟨l2, hl2'⟩ : ∃ n, m.length = n := ⟨_, rfl⟩
  obtain ⟨q, hq⟩ : ∃ z, decide (l = m) = z := ⟨_, rfl⟩
  rw [hl1, hl2', hq] at HE
  rw [hl1, hl2', hq]
  clear hv hm hl hl2 hle hle2 hl1 hl2' hq hb
  go_enter Tryz.func50, Tryz.ntmps50
  go_wp2_with fail
  refine HE.out.mono ?_
  rintro e w' ⟨rfl, hb'⟩
  have HB2 := Lib.hid (HB.out.trans (hb'.mono HB.out.size))
  clear hb'
  go_wp2_with fail
  go_ret
  exact ⟨rfl, HB2.out⟩

set_option maxRecDepth 100000 in
set_option maxHeartbeats 4000000 in
theorem ofRegion_any (P : ByteArray) (b e : Int) (A : Option Addr) (n c : Nat) (w : World) :
    Calls Tryz.prog 53 #[.agg #[.string P, .int .i64 b, .int .i64 e, .slice A n c]] w fun r w' => r = .returned (.tuple #[.agg #[.string P, .int .i64 b, .int .i64 e], .slice A n c]) ∧ Below w.heap.size w w' := by
  obtain ⟨N0, hN0⟩ : ∃ N0, w.heap.size = N0 := ⟨_, rfl⟩
  obtain ⟨X, hX⟩ : ∃ X, (w.alloc (.cells #[.string P, .int .i64 b, .int .i64 e, .slice A n c] 67)).alloc (.cells #[.string ⟨#[]⟩, .int .i64 0, .int .i64 0] 132) = X := ⟨_, rfl⟩
  have hbX : Below w.heap.size w X := by rw [← hX]; exact (below_box w _).trans ((below_box _ _).mono (by simp))
  have x1 : X.heap[N0]? = some (.cells #[.string P, .int .i64 b, .int .i64 e, .slice A n c] 67 (0, 0)) := by rw [← hX, ← hN0]; exact block_alloc _ (block_new w _)
  have x2 : X.heap[N0 + 1]? = some (.cells #[.string ⟨#[]⟩, .int .i64 0, .int .i64 0] 132 (0, 0)) := by
    have := block_new (w.alloc (.cells #[.string P, .int .i64 b, .int .i64 e, .slice A n c] 67)) (.cells #[.string ⟨#[]⟩, .int .i64 0, .int .i64 0] 132)
    rw [alloc_sz, hN0] at this
    rw [← hX]
    exact this
  have c0 : X.cell? ⟨N0, 0, none⟩ = some (.string P) := cell_of x1 rfl
  have c1 : X.cell? ⟨N0, 1, none⟩ = some (.int .i64 b) := cell_of x1 rfl
  have c2 : X.cell? ⟨N0, 2, none⟩ = some (.int .i64 e) := cell_of x1 rfl
  have c3 : X.cell? ⟨N0, 3, none⟩ = some (.slice A n c) := cell_of x1 rfl
  have o0 : X.cell? ⟨N0 + 1, 0, none⟩ = some (.string ⟨#[]⟩) := cell_of x2 rfl
  have o1 : X.cell? ⟨N0 + 1, 1, none⟩ = some (.int .i64 0) := cell_of x2 rfl
  have o2 : X.cell? ⟨N0 + 1, 2, none⟩ = some (.int .i64 0) := cell_of x2 rfl
  have f0 : X.frozen? ⟨N0 + 1, 0, none⟩ = false := frozen_of x2
  have f1 : X.frozen? ⟨N0 + 1, 1, none⟩ = false := frozen_of x2
  have f2 : X.frozen? ⟨N0 + 1, 2, none⟩ = false := frozen_of x2
  have HX := Lib.hid hX
  have HN0 := Lib.hid hN0
  have HBX := Lib.hid hbX
  have HX2 := Lib.hid x2
  clear hX hN0 hbX x1 x2
  go_enter Tryz.func53, Tryz.ntmps53
  go_wp2_with fail
  rw [HX.out, HN0.out]
  go_region
  have hz : (((X.setCell ⟨N0 + 1, 0, none⟩ (.string P)).setCell ⟨N0 + 1, 1, none⟩ (.int .i64 b)).setCell ⟨N0 + 1, 2, none⟩ (.int .i64 e)).drew.heap[N0 + 1]? = some (.cells #[.string P, .int .i64 b, .int .i64 e] 132 (0, 0)) := set_of (set_of (set_of HX2.out _) _) _
  have hbl : Below w.heap.size w (((X.setCell ⟨N0 + 1, 0, none⟩ (.string P)).setCell ⟨N0 + 1, 1, none⟩ (.int .i64 b)).setCell ⟨N0 + 1, 2, none⟩ (.int .i64 e)).drew := (((HBX.out.setCell (by rw [HN0.out]; exact Nat.le_succ _) _).setCell (by rw [HN0.out]; exact Nat.le_succ _) _).setCell (by rw [HN0.out]; exact Nat.le_succ _) _).drew
  clear c0 c1 c2 c3 o0 o1 o2 f0 f1 f2
  go_wp2_with fail
  exact bodyPost_ret (v := .tuple #[.agg #[.string P, .int .i64 b, .int .i64 e], .slice A n c]) (results_ext Tryz.results53 _ _ (N0 + 1) _ rfl hz rfl) rfl ⟨rfl, hbl⟩

set_option maxRecDepth 100000 in
set_option maxHeartbeats 8000000 in
theorem closeRegion_any (x y : Ex) (v1 v2 : Value) (P0 : Nat) {W : World} (hv : Rows 2 EPair W v1 x.ps) (hm : Rows 2 EPair W v2 y.ps) (hl : x.ps.length ≤ maxLen) (hl2 : y.ps.length ≤ maxLen) (hP : P0 < W.heap.size) (hc : W.cell? ⟨P0, 0, none⟩ = some (.func (.func 53) #[] #[])) :
    Calls Tryz.prog 110 (#[.agg #[.string ⟨x.name.toArray⟩, .int .i64 x.b, .int .i64 x.e, v1], .agg #[.string ⟨y.name.toArray⟩, .int .i64 y.b, .int .i64 y.e, v2]] ++ #[.pointer (some ⟨P0, 0, none⟩)]) W fun e w' => e = .returned (.bool (decide (x = y))) ∧ Below W.heap.size W w' := by
  have hsp := fun W' (h : Below W.heap.size W W') => equal_pairs (hv.below stays_pair h) (hm.below stays_pair h) hl hl2
  obtain ⟨A, c1, rfl, -⟩ := hv.form
  obtain ⟨A2, c2, rfl, -⟩ := hm.form
  have hxs : x = y ↔ (x.name = y.name ∧ x.b = y.b ∧ x.e = y.e ∧ x.ps = y.ps) := by
    obtain ⟨f0, f1, f2, f3⟩ := x
    obtain ⟨g0, g1, g2, g3⟩ := y
    simp only [Ex.mk.injEq]
  obtain ⟨l1, hl1⟩ : ∃ n, x.ps.length = n := ⟨_, rfl⟩
  obtain ⟨l2, hl2'⟩ : ∃ n, y.ps.length = n := ⟨_, rfl⟩
  obtain ⟨P, hPP⟩ : ∃ s : ByteArray, (⟨x.name.toArray⟩ : ByteArray) = s := ⟨_, rfl⟩
  obtain ⟨Q, hQQ⟩ : ∃ s : ByteArray, (⟨y.name.toArray⟩ : ByteArray) = s := ⟨_, rfl⟩
  have hnn : P.toList = Q.toList ↔ x.name = y.name := by rw [← hPP, ← hQQ, Lib.toList_data, Lib.toList_data]
  obtain ⟨xb, hxb⟩ : ∃ z, x.b = z := ⟨_, rfl⟩
  obtain ⟨xe, hxe⟩ : ∃ z, x.e = z := ⟨_, rfl⟩
  obtain ⟨yb, hyb⟩ : ∃ z, y.b = z := ⟨_, rfl⟩
  obtain ⟨ye, hye⟩ : ∃ z, y.e = z := ⟨_, rfl⟩
  obtain ⟨bp, hbp⟩ : ∃ z, decide (x.ps = y.ps) = z := ⟨_, rfl⟩
  obtain ⟨q, hq⟩ : ∃ z, decide (x = y) = z := ⟨_, rfl⟩
  rw [hxb, hyb, hxe, hye] at hxs
  rw [hl1, hl2', hbp] at hsp
  rw [hPP, hQQ, hxb, hxe, hyb, hye, hl1, hl2', hq]
  obtain ⟨N0, hN0⟩ : ∃ N0, W.heap.size = N0 := ⟨_, rfl⟩
  obtain ⟨X, hX⟩ : ∃ X, (W.alloc (.cells #[.string P, .int .i64 xb, .int .i64 xe, .slice A l1 c1] 67)).alloc (.cells #[.string Q, .int .i64 yb, .int .i64 ye, .slice A2 l2 c2] 67) = X := ⟨_, rfl⟩
  have hbX : Below W.heap.size W X := by rw [← hX]; exact (below_box W _).trans ((below_box _ _).mono (by simp))
  have x1 : X.heap[N0]? = some (.cells #[.string P, .int .i64 xb, .int .i64 xe, .slice A l1 c1] 67 (0, 0)) := by rw [← hX, ← hN0]; exact block_alloc _ (block_new W _)
  have x2 : X.heap[N0 + 1]? = some (.cells #[.string Q, .int .i64 yb, .int .i64 ye, .slice A2 l2 c2] 67 (0, 0)) := by
    have := block_new (W.alloc (.cells #[.string P, .int .i64 xb, .int .i64 xe, .slice A l1 c1] 67)) (.cells #[.string Q, .int .i64 yb, .int .i64 ye, .slice A2 l2 c2] 67)
    rw [alloc_sz, hN0] at this
    rw [← hX]
    exact this
  have hp1 : X.cell? ⟨P0, 0, none⟩ = some (.func (.func 53) #[] #[]) := (hbX.cell hP).trans hc
  have HK := Lib.hid (fun W' (h : Below X.heap.size X W') => show (W'.cell? ⟨P0, 0, none⟩ = some (.func (.func 53) #[] #[])) ∧ W'.heap[N0 + 1]? = some (.cells #[.string Q, .int .i64 yb, .int .i64 ye, .slice A2 l2 c2] 67 (0, 0)) from
    ⟨(h.cell (show P0 < X.heap.size from Nat.lt_of_lt_of_le hP hbX.size)).trans hp1, block_below x2 h (Array.getElem?_eq_some_iff.1 x2).1⟩)
  have d0 : X.cell? ⟨N0, 0, none⟩ = some (.string P) := cell_of x1 rfl
  have d1 : X.cell? ⟨N0, 1, none⟩ = some (.int .i64 xb) := cell_of x1 rfl
  have d2 : X.cell? ⟨N0, 2, none⟩ = some (.int .i64 xe) := cell_of x1 rfl
  have d3 : X.cell? ⟨N0, 3, none⟩ = some (.slice A l1 c1) := cell_of x1 rfl
  rw [← hX, ← hN0] at d0 d1 d2 d3
  rw [← hX] at hp1
  have HSP := Lib.hid hsp
  have HX := Lib.hid hX
  have HN0 := Lib.hid hN0
  have HBX := Lib.hid hbX
  have HF1 := Lib.hid (ofRegion_any P xb xe A l1 c1)
  have HF2 := Lib.hid (ofRegion_any Q yb ye A2 l2 c2)
  have HXS := Lib.hid hxs
  have HNN := Lib.hid hnn
  have HBP := Lib.hid hbp
  have HQ := Lib.hid hq
  clear hv hm hl hl2 hP hc hsp hxs hl1 hl2' hPP hQQ hnn hxb hxe hyb hye hbp hq hN0 hX hbX x1 x2
  by_cases hn : x.name = y.name
  · have z1 : (P.toList == Q.toList) = true := by simpa using HNN.out.2 hn
    have z2 : P.toList = Q.toList := HNN.out.2 hn
    by_cases hbb : xb = yb
    · by_cases hee : xe = ye
      · have hqb : q = bp := by
          rw [← HQ.out, ← HBP.out, Bool.eq_iff_iff, decide_eq_true_iff, decide_eq_true_iff, HXS.out]
          exact ⟨fun h => h.2.2.2, fun h => ⟨hn, hbb, hee, h⟩⟩
        subst hqb hbb hee
        clear HXS HNN HBP HQ hn
        go_enter Tryz.func110, Tryz.ntmps110
        go_wp2_with fail
        rw [HX.out, HN0.out]
        refine (HF1.out _).mono ?_
        rintro e w2 ⟨rfl, hb2⟩
        obtain ⟨k2, y2⟩ := HK.out w2 hb2
        obtain ⟨G2, hG2⟩ : ∃ G, w2.heap.size = G := ⟨_, rfl⟩
        have a0 : (w2.alloc (.cells #[.string P, .int .i64 xb, .int .i64 xe] 132)).cell? ⟨P0, 0, none⟩ = some (.func (.func 53) #[] #[]) := Lib.cell?_alloc_some _ k2
        have a1 : (w2.alloc (.cells #[.string P, .int .i64 xb, .int .i64 xe] 132)).cell? ⟨N0 + 1, 0, none⟩ = some (.string Q) := cell_of (block_alloc _ y2) rfl
        have a2 : (w2.alloc (.cells #[.string P, .int .i64 xb, .int .i64 xe] 132)).cell? ⟨N0 + 1, 1, none⟩ = some (.int .i64 xb) := cell_of (block_alloc _ y2) rfl
        have a3 : (w2.alloc (.cells #[.string P, .int .i64 xb, .int .i64 xe] 132)).cell? ⟨N0 + 1, 2, none⟩ = some (.int .i64 xe) := cell_of (block_alloc _ y2) rfl
        have a4 : (w2.alloc (.cells #[.string P, .int .i64 xb, .int .i64 xe] 132)).cell? ⟨N0 + 1, 3, none⟩ = some (.slice A2 l2 c2) := cell_of (block_alloc _ y2) rfl
        have n2 := block_new w2 (.cells #[.string P, .int .i64 xb, .int .i64 xe] 132)
        rw [hG2] at n2
        have hb2' := hb2.trans ((below_box w2 (.cells #[.string P, .int .i64 xb, .int .i64 xe] 132)).mono hb2.size)
        have HB2 := Lib.hid hb2'
        have HN2 := Lib.hid n2
        have HG2 := Lib.hid hG2
        clear hb2 hb2' k2 y2 n2 hG2 d0 d1 d2 d3 hp1
        go_wp2_with fail
        rw [HG2.out]
        refine (HF2.out _).mono ?_
        rintro e w3 ⟨rfl, hb3⟩
        obtain ⟨G3, hG3⟩ : ∃ G, w3.heap.size = G := ⟨_, rfl⟩
        have m3 := block_below HN2.out hb3 (Array.getElem?_eq_some_iff.1 HN2.out).1
        have m4 := block_alloc (.cells #[.string Q, .int .i64 xb, .int .i64 xe] 132) m3
        have n3 := block_new w3 (.cells #[.string Q, .int .i64 xb, .int .i64 xe] 132)
        rw [hG3] at n3
        have e0 := cell_of (i := 0) m4 rfl
        have e1 := cell_of (i := 1) m4 rfl
        have e2 := cell_of (i := 2) m4 rfl
        have e3 := cell_of (i := 0) n3 rfl
        have e4 := cell_of (i := 1) n3 rfl
        have e5 := cell_of (i := 2) n3 rfl
        have hb4 := HB2.out.trans ((hb3.trans ((below_box w3 (.cells #[.string Q, .int .i64 xb, .int .i64 xe] 132)).mono hb3.size)).mono HB2.out.size)
        have HB4 := Lib.hid (HBX.out.trans (hb4.mono HBX.out.size))
        have HG3 := Lib.hid hG3
        clear hb3 hb4 m3 m4 n3 a0 a1 a2 a3 a4 hG3
        go_wp2_with fail
        rw [HG3.out]
        go_wp2_with fail
        refine (HSP.out _ HB4.out).mono ?_
        rintro e w5 ⟨rfl, hb5⟩
        have HB5 := Lib.hid (HB4.out.trans (hb5.mono HB4.out.size))
        clear hb5
        go_wp2_with fail
        go_ret
        exact ⟨rfl, HB5.out⟩
      · have hqf : q = false := by rw [← HQ.out, decide_eq_false_iff_not, HXS.out]; exact fun h => hee h.2.2.1
        subst hqf hbb
        clear HXS HNN HBP HQ hn
        go_enter Tryz.func110, Tryz.ntmps110
        go_wp2_with fail
        rw [HX.out, HN0.out]
        refine (HF1.out _).mono ?_
        rintro e w2 ⟨rfl, hb2⟩
        obtain ⟨k2, y2⟩ := HK.out w2 hb2
        obtain ⟨G2, hG2⟩ : ∃ G, w2.heap.size = G := ⟨_, rfl⟩
        have a0 : (w2.alloc (.cells #[.string P, .int .i64 xb, .int .i64 xe] 132)).cell? ⟨P0, 0, none⟩ = some (.func (.func 53) #[] #[]) := Lib.cell?_alloc_some _ k2
        have a1 : (w2.alloc (.cells #[.string P, .int .i64 xb, .int .i64 xe] 132)).cell? ⟨N0 + 1, 0, none⟩ = some (.string Q) := cell_of (block_alloc _ y2) rfl
        have a2 : (w2.alloc (.cells #[.string P, .int .i64 xb, .int .i64 xe] 132)).cell? ⟨N0 + 1, 1, none⟩ = some (.int .i64 xb) := cell_of (block_alloc _ y2) rfl
        have a3 : (w2.alloc (.cells #[.string P, .int .i64 xb, .int .i64 xe] 132)).cell? ⟨N0 + 1, 2, none⟩ = some (.int .i64 ye) := cell_of (block_alloc _ y2) rfl
        have a4 : (w2.alloc (.cells #[.string P, .int .i64 xb, .int .i64 xe] 132)).cell? ⟨N0 + 1, 3, none⟩ = some (.slice A2 l2 c2) := cell_of (block_alloc _ y2) rfl
        have n2 := block_new w2 (.cells #[.string P, .int .i64 xb, .int .i64 xe] 132)
        rw [hG2] at n2
        have hb2' := hb2.trans ((below_box w2 (.cells #[.string P, .int .i64 xb, .int .i64 xe] 132)).mono hb2.size)
        have HB2 := Lib.hid hb2'
        have HN2 := Lib.hid n2
        have HG2 := Lib.hid hG2
        clear hb2 hb2' k2 y2 n2 hG2 d0 d1 d2 d3 hp1
        go_wp2_with fail
        rw [HG2.out]
        refine (HF2.out _).mono ?_
        rintro e w3 ⟨rfl, hb3⟩
        obtain ⟨G3, hG3⟩ : ∃ G, w3.heap.size = G := ⟨_, rfl⟩
        have m3 := block_below HN2.out hb3 (Array.getElem?_eq_some_iff.1 HN2.out).1
        have m4 := block_alloc (.cells #[.string Q, .int .i64 xb, .int .i64 ye] 132) m3
        have n3 := block_new w3 (.cells #[.string Q, .int .i64 xb, .int .i64 ye] 132)
        rw [hG3] at n3
        have e0 := cell_of (i := 0) m4 rfl
        have e1 := cell_of (i := 1) m4 rfl
        have e2 := cell_of (i := 2) m4 rfl
        have e3 := cell_of (i := 0) n3 rfl
        have e4 := cell_of (i := 1) n3 rfl
        have e5 := cell_of (i := 2) n3 rfl
        have hb4 := HB2.out.trans ((hb3.trans ((below_box w3 (.cells #[.string Q, .int .i64 xb, .int .i64 ye] 132)).mono hb3.size)).mono HB2.out.size)
        have HB4 := Lib.hid (HBX.out.trans (hb4.mono HBX.out.size))
        have HG3 := Lib.hid hG3
        clear hb3 hb4 m3 m4 n3 a0 a1 a2 a3 a4 hG3
        go_wp2_with fail
        rw [HG3.out]
        go_wp2_with fail
        go_ret
        exact ⟨rfl, HB4.out⟩
    · have hqf : q = false := by rw [← HQ.out, decide_eq_false_iff_not, HXS.out]; exact fun h => hbb h.2.1
      subst hqf
      clear HXS HNN HBP HQ hn
      go_enter Tryz.func110, Tryz.ntmps110
      go_wp2_with fail
      rw [HX.out, HN0.out]
      refine (HF1.out _).mono ?_
      rintro e w2 ⟨rfl, hb2⟩
      obtain ⟨k2, y2⟩ := HK.out w2 hb2
      obtain ⟨G2, hG2⟩ : ∃ G, w2.heap.size = G := ⟨_, rfl⟩
      have a0 : (w2.alloc (.cells #[.string P, .int .i64 xb, .int .i64 xe] 132)).cell? ⟨P0, 0, none⟩ = some (.func (.func 53) #[] #[]) := Lib.cell?_alloc_some _ k2
      have a1 : (w2.alloc (.cells #[.string P, .int .i64 xb, .int .i64 xe] 132)).cell? ⟨N0 + 1, 0, none⟩ = some (.string Q) := cell_of (block_alloc _ y2) rfl
      have a2 : (w2.alloc (.cells #[.string P, .int .i64 xb, .int .i64 xe] 132)).cell? ⟨N0 + 1, 1, none⟩ = some (.int .i64 yb) := cell_of (block_alloc _ y2) rfl
      have a3 : (w2.alloc (.cells #[.string P, .int .i64 xb, .int .i64 xe] 132)).cell? ⟨N0 + 1, 2, none⟩ = some (.int .i64 ye) := cell_of (block_alloc _ y2) rfl
      have a4 : (w2.alloc (.cells #[.string P, .int .i64 xb, .int .i64 xe] 132)).cell? ⟨N0 + 1, 3, none⟩ = some (.slice A2 l2 c2) := cell_of (block_alloc _ y2) rfl
      have n2 := block_new w2 (.cells #[.string P, .int .i64 xb, .int .i64 xe] 132)
      rw [hG2] at n2
      have hb2' := hb2.trans ((below_box w2 (.cells #[.string P, .int .i64 xb, .int .i64 xe] 132)).mono hb2.size)
      have HB2 := Lib.hid hb2'
      have HN2 := Lib.hid n2
      have HG2 := Lib.hid hG2
      clear hb2 hb2' k2 y2 n2 hG2 d0 d1 d2 d3 hp1
      go_wp2_with fail
      rw [HG2.out]
      refine (HF2.out _).mono ?_
      rintro e w3 ⟨rfl, hb3⟩
      obtain ⟨G3, hG3⟩ : ∃ G, w3.heap.size = G := ⟨_, rfl⟩
      have m3 := block_below HN2.out hb3 (Array.getElem?_eq_some_iff.1 HN2.out).1
      have m4 := block_alloc (.cells #[.string Q, .int .i64 yb, .int .i64 ye] 132) m3
      have n3 := block_new w3 (.cells #[.string Q, .int .i64 yb, .int .i64 ye] 132)
      rw [hG3] at n3
      have e0 := cell_of (i := 0) m4 rfl
      have e1 := cell_of (i := 1) m4 rfl
      have e2 := cell_of (i := 2) m4 rfl
      have e3 := cell_of (i := 0) n3 rfl
      have e4 := cell_of (i := 1) n3 rfl
      have e5 := cell_of (i := 2) n3 rfl
      have hb4 := HB2.out.trans ((hb3.trans ((below_box w3 (.cells #[.string Q, .int .i64 yb, .int .i64 ye] 132)).mono hb3.size)).mono HB2.out.size)
      have HB4 := Lib.hid (HBX.out.trans (hb4.mono HBX.out.size))
      have HG3 := Lib.hid hG3
      clear hb3 hb4 m3 m4 n3 a0 a1 a2 a3 a4 hG3
      go_wp2_with fail
      rw [HG3.out]
      go_wp2_with fail
      go_ret
      exact ⟨rfl, HB4.out⟩
  · have z1 : (P.toList == Q.toList) = false := by simpa using mt HNN.out.1 hn
    have z2 : ¬ P.toList = Q.toList := mt HNN.out.1 hn
    have hqf : q = false := by rw [← HQ.out, decide_eq_false_iff_not, HXS.out]; exact fun h => hn h.1
    subst hqf
    clear HXS HNN HBP HQ hn
    go_enter Tryz.func110, Tryz.ntmps110
    go_wp2_with fail
    rw [HX.out, HN0.out]
    refine (HF1.out _).mono ?_
    rintro e w2 ⟨rfl, hb2⟩
    obtain ⟨k2, y2⟩ := HK.out w2 hb2
    obtain ⟨G2, hG2⟩ : ∃ G, w2.heap.size = G := ⟨_, rfl⟩
    have a0 : (w2.alloc (.cells #[.string P, .int .i64 xb, .int .i64 xe] 132)).cell? ⟨P0, 0, none⟩ = some (.func (.func 53) #[] #[]) := Lib.cell?_alloc_some _ k2
    have a1 : (w2.alloc (.cells #[.string P, .int .i64 xb, .int .i64 xe] 132)).cell? ⟨N0 + 1, 0, none⟩ = some (.string Q) := cell_of (block_alloc _ y2) rfl
    have a2 : (w2.alloc (.cells #[.string P, .int .i64 xb, .int .i64 xe] 132)).cell? ⟨N0 + 1, 1, none⟩ = some (.int .i64 yb) := cell_of (block_alloc _ y2) rfl
    have a3 : (w2.alloc (.cells #[.string P, .int .i64 xb, .int .i64 xe] 132)).cell? ⟨N0 + 1, 2, none⟩ = some (.int .i64 ye) := cell_of (block_alloc _ y2) rfl
    have a4 : (w2.alloc (.cells #[.string P, .int .i64 xb, .int .i64 xe] 132)).cell? ⟨N0 + 1, 3, none⟩ = some (.slice A2 l2 c2) := cell_of (block_alloc _ y2) rfl
    have n2 := block_new w2 (.cells #[.string P, .int .i64 xb, .int .i64 xe] 132)
    rw [hG2] at n2
    have hb2' := hb2.trans ((below_box w2 (.cells #[.string P, .int .i64 xb, .int .i64 xe] 132)).mono hb2.size)
    have HB2 := Lib.hid hb2'
    have HN2 := Lib.hid n2
    have HG2 := Lib.hid hG2
    clear hb2 hb2' k2 y2 n2 hG2 d0 d1 d2 d3 hp1
    go_wp2_with fail
    rw [HG2.out]
    refine (HF2.out _).mono ?_
    rintro e w3 ⟨rfl, hb3⟩
    obtain ⟨G3, hG3⟩ : ∃ G, w3.heap.size = G := ⟨_, rfl⟩
    have m3 := block_below HN2.out hb3 (Array.getElem?_eq_some_iff.1 HN2.out).1
    have m4 := block_alloc (.cells #[.string Q, .int .i64 yb, .int .i64 ye] 132) m3
    have n3 := block_new w3 (.cells #[.string Q, .int .i64 yb, .int .i64 ye] 132)
    rw [hG3] at n3
    have e0 := cell_of (i := 0) m4 rfl
    have e1 := cell_of (i := 1) m4 rfl
    have e2 := cell_of (i := 2) m4 rfl
    have e3 := cell_of (i := 0) n3 rfl
    have e4 := cell_of (i := 1) n3 rfl
    have e5 := cell_of (i := 2) n3 rfl
    have hb4 := HB2.out.trans ((hb3.trans ((below_box w3 (.cells #[.string Q, .int .i64 yb, .int .i64 ye] 132)).mono hb3.size)).mono HB2.out.size)
    have HB4 := Lib.hid (HBX.out.trans (hb4.mono HBX.out.size))
    have HG3 := Lib.hid hG3
    clear hb3 hb4 m3 m4 n3 a0 a1 a2 a3 a4 hG3
    go_wp2_with fail
    rw [HG3.out]
    go_wp2_with fail
    go_ret
    exact ⟨rfl, HB4.out⟩

set_option maxRecDepth 100000 in
set_option maxHeartbeats 4000000 in
theorem equalFunc_Region {w : World} {v1 v2 : Value} {l m : List Ex} (hv : Rows 4 EEx w v1 l) (hm : Rows 4 EEx w v2 m) (hl : l.length ≤ maxLen) (hl2 : m.length ≤ maxLen) (hle : ∀ t ∈ l, t.ps.length ≤ maxLen) (hle2 : ∀ t ∈ m, t.ps.length ≤ maxLen) (P0 : Nat) (hP : P0 < w.heap.size) (hpc : w.cell? ⟨P0, 0, none⟩ = some (.func (.func 53) #[] #[])) :
    Calls Tryz.prog 109 #[v1, v2, .func (.func 110) #[] #[.pointer (some ⟨P0, 0, none⟩)]] w fun e w' => e = .returned (.bool (decide (l = m))) ∧ Below w.heap.size w w' := by
  obtain ⟨A, cap, rfl, hc⟩ := hv.form
  obtain ⟨A2, cap2, rfl, hc2⟩ := hm.form
  obtain ⟨n, hn⟩ : ∃ n, l.length = n := ⟨_, rfl⟩
  obtain ⟨n2, hn2⟩ : ∃ n, m.length = n := ⟨_, rfl⟩
  obtain ⟨q, hq⟩ : ∃ q, decide (l = m) = q := ⟨_, rfl⟩
  rw [hq]
  have HQ := Lib.hid hq
  clear hq
  have HV := Lib.hid (fun W (h : Below w.heap.size w W) => hv.below stays_ex h)
  have HM := Lib.hid (fun W (h : Below w.heap.size w W) => hm.below stays_ex h)
  rw [hn] at hc hl HV ⊢
  rw [hn2] at hc2 hl2 HM ⊢
  unfold maxLen at hl hl2
  have HN := Lib.hid hn
  have HN2 := Lib.hid hn2
  have HL := Lib.hid (And.intro hle hle2)
  have HKP := Lib.hid (fun W (h : Below w.heap.size w W) => And.intro (Nat.lt_of_lt_of_le hP h.size) ((h.cell (show (⟨P0, 0, none⟩ : Addr).block < w.heap.size from hP)).trans hpc))
  clear hle hle2 hP hpc
  clear hn hn2 hv hm
  by_cases he : n = n2
  · subst he
    go_enter Tryz.func109, Tryz.ntmps109
    go_wp2_with fail
    go_loopw [17] (fun i wr => ∃ k : Nat, k ≤ n ∧ i = .int .i64 k ∧ Hid (∀ (j : Nat) (x y : Ex), j < k → l[j]? = some x → m[j]? = some y → x = y) ∧ Below w.heap.size w wr) (fun i _ => n - (Go.RowKit.intOf i).toNat)
    case atStart => exact ⟨0, Nat.zero_le _, rfl, Lib.hid (fun j x y h => absurd h (by omega)), Below.refl _ _⟩
    case round =>
      obtain ⟨k, hk, rfl, hs, hb⟩ := hrel
      by_cases hlt : k < n
      · obtain ⟨x, hx⟩ : ∃ x, l[k]? = some x := ⟨_, List.getElem?_eq_getElem (by rw [HN.out]; exact hlt)⟩
        obtain ⟨y, hy⟩ : ∃ y, m[k]? = some y := ⟨_, List.getElem?_eq_getElem (by rw [HN2.out]; exact hlt)⟩
        obtain ⟨b1, o1, rfl, -, hj1⟩ := at_ex (HV.out wr hb) (by rw [HN.out]; omega)
        obtain ⟨b2, o2, rfl, -, hj2⟩ := at_ex (HM.out wr hb) (by rw [HN2.out]; omega)
        have HB := Lib.hid hb
        have k0 : (0 : Int) ≤ (k : Int) := by omega
        have k1 : (k : Int) < (n : Int) := by omega
        have HX := Lib.hid hx
        have HY := Lib.hid hy
        obtain ⟨t, ht⟩ : ∃ t, decide (x = y) = t := ⟨_, rfl⟩
        obtain ⟨u, ru, u0, u1, u2, u3⟩ := hj1 k x hx
        obtain ⟨v, rv, v0, v1, v2, v3⟩ := hj2 k y hy
        have hcl := fun W (h : Below wr.heap.size wr W) => closeRegion_any x y u v P0 (ru.below stays_pair h) (rv.below stays_pair h) (HL.out.1 x (List.mem_of_getElem? hx)) (HL.out.2 y (List.mem_of_getElem? hy)) (HKP.out W (hb.trans (h.mono hb.size))).1 (HKP.out W (hb.trans (h.mono hb.size))).2
        rw [ht] at hcl
        obtain ⟨Au, pu, rfl, -⟩ := ru.form
        obtain ⟨Bv, pv, rfl, -⟩ := rv.form
        obtain ⟨nu, hnu⟩ : ∃ n, x.ps.length = n := ⟨_, rfl⟩
        obtain ⟨nv, hnv⟩ : ∃ n, y.ps.length = n := ⟨_, rfl⟩
        obtain ⟨P, hP⟩ : ∃ s : ByteArray, (⟨x.name.toArray⟩ : ByteArray) = s := ⟨_, rfl⟩
        obtain ⟨Q, hQ⟩ : ∃ s : ByteArray, (⟨y.name.toArray⟩ : ByteArray) = s := ⟨_, rfl⟩
        obtain ⟨xb, hxb⟩ : ∃ z, x.b = z := ⟨_, rfl⟩
        obtain ⟨xe, hxe⟩ : ∃ z, x.e = z := ⟨_, rfl⟩
        obtain ⟨yb, hyb⟩ : ∃ z, y.b = z := ⟨_, rfl⟩
        obtain ⟨ye, hye⟩ : ∃ z, y.e = z := ⟨_, rfl⟩
        rw [hP] at u0
        rw [hxb] at u1
        rw [hxe] at u2
        rw [hnu] at u3
        rw [hQ] at v0
        rw [hyb] at v1
        rw [hye] at v2
        rw [hnv] at v3
        rw [hP, hQ, hxb, hxe, hyb, hye, hnu, hnv] at hcl
        have hb12 : Below wr.heap.size wr ((wr.alloc (.cells #[.string P, .int .i64 xb, .int .i64 xe, .slice Au nu pu] 67)).alloc (.cells #[.string Q, .int .i64 yb, .int .i64 ye, .slice Bv nv pv] 67)) := (below_box wr _).trans ((below_box _ _).mono (by simp))
        have v0' := Lib.cell?_alloc_some (.cells #[.string P, .int .i64 xb, .int .i64 xe, .slice Au nu pu] 67) v0
        have v1' := Lib.cell?_alloc_some (.cells #[.string P, .int .i64 xb, .int .i64 xe, .slice Au nu pu] 67) v1
        have v2' := Lib.cell?_alloc_some (.cells #[.string P, .int .i64 xb, .int .i64 xe, .slice Au nu pu] 67) v2
        have v3' := Lib.cell?_alloc_some (.cells #[.string P, .int .i64 xb, .int .i64 xe, .slice Au nu pu] 67) v3
        have q1 := block_alloc (.cells #[.string Q, .int .i64 yb, .int .i64 ye, .slice Bv nv pv] 67) (block_new wr (.cells #[.string P, .int .i64 xb, .int .i64 xe, .slice Au nu pu] 67))
        have q2 := block_new (wr.alloc (.cells #[.string P, .int .i64 xb, .int .i64 xe, .slice Au nu pu] 67)) (.cells #[.string Q, .int .i64 yb, .int .i64 ye, .slice Bv nv pv] 67)
        rw [alloc_sz] at q2
        have r0 := cell_of (i := 0) q1 rfl
        have r1 := cell_of (i := 1) q1 rfl
        have r2 := cell_of (i := 2) q1 rfl
        have r3 := cell_of (i := 3) q1 rfl
        have s0 := cell_of (i := 0) q2 rfl
        have s1 := cell_of (i := 1) q2 rfl
        have s2 := cell_of (i := 2) q2 rfl
        have s3 := cell_of (i := 3) q2 rfl
        have HC := Lib.hid (hcl _ hb12)
        have HB12 := Lib.hid hb12
        clear hj1 hj2 hx hy hb hcl ru rv hnu hnv hP hQ hxb hxe hyb hye hb12 v0 v1 v2 v3 q1 q2
        cases t with
        | true =>
          have hs' : Hid (∀ (j : Nat) (x y : Ex), j < k + 1 → l[j]? = some x → m[j]? = some y → x = y) := Lib.hid fun j x' y' hj h1 h2 => by
            by_cases e : j = k
            · subst e
              rw [HX.out] at h1
              rw [HY.out] at h2
              cases h1
              cases h2
              exact of_decide_eq_true ht
            · exact hs.out j x' y' (by omega) h1 h2
          clear hs ht HX HY HV HM HN HN2 HQ
          go_wp2_with fail
          refine HC.out.mono ?_
          rintro e w' ⟨rfl, hb'⟩
          have HB2 := Lib.hid (HB.out.trans ((HB12.out.trans (hb'.mono HB12.out.size)).mono HB.out.size))
          clear hb' u0 u1 u2 u3 v0' v1' v2' v3' r0 r1 r2 r3 s0 s1 s2 s3
          go_wp2_with fail
          exact ⟨⟨k + 1, by omega, by go_num, hs', HB2.out⟩, by simp only [Go.RowKit.intOf]; omega⟩
        | false =>
          have hlm : q = false := by
            rw [← HQ.out, decide_eq_false_iff_not]
            intro h
            have h1 := HX.out
            rw [h, HY.out] at h1
            exact of_decide_eq_false ht (Option.some.inj h1).symm
          subst hlm
          clear hs ht HX HY HV HM HN HN2 HQ
          go_wp2_with fail
          refine HC.out.mono ?_
          rintro e w' ⟨rfl, hb'⟩
          have HB2 := Lib.hid (HB.out.trans ((HB12.out.trans (hb'.mono HB12.out.size)).mono HB.out.size))
          clear hb' u0 u1 u2 u3 v0' v1' v2' v3' r0 r1 r2 r3 s0 s1 s2 s3
          go_wp2_with fail
          go_ret
          exact ⟨rfl, HB2.out⟩
      · have HB := Lib.hid hb
        obtain rfl : k = n := by omega
        have hlm : q = true := by
          rw [← HQ.out, decide_eq_true_iff]
          refine eq_at (by rw [HN.out, HN2.out]) fun j x y h1 h2 => hs.out j x y ?_ h1 h2
          have := (List.getElem?_eq_some_iff.1 h1).1
          rw [HN.out] at this
          exact this
        subst hlm
        clear hb
        go_wp2_with fail
        go_ret
        exact ⟨rfl, HB.out⟩
  · have hlm : q = false := by
      rw [← HQ.out, decide_eq_false_iff_not]
      intro h
      have h1 := HN.out
      rw [h, HN2.out] at h1
      exact he h1.symm
    have hne : ¬ ((n : Int) = (n2 : Int)) := by omega
    subst hlm
    clear he
    go_enter Tryz.func109, Tryz.ntmps109
    go_wp2_with fail
    go_ret
    exact ⟨rfl, Below.refl _ _⟩

set_option maxRecDepth 100000 in
set_option maxHeartbeats 4000000 in
theorem eeRegion_any {w : World} {v1 v2 : Value} {l m : List Ex} (hv : Rows 4 EEx w v1 l) (hm : Rows 4 EEx w v2 m) (hl : l.length ≤ maxLen) (hl2 : m.length ≤ maxLen) (hle : ∀ t ∈ l, t.ps.length ≤ maxLen) (hle2 : ∀ t ∈ m, t.ps.length ≤ maxLen) :
    Calls Tryz.prog 52 #[v1, v2, .func (.func 53) #[] #[]] w fun e w' => e = .returned (.bool (decide (l = m))) ∧ Below w.heap.size w w' := by
  have hb := below_box w (.cells #[.func (.func 53) #[] #[]] 91)
  have HE := Lib.hid (equalFunc_Region (hv.below stays_ex hb) (hm.below stays_ex hb) hl hl2 hle hle2 w.heap.size (by simp) (cell_of (block_new w _) rfl))
  have HB := Lib.hid hb
  obtain ⟨A, c1, rfl, -⟩ := hv.form
  obtain ⟨A2, c2, rfl, -⟩ := hm.form
  obtain ⟨l1, hl1⟩ : ∃ n, l.length = n := ⟨_, rfl⟩
  obtain ⟨l2, hl2'⟩ : ∃ n, m.length = n := ⟨_, rfl⟩
  obtain ⟨q, hq⟩ : ∃ z, decide (l = m) = z := ⟨_, rfl⟩
  rw [hl1, hl2', hq] at HE
  rw [hl1, hl2', hq]
  clear hv hm hl hl2 hle hle2 hl1 hl2' hq hb
  go_enter Tryz.func52, Tryz.ntmps52
  go_wp2_with fail
  refine HE.out.mono ?_
  rintro e w' ⟨rfl, hb'⟩
  have HB2 := Lib.hid (HB.out.trans (hb'.mono HB.out.size))
  clear hb'
  go_wp2_with fail
  go_ret
  exact ⟨rfl, HB2.out⟩

set_option maxRecDepth 1000000 in
set_option maxHeartbeats 16000000 in
theorem corpusEqual_any {w : World} (s1 s2 : Sv) {c d : Cor} (hC : CorAt w s1 c) (hD : CorAt w s2 d) (hl : LenC c) (hl2 : LenC d) (hh : c.heads.length ≤ maxLen) (hh2 : d.heads.length ≤ maxLen) :
    Calls Tryz.prog 21 #[.agg s1.arr, .agg s2.arr] w fun e w' => e = .returned (.bool (decide (c = d))) ∧ Below w.heap.size w w' := by
  obtain ⟨va, vt, vx, vr, vn, vh, vl⟩ := s1
  obtain ⟨ya, yt, yx, yr, yn, yh, yl⟩ := s2
  obtain ⟨A0, p0, h0, q0⟩ := hC.a.form
  obtain ⟨B0, r0, k0, t0⟩ := hD.a.form
  obtain ⟨A1, p1, h1, q1⟩ := hC.t.form
  obtain ⟨B1, r1, k1, t1⟩ := hD.t.form
  obtain ⟨A2, p2, h2, q2⟩ := hC.x.form
  obtain ⟨B2, r2, k2, t2⟩ := hD.x.form
  obtain ⟨A3, p3, h3, q3⟩ := hC.r.form
  obtain ⟨B3, r3, k3, t3⟩ := hD.r.form
  obtain ⟨A4, p4, h4, q4⟩ := hC.n.form
  obtain ⟨B4, r4, k4, t4⟩ := hD.n.form
  obtain ⟨A5, p5, h5, q5⟩ := hC.h.form
  obtain ⟨B5, r5, k5, t5⟩ := hD.h.form
  obtain ⟨A6, p6, h6, q6⟩ := hC.l.form
  obtain ⟨B6, r6, k6, t6⟩ := hD.l.form
  simp only at h0 k0 h1 k1 h2 k2 h3 k3 h4 k4 h5 k5 h6 k6
  subst h0 k0 h1 k1 h2 k2 h3 k3 h4 k4 h5 k5 h6 k6
  have ca0 := fun W (h : Below w.heap.size w W) => equal_attrs (hC.below h).a (hD.below h).a hl.a hl2.a
  have ca1 := fun W (h : Below w.heap.size w W) => equalFunc_tok (hC.below h).t (hD.below h).t hl.t.1 hl2.t.1 hl.t.2 hl2.t.2
  have ca2 := fun W (h : Below w.heap.size w W) => eeText_any (hC.below h).x (hD.below h).x hl.x.1 hl2.x.1 hl.x.2 hl2.x.2
  have ca3 := fun W (h : Below w.heap.size w W) => eeRegion_any (hC.below h).r (hD.below h).r hl.r.1 hl2.r.1 hl.r.2 hl2.r.2
  have ca4 := fun W (h : Below w.heap.size w W) => equal_nds (hC.below h).n (hD.below h).n hl.n hl2.n
  have ca5 := fun W (h : Below w.heap.size w W) => equal_ints (hC.below h).h (hD.below h).h hh hh2
  have ca6 := fun W (h : Below w.heap.size w W) => equal_strs (hC.below h).l (hD.below h).l hl.l hl2.l
  obtain ⟨n0, e0⟩ : ∃ n, c.attrs.length = n := ⟨_, rfl⟩
  obtain ⟨m0, g0⟩ : ∃ n, d.attrs.length = n := ⟨_, rfl⟩
  obtain ⟨b0, hb0⟩ : ∃ b, decide (c.attrs = d.attrs) = b := ⟨_, rfl⟩
  obtain ⟨n1, e1⟩ : ∃ n, c.toks.length = n := ⟨_, rfl⟩
  obtain ⟨m1, g1⟩ : ∃ n, d.toks.length = n := ⟨_, rfl⟩
  obtain ⟨b1, hb1⟩ : ∃ b, decide (c.toks = d.toks) = b := ⟨_, rfl⟩
  obtain ⟨n2, e2⟩ : ∃ n, c.texts.length = n := ⟨_, rfl⟩
  obtain ⟨m2, g2⟩ : ∃ n, d.texts.length = n := ⟨_, rfl⟩
  obtain ⟨b2, hb2⟩ : ∃ b, decide (c.texts = d.texts) = b := ⟨_, rfl⟩
  obtain ⟨n3, e3⟩ : ∃ n, c.regs.length = n := ⟨_, rfl⟩
  obtain ⟨m3, g3⟩ : ∃ n, d.regs.length = n := ⟨_, rfl⟩
  obtain ⟨b3, hb3⟩ : ∃ b, decide (c.regs = d.regs) = b := ⟨_, rfl⟩
  obtain ⟨n4, e4⟩ : ∃ n, c.nodes.length = n := ⟨_, rfl⟩
  obtain ⟨m4, g4⟩ : ∃ n, d.nodes.length = n := ⟨_, rfl⟩
  obtain ⟨b4, hb4⟩ : ∃ b, decide (c.nodes = d.nodes) = b := ⟨_, rfl⟩
  obtain ⟨n5, e5⟩ : ∃ n, c.heads.length = n := ⟨_, rfl⟩
  obtain ⟨m5, g5⟩ : ∃ n, d.heads.length = n := ⟨_, rfl⟩
  obtain ⟨b5, hb5⟩ : ∃ b, decide (c.heads = d.heads) = b := ⟨_, rfl⟩
  obtain ⟨n6, e6⟩ : ∃ n, c.rels.length = n := ⟨_, rfl⟩
  obtain ⟨m6, g6⟩ : ∃ n, d.rels.length = n := ⟨_, rfl⟩
  obtain ⟨b6, hb6⟩ : ∃ b, decide (c.rels = d.rels) = b := ⟨_, rfl⟩
  simp only [e0, g0, hb0] at ca0
  simp only [e1, g1, hb1] at ca1
  simp only [e2, g2, hb2] at ca2
  simp only [e3, g3, hb3] at ca3
  simp only [e4, g4, hb4] at ca4
  simp only [e5, g5, hb5] at ca5
  simp only [e6, g6, hb6] at ca6
  obtain ⟨q, hq⟩ : ∃ q, decide (c = d) = q := ⟨_, rfl⟩
  rw [hq]
  simp only [Sv.arr, e0, g0, e1, g1, e2, g2, e3, g3, e4, g4, e5, g5, e6, g6]
  have HQ := Lib.hid hq
  have HD0 := Lib.hid hb0
  have HD1 := Lib.hid hb1
  have HD2 := Lib.hid hb2
  have HD3 := Lib.hid hb3
  have HD4 := Lib.hid hb4
  have HD5 := Lib.hid hb5
  have HD6 := Lib.hid hb6
  obtain ⟨N0, hN0⟩ : ∃ N0, w.heap.size = N0 := ⟨_, rfl⟩
  obtain ⟨X, hX⟩ : ∃ X, (w.alloc (.cells #[.slice A0 n0 p0, .slice A1 n1 p1, .slice A2 n2 p2, .slice A3 n3 p3, .slice A4 n4 p4, .slice A5 n5 p5, .slice A6 n6 p6] 30)).alloc (.cells #[.slice B0 m0 r0, .slice B1 m1 r1, .slice B2 m2 r2, .slice B3 m3 r3, .slice B4 m4 r4, .slice B5 m5 r5, .slice B6 m6 r6] 30) = X := ⟨_, rfl⟩
  have hbX : Below w.heap.size w X := by rw [← hX]; exact (below_box w _).trans ((below_box _ _).mono (by simp))
  have x1 : X.heap[N0]? = some (.cells #[.slice A0 n0 p0, .slice A1 n1 p1, .slice A2 n2 p2, .slice A3 n3 p3, .slice A4 n4 p4, .slice A5 n5 p5, .slice A6 n6 p6] 30 (0, 0)) := by rw [← hX, ← hN0]; exact block_alloc _ (block_new w _)
  have x2 : X.heap[N0 + 1]? = some (.cells #[.slice B0 m0 r0, .slice B1 m1 r1, .slice B2 m2 r2, .slice B3 m3 r3, .slice B4 m4 r4, .slice B5 m5 r5, .slice B6 m6 r6] 30 (0, 0)) := by
    have := block_new (w.alloc (.cells #[.slice A0 n0 p0, .slice A1 n1 p1, .slice A2 n2 p2, .slice A3 n3 p3, .slice A4 n4 p4, .slice A5 n5 p5, .slice A6 n6 p6] 30)) (.cells #[.slice B0 m0 r0, .slice B1 m1 r1, .slice B2 m2 r2, .slice B3 m3 r3, .slice B4 m4 r4, .slice B5 m5 r5, .slice B6 m6 r6] 30)
    rw [alloc_sz, hN0] at this
    rw [← hX]
    exact this
  have HK := Lib.hid (fun W (h : Below X.heap.size X W) => And.intro (block_below x1 h (Array.getElem?_eq_some_iff.1 x1).1) (block_below x2 h (Array.getElem?_eq_some_iff.1 x2).1))
  have CA0 := Lib.hid (fun W (h : Below X.heap.size X W) => ca0 W (hbX.trans (h.mono hbX.size)))
  have CA1 := Lib.hid (fun W (h : Below X.heap.size X W) => ca1 W (hbX.trans (h.mono hbX.size)))
  have CA2 := Lib.hid (fun W (h : Below X.heap.size X W) => ca2 W (hbX.trans (h.mono hbX.size)))
  have CA3 := Lib.hid (fun W (h : Below X.heap.size X W) => ca3 W (hbX.trans (h.mono hbX.size)))
  have CA4 := Lib.hid (fun W (h : Below X.heap.size X W) => ca4 W (hbX.trans (h.mono hbX.size)))
  have CA5 := Lib.hid (fun W (h : Below X.heap.size X W) => ca5 W (hbX.trans (h.mono hbX.size)))
  have CA6 := Lib.hid (fun W (h : Below X.heap.size X W) => ca6 W (hbX.trans (h.mono hbX.size)))
  have u0 : X.cell? ⟨N0, 0, none⟩ = some (.slice A0 n0 p0) := cell_of x1 rfl
  have v0 : X.cell? ⟨N0 + 1, 0, none⟩ = some (.slice B0 m0 r0) := cell_of x2 rfl
  rw [← hX, ← hN0] at u0 v0
  have HX := Lib.hid hX
  have HN0 := Lib.hid hN0
  have HBX := Lib.hid hbX
  have HB := Lib.hid (Below.refl X.heap.size X)
  clear hX hN0 hbX x1 x2 hC hD hl hl2 hh hh2 hq ca0 hb0 e0 g0 q0 t0 ca1 hb1 e1 g1 q1 t1 ca2 hb2 e2 g2 q2 t2 ca3 hb3 e3 g3 q3 t3 ca4 hb4 e4 g4 q4 t4 ca5 hb5 e5 g5 q5 t5 ca6 hb6 e6 g6 q6 t6
  go_enter Tryz.func21, Tryz.ntmps21
  go_wp2_with fail
  rw [HX.out, HN0.out]
  refine (CA0.out _ HB.out).mono ?_
  rintro e w0 ⟨rfl, hb⟩
  have HB' := Lib.hid (HB.out.trans (hb.mono HB.out.size))
  clear HB
  have HB := HB'
  clear hb HB' u0 v0
  cases b0 with
  | false =>
    have hqf : q = false := by
      rw [← HQ.out, decide_eq_false_iff_not]
      intro h
      have h1 := HD0.out
      rw [decide_eq_false_iff_not] at h1
      exact h1 (congrArg Cor.attrs h)
    subst hqf
    go_wp2_with fail
    go_ret
    exact ⟨rfl, HBX.out.trans (HB.out.mono HBX.out.size)⟩
  | true =>
    have h2 := HK.out w0 HB.out
    have u1 : w0.cell? ⟨N0, 1, none⟩ = some (.slice A1 n1 p1) := cell_of h2.1 rfl
    have v1 : w0.cell? ⟨N0 + 1, 1, none⟩ = some (.slice B1 m1 r1) := cell_of h2.2 rfl
    clear h2
    go_wp2_with fail
    refine (CA1.out _ HB.out).mono ?_
    rintro e w1 ⟨rfl, hb⟩
    have HB' := Lib.hid (HB.out.trans (hb.mono HB.out.size))
    clear HB
    have HB := HB'
    clear hb HB' u1 v1
    cases b1 with
    | false =>
      have hqf : q = false := by
        rw [← HQ.out, decide_eq_false_iff_not]
        intro h
        have h1 := HD1.out
        rw [decide_eq_false_iff_not] at h1
        exact h1 (congrArg Cor.toks h)
      subst hqf
      go_wp2_with fail
      go_ret
      exact ⟨rfl, HBX.out.trans (HB.out.mono HBX.out.size)⟩
    | true =>
      have h2 := HK.out w1 HB.out
      have u2 : w1.cell? ⟨N0, 2, none⟩ = some (.slice A2 n2 p2) := cell_of h2.1 rfl
      have v2 : w1.cell? ⟨N0 + 1, 2, none⟩ = some (.slice B2 m2 r2) := cell_of h2.2 rfl
      clear h2
      go_wp2_with fail
      refine (CA2.out _ HB.out).mono ?_
      rintro e w2 ⟨rfl, hb⟩
      have HB' := Lib.hid (HB.out.trans (hb.mono HB.out.size))
      clear HB
      have HB := HB'
      clear hb HB' u2 v2
      cases b2 with
      | false =>
        have hqf : q = false := by
          rw [← HQ.out, decide_eq_false_iff_not]
          intro h
          have h1 := HD2.out
          rw [decide_eq_false_iff_not] at h1
          exact h1 (congrArg Cor.texts h)
        subst hqf
        go_wp2_with fail
        go_ret
        exact ⟨rfl, HBX.out.trans (HB.out.mono HBX.out.size)⟩
      | true =>
        have h2 := HK.out w2 HB.out
        have u3 : w2.cell? ⟨N0, 3, none⟩ = some (.slice A3 n3 p3) := cell_of h2.1 rfl
        have v3 : w2.cell? ⟨N0 + 1, 3, none⟩ = some (.slice B3 m3 r3) := cell_of h2.2 rfl
        clear h2
        go_wp2_with fail
        refine (CA3.out _ HB.out).mono ?_
        rintro e w3 ⟨rfl, hb⟩
        have HB' := Lib.hid (HB.out.trans (hb.mono HB.out.size))
        clear HB
        have HB := HB'
        clear hb HB' u3 v3
        cases b3 with
        | false =>
          have hqf : q = false := by
            rw [← HQ.out, decide_eq_false_iff_not]
            intro h
            have h1 := HD3.out
            rw [decide_eq_false_iff_not] at h1
            exact h1 (congrArg Cor.regs h)
          subst hqf
          go_wp2_with fail
          go_ret
          exact ⟨rfl, HBX.out.trans (HB.out.mono HBX.out.size)⟩
        | true =>
          have h2 := HK.out w3 HB.out
          have u4 : w3.cell? ⟨N0, 4, none⟩ = some (.slice A4 n4 p4) := cell_of h2.1 rfl
          have v4 : w3.cell? ⟨N0 + 1, 4, none⟩ = some (.slice B4 m4 r4) := cell_of h2.2 rfl
          clear h2
          go_wp2_with fail
          refine (CA4.out _ HB.out).mono ?_
          rintro e w4 ⟨rfl, hb⟩
          have HB' := Lib.hid (HB.out.trans (hb.mono HB.out.size))
          clear HB
          have HB := HB'
          clear hb HB' u4 v4
          cases b4 with
          | false =>
            have hqf : q = false := by
              rw [← HQ.out, decide_eq_false_iff_not]
              intro h
              have h1 := HD4.out
              rw [decide_eq_false_iff_not] at h1
              exact h1 (congrArg Cor.nodes h)
            subst hqf
            go_wp2_with fail
            go_ret
            exact ⟨rfl, HBX.out.trans (HB.out.mono HBX.out.size)⟩
          | true =>
            have h2 := HK.out w4 HB.out
            have u5 : w4.cell? ⟨N0, 5, none⟩ = some (.slice A5 n5 p5) := cell_of h2.1 rfl
            have v5 : w4.cell? ⟨N0 + 1, 5, none⟩ = some (.slice B5 m5 r5) := cell_of h2.2 rfl
            clear h2
            go_wp2_with fail
            refine (CA5.out _ HB.out).mono ?_
            rintro e w5 ⟨rfl, hb⟩
            have HB' := Lib.hid (HB.out.trans (hb.mono HB.out.size))
            clear HB
            have HB := HB'
            clear hb HB' u5 v5
            cases b5 with
            | false =>
              have hqf : q = false := by
                rw [← HQ.out, decide_eq_false_iff_not]
                intro h
                have h1 := HD5.out
                rw [decide_eq_false_iff_not] at h1
                exact h1 (congrArg Cor.heads h)
              subst hqf
              go_wp2_with fail
              go_ret
              exact ⟨rfl, HBX.out.trans (HB.out.mono HBX.out.size)⟩
            | true =>
              have h2 := HK.out w5 HB.out
              have u6 : w5.cell? ⟨N0, 6, none⟩ = some (.slice A6 n6 p6) := cell_of h2.1 rfl
              have v6 : w5.cell? ⟨N0 + 1, 6, none⟩ = some (.slice B6 m6 r6) := cell_of h2.2 rfl
              clear h2
              go_wp2_with fail
              refine (CA6.out _ HB.out).mono ?_
              rintro e w6 ⟨rfl, hb⟩
              have HB' := Lib.hid (HB.out.trans (hb.mono HB.out.size))
              clear HB
              have HB := HB'
              clear hb HB' u6 v6
              cases b6 with
              | false =>
                have hqf : q = false := by
                  rw [← HQ.out, decide_eq_false_iff_not]
                  intro h
                  have h1 := HD6.out
                  rw [decide_eq_false_iff_not] at h1
                  exact h1 (congrArg Cor.rels h)
                subst hqf
                go_wp2_with fail
                go_ret
                exact ⟨rfl, HBX.out.trans (HB.out.mono HBX.out.size)⟩
              | true =>
                have hqt : q = true := by
                  rw [← HQ.out, decide_eq_true_iff]
                  have i0 := of_decide_eq_true HD0.out
                  have i1 := of_decide_eq_true HD1.out
                  have i2 := of_decide_eq_true HD2.out
                  have i3 := of_decide_eq_true HD3.out
                  have i4 := of_decide_eq_true HD4.out
                  have i5 := of_decide_eq_true HD5.out
                  have i6 := of_decide_eq_true HD6.out
                  obtain ⟨a0, a1, a2, a3, a4, a5, a6⟩ := c
                  obtain ⟨z0, z1, z2, z3, z4, z5, z6⟩ := d
                  simp only at i0 i1 i2 i3 i4 i5 i6
                  subst i0 i1 i2 i3 i4 i5 i6
                  rfl
                subst hqt
                go_wp2_with fail
                go_ret
                exact ⟨rfl, HBX.out.trans (HB.out.mono HBX.out.size)⟩
end Go.Proofs.YtfcnihmfmbmmjaaGreat
