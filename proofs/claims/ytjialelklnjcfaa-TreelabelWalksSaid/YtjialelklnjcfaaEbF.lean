/-
  WALKS over package treelabel, sixth part: slices.Equal at labels; the laws' helpers ints and equal.
-/
import Derived.Test.YtjialelklnjcfaaEbE
namespace Go.Proofs.Ytjialelklnjcfaa
open Go Go.RowKit Go.Shelf Go.Lib
set_option linter.unusedVariables false
set_option linter.unusedSimpArgs false
attribute [local go_sem] Oper.semAt_some

set_option maxRecDepth 100000 in
set_option maxHeartbeats 4000000 in
theorem ints_any {w : World} {v u : Value} {h g : List Int} (hv : Rows 1 EInt w v h) (hu : Rows 1 EInt w u g) (hl : h.length ≤ maxLen) (hl2 : g.length ≤ maxLen) :
    Calls Try.prog 18 #[v, u] w fun e w' => e = .returned (.bool (decide (h = g))) ∧ Below w.heap.size w w' := by
  obtain ⟨A, cap, rfl, hc⟩ := hv.form
  obtain ⟨A2, cap2, rfl, hc2⟩ := hu.form
  obtain ⟨n, hn⟩ : ∃ n, h.length = n := ⟨_, rfl⟩
  obtain ⟨n2, hn2⟩ : ∃ n, g.length = n := ⟨_, rfl⟩
  obtain ⟨q, hq⟩ : ∃ q, decide (h = g) = q := ⟨_, rfl⟩
  have hqq : q = true ↔ h = g := by rw [← hq, decide_eq_true_iff]
  rw [hq]
  have HV := Lib.hid (fun W (hb : Below w.heap.size w W) => hv.below stays_int hb)
  have HU := Lib.hid (fun W (hb : Below w.heap.size w W) => hu.below stays_int hb)
  have HQ := Lib.hid hqq
  rw [hn] at hc hl HV ⊢
  rw [hn2] at hc2 hl2 HU ⊢
  unfold maxLen at hl hl2
  have HN := Lib.hid hn
  have HN2 := Lib.hid hn2
  clear hv hu hn hn2 hq hqq
  by_cases hnn : n = n2
  · subst hnn
    go_enter Try.func18, Try.ntmps18
    go_wp2_with fail
    go_loopw [13] (fun m wr => ∃ k : Nat, k ≤ n ∧ m = .int .i64 k ∧ Hid (∀ (j : Nat), j < k → h[j]? = g[j]?) ∧ Below w.heap.size w wr) (fun m _ => n - (Go.RowKit.intOf m).toNat)
    case atStart => exact ⟨0, Nat.zero_le _, rfl, Lib.hid (fun j h => absurd h (by omega)), Below.refl _ _⟩
    case round =>
      obtain ⟨k, hk, rfl, hno, hb⟩ := hrel
      by_cases hlt : k < n
      · obtain ⟨x, hx⟩ : ∃ x, h[k]? = some x := ⟨_, List.getElem?_eq_getElem (by rw [HN.out]; exact hlt)⟩
        obtain ⟨y, hy⟩ : ∃ x, g[k]? = some x := ⟨_, List.getElem?_eq_getElem (by rw [HN2.out]; exact hlt)⟩
        obtain ⟨b1, o1, rfl, -, hj1⟩ := at_int (HV.out wr hb) (by rw [HN.out]; omega)
        obtain ⟨b2, o2, rfl, -, hj2⟩ := at_int (HU.out wr hb) (by rw [HN2.out]; omega)
        have u0 := hj1 k x hx
        have u1 := hj2 k y hy
        have HB := Lib.hid hb
        have HX := Lib.hid hx
        have HY := Lib.hid hy
        have k0 : (0 : Int) ≤ (k : Int) := by omega
        have kn : (k : Int) < (n : Int) := by omega
        clear hj1 hj2 hx hy hb
        go_wp2_with fail
        go_quiet (fail)
        obtain ⟨w3, hw3⟩ : ∃ X, wr.drewN nq = X := ⟨_, rfl⟩
        rw [hw3]
        have HB3 := Lib.hid (show Below w.heap.size w w3 by rw [← hw3]; exact below_drewN HB.out nq)
        clear hw3
        by_cases hxy : x = y
        · subst hxy
          have hno' : Hid (∀ (j : Nat), j < k + 1 → h[j]? = g[j]?) := Lib.hid fun j hj => by
            by_cases e : j = k
            · subst e; rw [HX.out, HY.out]
            · exact hno.out j (by omega)
          have hxb : (x != x) = false := by simp
          go_wp2_with fail
          exact ⟨⟨k + 1, by omega, by go_num, hno', HB3.out⟩, by simp only [Go.RowKit.intOf]; omega⟩
        · have hqf : q = false := by
            rw [← Bool.not_eq_true]
            intro hq
            have := HQ.out.1 hq
            subst this
            rw [HX.out] at HY
            exact hxy (Option.some.inj HY.out)
          subst hqf
          have hxb : (x != y) = true := by simp [hxy]
          go_wp2_with fail
          go_ret
          exact ⟨rfl, HB3.out⟩
      · obtain rfl : k = n := by omega
        have hqt : q = true := HQ.out.2 (List.ext_getElem? fun j => by
          by_cases hj : j < k
          · exact hno.out j hj
          · rw [List.getElem?_eq_none (by rw [HN.out]; omega), List.getElem?_eq_none (by rw [HN2.out]; omega)])
        subst hqt
        have HB := Lib.hid hb
        clear hb
        go_wp2_with fail
        go_ret
        exact ⟨rfl, HB.out⟩
  · have hqf : q = false := by
      rw [← Bool.not_eq_true]
      intro hq
      have := HQ.out.1 hq
      exact hnn (by rw [← HN.out, ← HN2.out, this])
    subst hqf
    have hb : ((n : Int) != (n2 : Int)) = true := by simp; omega
    go_enter Try.func18, Try.ntmps18
    go_wp2_with fail
    go_ret
    exact ⟨rfl, Below.refl _ _⟩

set_option maxRecDepth 100000 in
set_option maxHeartbeats 4000000 in
theorem eqLab_any {w : World} {v u : Value} {h g : List Lb} (hv : Rows 3 ELb w v h) (hu : Rows 3 ELb w u g) (hl : h.length ≤ maxLen) (hl2 : g.length ≤ maxLen) :
    Calls Try.prog 36 #[v, u] w fun e w' => e = .returned (.bool (decide (h = g))) ∧ Below w.heap.size w w' := by
  obtain ⟨A, cap, rfl, hc⟩ := hv.form
  obtain ⟨A2, cap2, rfl, hc2⟩ := hu.form
  obtain ⟨n, hn⟩ : ∃ n, h.length = n := ⟨_, rfl⟩
  obtain ⟨n2, hn2⟩ : ∃ n, g.length = n := ⟨_, rfl⟩
  obtain ⟨q, hq⟩ : ∃ q, decide (h = g) = q := ⟨_, rfl⟩
  have hqq : q = true ↔ h = g := by rw [← hq, decide_eq_true_iff]
  rw [hq]
  have HV := Lib.hid (fun W (hb : Below w.heap.size w W) => hv.below stays_lb hb)
  have HU := Lib.hid (fun W (hb : Below w.heap.size w W) => hu.below stays_lb hb)
  have HQ := Lib.hid hqq
  rw [hn] at hc hl HV ⊢
  rw [hn2] at hc2 hl2 HU ⊢
  unfold maxLen at hl hl2
  have HN := Lib.hid hn
  have HN2 := Lib.hid hn2
  clear hv hu hn hn2 hq hqq
  by_cases hnn : n = n2
  · subst hnn
    go_enter Try.func36, Try.ntmps36
    go_wp2_with fail
    go_loopw [13] (fun m wr => ∃ k : Nat, k ≤ n ∧ m = .int .i64 k ∧ Hid (∀ (j : Nat), j < k → h[j]? = g[j]?) ∧ Below w.heap.size w wr) (fun m _ => n - (Go.RowKit.intOf m).toNat)
    case atStart => exact ⟨0, Nat.zero_le _, rfl, Lib.hid (fun j h => absurd h (by omega)), Below.refl _ _⟩
    case round =>
      obtain ⟨k, hk, rfl, hno, hb⟩ := hrel
      by_cases hlt : k < n
      · obtain ⟨x, hx⟩ : ∃ x, h[k]? = some x := ⟨_, List.getElem?_eq_getElem (by rw [HN.out]; exact hlt)⟩
        obtain ⟨y, hy⟩ : ∃ x, g[k]? = some x := ⟨_, List.getElem?_eq_getElem (by rw [HN2.out]; exact hlt)⟩
        obtain ⟨b1, o1, rfl, -, hj1⟩ := at_lb (HV.out wr hb) (by rw [HN.out]; omega)
        obtain ⟨b2, o2, rfl, -, hj2⟩ := at_lb (HU.out wr hb) (by rw [HN2.out]; omega)
        obtain ⟨x1, x2, x3⟩ := x
        obtain ⟨y1, y2, y3⟩ := y
        obtain ⟨u0, u1, u2⟩ := hj1 k _ hx
        obtain ⟨s0, s1, s2⟩ := hj2 k _ hy
        simp only at u0 u1 u2 s0 s1 s2
        have HB := Lib.hid hb
        have HX := Lib.hid hx
        have HY := Lib.hid hy
        have k0 : (0 : Int) ≤ (k : Int) := by omega
        have kn : (k : Int) < (n : Int) := by omega
        clear hj1 hj2 hx hy hb
        have key : (x1, x2, x3) ≠ (y1, y2, y3) → q = false := fun hne => by
          rw [← Bool.not_eq_true]
          intro hq
          have := HQ.out.1 hq
          subst this
          rw [HX.out] at HY
          exact hne (Option.some.inj HY.out)
        by_cases e1 : x1 = y1
        · subst e1
          by_cases e2 : x2 = y2
          · subst e2
            by_cases e3 : x3 = y3
            · subst e3
              have hno' : Hid (∀ (j : Nat), j < k + 1 → h[j]? = g[j]?) := Lib.hid fun j hj => by
                by_cases e : j = k
                · subst e; rw [HX.out, HY.out]
                · exact hno.out j (by omega)
              clear key
              go_wp2_with fail
              go_quiet (fail)
              obtain ⟨w3, hw3⟩ : ∃ X, wr.drewN nq = X := ⟨_, rfl⟩
              rw [hw3]
              have HB3 := Lib.hid (show Below w.heap.size w w3 by rw [← hw3]; exact below_drewN HB.out nq)
              clear hw3 u0 u1 u2 s0 s1 s2
              go_wp2_with fail
              exact ⟨⟨k + 1, by omega, by go_num, hno', HB3.out⟩, by simp only [Go.RowKit.intOf]; omega⟩
            · obtain rfl := key (by simp [e3])
              clear key
              go_wp2_with fail
              go_quiet (fail)
              obtain ⟨w3, hw3⟩ : ∃ X, wr.drewN nq = X := ⟨_, rfl⟩
              rw [hw3]
              have HB3 := Lib.hid (show Below w.heap.size w w3 by rw [← hw3]; exact below_drewN HB.out nq)
              clear hw3 u0 u1 u2 s0 s1 s2
              go_wp2_with fail
              go_ret
              exact ⟨rfl, HB3.out⟩
          · obtain rfl := key (by simp [e2])
            clear key
            go_wp2_with fail
            go_quiet (fail)
            obtain ⟨w3, hw3⟩ : ∃ X, wr.drewN nq = X := ⟨_, rfl⟩
            rw [hw3]
            have HB3 := Lib.hid (show Below w.heap.size w w3 by rw [← hw3]; exact below_drewN HB.out nq)
            clear hw3 u0 u1 u2 s0 s1 s2
            go_wp2_with fail
            go_ret
            exact ⟨rfl, HB3.out⟩
        · obtain rfl := key (by simp [e1])
          clear key
          go_wp2_with fail
          go_quiet (fail)
          obtain ⟨w3, hw3⟩ : ∃ X, wr.drewN nq = X := ⟨_, rfl⟩
          rw [hw3]
          have HB3 := Lib.hid (show Below w.heap.size w w3 by rw [← hw3]; exact below_drewN HB.out nq)
          clear hw3 u0 u1 u2 s0 s1 s2
          go_wp2_with fail
          go_ret
          exact ⟨rfl, HB3.out⟩
      · obtain rfl : k = n := by omega
        have hqt : q = true := HQ.out.2 (List.ext_getElem? fun j => by
          by_cases hj : j < k
          · exact hno.out j hj
          · rw [List.getElem?_eq_none (by rw [HN.out]; omega), List.getElem?_eq_none (by rw [HN2.out]; omega)])
        subst hqt
        have HB := Lib.hid hb
        clear hb
        go_wp2_with fail
        go_ret
        exact ⟨rfl, HB.out⟩
  · have hqf : q = false := by
      rw [← Bool.not_eq_true]
      intro hq
      have := HQ.out.1 hq
      exact hnn (by rw [← HN.out, ← HN2.out, this])
    subst hqf
    have hb : ((n : Int) != (n2 : Int)) = true := by simp; omega
    go_enter Try.func36, Try.ntmps36
    go_wp2_with fail
    go_ret
    exact ⟨rfl, Below.refl _ _⟩

set_option maxRecDepth 100000 in
set_option maxHeartbeats 4000000 in
theorem lawEqual_any {w : World} {v u : Value} {h g : List Lb} (hv : Rows 3 ELb w v h) (hu : Rows 3 ELb w u g) (hl : h.length ≤ maxLen) (hl2 : g.length ≤ maxLen) :
    Calls Try.prog 13 #[v, u] w fun e w' => e = .returned (.bool (decide (h = g))) ∧ Below w.heap.size w w' := by
  obtain ⟨A, cap, rfl, hc⟩ := hv.form
  obtain ⟨A2, cap2, rfl, hc2⟩ := hu.form
  obtain ⟨n, hn⟩ : ∃ n, h.length = n := ⟨_, rfl⟩
  obtain ⟨n2, hn2⟩ : ∃ n, g.length = n := ⟨_, rfl⟩
  obtain ⟨q, hq⟩ : ∃ q, decide (h = g) = q := ⟨_, rfl⟩
  have hqq : q = true ↔ h = g := by rw [← hq, decide_eq_true_iff]
  rw [hq]
  have HV := Lib.hid (fun W (hb : Below w.heap.size w W) => hv.below stays_lb hb)
  have HU := Lib.hid (fun W (hb : Below w.heap.size w W) => hu.below stays_lb hb)
  have HQ := Lib.hid hqq
  rw [hn] at hc hl HV ⊢
  rw [hn2] at hc2 hl2 HU ⊢
  unfold maxLen at hl hl2
  have HN := Lib.hid hn
  have HN2 := Lib.hid hn2
  clear hv hu hn hn2 hq hqq
  by_cases hnn : n = n2
  · subst hnn
    go_enter Try.func13, Try.ntmps13
    go_wp2_with fail
    go_loopw [13] (fun m wr => ∃ k : Nat, k ≤ n ∧ m = .int .i64 k ∧ Hid (∀ (j : Nat), j < k → h[j]? = g[j]?) ∧ Below w.heap.size w wr) (fun m _ => n - (Go.RowKit.intOf m).toNat)
    case atStart => exact ⟨0, Nat.zero_le _, rfl, Lib.hid (fun j h => absurd h (by omega)), Below.refl _ _⟩
    case round =>
      obtain ⟨k, hk, rfl, hno, hb⟩ := hrel
      by_cases hlt : k < n
      · obtain ⟨x, hx⟩ : ∃ x, h[k]? = some x := ⟨_, List.getElem?_eq_getElem (by rw [HN.out]; exact hlt)⟩
        obtain ⟨y, hy⟩ : ∃ x, g[k]? = some x := ⟨_, List.getElem?_eq_getElem (by rw [HN2.out]; exact hlt)⟩
        obtain ⟨b1, o1, rfl, -, hj1⟩ := at_lb (HV.out wr hb) (by rw [HN.out]; omega)
        obtain ⟨b2, o2, rfl, -, hj2⟩ := at_lb (HU.out wr hb) (by rw [HN2.out]; omega)
        obtain ⟨x1, x2, x3⟩ := x
        obtain ⟨y1, y2, y3⟩ := y
        obtain ⟨u0, u1, u2⟩ := hj1 k _ hx
        obtain ⟨s0, s1, s2⟩ := hj2 k _ hy
        simp only at u0 u1 u2 s0 s1 s2
        have HB := Lib.hid hb
        have HX := Lib.hid hx
        have HY := Lib.hid hy
        have k0 : (0 : Int) ≤ (k : Int) := by omega
        have kn : (k : Int) < (n : Int) := by omega
        clear hj1 hj2 hx hy hb
        have key : (x1, x2, x3) ≠ (y1, y2, y3) → q = false := fun hne => by
          rw [← Bool.not_eq_true]
          intro hq
          have := HQ.out.1 hq
          subst this
          rw [HX.out] at HY
          exact hne (Option.some.inj HY.out)
        by_cases e1 : x1 = y1
        · subst e1
          by_cases e2 : x2 = y2
          · subst e2
            by_cases e3 : x3 = y3
            · subst e3
              have hno' : Hid (∀ (j : Nat), j < k + 1 → h[j]? = g[j]?) := Lib.hid fun j hj => by
                by_cases e : j = k
                · subst e; rw [HX.out, HY.out]
                · exact hno.out j (by omega)
              clear key
              go_wp2_with fail
              go_quiet (fail)
              obtain ⟨w3, hw3⟩ : ∃ X, wr.drewN nq = X := ⟨_, rfl⟩
              rw [hw3]
              have HB3 := Lib.hid (show Below w.heap.size w w3 by rw [← hw3]; exact below_drewN HB.out nq)
              clear hw3 u0 u1 u2 s0 s1 s2
              go_wp2_with fail
              exact ⟨⟨k + 1, by omega, by go_num, hno', HB3.out⟩, by simp only [Go.RowKit.intOf]; omega⟩
            · obtain rfl := key (by simp [e3])
              clear key
              go_wp2_with fail
              go_quiet (fail)
              obtain ⟨w3, hw3⟩ : ∃ X, wr.drewN nq = X := ⟨_, rfl⟩
              rw [hw3]
              have HB3 := Lib.hid (show Below w.heap.size w w3 by rw [← hw3]; exact below_drewN HB.out nq)
              clear hw3 u0 u1 u2 s0 s1 s2
              go_wp2_with fail
              go_ret
              exact ⟨rfl, HB3.out⟩
          · obtain rfl := key (by simp [e2])
            clear key
            go_wp2_with fail
            go_quiet (fail)
            obtain ⟨w3, hw3⟩ : ∃ X, wr.drewN nq = X := ⟨_, rfl⟩
            rw [hw3]
            have HB3 := Lib.hid (show Below w.heap.size w w3 by rw [← hw3]; exact below_drewN HB.out nq)
            clear hw3 u0 u1 u2 s0 s1 s2
            go_wp2_with fail
            go_ret
            exact ⟨rfl, HB3.out⟩
        · obtain rfl := key (by simp [e1])
          clear key
          go_wp2_with fail
          go_quiet (fail)
          obtain ⟨w3, hw3⟩ : ∃ X, wr.drewN nq = X := ⟨_, rfl⟩
          rw [hw3]
          have HB3 := Lib.hid (show Below w.heap.size w w3 by rw [← hw3]; exact below_drewN HB.out nq)
          clear hw3 u0 u1 u2 s0 s1 s2
          go_wp2_with fail
          go_ret
          exact ⟨rfl, HB3.out⟩
      · obtain rfl : k = n := by omega
        have hqt : q = true := HQ.out.2 (List.ext_getElem? fun j => by
          by_cases hj : j < k
          · exact hno.out j hj
          · rw [List.getElem?_eq_none (by rw [HN.out]; omega), List.getElem?_eq_none (by rw [HN2.out]; omega)])
        subst hqt
        have HB := Lib.hid hb
        clear hb
        go_wp2_with fail
        go_ret
        exact ⟨rfl, HB.out⟩
  · have hqf : q = false := by
      rw [← Bool.not_eq_true]
      intro hq
      have := HQ.out.1 hq
      exact hnn (by rw [← HN.out, ← HN2.out, this])
    subst hqf
    have hb : ((n : Int) != (n2 : Int)) = true := by simp; omega
    go_enter Try.func13, Try.ntmps13
    go_wp2_with fail
    go_ret
    exact ⟨rfl, Below.refl _ _⟩

end Go.Proofs.Ytjialelklnjcfaa
