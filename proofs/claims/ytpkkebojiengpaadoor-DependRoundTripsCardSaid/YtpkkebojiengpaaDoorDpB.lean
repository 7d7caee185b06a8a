/-
  WALKS over the reference of depend: SameStrings; rows of strings of the call's own.
-/
import Derived.Test.YtpkkebojiengpaaDoorDcB
namespace Go.Proofs.YtpkkebojiengpaaDoor
open Go Go.RowKit Go.Shelf Go.Lib
set_option linter.unusedVariables false
attribute [local go_sem] Oper.semAt_some

theorem own_rowsS {w : World} {base : Nat} {v : Value} {xs : Fs} (h : w.ownsRow base 9 1 v xs.length (strsV xs)) : Rows 1 EStr w v xs := by
  exact rows_of_own (enc := fun x => [strV x]) (fun _ => rfl) (by rw [show xs.flatMap (fun x => [strV x]) = strsV xs from by unfold strsV; clear h; induction xs with | nil => rfl | cons a l ih => simp [List.flatMap_cons, ih]]; exact h)
set_option maxRecDepth 100000 in
set_option maxHeartbeats 4000000 in
theorem sameStrs_any {w : World} {v u : Value} {h g : Fs} (hv : Rows 1 EStr w v h) (hu : Rows 1 EStr w u g) (hl : h.length ≤ maxLen) (hl2 : g.length ≤ maxLen) :
    Calls Tryd.prog 8 #[v, u] w fun e w' => e = .returned (.bool (decide (h = g))) ∧ Below w.heap.size w w' := by
  obtain ⟨A, cap, rfl, hc⟩ := hv.form
  obtain ⟨A2, cap2, rfl, hc2⟩ := hu.form
  obtain ⟨n, hn⟩ : ∃ n, h.length = n := ⟨_, rfl⟩
  obtain ⟨n2, hn2⟩ : ∃ n, g.length = n := ⟨_, rfl⟩
  obtain ⟨q, hq⟩ : ∃ q, decide (h = g) = q := ⟨_, rfl⟩
  have hqq : q = true ↔ h = g := by rw [← hq, decide_eq_true_iff]
  rw [hq]
  have HV := Lib.hid (fun W (hb : Below w.heap.size w W) => hv.below stays_str hb)
  have HU := Lib.hid (fun W (hb : Below w.heap.size w W) => hu.below stays_str hb)
  have HQ := Lib.hid hqq
  rw [hn] at hc hl HV ⊢
  rw [hn2] at hc2 hl2 HU ⊢
  unfold maxLen at hl hl2
  have HN := Lib.hid hn
  have HN2 := Lib.hid hn2
  clear hv hu hn hn2 hq hqq
  by_cases hnn : n = n2
  · subst hnn
    go_enter Tryd.func8, Tryd.ntmps8
    go_wp2_with fail
    go_loopw [13] (fun m wr => ∃ k : Nat, k ≤ n ∧ m = .int .i64 k ∧ Hid (∀ (j : Nat), j < k → h[j]? = g[j]?) ∧ Below w.heap.size w wr) (fun m _ => n - (Go.RowKit.intOf m).toNat)
    case atStart => exact ⟨0, Nat.zero_le _, rfl, Lib.hid (fun j h => absurd h (by omega)), Below.refl _ _⟩
    case round =>
      obtain ⟨k, hk, rfl, hno, hb⟩ := hrel
      by_cases hlt : k < n
      · obtain ⟨x, hx⟩ : ∃ x, h[k]? = some x := ⟨_, List.getElem?_eq_getElem (by rw [HN.out]; exact hlt)⟩
        obtain ⟨y, hy⟩ : ∃ x, g[k]? = some x := ⟨_, List.getElem?_eq_getElem (by rw [HN2.out]; exact hlt)⟩
        obtain ⟨b1, o1, rfl, -, hj1⟩ := at_str (HV.out wr hb) (by rw [HN.out]; omega)
        obtain ⟨b2, o2, rfl, -, hj2⟩ := at_str (HU.out wr hb) (by rw [HN2.out]; omega)
        have u0 := hj1 k x hx
        have u1 := hj2 k y hy
        have HB := Lib.hid hb
        have HX := Lib.hid hx
        have HY2 := Lib.hid hy
        obtain ⟨X, hX⟩ : ∃ X : ByteArray, (⟨x.toArray⟩ : ByteArray) = X := ⟨_, rfl⟩
        obtain ⟨Y, hY⟩ : ∃ X : ByteArray, (⟨y.toArray⟩ : ByteArray) = X := ⟨_, rfl⟩
        have hXl : X.toList = x := by rw [← hX, Lib.toList_data]
        have hYl : Y.toList = y := by rw [← hY, Lib.toList_data]
        have hXd : X.data.toList = x := by rw [← hX]
        have hYd : Y.data.toList = y := by rw [← hY]
        rw [hX] at u0
        rw [hY] at u1
        have HXY := Lib.hid (And.intro hX (And.intro hY (And.intro hXl (And.intro hYl (And.intro hXd hYd)))))
        clear hX hY hXl hYl hXd hYd
        obtain ⟨bq, hbq⟩ : ∃ b, (X.toList == Y.toList) = b := ⟨_, rfl⟩
        have HBQ := Lib.hid (show bq = true ↔ x = y by rw [← hbq, HXY.out.2.2.1, HXY.out.2.2.2.1]; simp)
        have k0 : (0 : Int) ≤ (k : Int) := by omega
        have kn : (k : Int) < (n : Int) := by omega
        clear hj1 hj2 hx hy hb
        go_wp2_with fail
        go_quiet (fail)
        obtain ⟨w3, hw3⟩ : ∃ X, wr.drewN nq = X := ⟨_, rfl⟩
        rw [hw3]
        have HB3 := Lib.hid (show Below w.heap.size w w3 by rw [← hw3]; exact below_drewN HB.out nq)
        clear hw3
        clear hbq
        cases bq with
        | true =>
          have hxy := HBQ.out.1 rfl
          have hno' : Hid (∀ (j : Nat), j < k + 1 → h[j]? = g[j]?) := Lib.hid fun j hj => by
            by_cases e : j = k
            · subst e; rw [HX.out, HY2.out, hxy]
            · exact hno.out j (by omega)
          clear hxy
          go_wp2_with fail
          exact ⟨⟨k + 1, by omega, by go_num, hno', HB3.out⟩, by simp only [Go.RowKit.intOf]; omega⟩
        | false =>
          have hqf : q = false := by
            rw [← Bool.not_eq_true]
            intro hq
            have := HQ.out.1 hq
            subst this
            rw [HX.out] at HY2
            have := HBQ.out.2 (Option.some.inj HY2.out)
            cases this
          subst hqf
          go_wp2_with fail
          go_ret
          exact ⟨rfl, HB3.out⟩
      · obtain rfl : k = n := by omega
        have hqt : q = true := HQ.out.2 (List.ext_getElem? fun j => by
          by_cases hj : j < k
          · exact hno.out j hj
          · rw [List.getElem?_eq_none (by rw [HN.out]; omega), List.getElem?_eq_none (by rw [HN2.out]; omega)])
        subst hqt
        have HB := Lib.hid hb
        clear hb
        go_wp2_with fail
        go_ret
        exact ⟨rfl, HB.out⟩
  · have hqf : q = false := by
      rw [← Bool.not_eq_true]
      intro hq
      have := HQ.out.1 hq
      exact hnn (by rw [← HN.out, ← HN2.out, this])
    subst hqf
    have hb : ((n : Int) != (n2 : Int)) = true := by simp; omega
    go_enter Tryd.func8, Tryd.ntmps8
    go_wp2_with fail
    go_ret
    exact ⟨rfl, Below.refl _ _⟩
end Go.Proofs.YtpkkebojiengpaaDoor
