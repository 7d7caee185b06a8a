/-
 WALKS over the reference of corpus: samePairs, sameAttributes.
-/
import Derived.Test.YtebmfkkkhmjkoaaGreatQaR
import Derived.Test.YtebmfkkkhmjkoaaGreatQcZ
import Derived.BigQuiet
import Derived.Deep.QuietTactic
namespace Go.Proofs.YtebmfkkkhmjkoaaGreat
open Go.RowKit Go.Shelf Go.Lib

theorem eq_at {α : Type} {l m : List α} (hl : l.length = m.length) (h : ∀ (j : Nat) (x y : α), l[j]? = some x → m[j]? = some y → x = y) : l = m := by
 refine List.ext_getElem? fun j => ?_
 by_cases hj : j < l.length
 · have h1 := List.getElem?_eq_getElem hj
   have h2 := List.getElem?_eq_getElem (hl ▸ hj : j < m.length)
   rw [h1, h2, h j _ _ h1 h2]
 rw [List.getElem?_eq_none (by omega), List.getElem?_eq_none (by omega)]

set_option maxRecDepth 100000 in
set_option maxHeartbeats 4000000 in
theorem samePairs_any {w : World} {v1 v2 : Value} {l m : List (Bs × Bs)} (hv : Rows 2 EPair w v1 l) (hm : Rows 2 EPair w v2 m) (hl : l.length ≤ maxLen) (hl2 : m.length ≤ maxLen) :
 Calls Tryz.prog 25 #[v1, v2] w fun e w' => e = .returned (.bool (decide (l = m))) ∧ Below w.heap.size w w' := by
 obtain ⟨A, cap, rfl, hc⟩ := hv.form
 obtain ⟨A2, cap2, rfl, hc2⟩ := hm.form
 obtain ⟨n, hn⟩ : ∃ n, l.length = n := ⟨_, rfl⟩
 obtain ⟨n2, hn2⟩ : ∃ n, m.length = n := ⟨_, rfl⟩
 obtain ⟨q, hq⟩ : ∃ q, decide (l = m) = q := ⟨_, rfl⟩
 rw [hq]
 have HQ := Lib.hid hq
 clear hq
 have HV := Lib.hid (fun W (h : Below w.heap.size w W) => hv.below stays_pair h)
 have HM := Lib.hid (fun W (h : Below w.heap.size w W) => hm.below stays_pair h)
 rw [hn] at hc hl HV ⊢
 rw [hn2] at hc2 hl2 HM ⊢
 unfold maxLen at hl hl2
 have HN := Lib.hid hn
 have HN2 := Lib.hid hn2
 clear hn hn2 hv hm
 by_cases he : n = n2
 ·
  subst he
  go_enter Tryz.func25, Tryz.ntmps25
  go_wp2_with fail
  go_loopw [13] (fun i wr => ∃ k : Nat, k ≤ n ∧ i = .int .i64 k ∧ Hid (∀ (j : Nat) (x y : Bs × Bs), j < k → l[j]? = some x → m[j]? = some y → x = y) ∧ Below w.heap.size w wr) (fun i _ => n - (Go.RowKit.intOf i).toNat)
  case atStart => exact ⟨0, Nat.zero_le _, rfl, Lib.hid (fun j x y h => absurd h (by omega)), Below.refl _ _⟩
  obtain ⟨k, hk, rfl, hs, hb⟩ := hrel
  by_cases hlt : k < n
  ·
   obtain ⟨x, hx⟩ : ∃ x, l[k]? = some x := ⟨_, List.getElem?_eq_getElem (by rw [HN.out]; exact hlt)⟩
   obtain ⟨y, hy⟩ : ∃ y, m[k]? = some y := ⟨_, List.getElem?_eq_getElem (by rw [HN2.out]; exact hlt)⟩
   obtain ⟨b1, o1, rfl, -, hj1⟩ := at_pair (HV.out wr hb) (by rw [HN.out]; omega)
   obtain ⟨b2, o2, rfl, -, hj2⟩ := at_pair (HM.out wr hb) (by rw [HN2.out]; omega)
   obtain ⟨u1, u2⟩ := hj1 k x hx
   obtain ⟨y1, y2⟩ := hj2 k y hy
   have HB := Lib.hid hb
   have k0 : (0 : Int) ≤ (k : Int) := by omega
   have k1 : (k : Int) < (n : Int) := by omega
   have HX := Lib.hid hx
   have HY := Lib.hid hy
   clear hj1 hj2 hx hy hb
   obtain ⟨xa, xc⟩ := x
   obtain ⟨ya, yc⟩ := y
   simp only at u1 u2 y1 y2
   have ta : (⟨xa.toArray⟩ : ByteArray).toList = xa := by rw [Lib.toList_data]
   have tb : (⟨ya.toArray⟩ : ByteArray).toList = ya := by rw [Lib.toList_data]
   obtain ⟨P1, hP1⟩ : ∃ s : ByteArray, (⟨xa.toArray⟩ : ByteArray) = s := ⟨_, rfl⟩
   obtain ⟨Q1, hQ1⟩ : ∃ s : ByteArray, (⟨ya.toArray⟩ : ByteArray) = s := ⟨_, rfl⟩
   rw [hP1] at u1 ta
   rw [hQ1] at y1 tb
   have tc : (⟨xc.toArray⟩ : ByteArray).toList = xc := by rw [Lib.toList_data]
   have td : (⟨yc.toArray⟩ : ByteArray).toList = yc := by rw [Lib.toList_data]
   obtain ⟨P2, hP2⟩ : ∃ s : ByteArray, (⟨xc.toArray⟩ : ByteArray) = s := ⟨_, rfl⟩
   obtain ⟨Q2, hQ2⟩ : ∃ s : ByteArray, (⟨yc.toArray⟩ : ByteArray) = s := ⟨_, rfl⟩
   rw [hP2] at u2 tc
   rw [hQ2] at y2 td
   by_cases hxy : (xa, xc) = (ya, yc)
   ·
    have hs' : ∀ (j : Nat) (x y : Bs × Bs), j < k + 1 → l[j]? = some x → m[j]? = some y → x = y := fun j x' y' hj h1 h2 => by
     by_cases e : j = k
     ·
      subst e
      rw [HX.out] at h1
      rw [HY.out] at h2
      cases h1
      cases h2
      exact hxy
     exact hs.out j x' y' (by omega) h1 h2
    have HS' := Lib.hid hs'
    have q1 : P1.toList = Q1.toList := by rw [ta, tb]; exact congrArg Prod.fst hxy
    have q2 : P2.toList = Q2.toList := by rw [tc, td]; exact congrArg Prod.snd hxy
    clear ta tb tc td hP1 hP2 hQ1 hQ2
    clear hs' hxy
    go_wp2_with fail
    go_quiet (fail)
    go_wp2_with fail
    exact ⟨⟨k + 1, by omega, by go_num, HS'.out |> Lib.hid, below_drewN HB.out _⟩, by simp only [Go.RowKit.intOf]; omega⟩
   have hlm : q = false := by
    rw [← HQ.out, decide_eq_false_iff_not]
    intro h
    have h1 := HX.out
    rw [h, HY.out] at h1
    exact hxy (Option.some.inj h1).symm
   subst hlm
   by_cases h1 : xa = ya
   ·
    have q1 : P1.toList = Q1.toList := by rw [ta, tb]; exact h1
    have q2 : ¬ P2.toList = Q2.toList := by rw [tc, td]; exact fun h => hxy (by rw [h1, h])
    clear ta tb tc td hP1 hP2 hQ1 hQ2 h1 hxy
    go_wp2_with fail
    go_quiet (fail)
    go_wp2_with fail
    go_ret
    exact ⟨rfl, below_drewN HB.out _⟩
   have q1 : ¬ P1.toList = Q1.toList := by rw [ta, tb]; exact h1
   clear ta tb tc td hP1 hP2 hQ1 hQ2 h1 hxy
   go_wp2_with fail
   go_quiet (fail)
   go_wp2_with fail
   go_ret
   exact ⟨rfl, below_drewN HB.out _⟩
  have HB := Lib.hid hb
  obtain rfl : k = n := by omega
  have hlm : q = true := by
   rw [← HQ.out, decide_eq_true_iff]
   refine eq_at (by rw [HN.out, HN2.out]) fun j x y h1 h2 => hs.out j x y ?_ h1 h2
   have := (List.getElem?_eq_some_iff.1 h1).1
   rw [HN.out] at this
   exact this
  subst hlm
  clear hb
  go_wp2_with fail
  go_ret
  exact ⟨rfl, HB.out⟩
 have hlm : q = false := by
  rw [← HQ.out, decide_eq_false_iff_not]
  intro h
  have h1 := HN.out
  rw [h, HN2.out] at h1
  exact he h1.symm
 have hne : ¬ ((n : Int) = (n2 : Int)) := by omega
 subst hlm
 clear he
 go_enter Tryz.func25, Tryz.ntmps25
 go_wp2_with fail
 go_ret
 exact ⟨rfl, Below.refl _ _⟩

set_option maxRecDepth 100000 in
set_option maxHeartbeats 4000000 in
theorem sameAttrs_any {w : World} {v1 v2 : Value} {l m : List (Bs × Bool)} (hv : Rows 2 EAttr w v1 l) (hm : Rows 2 EAttr w v2 m) (hl : l.length ≤ maxLen) (hl2 : m.length ≤ maxLen) :
 Calls Tryz.prog 22 #[v1, v2] w fun e w' => e = .returned (.bool (decide (l = m))) ∧ Below w.heap.size w w' := by
 obtain ⟨A, cap, rfl, hc⟩ := hv.form
 obtain ⟨A2, cap2, rfl, hc2⟩ := hm.form
 obtain ⟨n, hn⟩ : ∃ n, l.length = n := ⟨_, rfl⟩
 obtain ⟨n2, hn2⟩ : ∃ n, m.length = n := ⟨_, rfl⟩
 obtain ⟨q, hq⟩ : ∃ q, decide (l = m) = q := ⟨_, rfl⟩
 rw [hq]
 have HQ := Lib.hid hq
 clear hq
 have HV := Lib.hid (fun W (h : Below w.heap.size w W) => hv.below stays_attr h)
 have HM := Lib.hid (fun W (h : Below w.heap.size w W) => hm.below stays_attr h)
 rw [hn] at hc hl HV ⊢
 rw [hn2] at hc2 hl2 HM ⊢
 unfold maxLen at hl hl2
 have HN := Lib.hid hn
 have HN2 := Lib.hid hn2
 clear hn hn2 hv hm
 by_cases he : n = n2
 ·
  subst he
  go_enter Tryz.func22, Tryz.ntmps22
  go_wp2_with fail
  go_loopw [13] (fun i wr => ∃ k : Nat, k ≤ n ∧ i = .int .i64 k ∧ Hid (∀ (j : Nat) (x y : Bs × Bool), j < k → l[j]? = some x → m[j]? = some y → x = y) ∧ Below w.heap.size w wr) (fun i _ => n - (Go.RowKit.intOf i).toNat)
  case atStart => exact ⟨0, Nat.zero_le _, rfl, Lib.hid (fun j x y h => absurd h (by omega)), Below.refl _ _⟩
  obtain ⟨k, hk, rfl, hs, hb⟩ := hrel
  by_cases hlt : k < n
  ·
   obtain ⟨x, hx⟩ : ∃ x, l[k]? = some x := ⟨_, List.getElem?_eq_getElem (by rw [HN.out]; exact hlt)⟩
   obtain ⟨y, hy⟩ : ∃ y, m[k]? = some y := ⟨_, List.getElem?_eq_getElem (by rw [HN2.out]; exact hlt)⟩
   obtain ⟨b1, o1, rfl, -, hj1⟩ := at_attr (HV.out wr hb) (by rw [HN.out]; omega)
   obtain ⟨b2, o2, rfl, -, hj2⟩ := at_attr (HM.out wr hb) (by rw [HN2.out]; omega)
   obtain ⟨u1, u2⟩ := hj1 k x hx
   obtain ⟨y1, y2⟩ := hj2 k y hy
   have HB := Lib.hid hb
   have k0 : (0 : Int) ≤ (k : Int) := by omega
   have k1 : (k : Int) < (n : Int) := by omega
   have HX := Lib.hid hx
   have HY := Lib.hid hy
   clear hj1 hj2 hx hy hb
   obtain ⟨xa, xc⟩ := x
   obtain ⟨ya, yc⟩ := y
   simp only at u1 u2 y1 y2
   have ta : (⟨xa.toArray⟩ : ByteArray).toList = xa := by rw [Lib.toList_data]
   have tb : (⟨ya.toArray⟩ : ByteArray).toList = ya := by rw [Lib.toList_data]
   obtain ⟨P1, hP1⟩ : ∃ s : ByteArray, (⟨xa.toArray⟩ : ByteArray) = s := ⟨_, rfl⟩
   obtain ⟨Q1, hQ1⟩ : ∃ s : ByteArray, (⟨ya.toArray⟩ : ByteArray) = s := ⟨_, rfl⟩
   rw [hP1] at u1 ta
   rw [hQ1] at y1 tb
   by_cases hxy : (xa, xc) = (ya, yc)
   ·
    have hs' : ∀ (j : Nat) (x y : Bs × Bool), j < k + 1 → l[j]? = some x → m[j]? = some y → x = y := fun j x' y' hj h1 h2 => by
     by_cases e : j = k
     ·
      subst e
      rw [HX.out] at h1
      rw [HY.out] at h2
      cases h1
      cases h2
      exact hxy
     exact hs.out j x' y' (by omega) h1 h2
    have HS' := Lib.hid hs'
    have q1 : P1.toList = Q1.toList := by rw [ta, tb]; exact congrArg Prod.fst hxy
    have q2 : xc = yc := congrArg Prod.snd hxy
    clear ta tb hP1 hQ1
    clear hs' hxy
    go_wp2_with fail
    go_quiet (fail)
    go_wp2_with fail
    exact ⟨⟨k + 1, by omega, by go_num, HS'.out |> Lib.hid, below_drewN HB.out _⟩, by simp only [Go.RowKit.intOf]; omega⟩
   have hlm : q = false := by
    rw [← HQ.out, decide_eq_false_iff_not]
    intro h
    have h1 := HX.out
    rw [h, HY.out] at h1
    exact hxy (Option.some.inj h1).symm
   subst hlm
   by_cases h1 : xa = ya
   ·
    have q1 : P1.toList = Q1.toList := by rw [ta, tb]; exact h1
    have q2 : ¬ xc = yc := fun h => hxy (by rw [h1, h])
    clear ta tb hP1 hQ1 h1 hxy
    go_wp2_with fail
    go_quiet (fail)
    go_wp2_with fail
    go_ret
    exact ⟨rfl, below_drewN HB.out _⟩
   have q1 : ¬ P1.toList = Q1.toList := by rw [ta, tb]; exact h1
   clear ta tb hP1 hQ1 h1 hxy
   go_wp2_with fail
   go_quiet (fail)
   go_wp2_with fail
   go_ret
   exact ⟨rfl, below_drewN HB.out _⟩
  have HB := Lib.hid hb
  obtain rfl : k = n := by omega
  have hlm : q = true := by
   rw [← HQ.out, decide_eq_true_iff]
   refine eq_at (by rw [HN.out, HN2.out]) fun j x y h1 h2 => hs.out j x y ?_ h1 h2
   have := (List.getElem?_eq_some_iff.1 h1).1
   rw [HN.out] at this
   exact this
  subst hlm
  clear hb
  go_wp2_with fail
  go_ret
  exact ⟨rfl, HB.out⟩
 have hlm : q = false := by
  rw [← HQ.out, decide_eq_false_iff_not]
  intro h
  have h1 := HN.out
  rw [h, HN2.out] at h1
  exact he h1.symm
 have hne : ¬ ((n : Int) = (n2 : Int)) := by omega
 subst hlm
 clear he
 go_enter Tryz.func22, Tryz.ntmps22
 go_wp2_with fail
 go_ret
 exact ⟨rfl, Below.refl _ _⟩
end Go.Proofs.YtebmfkkkhmjkoaaGreat
