/-
  WALKS for package huffman's laws: SameInts, awake.
-/
import Derived.Test.YtbfnkmibbieijaaHuJ
import Derived.Test.YtbfnkmibbieijaaHuP
import Derived.BigQuiet
import Derived.Deep.QuietTactic
namespace Go.Proofs.Ytbfnkmibbieijaa
open Go.RowKit Go.Shelf Go.Lib Go.Sort
set_option linter.unusedVariables false
set_option linter.unusedSimpArgs false

theorem block_rows {W : World} {B n : Nat} {cs : Array Value} (xs : List Int) (h : W.heap[B]? = some (.cells cs 3 (0, 0))) (hc : cs.toList = xs.map fun x => Value.int .i64 x) (hn : xs.length = n) (hm : n ≤ maxLen) : Rows 1 EInt W (.slice (some ⟨B, 0, none⟩) n n) xs := by
  subst hn
  refine own_rows (base := 0) ⟨by simp, .inr ⟨B, xs.length, cs, rfl, Nat.zero_le _, h, Nat.le_refl _, hm, ?_, ?_⟩⟩
  · rw [← Array.length_toList, hc]; simp
  · rw [hc, List.take_of_length_le (by simp)]

set_option maxRecDepth 100000 in
set_option maxHeartbeats 4000000 in
theorem sameInts_any {w : World} {v u : Value} {h g : List Int} (hv : Rows 1 EInt w v h) (hu : Rows 1 EInt w u g) (hl : h.length ≤ maxLen) (hl2 : g.length ≤ maxLen) :
    Calls Try.prog 23 #[v, u] w fun e w' => e = .returned (.bool (decide (h = g))) ∧ Below w.heap.size w w' := by
  obtain ⟨A, cap, rfl, hc⟩ := hv.form
  obtain ⟨A2, cap2, rfl, hc2⟩ := hu.form
  obtain ⟨n, hn⟩ : ∃ n, h.length = n := ⟨_, rfl⟩
  obtain ⟨n2, hn2⟩ : ∃ n, g.length = n := ⟨_, rfl⟩
  obtain ⟨q, hq⟩ : ∃ q, decide (h = g) = q := ⟨_, rfl⟩
  have hqq : q = true ↔ h = g := by rw [← hq, decide_eq_true_iff]
  rw [hq]
  have HV := Lib.hid (fun W (hb : Below w.heap.size w W) => hv.below stays_int hb)
  have HU := Lib.hid (fun W (hb : Below w.heap.size w W) => hu.below stays_int hb)
  have HQ := Lib.hid hqq
  rw [hn] at hc hl HV ⊢
  rw [hn2] at hc2 hl2 HU ⊢
  unfold maxLen at hl hl2
  have HN := Lib.hid hn
  have HN2 := Lib.hid hn2
  clear hv hu hn hn2 hq hqq
  by_cases hnn : n = n2
  · subst hnn
    go_enter Try.func23, Try.ntmps23
    go_wp2_with fail
    go_loopw [13] (fun m wr => ∃ k : Nat, k ≤ n ∧ m = .int .i64 k ∧ Hid (∀ (j : Nat), j < k → h[j]? = g[j]?) ∧ Below w.heap.size w wr) (fun m _ => n - (Go.RowKit.intOf m).toNat)
    case atStart => exact ⟨0, Nat.zero_le _, rfl, Lib.hid (fun j h => absurd h (by omega)), Below.refl _ _⟩
    case round =>
      obtain ⟨k, hk, rfl, hno, hb⟩ := hrel
      by_cases hlt : k < n
      · obtain ⟨x, hx⟩ : ∃ x, h[k]? = some x := ⟨_, List.getElem?_eq_getElem (by rw [HN.out]; exact hlt)⟩
        obtain ⟨y, hy⟩ : ∃ x, g[k]? = some x := ⟨_, List.getElem?_eq_getElem (by rw [HN2.out]; exact hlt)⟩
        obtain ⟨b1, o1, rfl, -, hj1⟩ := at_int (HV.out wr hb) (by rw [HN.out]; omega)
        obtain ⟨b2, o2, rfl, -, hj2⟩ := at_int (HU.out wr hb) (by rw [HN2.out]; omega)
        have u0 := hj1 k x hx
        have u1 := hj2 k y hy
        have HB := Lib.hid hb
        have HX := Lib.hid hx
        have HY := Lib.hid hy
        have k0 : (0 : Int) ≤ (k : Int) := by omega
        have kn : (k : Int) < (n : Int) := by omega
        clear hj1 hj2 hx hy hb
        go_wp2_with fail
        go_quiet (fail)
        obtain ⟨w3, hw3⟩ : ∃ X, wr.drewN nq = X := ⟨_, rfl⟩
        rw [hw3]
        have HB3 := Lib.hid (show Below w.heap.size w w3 by rw [← hw3]; exact below_drewN HB.out nq)
        clear hw3
        by_cases hxy : x = y
        · subst hxy
          have hno' : Hid (∀ (j : Nat), j < k + 1 → h[j]? = g[j]?) := Lib.hid fun j hj => by
            by_cases e : j = k
            · subst e; rw [HX.out, HY.out]
            · exact hno.out j (by omega)
          have hxb : (x != x) = false := by simp
          go_wp2_with fail
          exact ⟨⟨k + 1, by omega, by go_num, hno', HB3.out⟩, by simp only [Go.RowKit.intOf]; omega⟩
        · have hqf : q = false := by
            rw [← Bool.not_eq_true]
            intro hq
            have := HQ.out.1 hq
            subst this
            rw [HX.out] at HY
            exact hxy (Option.some.inj HY.out)
          subst hqf
          have hxb : (x != y) = true := by simp [hxy]
          go_wp2_with fail
          go_ret
          exact ⟨rfl, HB3.out⟩
      · obtain rfl : k = n := by omega
        have hqt : q = true := HQ.out.2 (List.ext_getElem? fun j => by
          by_cases hj : j < k
          · exact hno.out j hj
          · rw [List.getElem?_eq_none (by rw [HN.out]; omega), List.getElem?_eq_none (by rw [HN2.out]; omega)])
        subst hqt
        have HB := Lib.hid hb
        clear hb
        go_wp2_with fail
        go_ret
        exact ⟨rfl, HB.out⟩
  · have hqf : q = false := by
      rw [← Bool.not_eq_true]
      intro hq
      have := HQ.out.1 hq
      exact hnn (by rw [← HN.out, ← HN2.out, this])
    subst hqf
    have hb : ((n : Int) != (n2 : Int)) = true := by simp; omega
    go_enter Try.func23, Try.ntmps23
    go_wp2_with fail
    go_ret
    exact ⟨rfl, Below.refl _ _⟩


theorem ex_l15 : chkH [5, 2, 1, 1] 15 = 0 ∧ hufLs [5, 2, 1, 1] (15 : Int).toNat = [1, 2, 3, 3] := by decide +kernel
theorem ex_l2 : chkH [5, 2, 1, 1] 2 = 0 ∧ hufLs [5, 2, 1, 1] (2 : Int).toNat = [2, 2, 2, 2] := by decide +kernel
theorem ex_ok : okLH [1, 2, 3, 3] := by unfold okLH; decide +kernel
theorem ex_e : encE [1, 2, 3, 3] [3, 0] = 0 := by
  unfold encE
  rw [if_neg (by simpa using ex_ok)]
  decide +kernel
theorem ex_b : encB (natLs [1, 2, 3, 3]) (natLs [3, 0]) = [true, true, true, false] := by decide +kernel
theorem ex_p : pack [true, true, true, false] = [224] := by decide +kernel
def LenOk (w : World) (l : List Int) (e : Ending) (w' : World) : Prop := ∃ v, e = .returned (.tuple #[v, .int .i64 0]) ∧ Rows 1 EInt w' v l ∧ Below w.heap.size w w'
theorem lengths_ok {w : World} {v : Value} {cs : List Int} (hv : Rows 1 EInt w v cs) (hlen : cs.length ≤ maxLen) (lim : Int) (hl0 : -9223372036854775808 ≤ lim) (hl1 : lim ≤ 9223372036854775807) (hz : chkH cs lim = 0) {l : List Int} (hl : hufLs cs lim.toNat = l) :
    Calls Try.prog 25 #[v, .int .i64 lim] w (LenOk w l) := by
  refine (lengths_any hv hlen lim hl0 hl1).mono ?_
  rintro e w' ⟨hb, (⟨hne, _⟩ | ⟨_, v', rfl, hr⟩)⟩
  · exact absurd hz hne
  · exact ⟨v', rfl, by rw [← hl]; exact hr, hb⟩
def EncOk (w : World) (q : Nat) (P : List UInt8) (e : Ending) (w' : World) : Prop := ∃ v, e = .returned (.tuple #[v, .int .i64 (q : Int), .int .i64 0]) ∧ Sees w' w'.heap.size v P ∧ Below w.heap.size w w'
theorem encode_ok {w : World} {vc vs : Value} {cs ss : List Int} (hv : Rows 1 EInt w vc cs) (hlen : cs.length ≤ maxLen) (hs : Rows 1 EInt w vs ss) (hslen : ss.length ≤ maxLen) (hz : encE cs ss = 0) {l : List Bool} {P : List UInt8} {q : Nat} (hl : encB (natLs cs) (natLs ss) = l) (hp : pack l = P) (hq : l.length = q) :
    Calls Try.prog 55 #[vc, vs] w (EncOk w q P) := by
  refine (encode_any hv hlen hs hslen).mono ?_
  rintro e w' ⟨hb, (⟨hne, _⟩ | ⟨_, v', rfl, hr⟩)⟩
  · exact absurd hz hne
  · exact ⟨v', by rw [hl, hq], by rw [← hp, ← hl]; exact hr, hb⟩
def AwV (w : World) (e : Ending) (w' : World) : Prop := e = .returned (.bool true) ∧ Below w.heap.size w w'
set_option maxRecDepth 100000 in
set_option maxHeartbeats 400000 in
theorem awake_any (w : World) : Calls Try.prog 27 #[] w (AwV w) := by
  have HBLK := Lib.hid (fun (W : World) (l : List Int) (cs : Array Value) (m : Nat) (hl : l.length = m) (hm : m ≤ 100) (hc : cs.toList = l.map fun x => Value.int .i64 x) => (show Rows 1 EInt (W.alloc (.cells cs 3)) (.slice (some ⟨W.heap.size, 0, none⟩) m m) l from
    block_rows l (block_new W (.cells cs 3)) hc hl (by unfold maxLen; omega)))
  have HSAME := Lib.hid (fun (W : World) (v : Value) (l : List Int) (cs : Array Value) (m : Nat) (hv : Rows 1 EInt W v l) (hl : l.length = m) (hm : m ≤ 100) (hc : cs.toList = l.map fun x => Value.int .i64 x) => (show Calls Try.prog 23 #[v, .slice (some ⟨W.heap.size, 0, none⟩) m m] (W.alloc (.cells cs 3)) fun e w' => e = .returned (.bool true) ∧ Below W.heap.size W w' from by
    have h1 := hv.below stays_int (below_box W (.cells cs 3))
    have h2 := block_rows l (block_new W (.cells cs 3)) hc hl (by unfold maxLen; omega)
    refine (sameInts_any h1 h2 (by unfold maxLen; omega) (by unfold maxLen; omega)).mono ?_
    rintro e w' ⟨rfl, hb⟩
    exact ⟨by rw [decide_eq_true rfl], (below_box W _).trans (hb.mono (by simp))⟩))
  have HL1 := Lib.hid (lengths_ok (HBLK.out w [5, 2, 1, 1] #[.int .i64 5, .int .i64 2, .int .i64 1, .int .i64 1] 4 rfl (by omega) rfl) (by show (_ : Nat) ≤ maxLen; unfold maxLen; simp) 15 (by omega) (by omega) ex_l15.1 ex_l15.2)
  go_enter Try.func27, Try.ntmps27
  go_wp2_with fail
  refine HL1.out.mono ?_
  rintro e w1 ⟨v1, rfl, hr1, hb1⟩
  have HR1 := Lib.hid hr1
  have HB1 := Lib.hid (show Below w.heap.size w w1 from (below_box w _).trans (hb1.mono (by simp)))
  have HL2 := Lib.hid (lengths_ok (HBLK.out w1 [5, 2, 1, 1] #[.int .i64 5, .int .i64 2, .int .i64 1, .int .i64 1] 4 rfl (by omega) rfl) (by show (_ : Nat) ≤ maxLen; unfold maxLen; simp) 2 (by omega) (by omega) ex_l2.1 ex_l2.2)
  obtain ⟨A1, c1, rfl, -⟩ := hr1.form
  clear hb1 hr1 HL1
  go_wp2_with fail
  refine HL2.out.mono ?_
  rintro e w2 ⟨v2, rfl, hr2, hb2⟩
  have HR2 := Lib.hid hr2
  have HB12 := Lib.hid (show Below w1.heap.size w1 w2 from (below_box w1 _).trans (hb2.mono (by simp)))
  have HRW := Lib.hid ((HBLK.out w2 [1, 2, 3, 3] #[.int .i64 1, .int .i64 2, .int .i64 3, .int .i64 3] 4 rfl (by omega) rfl))
  obtain ⟨X2, hX2⟩ : ∃ X2, w2.alloc (.cells #[.int .i64 1, .int .i64 2, .int .i64 3, .int .i64 3] 3) = X2 := ⟨_, rfl⟩
  rw [hX2] at HRW
  have hbX2 : Below w2.heap.size w2 X2 := by rw [← hX2]; exact below_box _ _
  have HENC := Lib.hid (encode_ok (HRW.out.below stays_int (below_box X2 (.cells #[.int .i64 3, .int .i64 0] 3))) (by show (_ : Nat) ≤ maxLen; unfold maxLen; simp) (HBLK.out X2 [3, 0] #[.int .i64 3, .int .i64 0] 2 rfl (by omega) rfl) (by show (_ : Nat) ≤ maxLen; unfold maxLen; simp) ex_e ex_b ex_p rfl)
  have hX2s : X2.heap.size = w2.heap.size + 1 := by rw [← hX2, alloc_sz]
  rw [hX2s] at HENC
  have HX2 := Lib.hid hX2
  have HBX2 := Lib.hid hbX2
  obtain ⟨A2, c2, rfl, -⟩ := hr2.form
  clear hb2 hr2 HL2 hX2 hbX2 hX2s
  go_wp2_with fail
  rw [HX2.out]
  go_wp2_with fail
  refine HENC.out.mono ?_
  rintro e w3 ⟨v3, rfl, hs3, hb3⟩
  have HB23 := Lib.hid (show Below w2.heap.size w2 w3 from HBX2.out.trans (((below_box X2 _).trans (hb3.mono (by simp))).mono HBX2.out.size))
  have HB13 := Lib.hid (show Below w1.heap.size w1 w3 from HB12.out.trans (HB23.out.mono HB12.out.size))
  have HS3 := Lib.hid hs3
  have HS1 := Lib.hid (HSAME.out w3 _ [1, 2, 3, 3] #[.int .i64 1, .int .i64 2, .int .i64 3, .int .i64 3] 4 (HR1.out.below stays_int HB13.out) rfl (by omega) rfl)
  clear hb3 hs3 HENC HX2 HRW
  go_wp2_with fail
  refine HS1.out.mono ?_
  rintro e w4 ⟨rfl, hb4⟩
  have HB24 := Lib.hid (show Below w2.heap.size w2 w4 from HB23.out.trans (hb4.mono HB23.out.size))
  have HS2 := Lib.hid (HSAME.out w4 _ [2, 2, 2, 2] #[.int .i64 2, .int .i64 2, .int .i64 2, .int .i64 2] 4 (HR2.out.below stays_int HB24.out) rfl (by omega) rfl)
  have HB34 := Lib.hid hb4
  clear hb4 HS1
  go_wp2_with fail
  refine HS2.out.mono ?_
  rintro e w5 ⟨rfl, hb5⟩
  have HS5 := Lib.hid ((HS3.out.below HB34.out).below (hb5.mono HB34.out.size))
  have hcv : (convert 23 9 v3).run Try.prog w5 = .ok (.string ⟨#[224]⟩) w5 := by
    have := HS5.out.convert
    simpa using this
  have HE : Hid (Below w.heap.size w w5) := Lib.hid (HB1.out.trans ((HB13.out.trans ((HB34.out.trans (hb5.mono HB34.out.size)).mono HB13.out.size)).mono HB1.out.size))
  clear hb5 HS2
  go_wp2_with fail
  go_ret
  exact ⟨rfl, HE.out⟩
end Go.Proofs.Ytbfnkmibbieijaa
