/-
  TreelabelHeads is proved: for every list of numbers and every number and every number the call of the law returns true, and each argument reads afterwards as it read before. It has no condition.
-/
import Derived.Test.YtjialelklnjcfaaRows
import Derived.Test.YtjialelklnjcfaaEoO
import Derived.Test.YtjialelklnjcfaaEbN
import Derived.Test.YtjialelklnjcfaaEdB
import Derived.Test.YtjialelklnjcfaaEbL
import Derived.Test.YtjialelklnjcfaaDaP
import Derived.ProofKit
import Derived.OpenShut
import Derived.Carry
namespace Go.Proofs.Ytjialelklnjcfaa.treelabelHeads
open Go.ChangeShapes Go.WideShapes Go.ChangeAt Go.RowKit Go.Shelf Go.Lib
set_option linter.unusedVariables false

theorem cp_strict {P : Program} {c : Code} {K : Act → World → Prop} {Q : Exit → Act → World → Prop} {a : Act} {w : World} (h : c.wp P (Exit.then K (fun _ _ _ => False)) a w) : c.wp P (Exit.then K Q) a w :=
  Code.wp_mono (fun e a w h => by cases e <;> first | exact h | exact h.elim) h
/-- The way from a token to a token, by their lowest common ancestor. -/
theorem join_com {h : List Int} (hO : Okh h) {x y z : Nat} (e : comH h x y = (z : Int)) : ∃ P, joinW (way h x) (way h y) = (P, 0) ∧ P.length + 2 * (way h z).length = (way h x).length + (way h y).length + 1 := by
  obtain ⟨m1, m2, m3⟩ := (comH_some hO).1 e
  obtain ⟨l1, h1, n1⟩ := way_drop hO m1
  obtain ⟨l2, h2, n2⟩ := way_drop hO m2
  have hz0 : (way h z)[0]? = some z := by rw [way_eq hO]; rfl
  have hz1 : 0 < (way h z).length := List.length_pos_of_mem (way_self z)
  have hnd := way_nodup hO x
  rw [h1] at hnd
  have hj := joinW_some (X := way h x) (Y := way h y) (i := l1.length) (k := l2.length) (x := z)
    (by rw [h1, List.getElem?_append_right (Nat.le_refl _), Nat.sub_self]; exact hz0) (by rw [h2, List.getElem?_append_right (Nat.le_refl _), Nat.sub_self]; exact hz0)
    (fun j y' hj hy hm => by
      have hx := List.mem_of_getElem? hy
      rw [h1, List.getElem?_append_left hj] at hy
      exact (List.nodup_append.1 hnd).2.2 _ (List.mem_of_getElem? hy) _ (m3 y' hx hm) rfl)
    (fun j hj hy => by
      rw [h2, List.getElem?_append_left hj] at hy
      exact n2 (List.mem_of_getElem? hy))
  refine ⟨_, hj, ?_⟩
  have e1 := congrArg List.length h1
  have e2 := congrArg List.length h2
  rw [List.length_append] at e1 e2
  rw [List.length_append, List.length_reverse, List.length_take, List.length_take]
  omega
theorem join_no {h : List Int} (hO : Okh h) {x y : Nat} (e : comH h x y = -1) : joinW (way h x) (way h y) = ([], 11) :=
  joinW_none hO fun e' => by
    obtain ⟨t, a, b⟩ := (meet_iff hO _ _).2 e'
    exact comH_none.1 e t a b
set_option maxRecDepth 100000 in
set_option maxHeartbeats 8000000 in
theorem walk {w : World} (v : Value) (h : List Int) (hv : Rows 1 EInt w v h) (hl : h.length ≤ maxLen) (_ : ∀ x ∈ h, -9223372036854775808 ≤ x ∧ x ≤ 9223372036854775807) (a : Int) (_ : -9223372036854775808 ≤ a) (_ : a ≤ 9223372036854775807) (b : Int) (_ : -9223372036854775808 ≤ b) (_ : b ≤ 9223372036854775807) :
    Calls Try.prog 10 #[v, .int .i64 a, .int .i64 b] w fun e w1 => e = .returned (.bool true) ∧ Below w.heap.size w w1 := by
  obtain ⟨A, cap, rfl, hc⟩ := hv.form
  have HAS := Lib.hid (assign_any hv hl)
  have HCH := Lib.hid (fun (W : World) (hb : Below w.heap.size w W) => check_any (hv.below stays_int hb) hl)
  have HA := Lib.hid (fun (W : World) => awake_any W)
  obtain ⟨n, hn⟩ : ∃ n, h.length = n := ⟨_, rfl⟩
  by_cases h40 : n > 40
  · rw [hn] at hc ⊢
    clear hv hn HAS HCH
    go_enter Try.func10, Try.ntmps10
    go_wp2_with fail
    go_ret
    exact ⟨rfl, Below.refl _ _⟩
  · by_cases ha : a < 0
    · rw [hn] at hc ⊢
      clear hv hn HAS HCH
      go_enter Try.func10, Try.ntmps10
      go_wp2_with fail
      go_ret
      exact ⟨rfl, Below.refl _ _⟩
    · by_cases ha2 : a ≥ (n : Int)
      · rw [hn] at hc ⊢
        clear hv hn HAS HCH
        go_enter Try.func10, Try.ntmps10
        go_wp2_with fail
        go_ret
        exact ⟨rfl, Below.refl _ _⟩
      · by_cases hb : b < 0
        · rw [hn] at hc ⊢
          clear hv hn HAS HCH
          go_enter Try.func10, Try.ntmps10
          go_wp2_with fail
          go_ret
          exact ⟨rfl, Below.refl _ _⟩
        · by_cases hb2 : b ≥ (n : Int)
          · rw [hn] at hc ⊢
            clear hv hn HAS HCH
            go_enter Try.func10, Try.ntmps10
            go_wp2_with fail
            go_ret
            exact ⟨rfl, Below.refl _ _⟩
          · obtain ⟨x, rfl⟩ : ∃ x : Nat, a = (x : Int) := ⟨a.toNat, by omega⟩
            obtain ⟨y, rfl⟩ : ∃ y : Nat, b = (y : Int) := ⟨b.toNat, by omega⟩
            have hxn : x < n := by omega
            have hyn : y < n := by omega
            have hn0 : 0 < n := by omega
            have d1 : decide ((x : Int) < 0) = false := decide_eq_false (by omega)
            have d2 : decide (n ≤ x) = false := decide_eq_false (by omega)
            have d3 : decide ((y : Int) < 0) = false := decide_eq_false (by omega)
            have d4 : decide (n ≤ y) = false := decide_eq_false (by omega)
            by_cases hok : (checkH h).2 = 0
            · have hO := okh_check.1 hok
              have hch := check_zero hok
              have hll := labH_len hO
              have hpar := parents_of hO
              have hLO := labH_of hO
              unfold assignH at HAS
              rw [if_pos hok] at HAS
              rw [hch] at HCH
              have hokH : okH h = true := by unfold okH; exact decide_eq_true hok
              have hpa : pathH h (x : Int) (y : Int) = joinW (way h x) (way h y) := by
                unfold pathH
                rw [if_pos ⟨hokH, by rw [hn]; omega, by rw [hn]; omega⟩, Int.toNat_natCast, Int.toNat_natCast]
              have hde : depthH h (x : Int) = ((way h x).length : Int) - 1 := by
                unfold depthH
                rw [if_pos ⟨hokH, by rw [hn]; omega⟩, Int.toNat_natCast]
              have HP := Lib.hid (fun (W : World) (hb : Below w.heap.size w W) => path_any (hv.below stays_int hb) hl (x : Int) (y : Int))
              have HD := Lib.hid (fun (W : World) (hb : Below w.heap.size w W) => depth_any (hv.below stays_int hb) hl (x : Int))
              rw [hpa] at HP
              rw [hde] at HD
              obtain ⟨L, hLL⟩ : ∃ L, labH h = L := ⟨_, rfl⟩
              rw [hLL] at HAS hll hpar hLO
              clear hok hLL hch hokH hpa hde
              simp only at HAS HCH
              rw [hn] at hl hc HAS HCH HP HD hll ⊢
              unfold maxLen at hl
              have cij : commonL L (x : Int) (y : Int) = comH h x y := by
                unfold commonL
                rw [hpar, if_pos ⟨rfl, by omega, by omega⟩, Int.toNat_natCast, Int.toNat_natCast]
              have HC := Lib.hid (fun (W : World) (lv : Value) (hr : Rows 3 ELb W lv L) => common_any hr (by unfold maxLen; omega) (x : Int) (y : Int))
              rw [cij] at HC
              obtain ⟨u, hu, hu3⟩ := hLO.get (x := x) (by rw [hn]; exact hxn)
              obtain ⟨t, ht, ht3⟩ := hLO.get (x := y) (by rw [hn]; exact hyn)
              obtain ⟨u1, u2, u3⟩ := u
              obtain ⟨t1, t2, t3⟩ := t
              simp only at hu3 ht3
              rw [← hu3] at HD
              have huu : (u3 != u3) = false := by simp
              have hwx := way_len hO (i := x) (by rw [hn]; exact hxn)
              have hwy := way_len hO (i := y) (by rw [hn]; exact hyn)
              have hwx1 : 0 < (way h x).length := List.length_pos_of_mem (way_self x)
              have hwy1 : 0 < (way h y).length := List.length_pos_of_mem (way_self y)
              rw [hn] at hwx hwy
              have HLL := Lib.hid hll
              have HUT := Lib.hid (And.intro hu ht)
              rcases comH_cases h x y with e | ⟨z, e⟩
              · have hj := join_no hO e
                rw [e] at HC
                rw [hj] at HP
                simp only at HP
                have e1 : decide ((n : Int) ≤ -1) = false := decide_eq_false (by omega)
                clear hj e hO hLO hll hpar cij hu ht hu3 ht3 hwx hwy hwx1 hwy1 hn hv
                go_enter Try.func10, Try.ntmps10
                go_wp2_with fail
                refine HAS.out.mono ?_
                rintro e w1 ⟨⟨lv, rfl, hlv⟩, hb1⟩
                have HB1 := Lib.hid hb1
                have HLV := Lib.hid (fun W (hb : Below w1.heap.size w1 W) => hlv.below stays_lb hb)
                obtain ⟨A2, cap2, rfl, hc2⟩ := hlv.form
                rw [HLL.out] at hc2 HLV ⊢
                clear hb1 hlv
                go_wp2_with fail
                refine (HCH.out w1 HB1.out).mono ?_
                rintro e w2 ⟨rfl, hb2⟩
                have HB2 := Lib.hid (HB1.out.trans (hb2.mono HB1.out.size))
                have HB2' := Lib.hid hb2
                clear hb2
                go_wp2_with fail
                refine (HP.out w2 HB2.out).mono ?_
                rintro e w3 ⟨⟨pv, rfl, hpv⟩, hb3⟩
                obtain ⟨A3, cap3, rfl, hc3, -⟩ := hpv.form
                rw [show ([] : List Nat).length = 0 from rfl] at hc3 ⊢
                have HB3' := Lib.hid (HB2'.out.trans (hb3.mono HB2'.out.size))
                clear hb3 hpv
                go_wp2_with fail
                refine (HC.out w3 _ (HLV.out w3 HB3'.out)).mono ?_
                rintro e w4 ⟨rfl, hb4⟩
                have HB4' := Lib.hid (HB3'.out.trans (hb4.mono HB3'.out.size))
                clear hb4
                go_upto_region 12 with fail
                go_cut [97] from 71 to 97 (fun s97 wx => s97 = .bool false ∧ Hid (Below w1.heap.size w1 wx))
                case first =>
                  refine cp_strict ?_
                  obtain ⟨bl, ol, rfl, hbl, hcl⟩ := at_lb (HLV.out w1 (Below.refl _ _)) (by rw [HLL.out]; exact hn0)
                  have q1 := (hcl x _ HUT.out.1).2.2
                  simp only at q1
                  obtain ⟨X1, hX1⟩ : ∃ X, w4.drew = X := ⟨_, rfl⟩
                  have HX1 := Lib.hid hX1
                  have HB0 := Lib.hid (show Below w1.heap.size w1 X1 by rw [← hX1]; exact HB4'.out.drew)
                  have HS := Lib.hid (fun (W : World) (hb : Below w1.heap.size w1 W) => show W.cell? ⟨bl, ol + x * 3 + 2, none⟩ = some (.int .i64 u3) from (hb.cell (p := ⟨bl, ol + x * 3 + 2, none⟩) hbl).trans q1)
                  have HD := Lib.hid (fun (W : World) (hb : Below w1.heap.size w1 W) => HD.out W (HB1.out.trans (hb.mono HB1.out.size)))
                  clear hX1 hcl q1 hbl
                  refine wp_region_held_drew (S := (fun w' => w'.cell? ⟨bl, ol + x * 3 + 2, none⟩ = some (.int .i64 u3))) (by kernel_rfl) ?_ (fun hHeld => ?_)
                  · (try dsimp only); (rw [HX1.out]; exact HS.out X1 HB0.out)
                  rw [HX1.out] at hHeld ⊢
                  refine wpAnyH_take (i := 0) (oi := ?oi1) (v := ?v1) ?hi1 (by kernel_rfl) (by kernel_rfl) (by kernel_rfl) ?hq1 ?hy1 (by assumption) ?hr1
                  case hi1 => (simp only [List.getElem?_toArray, List.getElem?_cons_zero]; rfl)
                  case hq1 => exact fun _ _ _ h => h
                  case hy1 => exact Or.inl ⟨by rfl, by intro whSw hSw'; (try dsimp only at hSw'); (first | (go_simp; done) | (go_simp; with_reducible rfl))⟩
                  try simp only [Act.put, List.setIfInBounds_toArray, List.set_cons_zero, List.set_cons_succ]
                  refine wpAnyH_take (i := 1) (oi := ?oi2) (v := ?v2) ?hi2 (by kernel_rfl) (by kernel_rfl) (by kernel_rfl) ?hq2 ?hy2 (by assumption) ?hr2
                  case hi2 => (simp only [List.getElem?_toArray, List.getElem?_cons_succ, List.getElem?_cons_zero]; rfl)
                  case hq2 => exact fun _ _ _ h => h
                  case hy2 => exact Or.inl ⟨by rfl, by intro whSw hSw'; (try dsimp only at hSw'); (first | (go_simp; done) | (go_simp; with_reducible rfl))⟩
                  try simp only [Act.put, List.setIfInBounds_toArray, List.set_cons_zero, List.set_cons_succ]
                  refine wpAnyH_take (i := 2) (oi := ?oi3) (v := ?v3) ?hi3 (by kernel_rfl) (by kernel_rfl) (by kernel_rfl) ?hq3 ?hy3 (by assumption) ?hr3
                  case hi3 => (simp only [List.getElem?_toArray, List.getElem?_cons_succ, List.getElem?_cons_zero]; rfl)
                  case hq3 => exact fun _ _ _ h => h
                  case hy3 => exact Or.inl ⟨by rfl, by intro whSw hSw'; (try dsimp only at hSw'); (first | (go_simp; done) | (go_simp; with_reducible rfl))⟩
                  try simp only [Act.put, List.setIfInBounds_toArray, List.set_cons_zero, List.set_cons_succ]
                  refine wpAnyH_take (i := 3) (oi := ?oi4) (v := ?v4) ?hi4 (by kernel_rfl) (by kernel_rfl) (by kernel_rfl) ?hq4 ?hy4 (by assumption) ?hr4
                  case hi4 => (simp only [List.getElem?_toArray, List.getElem?_cons_succ, List.getElem?_cons_zero]; rfl)
                  case hq4 => exact fun _ _ _ h => h
                  case hy4 => exact Or.inl ⟨by rfl, by intro whSw hSw'; (try dsimp only at hSw'); (first | (go_simp; done) | (go_simp; with_reducible rfl))⟩
                  try simp only [Act.put, List.setIfInBounds_toArray, List.set_cons_zero, List.set_cons_succ]
                  refine wpAnyH_take (i := 4) (oi := ?oi5) (v := ?v5) ?hi5 (by kernel_rfl) (by kernel_rfl) (by kernel_rfl) ?hq5 ?hy5 (by assumption) ?hr5
                  case hi5 => (simp only [List.getElem?_toArray, List.getElem?_cons_succ, List.getElem?_cons_zero]; rfl)
                  case hq5 => exact fun _ _ _ h => h
                  case hy5 => exact Or.inl ⟨by rfl, by intro whSw hSw'; (try dsimp only at hSw'); (first | (go_simp; done) | (go_simp; with_reducible rfl))⟩
                  try simp only [Act.put, List.setIfInBounds_toArray, List.set_cons_zero, List.set_cons_succ]
                  refine wpAnyH_take (i := 5) (oi := ?oi6) (v := ?v6) ?hi6 (by kernel_rfl) (by kernel_rfl) (by kernel_rfl) ?hq6 ?hy6 (by assumption) ?hr6
                  case hi6 => (simp only [List.getElem?_toArray, List.getElem?_cons_succ, List.getElem?_cons_zero]; rfl)
                  case hq6 => exact fun _ _ _ h => h
                  case hy6 => first | exact Or.inl ⟨by rfl, by intro whSw hSw'; (try dsimp only at hSw'); (first | (go_simp; done) | (go_simp; with_reducible rfl))⟩ | exact Or.inr ⟨by rfl, by with_reducible rfl⟩ | fail
                  try simp only [Act.put, List.setIfInBounds_toArray, List.set_cons_zero, List.set_cons_succ]
                  refine wpAnyH_take (i := 6) (oi := ?oi7) (v := ?v7) ?hi7 (by kernel_rfl) (by kernel_rfl) (by kernel_rfl) ?hq7 ?hy7 (by assumption) ?hr7
                  case hi7 => (simp only [List.getElem?_toArray, List.getElem?_cons_succ, List.getElem?_cons_zero]; rfl)
                  case hq7 => exact fun _ _ _ h => h
                  case hy7 => first | exact Or.inl ⟨by rfl, by intro whSw hSw'; (try dsimp only at hSw'); (first | (go_simp; done) | (go_simp; with_reducible rfl))⟩ | exact Or.inr ⟨by rfl, by with_reducible rfl⟩ | fail
                  try simp only [Act.put, List.setIfInBounds_toArray, List.set_cons_zero, List.set_cons_succ]
                  refine wpAnyH_take (i := 7) (oi := ?oi8) (v := ?v8) ?hi8 (by kernel_rfl) (by kernel_rfl) (by kernel_rfl) ?hq8 ?hy8 (by assumption) ?hr8
                  case hi8 => (simp only [List.getElem?_toArray, List.getElem?_cons_succ, List.getElem?_cons_zero]; rfl)
                  case hq8 => exact fun _ _ _ h => h
                  case hy8 => first | exact Or.inl ⟨by rfl, by intro whSw hSw'; (try dsimp only at hSw'); (first | (go_simp; done) | (go_simp; with_reducible rfl))⟩ | exact Or.inr ⟨by rfl, by with_reducible rfl⟩ | fail
                  try simp only [Act.put, List.setIfInBounds_toArray, List.set_cons_zero, List.set_cons_succ]
                  refine wpAnyH_take (i := 8) (oi := ?oi9) (v := ?v9) ?hi9 (by kernel_rfl) (by kernel_rfl) (by kernel_rfl) ?hq9 ?hy9 (by assumption) ?hr9
                  case hi9 => (simp only [List.getElem?_toArray, List.getElem?_cons_succ, List.getElem?_cons_zero]; rfl)
                  case hq9 => exact fun _ _ _ h => h
                  case hy9 => first | exact Or.inl ⟨by rfl, by intro whSw hSw'; (try dsimp only at hSw'); (first | (go_simp; done) | (go_simp; with_reducible rfl))⟩ | exact Or.inr ⟨by rfl, by with_reducible rfl⟩ | fail
                  try simp only [Act.put, List.setIfInBounds_toArray, List.set_cons_zero, List.set_cons_succ]
                  refine wpAnyH_take (i := 9) (oi := ?oi10) (v := ?v10) ?hi10 (by kernel_rfl) (by kernel_rfl) (by kernel_rfl) ?hq10 ?hy10 (by assumption) ?hr10
                  case hi10 => (simp only [List.getElem?_toArray, List.getElem?_cons_succ, List.getElem?_cons_zero]; rfl)
                  case hq10 => exact fun _ _ _ h => h
                  case hy10 => first | exact Or.inl ⟨by rfl, by intro whSw hSw'; (try dsimp only at hSw'); (first | (go_simp; done) | (go_simp; with_reducible rfl))⟩ | exact Or.inr ⟨by rfl, by with_reducible rfl⟩ | fail
                  try simp only [Act.put, List.setIfInBounds_toArray, List.set_cons_zero, List.set_cons_succ]
                  refine wpAnyH_take (i := 10) (oi := ?oi11) (v := ?v11) ?hi11 (by kernel_rfl) (by kernel_rfl) (by kernel_rfl) ?hq11 ?hy11 (by assumption) ?hr11
                  case hi11 => (simp only [List.getElem?_toArray, List.getElem?_cons_succ, List.getElem?_cons_zero]; rfl)
                  case hq11 => exact fun _ _ _ h => h
                  case hy11 => first | exact Or.inl ⟨by rfl, by intro whSw hSw'; (try dsimp only at hSw'); (first | (go_simp; done) | (go_simp; with_reducible rfl))⟩ | exact Or.inr ⟨by rfl, by with_reducible rfl⟩ | fail
                  try simp only [Act.put, List.setIfInBounds_toArray, List.set_cons_zero, List.set_cons_succ]
                  refine wpAnyH_take (i := 11) (oi := ?oi12) (v := ?v12) ?hi12 (by kernel_rfl) (by kernel_rfl) (by kernel_rfl) ?hq12 ?hy12 (by assumption) ?hr12
                  case hi12 => (simp only [List.getElem?_toArray, List.getElem?_cons_succ, List.getElem?_cons_zero]; rfl)
                  case hq12 => exact fun _ _ _ h => h
                  case hy12 => first | exact Or.inl ⟨by rfl, by intro whSw hSw'; (try dsimp only at hSw'); (first | (go_simp; done) | (go_simp; with_reducible rfl))⟩ | exact Or.inr ⟨by rfl, by with_reducible rfl⟩ | fail
                  try simp only [Act.put, List.setIfInBounds_toArray, List.set_cons_zero, List.set_cons_succ]
                  refine wpAnyH_ready (rs := [12]) (by kernel_rfl) (by simp) ?_
                  refine AllReadyH.cons (o := ?oo13) ?hi13 (fun K hK => ?hs13) ?hm13
                  case hi13 => (simp only [List.getElem?_toArray, List.getElem?_cons_succ, List.getElem?_cons_zero]; rfl)
                  · go_simp
                    refine (HD.out X1 HB0.out).mono ?_
                    rintro e zz1 ⟨rfl, hbzz1⟩
                    have HBzz1 := Lib.hid (HB0.out.trans (hbzz1.mono HB0.out.size))
                    clear hbzz1
                    (try go_wp2_with fail)
                    refine hK.out _ _ ?_ (fun hHeld => ?_)
                    · (try dsimp only); exact HS.out zz1 HBzz1.out
                    clear hK K
                    try simp only [Act.put, List.setIfInBounds_toArray, List.set_cons_zero, List.set_cons_succ]
                    refine wpAnyH_take (i := 13) (oi := ?oi14) (v := ?v14) ?hi14 (by kernel_rfl) (by kernel_rfl) (by kernel_rfl) ?hq14 ?hy14 (by assumption) ?hr14
                    case hi14 => (simp only [List.getElem?_toArray, List.getElem?_cons_succ, List.getElem?_cons_zero]; rfl)
                    case hq14 => exact fun _ _ _ h => h
                    case hy14 => first | exact Or.inl ⟨by rfl, by intro whSw hSw'; (try dsimp only at hSw'); (first | (go_simp; done) | (go_simp; with_reducible rfl))⟩ | exact Or.inr ⟨by rfl, by with_reducible rfl⟩ | fail
                    try simp only [Act.put, List.setIfInBounds_toArray, List.set_cons_zero, List.set_cons_succ]
                    refine wpAnyH_take (i := 14) (oi := ?oi15) (v := ?v15) ?hi15 (by kernel_rfl) (by kernel_rfl) (by kernel_rfl) ?hq15 ?hy15 (by assumption) ?hr15
                    case hi15 => (simp only [List.getElem?_toArray, List.getElem?_cons_succ, List.getElem?_cons_zero]; rfl)
                    case hq15 => exact fun _ _ _ h => h
                    case hy15 => exact Or.inl ⟨by rfl, by intro whSw hSw'; (try dsimp only at hSw'); (first | (go_simp; done) | (go_simp; with_reducible rfl))⟩
                    try simp only [Act.put, List.setIfInBounds_toArray, List.set_cons_zero, List.set_cons_succ]
                    refine wpAnyH_take (i := 15) (oi := ?oi16) (v := ?v16) ?hi16 (by kernel_rfl) (by kernel_rfl) (by kernel_rfl) ?hq16 ?hy16 (by assumption) ?hr16
                    case hi16 => (simp only [List.getElem?_toArray, List.getElem?_cons_succ, List.getElem?_cons_zero]; rfl)
                    case hq16 => exact fun _ _ _ h => h
                    case hy16 => exact Or.inl ⟨by rfl, by intro whSw hSw'; (try dsimp only at hSw'); (first | (go_simp; done) | (go_simp; with_reducible rfl))⟩
                    try simp only [Act.put, List.setIfInBounds_toArray, List.set_cons_zero, List.set_cons_succ]
                    refine wpAnyH_take (i := 16) (oi := ?oi17) (v := ?v17) ?hi17 (by kernel_rfl) (by kernel_rfl) (by kernel_rfl) ?hq17 ?hy17 (by assumption) ?hr17
                    case hi17 => (simp only [List.getElem?_toArray, List.getElem?_cons_succ, List.getElem?_cons_zero]; rfl)
                    case hq17 => exact fun _ _ _ h => h
                    case hy17 => first | exact Or.inl ⟨by rfl, by intro whSw hSw'; (try dsimp only at hSw'); (first | (go_simp; done) | (go_simp; with_reducible rfl))⟩ | exact Or.inr ⟨by rfl, by with_reducible rfl⟩ | fail
                    try simp only [Act.put, List.setIfInBounds_toArray, List.set_cons_zero, List.set_cons_succ]
                    refine wpAnyH_take (i := 17) (oi := ?oi18) (v := ?v18) ?hi18 (by kernel_rfl) (by kernel_rfl) (by kernel_rfl) ?hq18 ?hy18 (by assumption) ?hr18
                    case hi18 => (simp only [List.getElem?_toArray, List.getElem?_cons_succ, List.getElem?_cons_zero]; rfl)
                    case hq18 => exact fun _ _ _ h => h
                    case hy18 => first | exact Or.inl ⟨by rfl, by intro whSw hSw'; (try dsimp only at hSw'); (first | (go_simp; done) | (go_simp; with_reducible rfl))⟩ | exact Or.inr ⟨by rfl, by with_reducible rfl⟩ | fail
                    try simp only [Act.put, List.setIfInBounds_toArray, List.set_cons_zero, List.set_cons_succ]
                    refine wpAnyH_take (i := 18) (oi := ?oi19) (v := ?v19) ?hi19 (by kernel_rfl) (by kernel_rfl) (by kernel_rfl) ?hq19 ?hy19 (by assumption) ?hr19
                    case hi19 => (simp only [List.getElem?_toArray, List.getElem?_cons_succ, List.getElem?_cons_zero]; rfl)
                    case hq19 => exact fun _ _ _ h => h
                    case hy19 => first | exact Or.inl ⟨by rfl, by intro whSw hSw'; (try dsimp only at hSw'); (first | (go_simp; done) | (go_simp; with_reducible rfl))⟩ | exact Or.inr ⟨by rfl, by with_reducible rfl⟩ | fail
                    try simp only [Act.put, List.setIfInBounds_toArray, List.set_cons_zero, List.set_cons_succ]
                    refine wpAnyH_take (i := 19) (oi := ?oi20) (v := ?v20) ?hi20 (by kernel_rfl) (by kernel_rfl) (by kernel_rfl) ?hq20 ?hy20 (by assumption) ?hr20
                    case hi20 => (simp only [List.getElem?_toArray, List.getElem?_cons_succ, List.getElem?_cons_zero]; rfl)
                    case hq20 => exact fun _ _ _ h => h
                    case hy20 => first | exact Or.inl ⟨by rfl, by intro whSw hSw'; (try dsimp only at hSw'); (first | (go_simp; done) | (go_simp; with_reducible rfl))⟩ | exact Or.inr ⟨by rfl, by with_reducible rfl⟩ | fail
                    try simp only [Act.put, List.setIfInBounds_toArray, List.set_cons_zero, List.set_cons_succ]
                    refine wpAnyH_take (i := 20) (oi := ?oi21) (v := ?v21) ?hi21 (by kernel_rfl) (by kernel_rfl) (by kernel_rfl) ?hq21 ?hy21 (by assumption) ?hr21
                    case hi21 => (simp only [List.getElem?_toArray, List.getElem?_cons_succ, List.getElem?_cons_zero]; rfl)
                    case hq21 => exact fun _ _ _ h => h
                    case hy21 => first | exact Or.inl ⟨by rfl, by intro whSw hSw'; (try dsimp only at hSw'); (first | (go_simp; done) | (go_simp; with_reducible rfl))⟩ | exact Or.inr ⟨by rfl, by with_reducible rfl⟩ | fail
                    try simp only [Act.put, List.setIfInBounds_toArray, List.set_cons_zero, List.set_cons_succ]
                    refine wpAnyH_take (i := 21) (oi := ?oi22) (v := ?v22) ?hi22 (by kernel_rfl) (by kernel_rfl) (by kernel_rfl) ?hq22 ?hy22 (by assumption) ?hr22
                    case hi22 => (simp only [List.getElem?_toArray, List.getElem?_cons_succ, List.getElem?_cons_zero]; rfl)
                    case hq22 => exact fun _ _ _ h => h
                    case hy22 => exact Or.inl ⟨by rfl, by intro whSw hSw'; (try dsimp only at hSw'); (first | (go_simp; done) | (go_simp; with_reducible rfl))⟩
                    try simp only [Act.put, List.setIfInBounds_toArray, List.set_cons_zero, List.set_cons_succ]
                    refine wpAnyH_take (i := 22) (oi := ?oi23) (v := ?v23) ?hi23 (by kernel_rfl) (by kernel_rfl) (by kernel_rfl) ?hq23 ?hy23 (by assumption) ?hr23
                    case hi23 => (simp only [List.getElem?_toArray, List.getElem?_cons_succ, List.getElem?_cons_zero]; rfl)
                    case hq23 => exact fun _ _ _ h => h
                    case hy23 => exact Or.inl ⟨by rfl, by intro whSw hSw'; (try dsimp only at hSw'); (first | (go_simp; done) | (go_simp; with_reducible rfl))⟩
                    try simp only [Act.put, List.setIfInBounds_toArray, List.set_cons_zero, List.set_cons_succ]
                    refine wpAnyH_take (i := 23) (oi := ?oi24) (v := ?v24) ?hi24 (by kernel_rfl) (by kernel_rfl) (by kernel_rfl) ?hq24 ?hy24 (by assumption) ?hr24
                    case hi24 => (simp only [List.getElem?_toArray, List.getElem?_cons_succ, List.getElem?_cons_zero]; rfl)
                    case hq24 => exact fun _ _ _ h => h
                    case hy24 => first | exact Or.inl ⟨by rfl, by intro whSw hSw'; (try dsimp only at hSw'); (first | (go_simp; done) | (go_simp; with_reducible rfl))⟩ | exact Or.inr ⟨by rfl, by with_reducible rfl⟩ | fail
                    try simp only [Act.put, List.setIfInBounds_toArray, List.set_cons_zero, List.set_cons_succ]
                    refine wpAnyH_take (i := 24) (oi := ?oi25) (v := ?v25) ?hi25 (by kernel_rfl) (by kernel_rfl) (by kernel_rfl) ?hq25 ?hy25 (by assumption) ?hr25
                    case hi25 => (simp only [List.getElem?_toArray, List.getElem?_cons_succ, List.getElem?_cons_zero]; rfl)
                    case hq25 => exact fun _ _ _ h => h
                    case hy25 => first | exact Or.inl ⟨by rfl, by intro whSw hSw'; (try dsimp only at hSw'); (first | (go_simp; done) | (go_simp; with_reducible rfl))⟩ | exact Or.inr ⟨by rfl, by with_reducible rfl⟩ | fail
                    try simp only [Act.put, List.setIfInBounds_toArray, List.set_cons_zero, List.set_cons_succ]
                    refine wpAnyH_take (i := 25) (oi := ?oi26) (v := ?v26) ?hi26 (by kernel_rfl) (by kernel_rfl) (by kernel_rfl) ?hq26 ?hy26 (by assumption) ?hr26
                    case hi26 => (simp only [List.getElem?_toArray, List.getElem?_cons_succ, List.getElem?_cons_zero]; rfl)
                    case hq26 => exact fun _ _ _ h => h
                    case hy26 => first | exact Or.inl ⟨by rfl, by intro whSw hSw'; (try dsimp only at hSw'); (first | (go_simp; done) | (go_simp; with_reducible rfl))⟩ | exact Or.inr ⟨by rfl, by with_reducible rfl⟩ | fail
                    try simp only [Act.put, List.setIfInBounds_toArray, List.set_cons_zero, List.set_cons_succ]
                    refine wpAnyH_take (i := 26) (oi := ?oi27) (v := ?v27) ?hi27 (by kernel_rfl) (by kernel_rfl) (by kernel_rfl) ?hq27 ?hy27 (by assumption) ?hr27
                    case hi27 => (simp only [List.getElem?_toArray, List.getElem?_cons_succ, List.getElem?_cons_zero]; rfl)
                    case hq27 => exact fun _ _ _ h => h
                    case hy27 => exact Or.inl ⟨by rfl, by intro whSw hSw'; (try dsimp only at hSw'); (first | (go_simp; done) | (go_simp; with_reducible rfl))⟩
                    try simp only [Act.put, List.setIfInBounds_toArray, List.set_cons_zero, List.set_cons_succ]
                    refine wpAnyH_done (by kernel_rfl) ?_ _
                    go_wp2_with fail
                    go_meet
                    exact ⟨rfl, HBzz1⟩
                  exact AllReadyH.nil
                case rest =>
                  obtain ⟨rfl, HB5⟩ := hcut
                  clear d1 d2 d3 d4 e1 HB4' HB3'
                  go_wp2_with fail
                  refine (HA.out _).mono ?_
                  rintro e w6 ⟨rfl, hb6⟩
                  have HB6 := Lib.hid (HB1.out.trans ((HB5.out.trans (hb6.mono HB5.out.size)).mono HB1.out.size))
                  clear hb6
                  go_wp2_with fail
                  go_ret
                  exact ⟨rfl, HB6.out⟩
              · obtain ⟨P, hj, hlen⟩ := join_com hO e
                have hzn : z < n := by
                  have := way_lt hO (by rw [hn]; exact hxn) ((comH_some hO).1 e).1
                  omega
                obtain ⟨r, hr, hr3⟩ := hLO.get (x := z) (by rw [hn]; exact hzn)
                obtain ⟨r1, r2, r3⟩ := r
                simp only at hr3
                have hwz := way_len hO (i := z) (by rw [hn]; exact hzn)
                have hwz1 : 0 < (way h z).length := List.length_pos_of_mem (way_self z)
                rw [hn] at hwz
                rw [e] at HC
                rw [hj] at HP
                simp only at HP
                obtain ⟨lp, hlp⟩ : ∃ lp, P.length = lp := ⟨_, rfl⟩
                rw [hlp] at hlen
                have e1 : decide (n ≤ z) = false := decide_eq_false (by omega)
                have e2 : (0 : Int) ≤ (z : Int) := by omega
                have e3 : decide ((z : Int) < 0) = false := decide_eq_false (by omega)
                have k1 : IntKind.i64.wrap (u3 + t3) = u3 + t3 := by rw [IntKind.wrap_i64]; omega
                have k2 : IntKind.i64.wrap (2 * r3) = 2 * r3 := by rw [IntKind.wrap_i64]; omega
                have k3 : IntKind.i64.wrap (u3 + t3 - 2 * r3) = u3 + t3 - 2 * r3 := by rw [IntKind.wrap_i64]; omega
                have k4 : IntKind.i64.wrap (u3 + t3 - 2 * r3 + 1) = u3 + t3 - 2 * r3 + 1 := by rw [IntKind.wrap_i64]; omega
                have k5 : ((lp : Int) == u3 + t3 - 2 * r3 + 1) = true := by simp <;> omega
                have HKK := Lib.hid (And.intro k1 (And.intro k2 (And.intro k3 (And.intro k4 k5))))
                have HLP := Lib.hid hlp
                have HR := Lib.hid hr
                clear hj e hO hLO hll hpar cij hu ht hu3 ht3 hwx hwy hwx1 hwy1 hn hv hlen hr hr3 hwz hwz1 hlp k1 k2 k3 k4 k5
                go_enter Try.func10, Try.ntmps10
                go_wp2_with fail
                refine HAS.out.mono ?_
                rintro e w1 ⟨⟨lv, rfl, hlv⟩, hb1⟩
                have HB1 := Lib.hid hb1
                have HLV := Lib.hid (fun W (hb : Below w1.heap.size w1 W) => hlv.below stays_lb hb)
                obtain ⟨A2, cap2, rfl, hc2⟩ := hlv.form
                rw [HLL.out] at hc2 HLV ⊢
                clear hb1 hlv
                go_wp2_with fail
                refine (HCH.out w1 HB1.out).mono ?_
                rintro e w2 ⟨rfl, hb2⟩
                have HB2 := Lib.hid (HB1.out.trans (hb2.mono HB1.out.size))
                have HB2' := Lib.hid hb2
                clear hb2
                go_wp2_with fail
                refine (HP.out w2 HB2.out).mono ?_
                rintro e w3 ⟨⟨pv, rfl, hpv⟩, hb3⟩
                obtain ⟨A3, cap3, rfl, hc3, -⟩ := hpv.form
                rw [HLP.out] at hc3 ⊢
                have HB3' := Lib.hid (HB2'.out.trans (hb3.mono HB2'.out.size))
                clear hb3 hpv
                go_wp2_with fail
                refine (HC.out w3 _ (HLV.out w3 HB3'.out)).mono ?_
                rintro e w4 ⟨rfl, hb4⟩
                have HB4' := Lib.hid (HB3'.out.trans (hb4.mono HB3'.out.size))
                clear hb4
                go_upto_region 12 with fail
                go_cut [97] from 71 to 97 (fun s97 wx => s97 = .bool false ∧ Hid (Below w1.heap.size w1 wx))
                case first =>
                  refine cp_strict ?_
                  obtain ⟨bl, ol, rfl, hbl, hcl⟩ := at_lb (HLV.out w1 (Below.refl _ _)) (by rw [HLL.out]; exact hn0)
                  have q1 := (hcl x _ HUT.out.1).2.2
                  simp only at q1
                  obtain ⟨X1, hX1⟩ : ∃ X, w4.drew = X := ⟨_, rfl⟩
                  have HX1 := Lib.hid hX1
                  have HB0 := Lib.hid (show Below w1.heap.size w1 X1 by rw [← hX1]; exact HB4'.out.drew)
                  have HS := Lib.hid (fun (W : World) (hb : Below w1.heap.size w1 W) => show W.cell? ⟨bl, ol + x * 3 + 2, none⟩ = some (.int .i64 u3) from (hb.cell (p := ⟨bl, ol + x * 3 + 2, none⟩) hbl).trans q1)
                  have HD := Lib.hid (fun (W : World) (hb : Below w1.heap.size w1 W) => HD.out W (HB1.out.trans (hb.mono HB1.out.size)))
                  clear hX1 hcl q1 hbl
                  refine wp_region_held_drew (S := (fun w' => w'.cell? ⟨bl, ol + x * 3 + 2, none⟩ = some (.int .i64 u3))) (by kernel_rfl) ?_ (fun hHeld => ?_)
                  · (try dsimp only); (rw [HX1.out]; exact HS.out X1 HB0.out)
                  rw [HX1.out] at hHeld ⊢
                  refine wpAnyH_take (i := 0) (oi := ?oi1001) (v := ?v1001) ?hi1001 (by kernel_rfl) (by kernel_rfl) (by kernel_rfl) ?hq1001 ?hy1001 (by assumption) ?hr1001
                  case hi1001 => (simp only [List.getElem?_toArray, List.getElem?_cons_zero]; rfl)
                  case hq1001 => exact fun _ _ _ h => h
                  case hy1001 => exact Or.inl ⟨by rfl, by intro whSw hSw'; (try dsimp only at hSw'); (first | (go_simp; done) | (go_simp; with_reducible rfl))⟩
                  try simp only [Act.put, List.setIfInBounds_toArray, List.set_cons_zero, List.set_cons_succ]
                  refine wpAnyH_take (i := 1) (oi := ?oi1002) (v := ?v1002) ?hi1002 (by kernel_rfl) (by kernel_rfl) (by kernel_rfl) ?hq1002 ?hy1002 (by assumption) ?hr1002
                  case hi1002 => (simp only [List.getElem?_toArray, List.getElem?_cons_succ, List.getElem?_cons_zero]; rfl)
                  case hq1002 => exact fun _ _ _ h => h
                  case hy1002 => exact Or.inl ⟨by rfl, by intro whSw hSw'; (try dsimp only at hSw'); (first | (go_simp; done) | (go_simp; with_reducible rfl))⟩
                  try simp only [Act.put, List.setIfInBounds_toArray, List.set_cons_zero, List.set_cons_succ]
                  refine wpAnyH_take (i := 2) (oi := ?oi1003) (v := ?v1003) ?hi1003 (by kernel_rfl) (by kernel_rfl) (by kernel_rfl) ?hq1003 ?hy1003 (by assumption) ?hr1003
                  case hi1003 => (simp only [List.getElem?_toArray, List.getElem?_cons_succ, List.getElem?_cons_zero]; rfl)
                  case hq1003 => exact fun _ _ _ h => h
                  case hy1003 => exact Or.inl ⟨by rfl, by intro whSw hSw'; (try dsimp only at hSw'); (first | (go_simp; done) | (go_simp; with_reducible rfl))⟩
                  try simp only [Act.put, List.setIfInBounds_toArray, List.set_cons_zero, List.set_cons_succ]
                  refine wpAnyH_take (i := 3) (oi := ?oi1004) (v := ?v1004) ?hi1004 (by kernel_rfl) (by kernel_rfl) (by kernel_rfl) ?hq1004 ?hy1004 (by assumption) ?hr1004
                  case hi1004 => (simp only [List.getElem?_toArray, List.getElem?_cons_succ, List.getElem?_cons_zero]; rfl)
                  case hq1004 => exact fun _ _ _ h => h
                  case hy1004 => exact Or.inl ⟨by rfl, by intro whSw hSw'; (try dsimp only at hSw'); (first | (go_simp; done) | (go_simp; with_reducible rfl))⟩
                  try simp only [Act.put, List.setIfInBounds_toArray, List.set_cons_zero, List.set_cons_succ]
                  refine wpAnyH_take (i := 4) (oi := ?oi1005) (v := ?v1005) ?hi1005 (by kernel_rfl) (by kernel_rfl) (by kernel_rfl) ?hq1005 ?hy1005 (by assumption) ?hr1005
                  case hi1005 => (simp only [List.getElem?_toArray, List.getElem?_cons_succ, List.getElem?_cons_zero]; rfl)
                  case hq1005 => exact fun _ _ _ h => h
                  case hy1005 => exact Or.inl ⟨by rfl, by intro whSw hSw'; (try dsimp only at hSw'); (first | (go_simp; done) | (go_simp; with_reducible rfl))⟩
                  try simp only [Act.put, List.setIfInBounds_toArray, List.set_cons_zero, List.set_cons_succ]
                  refine wpAnyH_take (i := 5) (oi := ?oi1006) (v := ?v1006) ?hi1006 (by kernel_rfl) (by kernel_rfl) (by kernel_rfl) ?hq1006 ?hy1006 (by assumption) ?hr1006
                  case hi1006 => (simp only [List.getElem?_toArray, List.getElem?_cons_succ, List.getElem?_cons_zero]; rfl)
                  case hq1006 => exact fun _ _ _ h => h
                  case hy1006 => first | exact Or.inl ⟨by rfl, by intro whSw hSw'; (try dsimp only at hSw'); (first | (go_simp; done) | (go_simp; with_reducible rfl))⟩ | exact Or.inr ⟨by rfl, by with_reducible rfl⟩ | fail
                  try simp only [Act.put, List.setIfInBounds_toArray, List.set_cons_zero, List.set_cons_succ]
                  refine wpAnyH_take (i := 6) (oi := ?oi1007) (v := ?v1007) ?hi1007 (by kernel_rfl) (by kernel_rfl) (by kernel_rfl) ?hq1007 ?hy1007 (by assumption) ?hr1007
                  case hi1007 => (simp only [List.getElem?_toArray, List.getElem?_cons_succ, List.getElem?_cons_zero]; rfl)
                  case hq1007 => exact fun _ _ _ h => h
                  case hy1007 => first | exact Or.inl ⟨by rfl, by intro whSw hSw'; (try dsimp only at hSw'); (first | (go_simp; done) | (go_simp; with_reducible rfl))⟩ | exact Or.inr ⟨by rfl, by with_reducible rfl⟩ | fail
                  try simp only [Act.put, List.setIfInBounds_toArray, List.set_cons_zero, List.set_cons_succ]
                  refine wpAnyH_take (i := 7) (oi := ?oi1008) (v := ?v1008) ?hi1008 (by kernel_rfl) (by kernel_rfl) (by kernel_rfl) ?hq1008 ?hy1008 (by assumption) ?hr1008
                  case hi1008 => (simp only [List.getElem?_toArray, List.getElem?_cons_succ, List.getElem?_cons_zero]; rfl)
                  case hq1008 => exact fun _ _ _ h => h
                  case hy1008 => first | exact Or.inl ⟨by rfl, by intro whSw hSw'; (try dsimp only at hSw'); (first | (go_simp; done) | (go_simp; with_reducible rfl))⟩ | exact Or.inr ⟨by rfl, by with_reducible rfl⟩ | fail
                  try simp only [Act.put, List.setIfInBounds_toArray, List.set_cons_zero, List.set_cons_succ]
                  refine wpAnyH_take (i := 8) (oi := ?oi1009) (v := ?v1009) ?hi1009 (by kernel_rfl) (by kernel_rfl) (by kernel_rfl) ?hq1009 ?hy1009 (by assumption) ?hr1009
                  case hi1009 => (simp only [List.getElem?_toArray, List.getElem?_cons_succ, List.getElem?_cons_zero]; rfl)
                  case hq1009 => exact fun _ _ _ h => h
                  case hy1009 => first | exact Or.inl ⟨by rfl, by intro whSw hSw'; (try dsimp only at hSw'); (first | (go_simp; done) | (go_simp; with_reducible rfl))⟩ | exact Or.inr ⟨by rfl, by with_reducible rfl⟩ | fail
                  try simp only [Act.put, List.setIfInBounds_toArray, List.set_cons_zero, List.set_cons_succ]
                  refine wpAnyH_take (i := 9) (oi := ?oi1010) (v := ?v1010) ?hi1010 (by kernel_rfl) (by kernel_rfl) (by kernel_rfl) ?hq1010 ?hy1010 (by assumption) ?hr1010
                  case hi1010 => (simp only [List.getElem?_toArray, List.getElem?_cons_succ, List.getElem?_cons_zero]; rfl)
                  case hq1010 => exact fun _ _ _ h => h
                  case hy1010 => first | exact Or.inl ⟨by rfl, by intro whSw hSw'; (try dsimp only at hSw'); (first | (go_simp; done) | (go_simp; with_reducible rfl))⟩ | exact Or.inr ⟨by rfl, by with_reducible rfl⟩ | fail
                  try simp only [Act.put, List.setIfInBounds_toArray, List.set_cons_zero, List.set_cons_succ]
                  refine wpAnyH_take (i := 10) (oi := ?oi1011) (v := ?v1011) ?hi1011 (by kernel_rfl) (by kernel_rfl) (by kernel_rfl) ?hq1011 ?hy1011 (by assumption) ?hr1011
                  case hi1011 => (simp only [List.getElem?_toArray, List.getElem?_cons_succ, List.getElem?_cons_zero]; rfl)
                  case hq1011 => exact fun _ _ _ h => h
                  case hy1011 => first | exact Or.inl ⟨by rfl, by intro whSw hSw'; (try dsimp only at hSw'); (first | (go_simp; done) | (go_simp; with_reducible rfl))⟩ | exact Or.inr ⟨by rfl, by with_reducible rfl⟩ | fail
                  try simp only [Act.put, List.setIfInBounds_toArray, List.set_cons_zero, List.set_cons_succ]
                  refine wpAnyH_take (i := 11) (oi := ?oi1012) (v := ?v1012) ?hi1012 (by kernel_rfl) (by kernel_rfl) (by kernel_rfl) ?hq1012 ?hy1012 (by assumption) ?hr1012
                  case hi1012 => (simp only [List.getElem?_toArray, List.getElem?_cons_succ, List.getElem?_cons_zero]; rfl)
                  case hq1012 => exact fun _ _ _ h => h
                  case hy1012 => first | exact Or.inl ⟨by rfl, by intro whSw hSw'; (try dsimp only at hSw'); (first | (go_simp; done) | (go_simp; with_reducible rfl))⟩ | exact Or.inr ⟨by rfl, by with_reducible rfl⟩ | fail
                  try simp only [Act.put, List.setIfInBounds_toArray, List.set_cons_zero, List.set_cons_succ]
                  refine wpAnyH_ready (rs := [12]) (by kernel_rfl) (by simp) ?_
                  refine AllReadyH.cons (o := ?oo1013) ?hi1013 (fun K hK => ?hs1013) ?hm1013
                  case hi1013 => (simp only [List.getElem?_toArray, List.getElem?_cons_succ, List.getElem?_cons_zero]; rfl)
                  · go_simp
                    refine (HD.out X1 HB0.out).mono ?_
                    rintro e zz1 ⟨rfl, hbzz1⟩
                    have HBzz1 := Lib.hid (HB0.out.trans (hbzz1.mono HB0.out.size))
                    clear hbzz1
                    (try go_wp2_with fail)
                    refine hK.out _ _ ?_ (fun hHeld => ?_)
                    · (try dsimp only); exact HS.out zz1 HBzz1.out
                    clear hK K
                    try simp only [Act.put, List.setIfInBounds_toArray, List.set_cons_zero, List.set_cons_succ]
                    refine wpAnyH_take (i := 13) (oi := ?oi1014) (v := ?v1014) ?hi1014 (by kernel_rfl) (by kernel_rfl) (by kernel_rfl) ?hq1014 ?hy1014 (by assumption) ?hr1014
                    case hi1014 => (simp only [List.getElem?_toArray, List.getElem?_cons_succ, List.getElem?_cons_zero]; rfl)
                    case hq1014 => exact fun _ _ _ h => h
                    case hy1014 => first | exact Or.inl ⟨by rfl, by intro whSw hSw'; (try dsimp only at hSw'); (first | (go_simp; done) | (go_simp; with_reducible rfl))⟩ | exact Or.inr ⟨by rfl, by with_reducible rfl⟩ | fail
                    try simp only [Act.put, List.setIfInBounds_toArray, List.set_cons_zero, List.set_cons_succ]
                    refine wpAnyH_take (i := 14) (oi := ?oi1015) (v := ?v1015) ?hi1015 (by kernel_rfl) (by kernel_rfl) (by kernel_rfl) ?hq1015 ?hy1015 (by assumption) ?hr1015
                    case hi1015 => (simp only [List.getElem?_toArray, List.getElem?_cons_succ, List.getElem?_cons_zero]; rfl)
                    case hq1015 => exact fun _ _ _ h => h
                    case hy1015 => exact Or.inl ⟨by rfl, by intro whSw hSw'; (try dsimp only at hSw'); (first | (go_simp; done) | (go_simp; with_reducible rfl))⟩
                    try simp only [Act.put, List.setIfInBounds_toArray, List.set_cons_zero, List.set_cons_succ]
                    refine wpAnyH_take (i := 15) (oi := ?oi1016) (v := ?v1016) ?hi1016 (by kernel_rfl) (by kernel_rfl) (by kernel_rfl) ?hq1016 ?hy1016 (by assumption) ?hr1016
                    case hi1016 => (simp only [List.getElem?_toArray, List.getElem?_cons_succ, List.getElem?_cons_zero]; rfl)
                    case hq1016 => exact fun _ _ _ h => h
                    case hy1016 => exact Or.inl ⟨by rfl, by intro whSw hSw'; (try dsimp only at hSw'); (first | (go_simp; done) | (go_simp; with_reducible rfl))⟩
                    try simp only [Act.put, List.setIfInBounds_toArray, List.set_cons_zero, List.set_cons_succ]
                    refine wpAnyH_take (i := 16) (oi := ?oi1017) (v := ?v1017) ?hi1017 (by kernel_rfl) (by kernel_rfl) (by kernel_rfl) ?hq1017 ?hy1017 (by assumption) ?hr1017
                    case hi1017 => (simp only [List.getElem?_toArray, List.getElem?_cons_succ, List.getElem?_cons_zero]; rfl)
                    case hq1017 => exact fun _ _ _ h => h
                    case hy1017 => first | exact Or.inl ⟨by rfl, by intro whSw hSw'; (try dsimp only at hSw'); (first | (go_simp; done) | (go_simp; with_reducible rfl))⟩ | exact Or.inr ⟨by rfl, by with_reducible rfl⟩ | fail
                    try simp only [Act.put, List.setIfInBounds_toArray, List.set_cons_zero, List.set_cons_succ]
                    refine wpAnyH_take (i := 17) (oi := ?oi1018) (v := ?v1018) ?hi1018 (by kernel_rfl) (by kernel_rfl) (by kernel_rfl) ?hq1018 ?hy1018 (by assumption) ?hr1018
                    case hi1018 => (simp only [List.getElem?_toArray, List.getElem?_cons_succ, List.getElem?_cons_zero]; rfl)
                    case hq1018 => exact fun _ _ _ h => h
                    case hy1018 => first | exact Or.inl ⟨by rfl, by intro whSw hSw'; (try dsimp only at hSw'); (first | (go_simp; done) | (go_simp; with_reducible rfl))⟩ | exact Or.inr ⟨by rfl, by with_reducible rfl⟩ | fail
                    try simp only [Act.put, List.setIfInBounds_toArray, List.set_cons_zero, List.set_cons_succ]
                    refine wpAnyH_take (i := 18) (oi := ?oi1019) (v := ?v1019) ?hi1019 (by kernel_rfl) (by kernel_rfl) (by kernel_rfl) ?hq1019 ?hy1019 (by assumption) ?hr1019
                    case hi1019 => (simp only [List.getElem?_toArray, List.getElem?_cons_succ, List.getElem?_cons_zero]; rfl)
                    case hq1019 => exact fun _ _ _ h => h
                    case hy1019 => first | exact Or.inl ⟨by rfl, by intro whSw hSw'; (try dsimp only at hSw'); (first | (go_simp; done) | (go_simp; with_reducible rfl))⟩ | exact Or.inr ⟨by rfl, by with_reducible rfl⟩ | fail
                    try simp only [Act.put, List.setIfInBounds_toArray, List.set_cons_zero, List.set_cons_succ]
                    refine wpAnyH_take (i := 19) (oi := ?oi1020) (v := ?v1020) ?hi1020 (by kernel_rfl) (by kernel_rfl) (by kernel_rfl) ?hq1020 ?hy1020 (by assumption) ?hr1020
                    case hi1020 => (simp only [List.getElem?_toArray, List.getElem?_cons_succ, List.getElem?_cons_zero]; rfl)
                    case hq1020 => exact fun _ _ _ h => h
                    case hy1020 => first | exact Or.inl ⟨by rfl, by intro whSw hSw'; (try dsimp only at hSw'); (first | (go_simp; done) | (go_simp; with_reducible rfl))⟩ | exact Or.inr ⟨by rfl, by with_reducible rfl⟩ | fail
                    try simp only [Act.put, List.setIfInBounds_toArray, List.set_cons_zero, List.set_cons_succ]
                    refine wpAnyH_take (i := 20) (oi := ?oi1021) (v := ?v1021) ?hi1021 (by kernel_rfl) (by kernel_rfl) (by kernel_rfl) ?hq1021 ?hy1021 (by assumption) ?hr1021
                    case hi1021 => (simp only [List.getElem?_toArray, List.getElem?_cons_succ, List.getElem?_cons_zero]; rfl)
                    case hq1021 => exact fun _ _ _ h => h
                    case hy1021 => first | exact Or.inl ⟨by rfl, by intro whSw hSw'; (try dsimp only at hSw'); (first | (go_simp; done) | (go_simp; with_reducible rfl))⟩ | exact Or.inr ⟨by rfl, by with_reducible rfl⟩ | fail
                    try simp only [Act.put, List.setIfInBounds_toArray, List.set_cons_zero, List.set_cons_succ]
                    refine wpAnyH_take (i := 21) (oi := ?oi1022) (v := ?v1022) ?hi1022 (by kernel_rfl) (by kernel_rfl) (by kernel_rfl) ?hq1022 ?hy1022 (by assumption) ?hr1022
                    case hi1022 => (simp only [List.getElem?_toArray, List.getElem?_cons_succ, List.getElem?_cons_zero]; rfl)
                    case hq1022 => exact fun _ _ _ h => h
                    case hy1022 => exact Or.inl ⟨by rfl, by intro whSw hSw'; (try dsimp only at hSw'); (first | (go_simp; done) | (go_simp; with_reducible rfl))⟩
                    try simp only [Act.put, List.setIfInBounds_toArray, List.set_cons_zero, List.set_cons_succ]
                    refine wpAnyH_take (i := 22) (oi := ?oi1023) (v := ?v1023) ?hi1023 (by kernel_rfl) (by kernel_rfl) (by kernel_rfl) ?hq1023 ?hy1023 (by assumption) ?hr1023
                    case hi1023 => (simp only [List.getElem?_toArray, List.getElem?_cons_succ, List.getElem?_cons_zero]; rfl)
                    case hq1023 => exact fun _ _ _ h => h
                    case hy1023 => exact Or.inl ⟨by rfl, by intro whSw hSw'; (try dsimp only at hSw'); (first | (go_simp; done) | (go_simp; with_reducible rfl))⟩
                    try simp only [Act.put, List.setIfInBounds_toArray, List.set_cons_zero, List.set_cons_succ]
                    refine wpAnyH_take (i := 23) (oi := ?oi1024) (v := ?v1024) ?hi1024 (by kernel_rfl) (by kernel_rfl) (by kernel_rfl) ?hq1024 ?hy1024 (by assumption) ?hr1024
                    case hi1024 => (simp only [List.getElem?_toArray, List.getElem?_cons_succ, List.getElem?_cons_zero]; rfl)
                    case hq1024 => exact fun _ _ _ h => h
                    case hy1024 => first | exact Or.inl ⟨by rfl, by intro whSw hSw'; (try dsimp only at hSw'); (first | (go_simp; done) | (go_simp; with_reducible rfl))⟩ | exact Or.inr ⟨by rfl, by with_reducible rfl⟩ | fail
                    try simp only [Act.put, List.setIfInBounds_toArray, List.set_cons_zero, List.set_cons_succ]
                    refine wpAnyH_take (i := 24) (oi := ?oi1025) (v := ?v1025) ?hi1025 (by kernel_rfl) (by kernel_rfl) (by kernel_rfl) ?hq1025 ?hy1025 (by assumption) ?hr1025
                    case hi1025 => (simp only [List.getElem?_toArray, List.getElem?_cons_succ, List.getElem?_cons_zero]; rfl)
                    case hq1025 => exact fun _ _ _ h => h
                    case hy1025 => first | exact Or.inl ⟨by rfl, by intro whSw hSw'; (try dsimp only at hSw'); (first | (go_simp; done) | (go_simp; with_reducible rfl))⟩ | exact Or.inr ⟨by rfl, by with_reducible rfl⟩ | fail
                    try simp only [Act.put, List.setIfInBounds_toArray, List.set_cons_zero, List.set_cons_succ]
                    refine wpAnyH_take (i := 25) (oi := ?oi1026) (v := ?v1026) ?hi1026 (by kernel_rfl) (by kernel_rfl) (by kernel_rfl) ?hq1026 ?hy1026 (by assumption) ?hr1026
                    case hi1026 => (simp only [List.getElem?_toArray, List.getElem?_cons_succ, List.getElem?_cons_zero]; rfl)
                    case hq1026 => exact fun _ _ _ h => h
                    case hy1026 => first | exact Or.inl ⟨by rfl, by intro whSw hSw'; (try dsimp only at hSw'); (first | (go_simp; done) | (go_simp; with_reducible rfl))⟩ | exact Or.inr ⟨by rfl, by with_reducible rfl⟩ | fail
                    try simp only [Act.put, List.setIfInBounds_toArray, List.set_cons_zero, List.set_cons_succ]
                    refine wpAnyH_take (i := 26) (oi := ?oi1027) (v := ?v1027) ?hi1027 (by kernel_rfl) (by kernel_rfl) (by kernel_rfl) ?hq1027 ?hy1027 (by assumption) ?hr1027
                    case hi1027 => (simp only [List.getElem?_toArray, List.getElem?_cons_succ, List.getElem?_cons_zero]; rfl)
                    case hq1027 => exact fun _ _ _ h => h
                    case hy1027 => exact Or.inl ⟨by rfl, by intro whSw hSw'; (try dsimp only at hSw'); (first | (go_simp; done) | (go_simp; with_reducible rfl))⟩
                    try simp only [Act.put, List.setIfInBounds_toArray, List.set_cons_zero, List.set_cons_succ]
                    refine wpAnyH_done (by kernel_rfl) ?_ _
                    go_wp2_with fail
                    go_meet
                    exact ⟨rfl, HBzz1⟩
                  exact AllReadyH.nil
                case rest =>
                  obtain ⟨rfl, HB5⟩ := hcut
                  clear HB4' HB3' HD HB2 HB2'
                  have HB2 := HB1
                  go_upto_region 16 with fail
                  obtain ⟨k1, k2, k3, k4, k5⟩ := HKK.out
                  obtain ⟨bl, ol, rfl, hbl, hcl⟩ := at_lb (HLV.out w1 (Below.refl _ _)) (by rw [HLL.out]; exact hn0)
                  have q1 := (hcl x _ HUT.out.1).2.2
                  have q2 := (hcl y _ HUT.out.2).2.2
                  have q3 := (hcl z _ HR.out).2.2
                  simp only at q1 q2 q3
                  obtain ⟨X1, hX1⟩ : ∃ X, wc.drew = X := ⟨_, rfl⟩
                  have HX1 := Lib.hid hX1
                  have HB0 := Lib.hid (show Below w1.heap.size w1 X1 by rw [← hX1]; exact HB5.out.drew)
                  have HS := Lib.hid (fun (W : World) (hb : Below w1.heap.size w1 W) => show W.cell? ⟨bl, ol + x * 3 + 2, none⟩ = some (.int .i64 u3) ∧ W.cell? ⟨bl, ol + y * 3 + 2, none⟩ = some (.int .i64 t3) ∧ W.cell? ⟨bl, ol + z * 3 + 2, none⟩ = some (.int .i64 r3) from ⟨(hb.cell (p := ⟨bl, ol + x * 3 + 2, none⟩) hbl).trans q1, (hb.cell (p := ⟨bl, ol + y * 3 + 2, none⟩) hbl).trans q2, (hb.cell (p := ⟨bl, ol + z * 3 + 2, none⟩) hbl).trans q3⟩)
                  clear hX1 hcl q1 q2 q3 hbl
                  refine wp_region_held_drew (S := (fun w' => w'.cell? ⟨bl, ol + x * 3 + 2, none⟩ = some (.int .i64 u3) ∧ w'.cell? ⟨bl, ol + y * 3 + 2, none⟩ = some (.int .i64 t3) ∧ w'.cell? ⟨bl, ol + z * 3 + 2, none⟩ = some (.int .i64 r3))) (by kernel_rfl) ?_ (fun hHeld => ?_)
                  · (try dsimp only); (rw [HX1.out]; exact HS.out X1 HB0.out)
                  rw [HX1.out] at hHeld ⊢
                  refine wpAnyH_take (i := 0) (oi := ?oi2001) (v := ?v2001) ?hi2001 (by kernel_rfl) (by kernel_rfl) (by kernel_rfl) ?hq2001 ?hy2001 (by assumption) ?hr2001
                  case hi2001 => (simp only [List.getElem?_toArray, List.getElem?_cons_zero]; rfl)
                  case hq2001 => exact fun _ _ _ h => h
                  case hy2001 => exact Or.inl ⟨by rfl, by intro whSw hSw'; (try dsimp only at hSw'); (first | (go_simp; done) | (go_simp; with_reducible rfl))⟩
                  try simp only [Act.put, List.setIfInBounds_toArray, List.set_cons_zero, List.set_cons_succ]
                  refine wpAnyH_take (i := 1) (oi := ?oi2002) (v := ?v2002) ?hi2002 (by kernel_rfl) (by kernel_rfl) (by kernel_rfl) ?hq2002 ?hy2002 (by assumption) ?hr2002
                  case hi2002 => (simp only [List.getElem?_toArray, List.getElem?_cons_succ, List.getElem?_cons_zero]; rfl)
                  case hq2002 => exact fun _ _ _ h => h
                  case hy2002 => exact Or.inl ⟨by rfl, by intro whSw hSw'; (try dsimp only at hSw'); (first | (go_simp; done) | (go_simp; with_reducible rfl))⟩
                  try simp only [Act.put, List.setIfInBounds_toArray, List.set_cons_zero, List.set_cons_succ]
                  refine wpAnyH_take (i := 2) (oi := ?oi2003) (v := ?v2003) ?hi2003 (by kernel_rfl) (by kernel_rfl) (by kernel_rfl) ?hq2003 ?hy2003 (by assumption) ?hr2003
                  case hi2003 => (simp only [List.getElem?_toArray, List.getElem?_cons_succ, List.getElem?_cons_zero]; rfl)
                  case hq2003 => exact fun _ _ _ h => h
                  case hy2003 => exact Or.inl ⟨by rfl, by intro whSw hSw'; (try dsimp only at hSw'); (first | (go_simp; done) | (go_simp; with_reducible rfl))⟩
                  try simp only [Act.put, List.setIfInBounds_toArray, List.set_cons_zero, List.set_cons_succ]
                  refine wpAnyH_take (i := 3) (oi := ?oi2004) (v := ?v2004) ?hi2004 (by kernel_rfl) (by kernel_rfl) (by kernel_rfl) ?hq2004 ?hy2004 (by assumption) ?hr2004
                  case hi2004 => (simp only [List.getElem?_toArray, List.getElem?_cons_succ, List.getElem?_cons_zero]; rfl)
                  case hq2004 => exact fun _ _ _ h => h
                  case hy2004 => exact Or.inl ⟨by rfl, by intro whSw hSw'; (try dsimp only at hSw'); (first | (go_simp; done) | (go_simp; with_reducible rfl))⟩
                  try simp only [Act.put, List.setIfInBounds_toArray, List.set_cons_zero, List.set_cons_succ]
                  refine wpAnyH_take (i := 4) (oi := ?oi2005) (v := ?v2005) ?hi2005 (by kernel_rfl) (by kernel_rfl) (by kernel_rfl) ?hq2005 ?hy2005 (by assumption) ?hr2005
                  case hi2005 => (simp only [List.getElem?_toArray, List.getElem?_cons_succ, List.getElem?_cons_zero]; rfl)
                  case hq2005 => exact fun _ _ _ h => h
                  case hy2005 => exact Or.inl ⟨by rfl, by intro whSw hSw'; (try dsimp only at hSw'); (first | (go_simp; done) | (go_simp; with_reducible rfl))⟩
                  try simp only [Act.put, List.setIfInBounds_toArray, List.set_cons_zero, List.set_cons_succ]
                  refine wpAnyH_take (i := 5) (oi := ?oi2006) (v := ?v2006) ?hi2006 (by kernel_rfl) (by kernel_rfl) (by kernel_rfl) ?hq2006 ?hy2006 (by assumption) ?hr2006
                  case hi2006 => (simp only [List.getElem?_toArray, List.getElem?_cons_succ, List.getElem?_cons_zero]; rfl)
                  case hq2006 => exact fun _ _ _ h => h
                  case hy2006 => exact Or.inl ⟨by rfl, by intro whSw hSw'; (try dsimp only at hSw'); (first | (go_simp; done) | (go_simp; with_reducible rfl))⟩
                  try simp only [Act.put, List.setIfInBounds_toArray, List.set_cons_zero, List.set_cons_succ]
                  refine wpAnyH_take (i := 6) (oi := ?oi2007) (v := ?v2007) ?hi2007 (by kernel_rfl) (by kernel_rfl) (by kernel_rfl) ?hq2007 ?hy2007 (by assumption) ?hr2007
                  case hi2007 => (simp only [List.getElem?_toArray, List.getElem?_cons_succ, List.getElem?_cons_zero]; rfl)
                  case hq2007 => exact fun _ _ _ h => h
                  case hy2007 => exact Or.inl ⟨by rfl, by intro whSw hSw'; (try dsimp only at hSw'); (first | (go_simp; done) | (go_simp; with_reducible rfl))⟩
                  try simp only [Act.put, List.setIfInBounds_toArray, List.set_cons_zero, List.set_cons_succ]
                  refine wpAnyH_take (i := 7) (oi := ?oi2008) (v := ?v2008) ?hi2008 (by kernel_rfl) (by kernel_rfl) (by kernel_rfl) ?hq2008 ?hy2008 (by assumption) ?hr2008
                  case hi2008 => (simp only [List.getElem?_toArray, List.getElem?_cons_succ, List.getElem?_cons_zero]; rfl)
                  case hq2008 => exact fun _ _ _ h => h
                  case hy2008 => exact Or.inl ⟨by rfl, by intro whSw hSw'; (try dsimp only at hSw'); (first | (go_simp; done) | (go_simp; with_reducible rfl))⟩
                  try simp only [Act.put, List.setIfInBounds_toArray, List.set_cons_zero, List.set_cons_succ]
                  refine wpAnyH_take (i := 8) (oi := ?oi2009) (v := ?v2009) ?hi2009 (by kernel_rfl) (by kernel_rfl) (by kernel_rfl) ?hq2009 ?hy2009 (by assumption) ?hr2009
                  case hi2009 => (simp only [List.getElem?_toArray, List.getElem?_cons_succ, List.getElem?_cons_zero]; rfl)
                  case hq2009 => exact fun _ _ _ h => h
                  case hy2009 => exact Or.inl ⟨by rfl, by intro whSw hSw'; (try dsimp only at hSw'); (first | (go_simp; done) | (go_simp; with_reducible rfl))⟩
                  try simp only [Act.put, List.setIfInBounds_toArray, List.set_cons_zero, List.set_cons_succ]
                  refine wpAnyH_take (i := 9) (oi := ?oi2010) (v := ?v2010) ?hi2010 (by kernel_rfl) (by kernel_rfl) (by kernel_rfl) ?hq2010 ?hy2010 (by assumption) ?hr2010
                  case hi2010 => (simp only [List.getElem?_toArray, List.getElem?_cons_succ, List.getElem?_cons_zero]; rfl)
                  case hq2010 => exact fun _ _ _ h => h
                  case hy2010 => exact Or.inl ⟨by rfl, by intro whSw hSw'; (try dsimp only at hSw'); (first | (go_simp; done) | (go_simp; with_reducible rfl))⟩
                  try simp only [Act.put, List.setIfInBounds_toArray, List.set_cons_zero, List.set_cons_succ]
                  refine wpAnyH_take (i := 10) (oi := ?oi2011) (v := ?v2011) ?hi2011 (by kernel_rfl) (by kernel_rfl) (by kernel_rfl) ?hq2011 ?hy2011 (by assumption) ?hr2011
                  case hi2011 => (simp only [List.getElem?_toArray, List.getElem?_cons_succ, List.getElem?_cons_zero]; rfl)
                  case hq2011 => exact fun _ _ _ h => h
                  case hy2011 => exact Or.inl ⟨by rfl, by intro whSw hSw'; (try dsimp only at hSw'); (first | (go_simp; done) | (go_simp; with_reducible rfl))⟩
                  try simp only [Act.put, List.setIfInBounds_toArray, List.set_cons_zero, List.set_cons_succ]
                  refine wpAnyH_take (i := 11) (oi := ?oi2012) (v := ?v2012) ?hi2012 (by kernel_rfl) (by kernel_rfl) (by kernel_rfl) ?hq2012 ?hy2012 (by assumption) ?hr2012
                  case hi2012 => (simp only [List.getElem?_toArray, List.getElem?_cons_succ, List.getElem?_cons_zero]; rfl)
                  case hq2012 => exact fun _ _ _ h => h
                  case hy2012 => exact Or.inl ⟨by rfl, by intro whSw hSw'; (try dsimp only at hSw'); (first | (go_simp; done) | (go_simp; with_reducible rfl))⟩
                  try simp only [Act.put, List.setIfInBounds_toArray, List.set_cons_zero, List.set_cons_succ]
                  refine wpAnyH_take (i := 12) (oi := ?oi2013) (v := ?v2013) ?hi2013 (by kernel_rfl) (by kernel_rfl) (by kernel_rfl) ?hq2013 ?hy2013 (by assumption) ?hr2013
                  case hi2013 => (simp only [List.getElem?_toArray, List.getElem?_cons_succ, List.getElem?_cons_zero]; rfl)
                  case hq2013 => exact fun _ _ _ h => h
                  case hy2013 => exact Or.inl ⟨by rfl, by intro whSw hSw'; (try dsimp only at hSw'); (first | (go_simp; done) | (go_simp; with_reducible rfl))⟩
                  try simp only [Act.put, List.setIfInBounds_toArray, List.set_cons_zero, List.set_cons_succ]
                  refine wpAnyH_take (i := 13) (oi := ?oi2014) (v := ?v2014) ?hi2014 (by kernel_rfl) (by kernel_rfl) (by kernel_rfl) ?hq2014 ?hy2014 (by assumption) ?hr2014
                  case hi2014 => (simp only [List.getElem?_toArray, List.getElem?_cons_succ, List.getElem?_cons_zero]; rfl)
                  case hq2014 => exact fun _ _ _ h => h
                  case hy2014 => exact Or.inl ⟨by rfl, by intro whSw hSw'; (try dsimp only at hSw'); (first | (go_simp; done) | (go_simp; with_reducible rfl))⟩
                  try simp only [Act.put, List.setIfInBounds_toArray, List.set_cons_zero, List.set_cons_succ]
                  refine wpAnyH_take (i := 14) (oi := ?oi2015) (v := ?v2015) ?hi2015 (by kernel_rfl) (by kernel_rfl) (by kernel_rfl) ?hq2015 ?hy2015 (by assumption) ?hr2015
                  case hi2015 => (simp only [List.getElem?_toArray, List.getElem?_cons_succ, List.getElem?_cons_zero]; rfl)
                  case hq2015 => exact fun _ _ _ h => h
                  case hy2015 => exact Or.inl ⟨by rfl, by intro whSw hSw'; (try dsimp only at hSw'); (first | (go_simp; done) | (go_simp; with_reducible rfl))⟩
                  try simp only [Act.put, List.setIfInBounds_toArray, List.set_cons_zero, List.set_cons_succ]
                  refine wpAnyH_take (i := 15) (oi := ?oi2016) (v := ?v2016) ?hi2016 (by kernel_rfl) (by kernel_rfl) (by kernel_rfl) ?hq2016 ?hy2016 (by assumption) ?hr2016
                  case hi2016 => (simp only [List.getElem?_toArray, List.getElem?_cons_succ, List.getElem?_cons_zero]; rfl)
                  case hq2016 => exact fun _ _ _ h => h
                  case hy2016 => exact Or.inl ⟨by rfl, by intro whSw hSw'; (try dsimp only at hSw'); (first | (go_simp; done) | (go_simp; with_reducible rfl))⟩
                  try simp only [Act.put, List.setIfInBounds_toArray, List.set_cons_zero, List.set_cons_succ]
                  refine wpAnyH_take (i := 16) (oi := ?oi2017) (v := ?v2017) ?hi2017 (by kernel_rfl) (by kernel_rfl) (by kernel_rfl) ?hq2017 ?hy2017 (by assumption) ?hr2017
                  case hi2017 => (simp only [List.getElem?_toArray, List.getElem?_cons_succ, List.getElem?_cons_zero]; rfl)
                  case hq2017 => exact fun _ _ _ h => h
                  case hy2017 => exact Or.inl ⟨by rfl, by intro whSw hSw'; (try dsimp only at hSw'); (first | (go_simp; done) | (go_simp; with_reducible rfl))⟩
                  try simp only [Act.put, List.setIfInBounds_toArray, List.set_cons_zero, List.set_cons_succ]
                  refine wpAnyH_take (i := 17) (oi := ?oi2018) (v := ?v2018) ?hi2018 (by kernel_rfl) (by kernel_rfl) (by kernel_rfl) ?hq2018 ?hy2018 (by assumption) ?hr2018
                  case hi2018 => (simp only [List.getElem?_toArray, List.getElem?_cons_succ, List.getElem?_cons_zero]; rfl)
                  case hq2018 => exact fun _ _ _ h => h
                  case hy2018 => exact Or.inl ⟨by rfl, by intro whSw hSw'; (try dsimp only at hSw'); (first | (go_simp; done) | (go_simp; with_reducible rfl))⟩
                  try simp only [Act.put, List.setIfInBounds_toArray, List.set_cons_zero, List.set_cons_succ]
                  refine wpAnyH_take (i := 18) (oi := ?oi2019) (v := ?v2019) ?hi2019 (by kernel_rfl) (by kernel_rfl) (by kernel_rfl) ?hq2019 ?hy2019 (by assumption) ?hr2019
                  case hi2019 => (simp only [List.getElem?_toArray, List.getElem?_cons_succ, List.getElem?_cons_zero]; rfl)
                  case hq2019 => exact fun _ _ _ h => h
                  case hy2019 => exact Or.inl ⟨by rfl, by intro whSw hSw'; (try dsimp only at hSw'); (first | (go_simp; done) | (go_simp; with_reducible rfl))⟩
                  try simp only [Act.put, List.setIfInBounds_toArray, List.set_cons_zero, List.set_cons_succ]
                  refine wpAnyH_take (i := 19) (oi := ?oi2020) (v := ?v2020) ?hi2020 (by kernel_rfl) (by kernel_rfl) (by kernel_rfl) ?hq2020 ?hy2020 (by assumption) ?hr2020
                  case hi2020 => (simp only [List.getElem?_toArray, List.getElem?_cons_succ, List.getElem?_cons_zero]; rfl)
                  case hq2020 => exact fun _ _ _ h => h
                  case hy2020 => exact Or.inl ⟨by rfl, by intro whSw hSw'; (try dsimp only at hSw'); (first | (go_simp; done) | (go_simp; with_reducible rfl))⟩
                  try simp only [Act.put, List.setIfInBounds_toArray, List.set_cons_zero, List.set_cons_succ]
                  refine wpAnyH_take (i := 20) (oi := ?oi2021) (v := ?v2021) ?hi2021 (by kernel_rfl) (by kernel_rfl) (by kernel_rfl) ?hq2021 ?hy2021 (by assumption) ?hr2021
                  case hi2021 => (simp only [List.getElem?_toArray, List.getElem?_cons_succ, List.getElem?_cons_zero]; rfl)
                  case hq2021 => exact fun _ _ _ h => h
                  case hy2021 => exact Or.inl ⟨by rfl, by intro whSw hSw'; (try dsimp only at hSw'); (first | (go_simp; done) | (go_simp; with_reducible rfl))⟩
                  try simp only [Act.put, List.setIfInBounds_toArray, List.set_cons_zero, List.set_cons_succ]
                  refine wpAnyH_take (i := 21) (oi := ?oi2022) (v := ?v2022) ?hi2022 (by kernel_rfl) (by kernel_rfl) (by kernel_rfl) ?hq2022 ?hy2022 (by assumption) ?hr2022
                  case hi2022 => (simp only [List.getElem?_toArray, List.getElem?_cons_succ, List.getElem?_cons_zero]; rfl)
                  case hq2022 => exact fun _ _ _ h => h
                  case hy2022 => exact Or.inl ⟨by rfl, by intro whSw hSw'; (try dsimp only at hSw'); (first | (go_simp; done) | (go_simp; with_reducible rfl))⟩
                  try simp only [Act.put, List.setIfInBounds_toArray, List.set_cons_zero, List.set_cons_succ]
                  refine wpAnyH_take (i := 22) (oi := ?oi2023) (v := ?v2023) ?hi2023 (by kernel_rfl) (by kernel_rfl) (by kernel_rfl) ?hq2023 ?hy2023 (by assumption) ?hr2023
                  case hi2023 => (simp only [List.getElem?_toArray, List.getElem?_cons_succ, List.getElem?_cons_zero]; rfl)
                  case hq2023 => exact fun _ _ _ h => h
                  case hy2023 => exact Or.inl ⟨by rfl, by intro whSw hSw'; (try dsimp only at hSw'); (first | (go_simp; done) | (go_simp; with_reducible rfl))⟩
                  try simp only [Act.put, List.setIfInBounds_toArray, List.set_cons_zero, List.set_cons_succ]
                  refine wpAnyH_ready (rs := [23]) (by kernel_rfl) (by simp) ?_
                  refine AllReadyH.cons (o := ?oo2024) ?hi2024 (fun K hK => ?hs2024) ?hm2024
                  case hi2024 => (simp only [List.getElem?_toArray, List.getElem?_cons_succ, List.getElem?_cons_zero]; rfl)
                  · go_simp
                    refine (HA.out X1).mono ?_
                    rintro e zz1 ⟨rfl, hbzz1⟩
                    have HBzz1 := Lib.hid (HB0.out.trans (hbzz1.mono HB0.out.size))
                    clear hbzz1
                    (try go_wp2_with fail)
                    refine hK.out _ _ ?_ (fun hHeld => ?_)
                    · (try dsimp only); exact HS.out zz1 HBzz1.out
                    clear hK K
                    try simp only [Act.put, List.setIfInBounds_toArray, List.set_cons_zero, List.set_cons_succ]
                    refine wpAnyH_take (i := 24) (oi := ?oi2025) (v := ?v2025) ?hi2025 (by kernel_rfl) (by kernel_rfl) (by kernel_rfl) ?hq2025 ?hy2025 (by assumption) ?hr2025
                    case hi2025 => (simp only [List.getElem?_toArray, List.getElem?_cons_succ, List.getElem?_cons_zero]; rfl)
                    case hq2025 => exact fun _ _ _ h => h
                    case hy2025 => exact Or.inl ⟨by rfl, by intro whSw hSw'; (try dsimp only at hSw'); (first | (go_simp; done) | (go_simp; with_reducible rfl))⟩
                    try simp only [Act.put, List.setIfInBounds_toArray, List.set_cons_zero, List.set_cons_succ]
                    refine wpAnyH_take (i := 25) (oi := ?oi2026) (v := ?v2026) ?hi2026 (by kernel_rfl) (by kernel_rfl) (by kernel_rfl) ?hq2026 ?hy2026 (by assumption) ?hr2026
                    case hi2026 => (simp only [List.getElem?_toArray, List.getElem?_cons_succ, List.getElem?_cons_zero]; rfl)
                    case hq2026 => exact fun _ _ _ h => h
                    case hy2026 => exact Or.inl ⟨by rfl, by intro whSw hSw'; (try dsimp only at hSw'); (first | (go_simp; done) | (go_simp; with_reducible rfl))⟩
                    try simp only [Act.put, List.setIfInBounds_toArray, List.set_cons_zero, List.set_cons_succ]
                    refine wpAnyH_done (by kernel_rfl) ?_ _
                    go_wp2_with fail
                    go_ret
                    exact ⟨rfl, HB2.out.trans (HBzz1.out.mono HB2.out.size)⟩
                  exact AllReadyH.nil
            · obtain ⟨⟨c1, c2⟩, hcc⟩ : ∃ r, checkH h = r := ⟨_, rfl⟩
              rw [assign_err hcc (by rw [hcc] at hok; exact hok)] at HAS
              rw [hcc] at hok HCH
              simp only at HAS hok HCH
              have hcb : (c2 != 0) = true := by simp [hok]
              have hcb1 : (c1 != c1) = false := by simp
              have hcb2 : (c2 != c2) = false := by simp
              rw [hn] at hl hc HAS HCH ⊢
              clear hcc hv hn
              go_enter Try.func10, Try.ntmps10
              go_wp2_with fail
              refine HAS.out.mono ?_
              rintro e w1 ⟨⟨lv, rfl, hlv⟩, hb1⟩
              have HB1 := Lib.hid hb1
              clear hb1 hlv
              go_wp2_with fail
              refine (HCH.out w1 HB1.out).mono ?_
              rintro e w2 ⟨rfl, hb2⟩
              have HB2 := Lib.hid (HB1.out.trans (hb2.mono HB1.out.size))
              clear hb2
              go_wp2_with fail
              refine (HA.out _).mono ?_
              rintro e w6 ⟨rfl, hb6⟩
              have HB6 := Lib.hid (HB2.out.trans (hb6.mono HB2.out.size))
              clear hb6
              go_wp2_with fail
              go_ret
              exact ⟨rfl, HB6.out⟩

theorem own : ownKnob Try.prog.godebug = none := by kernel_rfl

set_option maxRecDepth 100000 in
theorem lifted (os : Os) (started : os.Started) (H : Type) (enc : TypeId × Value → H) :
    ReturnsInHanded {} Try.checked os 10 .any (Rows.treelabelHeadsSpec.pre6 enc Try.prog Try.f10 Rows.treelabelHeadsRow.domain false) (Rows.treelabelHeadsSpec.post enc Try.prog Try.f10 false true false false) := by
  refine returnsInHanded_of_change (C := Try.checked) own started (by kernel_rfl) Try.func10
    (ChangeSpec.witness6 (enc := enc) (C := Try.checked) false ⟨#[], #[.slice none 0 0, .int .i64 0, .int .i64 0], []⟩ 8 (by kernel_rfl) (by kernel_rfl) (by kernel_rfl) (by kernel_rfl)) ?_
  intro W base args ds gs before hval0 hW hcnd _
  have hval : ∀ (j : Nat) t v, Try.f10.params[j]? = some t → args[j]? = some v → Value.okWide Try.prog W .any base t v := hval0
  have hW' := hW
  have hplt : ∀ x ∈ before, x.block < W.heap.size := fun x hx => hW.lt x hx
  obtain ⟨p, q, hA0, hV, rfl, hfz, hnd⟩ := hW
  have hA : DataW.TrodAll enc Try.prog W 0 (fun _ => true) true Try.f10.params.toList args.toList ds p := hA0
  rw [Try.params10] at hA hval
  obtain ⟨v0, vs0, d0, ds0, p0, q0, hargs, rfl, rfl, h0, r0⟩ := trodAll_cons hA
  obtain ⟨v1, vs1, d1, ds1, p1, q1, rfl, rfl, rfl, h1, r1⟩ := trodAll_cons r0
  obtain ⟨v2, vs2, d2, ds2, p2, q2, rfl, rfl, rfl, h2, r2⟩ := trodAll_cons r1
  obtain ⟨rfl, rfl, rfl⟩ := trodAll_nil r2
  obtain rfl : args = #[v0, v1, v2] := by cases args; simp_all
  obtain ⟨rfl, rfl⟩ := trodVars_none hV
  obtain ⟨l0, s0, m0, n0⟩ := open_rowI (hval 0 22 v0 rfl rfl) h0
  obtain ⟨x1, rfl, m1, n1⟩ := open_i64 (hval 1 3 v1 rfl rfl) h1
  obtain ⟨x2, rfl, m2, n2⟩ := open_i64 (hval 2 3 v2 rfl rfl) h2
  clear hA0 hval0
  refine (walk v0 l0 s0 m0 n0 x1 m1 n1 x2 m2 n2).mono fun e W' ⟨he, bel⟩ => ?_
  subst he
  exact ⟨_, rfl, _, _, _, [], _, [], hW', trodAll_mk1 (shut_bool Try.underlying4 _), (trodAll_cons_mk (Below.trod Try.laidOut (by kernel_rfl) (of_decide_eq_true (by kernel_rfl)) h0 bel (fun x hx => hplt x (by simp [hx]))) (trodAll_cons_mk (Below.trod Try.laidOut (by kernel_rfl) (of_decide_eq_true (by kernel_rfl)) h1 bel (fun x hx => hplt x (by simp [hx]))) (trodAll_cons_mk (Below.trod Try.laidOut (by kernel_rfl) (of_decide_eq_true (by kernel_rfl)) h2 bel (fun x hx => hplt x (by simp [hx]))) trodAll_mk0))), rfl, World.keptBut_mono (fun x hx => ⟨hx, Or.inr (by simpa using hx)⟩) (bel.frame (· ∈ _)), fun h => by cases h⟩

theorem over : Rows.treelabelHeadsRow.holds Try.pinned (OpenSpec.ofChange Rows.treelabelHeadsSpec) :=
  OpenClaim.holds_of_wide 10 Try.f10 rfl rfl rfl rfl rfl rfl rfl ⟨rfl, rfl, rfl, rfl, rfl⟩ rfl rfl rfl rfl rfl (by kernel_rfl) Try.func10 (by kernel_rfl)
    (of_decide_eq_true (by kernel_rfl)) (by unfold Func.isWrapper; first | (rw [if_pos (by decide +kernel)]; kernel_rfl) | (rw [if_neg (by decide +kernel)]; exact ⟨rfl, rfl⟩))
    (fun os started H enc _ => lifted os started H enc)

/-- THE STATEMENT. -/
theorem proved : Rows.TreelabelHeadsSaid := over
end Go.Proofs.Ytjialelklnjcfaa.treelabelHeads
