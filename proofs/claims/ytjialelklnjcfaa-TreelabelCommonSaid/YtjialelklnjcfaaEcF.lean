/-
  TreelabelCommon is proved: for every list of numbers and every number and every number the call of the law returns true, and each argument reads afterwards as it read before. It has no condition.
-/
import Derived.Test.YtjialelklnjcfaaRows
import Derived.Test.YtjialelklnjcfaaEoO
import Derived.Test.YtjialelklnjcfaaEbN
import Derived.Test.YtjialelklnjcfaaEdB
import Derived.Test.YtjialelklnjcfaaEbL
import Derived.ProofKit
import Derived.OpenShut
import Derived.Carry
namespace Go.Proofs.Ytjialelklnjcfaa.treelabelCommon
open Go.ChangeShapes Go.WideShapes Go.ChangeAt Go.RowKit Go.Shelf Go.Lib
set_option linter.unusedVariables false

theorem cp_strict {P : Program} {c : Code} {K : Act → World → Prop} {Q : Exit → Act → World → Prop} {a : Act} {w : World} (h : c.wp P (Exit.then K (fun _ _ _ => False)) a w) : c.wp P (Exit.then K Q) a w :=
  Code.wp_mono (fun e a w h => by cases e <;> first | exact h | exact h.elim) h
/-- What both ways hold, as the law reckons it. -/
theorem both_iff {h : List Int} (hO : Okh h) {L : List Lb} (hL : LabOf h L) {k x : Nat} {u s : Lb} (hu : L[k]? = some u) (hs : L[x]? = some s) : (k = x ∨ domL u s = true) ↔ k ∈ way h x := by
  rw [hL.dom hO hu hs]
  constructor
  · rintro (rfl | ⟨_, e⟩)
    · exact way_self k
    · exact e
  · intro e
    by_cases hx : k = x
    · exact .inl hx
    · exact .inr ⟨hx, e⟩
set_option maxRecDepth 100000 in
set_option maxHeartbeats 8000000 in
theorem walk {w : World} (v : Value) (h : List Int) (hv : Rows 1 EInt w v h) (hl : h.length ≤ maxLen) (_ : ∀ x ∈ h, -9223372036854775808 ≤ x ∧ x ≤ 9223372036854775807) (i : Int) (_ : -9223372036854775808 ≤ i) (_ : i ≤ 9223372036854775807) (j : Int) (_ : -9223372036854775808 ≤ j) (_ : j ≤ 9223372036854775807) :
    Calls Try.prog 9 #[v, .int .i64 i, .int .i64 j] w fun e w1 => e = .returned (.bool true) ∧ Below w.heap.size w w1 := by
  obtain ⟨A, cap, rfl, hc⟩ := hv.form
  have HAS := Lib.hid (assign_any hv hl)
  have HV := Lib.hid (fun (W : World) (hb : Below w.heap.size w W) => hv.below stays_int hb)
  have HA := Lib.hid (fun (W : World) => awake_any W)
  obtain ⟨n, hn⟩ : ∃ n, h.length = n := ⟨_, rfl⟩
  obtain ⟨a1, a2, a3, ha⟩ : ∃ a b c, assignH h = (a, b, c) := ⟨_, _, _, rfl⟩
  by_cases h40 : n > 40
  · rw [ha] at HAS
    simp only at HAS
    rw [hn] at hl hc HAS HV ⊢
    unfold maxLen at hl
    clear hv hn
    go_enter Try.func9, Try.ntmps9
    go_wp2_with fail
    refine HAS.out.mono ?_
    rintro e w1 ⟨⟨lv, rfl, hlv⟩, hb1⟩
    obtain ⟨A2, cap2, rfl, hc2⟩ := hlv.form
    have HB1 := Lib.hid hb1
    clear hb1 hlv
    go_wp2_with fail
    go_ret
    exact ⟨rfl, HB1.out⟩
  · by_cases hok : (checkH h).2 = 0
    · have hO := okh_check.1 hok
      have hll := labH_len hO
      have hpar := parents_of hO
      have hLO := labH_of hO
      unfold assignH at HAS
      rw [if_pos hok] at HAS
      obtain ⟨L, hLL⟩ : ∃ L, labH h = L := ⟨_, rfl⟩
      rw [hLL] at HAS hll hpar hLO
      clear ha hok hLL
      simp only at HAS
      by_cases hi : i < 0
      · clear hO hll hpar hLO
        rw [hn] at hl hc HAS HV ⊢
        unfold maxLen at hl
        clear hv hn
        go_enter Try.func9, Try.ntmps9
        go_wp2_with fail
        refine HAS.out.mono ?_
        rintro e w1 ⟨⟨lv, rfl, hlv⟩, hb1⟩
        obtain ⟨A2, cap2, rfl, hc2⟩ := hlv.form
        have HB1 := Lib.hid hb1
        clear hb1 hlv
        go_wp2_with fail
        go_ret
        exact ⟨rfl, HB1.out⟩
      · by_cases hi2 : i ≥ (n : Int)
        · clear hO hll hpar hLO
          rw [hn] at hl hc HAS HV ⊢
          unfold maxLen at hl
          clear hv hn
          go_enter Try.func9, Try.ntmps9
          go_wp2_with fail
          refine HAS.out.mono ?_
          rintro e w1 ⟨⟨lv, rfl, hlv⟩, hb1⟩
          obtain ⟨A2, cap2, rfl, hc2⟩ := hlv.form
          have HB1 := Lib.hid hb1
          clear hb1 hlv
          go_wp2_with fail
          go_ret
          exact ⟨rfl, HB1.out⟩
        · by_cases hj : j < 0
          · clear hO hll hpar hLO
            rw [hn] at hl hc HAS HV ⊢
            unfold maxLen at hl
            clear hv hn
            go_enter Try.func9, Try.ntmps9
            go_wp2_with fail
            refine HAS.out.mono ?_
            rintro e w1 ⟨⟨lv, rfl, hlv⟩, hb1⟩
            obtain ⟨A2, cap2, rfl, hc2⟩ := hlv.form
            have HB1 := Lib.hid hb1
            clear hb1 hlv
            go_wp2_with fail
            go_ret
            exact ⟨rfl, HB1.out⟩
          · by_cases hj2 : j ≥ (n : Int)
            · clear hO hll hpar hLO
              rw [hn] at hl hc HAS HV ⊢
              unfold maxLen at hl
              clear hv hn
              go_enter Try.func9, Try.ntmps9
              go_wp2_with fail
              refine HAS.out.mono ?_
              rintro e w1 ⟨⟨lv, rfl, hlv⟩, hb1⟩
              obtain ⟨A2, cap2, rfl, hc2⟩ := hlv.form
              have HB1 := Lib.hid hb1
              clear hb1 hlv
              go_wp2_with fail
              go_ret
              exact ⟨rfl, HB1.out⟩
            · obtain ⟨x, rfl⟩ : ∃ x : Nat, i = (x : Int) := ⟨i.toNat, by omega⟩
              obtain ⟨y, rfl⟩ : ∃ y : Nat, j = (y : Int) := ⟨j.toNat, by omega⟩
              have hxn : x < n := by omega
              have hyn : y < n := by omega
              have hn0 : 0 < n := by omega
              rw [hn] at hl hc HAS HV hll ⊢
              unfold maxLen at hl
              have hlm : L.length ≤ maxLen := by unfold maxLen; omega
              have cij : commonL L (x : Int) (y : Int) = comH h x y := by
                unfold commonL
                rw [hpar, if_pos ⟨rfl, by omega, by omega⟩, Int.toNat_natCast, Int.toNat_natCast]
              have cji : commonL L (y : Int) (x : Int) = comH h x y := by
                unfold commonL
                rw [hpar, if_pos ⟨rfl, by omega, by omega⟩, Int.toNat_natCast, Int.toNat_natCast, comH_comm hO]
              obtain ⟨a, hha⟩ : ∃ a, h[x]? = some a := ⟨_, List.getElem?_eq_getElem (by rw [hn]; exact hxn)⟩
              obtain ⟨b, hhb⟩ : ∃ a, h[y]? = some a := ⟨_, List.getElem?_eq_getElem (by rw [hn]; exact hyn)⟩
              have sij : sistersL L (x : Int) (y : Int) = (decide (x ≠ y) && decide (a = b)) := by
                rw [sis_ok (okOf_iff.2 ⟨by omega, by omega, by rw [hpar]⟩), hpar, Int.toNat_natCast, Int.toNat_natCast]
                show (decide ((x : Int) ≠ (y : Int)) && decide (h.getD x 0 = h.getD y 0)) = _
                rw [getD_of hha, getD_of hhb]
                congr 1
                by_cases e : x = y
                · simp [e]
                · simp [e]; omega
              obtain ⟨c, hcm⟩ : ∃ c, comH h x y = c := ⟨_, rfl⟩
              rw [hcm] at cij cji
              have hcn : c < (n : Int) ∧ -1 ≤ c := by
                rcases comH_cases h x y with e | ⟨z, e⟩
                · omega
                · have := way_lt hO (by rw [hn]; exact hxn) ((comH_some hO).1 e).1
                  omega
              obtain ⟨hcn1, hcn2⟩ := hcn
              have hcc : (c != c) = false := by simp
              have HC1 := Lib.hid (fun (W : World) (lv : Value) (hr : Rows 3 ELb W lv L) => common_any hr hlm (x : Int) (y : Int))
              have HC2 := Lib.hid (fun (W : World) (lv : Value) (hr : Rows 3 ELb W lv L) => common_any hr hlm (y : Int) (x : Int))
              have HSI := Lib.hid (fun (W : World) (lv : Value) (hr : Rows 3 ELb W lv L) => sisters_any hr hlm (x : Int) (y : Int))
              rw [cij] at HC1
              rw [cji] at HC2
              rw [sij] at HSI
              have HO := Lib.hid hO
              have HLO := Lib.hid hLO
              have HLL := Lib.hid hll
              have HCM := Lib.hid hcm
              have HAB := Lib.hid (And.intro hha hhb)
              have HN := Lib.hid hn
              have d1 : decide ((x : Int) < 0) = false := decide_eq_false (by omega)
              have d2 : decide (n ≤ x) = false := decide_eq_false (by omega)
              have d3 : decide ((y : Int) < 0) = false := decide_eq_false (by omega)
              have d4 : decide (n ≤ y) = false := decide_eq_false (by omega)
              clear hv hn hO hLO hll hpar cij cji sij hcm hha hhb hlm
              go_enter Try.func9, Try.ntmps9
              go_wp2_with fail
              refine HAS.out.mono ?_
              rintro e w1 ⟨⟨lv, rfl, hlv⟩, hb1⟩
              have HB1 := Lib.hid hb1
              have HLV := Lib.hid (fun W (hb : Below w1.heap.size w1 W) => hlv.below stays_lb hb)
              obtain ⟨A2, cap2, rfl, hc2⟩ := hlv.form
              rw [HLL.out] at hc2 HLV ⊢
              clear hb1 hlv
              have HC3 := Lib.hid (fun (W : World) (hb : Below w1.heap.size w1 W) => HC2.out W _ (HLV.out W hb))
              have HSJ := Lib.hid (fun (W : World) (hb : Below w1.heap.size w1 W) => HSI.out W _ (HLV.out W hb))
              go_wp2_with fail
              refine (HC1.out w1 _ (HLV.out w1 (Below.refl _ _))).mono ?_
              rintro e w2 ⟨rfl, hb2⟩
              have HB2 := Lib.hid hb2
              clear hb2 HC1 HC2 HSI
              have hcge : decide ((n : Int) ≤ c) = false := decide_eq_false (by omega)
              go_upto_region 6 with fail
              clear d1 d2 d3 d4
              go_cut [87] from 50 to 87 (fun s87 wx => s87 = .bool false ∧ Hid (Below w1.heap.size w1 wx))
              case first =>
                refine cp_strict ?_
                obtain ⟨X1, hX1⟩ : ∃ X, w2.drew = X := ⟨_, rfl⟩
                have HX1 := Lib.hid hX1
                have HB0 := Lib.hid (show Below w1.heap.size w1 X1 by rw [← hX1]; exact HB2.out.drew)
                clear hX1
                by_cases hxy : x = y
                · subst hxy
                  rw [show (decide (x ≠ x) && decide (a = b)) = false by simp] at HSJ
                  refine wp_region_held_drew (S := (fun _ => True)) (by kernel_rfl) ?_ (fun hHeld => ?_)
                  · (try dsimp only); try exact trivial
                  rw [HX1.out]
                  refine wpAnyH_take (i := 0) (oi := ?oi1) (v := ?v1) ?hi1 (by kernel_rfl) (by kernel_rfl) (by kernel_rfl) ?hq1 ?hy1 (by assumption) ?hr1
                  case hi1 => (simp only [List.getElem?_toArray, List.getElem?_cons_zero]; rfl)
                  case hq1 => exact fun _ _ _ h => h
                  case hy1 => exact Or.inl ⟨by rfl, by intro whSw hSw'; (try dsimp only at hSw'); (first | (go_simp; done) | (go_simp; with_reducible rfl))⟩
                  try simp only [Act.put, List.setIfInBounds_toArray, List.set_cons_zero, List.set_cons_succ]
                  refine wpAnyH_take (i := 1) (oi := ?oi2) (v := ?v2) ?hi2 (by kernel_rfl) (by kernel_rfl) (by kernel_rfl) ?hq2 ?hy2 (by assumption) ?hr2
                  case hi2 => (simp only [List.getElem?_toArray, List.getElem?_cons_succ, List.getElem?_cons_zero]; rfl)
                  case hq2 => exact fun _ _ _ h => h
                  case hy2 => exact Or.inl ⟨by rfl, by intro whSw hSw'; (try dsimp only at hSw'); (first | (go_simp; done) | (go_simp; with_reducible rfl))⟩
                  try simp only [Act.put, List.setIfInBounds_toArray, List.set_cons_zero, List.set_cons_succ]
                  refine wpAnyH_take (i := 2) (oi := ?oi3) (v := ?v3) ?hi3 (by kernel_rfl) (by kernel_rfl) (by kernel_rfl) ?hq3 ?hy3 (by assumption) ?hr3
                  case hi3 => (simp only [List.getElem?_toArray, List.getElem?_cons_succ, List.getElem?_cons_zero]; rfl)
                  case hq3 => exact fun _ _ _ h => h
                  case hy3 => exact Or.inl ⟨by rfl, by intro whSw hSw'; (try dsimp only at hSw'); (first | (go_simp; done) | (go_simp; with_reducible rfl))⟩
                  try simp only [Act.put, List.setIfInBounds_toArray, List.set_cons_zero, List.set_cons_succ]
                  refine wpAnyH_take (i := 3) (oi := ?oi4) (v := ?v4) ?hi4 (by kernel_rfl) (by kernel_rfl) (by kernel_rfl) ?hq4 ?hy4 (by assumption) ?hr4
                  case hi4 => (simp only [List.getElem?_toArray, List.getElem?_cons_succ, List.getElem?_cons_zero]; rfl)
                  case hq4 => exact fun _ _ _ h => h
                  case hy4 => exact Or.inl ⟨by rfl, by intro whSw hSw'; (try dsimp only at hSw'); (first | (go_simp; done) | (go_simp; with_reducible rfl))⟩
                  try simp only [Act.put, List.setIfInBounds_toArray, List.set_cons_zero, List.set_cons_succ]
                  refine wpAnyH_take (i := 4) (oi := ?oi5) (v := ?v5) ?hi5 (by kernel_rfl) (by kernel_rfl) (by kernel_rfl) ?hq5 ?hy5 (by assumption) ?hr5
                  case hi5 => (simp only [List.getElem?_toArray, List.getElem?_cons_succ, List.getElem?_cons_zero]; rfl)
                  case hq5 => exact fun _ _ _ h => h
                  case hy5 => exact Or.inl ⟨by rfl, by intro whSw hSw'; (try dsimp only at hSw'); (first | (go_simp; done) | (go_simp; with_reducible rfl))⟩
                  try simp only [Act.put, List.setIfInBounds_toArray, List.set_cons_zero, List.set_cons_succ]
                  refine wpAnyH_take (i := 5) (oi := ?oi6) (v := ?v6) ?hi6 (by kernel_rfl) (by kernel_rfl) (by kernel_rfl) ?hq6 ?hy6 (by assumption) ?hr6
                  case hi6 => (simp only [List.getElem?_toArray, List.getElem?_cons_succ, List.getElem?_cons_zero]; rfl)
                  case hq6 => exact fun _ _ _ h => h
                  case hy6 => first | exact Or.inl ⟨by rfl, by intro whSw hSw'; (try dsimp only at hSw'); (first | (go_simp; done) | (go_simp; with_reducible rfl))⟩ | exact Or.inr ⟨by rfl, by with_reducible rfl⟩ | fail
                  try simp only [Act.put, List.setIfInBounds_toArray, List.set_cons_zero, List.set_cons_succ]
                  refine wpAnyH_take (i := 6) (oi := ?oi7) (v := ?v7) ?hi7 (by kernel_rfl) (by kernel_rfl) (by kernel_rfl) ?hq7 ?hy7 (by assumption) ?hr7
                  case hi7 => (simp only [List.getElem?_toArray, List.getElem?_cons_succ, List.getElem?_cons_zero]; rfl)
                  case hq7 => exact fun _ _ _ h => h
                  case hy7 => first | exact Or.inl ⟨by rfl, by intro whSw hSw'; (try dsimp only at hSw'); (first | (go_simp; done) | (go_simp; with_reducible rfl))⟩ | exact Or.inr ⟨by rfl, by with_reducible rfl⟩ | fail
                  try simp only [Act.put, List.setIfInBounds_toArray, List.set_cons_zero, List.set_cons_succ]
                  refine wpAnyH_take (i := 7) (oi := ?oi8) (v := ?v8) ?hi8 (by kernel_rfl) (by kernel_rfl) (by kernel_rfl) ?hq8 ?hy8 (by assumption) ?hr8
                  case hi8 => (simp only [List.getElem?_toArray, List.getElem?_cons_succ, List.getElem?_cons_zero]; rfl)
                  case hq8 => exact fun _ _ _ h => h
                  case hy8 => first | exact Or.inl ⟨by rfl, by intro whSw hSw'; (try dsimp only at hSw'); (first | (go_simp; done) | (go_simp; with_reducible rfl))⟩ | exact Or.inr ⟨by rfl, by with_reducible rfl⟩ | fail
                  try simp only [Act.put, List.setIfInBounds_toArray, List.set_cons_zero, List.set_cons_succ]
                  refine wpAnyH_take (i := 9) (oi := ?oi9) (v := ?v9) ?hi9 (by kernel_rfl) (by kernel_rfl) (by kernel_rfl) ?hq9 ?hy9 (by assumption) ?hr9
                  case hi9 => (simp only [List.getElem?_toArray, List.getElem?_cons_succ, List.getElem?_cons_zero]; rfl)
                  case hq9 => exact fun _ _ _ h => h
                  case hy9 => first | exact Or.inl ⟨by rfl, by intro whSw hSw'; (try dsimp only at hSw'); (first | (go_simp; done) | (go_simp; with_reducible rfl))⟩ | exact Or.inr ⟨by rfl, by with_reducible rfl⟩ | fail
                  try simp only [Act.put, List.setIfInBounds_toArray, List.set_cons_zero, List.set_cons_succ]
                  refine wpAnyH_ready (rs := [8]) (by kernel_rfl) (by simp) ?_
                  refine AllReadyH.cons (o := ?oo10) ?hi10 (fun K hK => ?hs10) ?hm10
                  case hi10 => (simp only [List.getElem?_toArray, List.getElem?_cons_succ, List.getElem?_cons_zero]; rfl)
                  · go_simp
                    refine (HC3.out X1 HB0.out).mono ?_
                    rintro e zz1 ⟨rfl, hbzz1⟩
                    have HBzz1 := Lib.hid (HB0.out.trans (hbzz1.mono HB0.out.size))
                    clear hbzz1
                    (try go_wp2_with fail)
                    refine hK.out _ _ ?_ (fun hHeld => ?_)
                    · (try dsimp only); try exact trivial
                    clear hK K
                    try simp only [Act.put, List.setIfInBounds_toArray, List.set_cons_zero, List.set_cons_succ]
                    refine wpAnyH_take (i := 10) (oi := ?oi11) (v := ?v11) ?hi11 (by kernel_rfl) (by kernel_rfl) (by kernel_rfl) ?hq11 ?hy11 (by assumption) ?hr11
                    case hi11 => (simp only [List.getElem?_toArray, List.getElem?_cons_succ, List.getElem?_cons_zero]; rfl)
                    case hq11 => exact fun _ _ _ h => h
                    case hy11 => first | exact Or.inl ⟨by rfl, by intro whSw hSw'; (try dsimp only at hSw'); (first | (go_simp; done) | (go_simp; with_reducible rfl))⟩ | exact Or.inr ⟨by rfl, by with_reducible rfl⟩ | fail
                    try simp only [Act.put, List.setIfInBounds_toArray, List.set_cons_zero, List.set_cons_succ]
                    refine wpAnyH_take (i := 11) (oi := ?oi12) (v := ?v12) ?hi12 (by kernel_rfl) (by kernel_rfl) (by kernel_rfl) ?hq12 ?hy12 (by assumption) ?hr12
                    case hi12 => (simp only [List.getElem?_toArray, List.getElem?_cons_succ, List.getElem?_cons_zero]; rfl)
                    case hq12 => exact fun _ _ _ h => h
                    case hy12 => exact Or.inl ⟨by rfl, by intro whSw hSw'; (try dsimp only at hSw'); (first | (go_simp; done) | (go_simp; with_reducible rfl))⟩
                    try simp only [Act.put, List.setIfInBounds_toArray, List.set_cons_zero, List.set_cons_succ]
                    refine wpAnyH_take (i := 12) (oi := ?oi13) (v := ?v13) ?hi13 (by kernel_rfl) (by kernel_rfl) (by kernel_rfl) ?hq13 ?hy13 (by assumption) ?hr13
                    case hi13 => (simp only [List.getElem?_toArray, List.getElem?_cons_succ, List.getElem?_cons_zero]; rfl)
                    case hq13 => exact fun _ _ _ h => h
                    case hy13 => exact Or.inl ⟨by rfl, by intro whSw hSw'; (try dsimp only at hSw'); (first | (go_simp; done) | (go_simp; with_reducible rfl))⟩
                    try simp only [Act.put, List.setIfInBounds_toArray, List.set_cons_zero, List.set_cons_succ]
                    refine wpAnyH_take (i := 13) (oi := ?oi14) (v := ?v14) ?hi14 (by kernel_rfl) (by kernel_rfl) (by kernel_rfl) ?hq14 ?hy14 (by assumption) ?hr14
                    case hi14 => (simp only [List.getElem?_toArray, List.getElem?_cons_succ, List.getElem?_cons_zero]; rfl)
                    case hq14 => exact fun _ _ _ h => h
                    case hy14 => first | exact Or.inl ⟨by rfl, by intro whSw hSw'; (try dsimp only at hSw'); (first | (go_simp; done) | (go_simp; with_reducible rfl))⟩ | exact Or.inr ⟨by rfl, by with_reducible rfl⟩ | fail
                    try simp only [Act.put, List.setIfInBounds_toArray, List.set_cons_zero, List.set_cons_succ]
                    refine wpAnyH_take (i := 14) (oi := ?oi15) (v := ?v15) ?hi15 (by kernel_rfl) (by kernel_rfl) (by kernel_rfl) ?hq15 ?hy15 (by assumption) ?hr15
                    case hi15 => (simp only [List.getElem?_toArray, List.getElem?_cons_succ, List.getElem?_cons_zero]; rfl)
                    case hq15 => exact fun _ _ _ h => h
                    case hy15 => first | exact Or.inl ⟨by rfl, by intro whSw hSw'; (try dsimp only at hSw'); (first | (go_simp; done) | (go_simp; with_reducible rfl))⟩ | exact Or.inr ⟨by rfl, by with_reducible rfl⟩ | fail
                    try simp only [Act.put, List.setIfInBounds_toArray, List.set_cons_zero, List.set_cons_succ]
                    refine wpAnyH_take (i := 15) (oi := ?oi16) (v := ?v16) ?hi16 (by kernel_rfl) (by kernel_rfl) (by kernel_rfl) ?hq16 ?hy16 (by assumption) ?hr16
                    case hi16 => (simp only [List.getElem?_toArray, List.getElem?_cons_succ, List.getElem?_cons_zero]; rfl)
                    case hq16 => exact fun _ _ _ h => h
                    case hy16 => first | exact Or.inl ⟨by rfl, by intro whSw hSw'; (try dsimp only at hSw'); (first | (go_simp; done) | (go_simp; with_reducible rfl))⟩ | exact Or.inr ⟨by rfl, by with_reducible rfl⟩ | fail
                    try simp only [Act.put, List.setIfInBounds_toArray, List.set_cons_zero, List.set_cons_succ]
                    refine wpAnyH_take (i := 17) (oi := ?oi17) (v := ?v17) ?hi17 (by kernel_rfl) (by kernel_rfl) (by kernel_rfl) ?hq17 ?hy17 (by assumption) ?hr17
                    case hi17 => (simp only [List.getElem?_toArray, List.getElem?_cons_succ, List.getElem?_cons_zero]; rfl)
                    case hq17 => exact fun _ _ _ h => h
                    case hy17 => first | exact Or.inl ⟨by rfl, by intro whSw hSw'; (try dsimp only at hSw'); (first | (go_simp; done) | (go_simp; with_reducible rfl))⟩ | exact Or.inr ⟨by rfl, by with_reducible rfl⟩ | fail
                    try simp only [Act.put, List.setIfInBounds_toArray, List.set_cons_zero, List.set_cons_succ]
                    refine wpAnyH_take (i := 18) (oi := ?oi18) (v := ?v18) ?hi18 (by kernel_rfl) (by kernel_rfl) (by kernel_rfl) ?hq18 ?hy18 (by assumption) ?hr18
                    case hi18 => (simp only [List.getElem?_toArray, List.getElem?_cons_succ, List.getElem?_cons_zero]; rfl)
                    case hq18 => exact fun _ _ _ h => h
                    case hy18 => first | exact Or.inl ⟨by rfl, by intro whSw hSw'; (try dsimp only at hSw'); (first | (go_simp; done) | (go_simp; with_reducible rfl))⟩ | exact Or.inr ⟨by rfl, by with_reducible rfl⟩ | fail
                    try simp only [Act.put, List.setIfInBounds_toArray, List.set_cons_zero, List.set_cons_succ]
                    refine wpAnyH_take (i := 19) (oi := ?oi19) (v := ?v19) ?hi19 (by kernel_rfl) (by kernel_rfl) (by kernel_rfl) ?hq19 ?hy19 (by assumption) ?hr19
                    case hi19 => (simp only [List.getElem?_toArray, List.getElem?_cons_succ, List.getElem?_cons_zero]; rfl)
                    case hq19 => exact fun _ _ _ h => h
                    case hy19 => first | exact Or.inl ⟨by rfl, by intro whSw hSw'; (try dsimp only at hSw'); (first | (go_simp; done) | (go_simp; with_reducible rfl))⟩ | exact Or.inr ⟨by rfl, by with_reducible rfl⟩ | fail
                    try simp only [Act.put, List.setIfInBounds_toArray, List.set_cons_zero, List.set_cons_succ]
                    refine wpAnyH_ready (rs := [16]) (by kernel_rfl) (by simp) ?_
                    refine AllReadyH.cons (o := ?oo20) ?hi20 (fun K hK => ?hs20) ?hm20
                    case hi20 => (simp only [List.getElem?_toArray, List.getElem?_cons_succ, List.getElem?_cons_zero]; rfl)
                    · go_simp
                      refine (HSJ.out zz1 HBzz1.out).mono ?_
                      rintro e zz2 ⟨rfl, hbzz2⟩
                      have HBzz2 := Lib.hid (HBzz1.out.trans (hbzz2.mono HBzz1.out.size))
                      clear hbzz2
                      (try go_wp2_with fail)
                      refine hK.out _ _ ?_ (fun hHeld => ?_)
                      · (try dsimp only); try exact trivial
                      clear hK K
                      try simp only [Act.put, List.setIfInBounds_toArray, List.set_cons_zero, List.set_cons_succ]
                      refine wpAnyH_take (i := 20) (oi := ?oi21) (v := ?v21) ?hi21 (by kernel_rfl) (by kernel_rfl) (by kernel_rfl) ?hq21 ?hy21 (by assumption) ?hr21
                      case hi21 => (simp only [List.getElem?_toArray, List.getElem?_cons_succ, List.getElem?_cons_zero]; rfl)
                      case hq21 => exact fun _ _ _ h => h
                      case hy21 => first | exact Or.inl ⟨by rfl, by intro whSw hSw'; (try dsimp only at hSw'); (first | (go_simp; done) | (go_simp; with_reducible rfl))⟩ | exact Or.inr ⟨by rfl, by with_reducible rfl⟩ | fail
                      try simp only [Act.put, List.setIfInBounds_toArray, List.set_cons_zero, List.set_cons_succ]
                      refine wpAnyH_take (i := 21) (oi := ?oi22) (v := ?v22) ?hi22 (by kernel_rfl) (by kernel_rfl) (by kernel_rfl) ?hq22 ?hy22 (by assumption) ?hr22
                      case hi22 => (simp only [List.getElem?_toArray, List.getElem?_cons_succ, List.getElem?_cons_zero]; rfl)
                      case hq22 => exact fun _ _ _ h => h
                      case hy22 => first | exact Or.inl ⟨by rfl, by intro whSw hSw'; (try dsimp only at hSw'); (first | (go_simp; done) | (go_simp; with_reducible rfl))⟩ | exact Or.inr ⟨by rfl, by with_reducible rfl⟩ | fail
                      try simp only [Act.put, List.setIfInBounds_toArray, List.set_cons_zero, List.set_cons_succ]
                      refine wpAnyH_take (i := 22) (oi := ?oi23) (v := ?v23) ?hi23 (by kernel_rfl) (by kernel_rfl) (by kernel_rfl) ?hq23 ?hy23 (by assumption) ?hr23
                      case hi23 => (simp only [List.getElem?_toArray, List.getElem?_cons_succ, List.getElem?_cons_zero]; rfl)
                      case hq23 => exact fun _ _ _ h => h
                      case hy23 => first | exact Or.inl ⟨by rfl, by intro whSw hSw'; (try dsimp only at hSw'); (first | (go_simp; done) | (go_simp; with_reducible rfl))⟩ | exact Or.inr ⟨by rfl, by with_reducible rfl⟩ | fail
                      try simp only [Act.put, List.setIfInBounds_toArray, List.set_cons_zero, List.set_cons_succ]
                      refine wpAnyH_take (i := 23) (oi := ?oi24) (v := ?v24) ?hi24 (by kernel_rfl) (by kernel_rfl) (by kernel_rfl) ?hq24 ?hy24 (by assumption) ?hr24
                      case hi24 => (simp only [List.getElem?_toArray, List.getElem?_cons_succ, List.getElem?_cons_zero]; rfl)
                      case hq24 => exact fun _ _ _ h => h
                      case hy24 => first | exact Or.inl ⟨by rfl, by intro whSw hSw'; (try dsimp only at hSw'); (first | (go_simp; done) | (go_simp; with_reducible rfl))⟩ | exact Or.inr ⟨by rfl, by with_reducible rfl⟩ | fail
                      try simp only [Act.put, List.setIfInBounds_toArray, List.set_cons_zero, List.set_cons_succ]
                      refine wpAnyH_take (i := 24) (oi := ?oi25) (v := ?v25) ?hi25 (by kernel_rfl) (by kernel_rfl) (by kernel_rfl) ?hq25 ?hy25 (by assumption) ?hr25
                      case hi25 => (simp only [List.getElem?_toArray, List.getElem?_cons_succ, List.getElem?_cons_zero]; rfl)
                      case hq25 => exact fun _ _ _ h => h
                      case hy25 => first | exact Or.inl ⟨by rfl, by intro whSw hSw'; (try dsimp only at hSw'); (first | (go_simp; done) | (go_simp; with_reducible rfl))⟩ | exact Or.inr ⟨by rfl, by with_reducible rfl⟩ | fail
                      try simp only [Act.put, List.setIfInBounds_toArray, List.set_cons_zero, List.set_cons_succ]
                      refine wpAnyH_take (i := 25) (oi := ?oi26) (v := ?v26) ?hi26 (by kernel_rfl) (by kernel_rfl) (by kernel_rfl) ?hq26 ?hy26 (by assumption) ?hr26
                      case hi26 => (simp only [List.getElem?_toArray, List.getElem?_cons_succ, List.getElem?_cons_zero]; rfl)
                      case hq26 => exact fun _ _ _ h => h
                      case hy26 => first | exact Or.inl ⟨by rfl, by intro whSw hSw'; (try dsimp only at hSw'); (first | (go_simp; done) | (go_simp; with_reducible rfl))⟩ | exact Or.inr ⟨by rfl, by with_reducible rfl⟩ | fail
                      try simp only [Act.put, List.setIfInBounds_toArray, List.set_cons_zero, List.set_cons_succ]
                      refine wpAnyH_take (i := 26) (oi := ?oi27) (v := ?v27) ?hi27 (by kernel_rfl) (by kernel_rfl) (by kernel_rfl) ?hq27 ?hy27 (by assumption) ?hr27
                      case hi27 => (simp only [List.getElem?_toArray, List.getElem?_cons_succ, List.getElem?_cons_zero]; rfl)
                      case hq27 => exact fun _ _ _ h => h
                      case hy27 => first | exact Or.inl ⟨by rfl, by intro whSw hSw'; (try dsimp only at hSw'); (first | (go_simp; done) | (go_simp; with_reducible rfl))⟩ | exact Or.inr ⟨by rfl, by with_reducible rfl⟩ | fail
                      try simp only [Act.put, List.setIfInBounds_toArray, List.set_cons_zero, List.set_cons_succ]
                      refine wpAnyH_take (i := 27) (oi := ?oi28) (v := ?v28) ?hi28 (by kernel_rfl) (by kernel_rfl) (by kernel_rfl) ?hq28 ?hy28 (by assumption) ?hr28
                      case hi28 => (simp only [List.getElem?_toArray, List.getElem?_cons_succ, List.getElem?_cons_zero]; rfl)
                      case hq28 => exact fun _ _ _ h => h
                      case hy28 => first | exact Or.inl ⟨by rfl, by intro whSw hSw'; (try dsimp only at hSw'); (first | (go_simp; done) | (go_simp; with_reducible rfl))⟩ | exact Or.inr ⟨by rfl, by with_reducible rfl⟩ | fail
                      try simp only [Act.put, List.setIfInBounds_toArray, List.set_cons_zero, List.set_cons_succ]
                      refine wpAnyH_take (i := 28) (oi := ?oi29) (v := ?v29) ?hi29 (by kernel_rfl) (by kernel_rfl) (by kernel_rfl) ?hq29 ?hy29 (by assumption) ?hr29
                      case hi29 => (simp only [List.getElem?_toArray, List.getElem?_cons_succ, List.getElem?_cons_zero]; rfl)
                      case hq29 => exact fun _ _ _ h => h
                      case hy29 => first | exact Or.inl ⟨by rfl, by intro whSw hSw'; (try dsimp only at hSw'); (first | (go_simp; done) | (go_simp; with_reducible rfl))⟩ | exact Or.inr ⟨by rfl, by with_reducible rfl⟩ | fail
                      try simp only [Act.put, List.setIfInBounds_toArray, List.set_cons_zero, List.set_cons_succ]
                      refine wpAnyH_take (i := 29) (oi := ?oi30) (v := ?v30) ?hi30 (by kernel_rfl) (by kernel_rfl) (by kernel_rfl) ?hq30 ?hy30 (by assumption) ?hr30
                      case hi30 => (simp only [List.getElem?_toArray, List.getElem?_cons_succ, List.getElem?_cons_zero]; rfl)
                      case hq30 => exact fun _ _ _ h => h
                      case hy30 => first | exact Or.inl ⟨by rfl, by intro whSw hSw'; (try dsimp only at hSw'); (first | (go_simp; done) | (go_simp; with_reducible rfl))⟩ | exact Or.inr ⟨by rfl, by with_reducible rfl⟩ | fail
                      try simp only [Act.put, List.setIfInBounds_toArray, List.set_cons_zero, List.set_cons_succ]
                      refine wpAnyH_take (i := 30) (oi := ?oi31) (v := ?v31) ?hi31 (by kernel_rfl) (by kernel_rfl) (by kernel_rfl) ?hq31 ?hy31 (by assumption) ?hr31
                      case hi31 => (simp only [List.getElem?_toArray, List.getElem?_cons_succ, List.getElem?_cons_zero]; rfl)
                      case hq31 => exact fun _ _ _ h => h
                      case hy31 => first | exact Or.inl ⟨by rfl, by intro whSw hSw'; (try dsimp only at hSw'); (first | (go_simp; done) | (go_simp; with_reducible rfl))⟩ | exact Or.inr ⟨by rfl, by with_reducible rfl⟩ | fail
                      try simp only [Act.put, List.setIfInBounds_toArray, List.set_cons_zero, List.set_cons_succ]
                      refine wpAnyH_take (i := 31) (oi := ?oi32) (v := ?v32) ?hi32 (by kernel_rfl) (by kernel_rfl) (by kernel_rfl) ?hq32 ?hy32 (by assumption) ?hr32
                      case hi32 => (simp only [List.getElem?_toArray, List.getElem?_cons_succ, List.getElem?_cons_zero]; rfl)
                      case hq32 => exact fun _ _ _ h => h
                      case hy32 => first | exact Or.inl ⟨by rfl, by intro whSw hSw'; (try dsimp only at hSw'); (first | (go_simp; done) | (go_simp; with_reducible rfl))⟩ | exact Or.inr ⟨by rfl, by with_reducible rfl⟩ | fail
                      try simp only [Act.put, List.setIfInBounds_toArray, List.set_cons_zero, List.set_cons_succ]
                      refine wpAnyH_take (i := 32) (oi := ?oi33) (v := ?v33) ?hi33 (by kernel_rfl) (by kernel_rfl) (by kernel_rfl) ?hq33 ?hy33 (by assumption) ?hr33
                      case hi33 => (simp only [List.getElem?_toArray, List.getElem?_cons_succ, List.getElem?_cons_zero]; rfl)
                      case hq33 => exact fun _ _ _ h => h
                      case hy33 => exact Or.inl ⟨by rfl, by intro whSw hSw'; (try dsimp only at hSw'); (first | (go_simp; done) | (go_simp; with_reducible rfl))⟩
                      try simp only [Act.put, List.setIfInBounds_toArray, List.set_cons_zero, List.set_cons_succ]
                      refine wpAnyH_take (i := 33) (oi := ?oi34) (v := ?v34) ?hi34 (by kernel_rfl) (by kernel_rfl) (by kernel_rfl) ?hq34 ?hy34 (by assumption) ?hr34
                      case hi34 => (simp only [List.getElem?_toArray, List.getElem?_cons_succ, List.getElem?_cons_zero]; rfl)
                      case hq34 => exact fun _ _ _ h => h
                      case hy34 => exact Or.inl ⟨by rfl, by intro whSw hSw'; (try dsimp only at hSw'); (first | (go_simp; done) | (go_simp; with_reducible rfl))⟩
                      try simp only [Act.put, List.setIfInBounds_toArray, List.set_cons_zero, List.set_cons_succ]
                      refine wpAnyH_take (i := 34) (oi := ?oi35) (v := ?v35) ?hi35 (by kernel_rfl) (by kernel_rfl) (by kernel_rfl) ?hq35 ?hy35 (by assumption) ?hr35
                      case hi35 => (simp only [List.getElem?_toArray, List.getElem?_cons_succ, List.getElem?_cons_zero]; rfl)
                      case hq35 => exact fun _ _ _ h => h
                      case hy35 => first | exact Or.inl ⟨by rfl, by intro whSw hSw'; (try dsimp only at hSw'); (first | (go_simp; done) | (go_simp; with_reducible rfl))⟩ | exact Or.inr ⟨by rfl, by with_reducible rfl⟩ | fail
                      try simp only [Act.put, List.setIfInBounds_toArray, List.set_cons_zero, List.set_cons_succ]
                      refine wpAnyH_take (i := 35) (oi := ?oi36) (v := ?v36) ?hi36 (by kernel_rfl) (by kernel_rfl) (by kernel_rfl) ?hq36 ?hy36 (by assumption) ?hr36
                      case hi36 => (simp only [List.getElem?_toArray, List.getElem?_cons_succ, List.getElem?_cons_zero]; rfl)
                      case hq36 => exact fun _ _ _ h => h
                      case hy36 => first | exact Or.inl ⟨by rfl, by intro whSw hSw'; (try dsimp only at hSw'); (first | (go_simp; done) | (go_simp; with_reducible rfl))⟩ | exact Or.inr ⟨by rfl, by with_reducible rfl⟩ | fail
                      try simp only [Act.put, List.setIfInBounds_toArray, List.set_cons_zero, List.set_cons_succ]
                      refine wpAnyH_take (i := 36) (oi := ?oi37) (v := ?v37) ?hi37 (by kernel_rfl) (by kernel_rfl) (by kernel_rfl) ?hq37 ?hy37 (by assumption) ?hr37
                      case hi37 => (simp only [List.getElem?_toArray, List.getElem?_cons_succ, List.getElem?_cons_zero]; rfl)
                      case hq37 => exact fun _ _ _ h => h
                      case hy37 => first | exact Or.inl ⟨by rfl, by intro whSw hSw'; (try dsimp only at hSw'); (first | (go_simp; done) | (go_simp; with_reducible rfl))⟩ | exact Or.inr ⟨by rfl, by with_reducible rfl⟩ | fail
                      try simp only [Act.put, List.setIfInBounds_toArray, List.set_cons_zero, List.set_cons_succ]
                      refine wpAnyH_take (i := 37) (oi := ?oi38) (v := ?v38) ?hi38 (by kernel_rfl) (by kernel_rfl) (by kernel_rfl) ?hq38 ?hy38 (by assumption) ?hr38
                      case hi38 => (simp only [List.getElem?_toArray, List.getElem?_cons_succ, List.getElem?_cons_zero]; rfl)
                      case hq38 => exact fun _ _ _ h => h
                      case hy38 => exact Or.inl ⟨by rfl, by intro whSw hSw'; (try dsimp only at hSw'); (first | (go_simp; done) | (go_simp; with_reducible rfl))⟩
                      try simp only [Act.put, List.setIfInBounds_toArray, List.set_cons_zero, List.set_cons_succ]
                      refine wpAnyH_done (by kernel_rfl) ?_ _
                      go_wp2_with fail
                      go_meet
                      exact ⟨rfl, HBzz2⟩
                    exact AllReadyH.nil
                  exact AllReadyH.nil
                · have hne : ¬ (x : Int) = (y : Int) := by omega
                  have hnb : ((x : Int) != (y : Int)) = true := by simp; omega
                  obtain ⟨bh, oh, rfl, hbh, hjh⟩ := at_int (HV.out w1 HB1.out) (by rw [HN.out]; exact hn0)
                  have p1 := hjh x a HAB.out.1
                  have p2 := hjh y b HAB.out.2
                  have HS := Lib.hid (fun (W : World) (hb : Below w1.heap.size w1 W) => show W.cell? ⟨bh, oh + x, none⟩ = some (.int .i64 a) ∧ W.cell? ⟨bh, oh + y, none⟩ = some (.int .i64 b) from ⟨(hb.cell (p := ⟨bh, oh + x, none⟩) hbh).trans p1, (hb.cell (p := ⟨bh, oh + y, none⟩) hbh).trans p2⟩)
                  clear hjh p1 p2 hbh
                  have hd : decide (x ≠ y) = true := decide_eq_true hxy
                  rw [hd, Bool.true_and] at HSJ
                  clear hd
                  by_cases hab : a = b
                  · subst hab
                    rw [decide_eq_true rfl] at HSJ
                    refine wp_region_held_drew (S := (fun w' => w'.cell? ⟨bh, oh + x, none⟩ = some (.int .i64 a) ∧ w'.cell? ⟨bh, oh + y, none⟩ = some (.int .i64 a))) (by kernel_rfl) ?_ (fun hHeld => ?_)
                    · (try dsimp only); (rw [HX1.out]; exact HS.out X1 HB0.out)
                    rw [HX1.out] at hHeld ⊢
                    refine wpAnyH_take (i := 0) (oi := ?oi1001) (v := ?v1001) ?hi1001 (by kernel_rfl) (by kernel_rfl) (by kernel_rfl) ?hq1001 ?hy1001 (by assumption) ?hr1001
                    case hi1001 => (simp only [List.getElem?_toArray, List.getElem?_cons_zero]; rfl)
                    case hq1001 => exact fun _ _ _ h => h
                    case hy1001 => exact Or.inl ⟨by rfl, by intro whSw hSw'; (try dsimp only at hSw'); (first | (go_simp; done) | (go_simp; with_reducible rfl))⟩
                    try simp only [Act.put, List.setIfInBounds_toArray, List.set_cons_zero, List.set_cons_succ]
                    refine wpAnyH_take (i := 1) (oi := ?oi1002) (v := ?v1002) ?hi1002 (by kernel_rfl) (by kernel_rfl) (by kernel_rfl) ?hq1002 ?hy1002 (by assumption) ?hr1002
                    case hi1002 => (simp only [List.getElem?_toArray, List.getElem?_cons_succ, List.getElem?_cons_zero]; rfl)
                    case hq1002 => exact fun _ _ _ h => h
                    case hy1002 => exact Or.inl ⟨by rfl, by intro whSw hSw'; (try dsimp only at hSw'); (first | (go_simp; done) | (go_simp; with_reducible rfl))⟩
                    try simp only [Act.put, List.setIfInBounds_toArray, List.set_cons_zero, List.set_cons_succ]
                    refine wpAnyH_take (i := 2) (oi := ?oi1003) (v := ?v1003) ?hi1003 (by kernel_rfl) (by kernel_rfl) (by kernel_rfl) ?hq1003 ?hy1003 (by assumption) ?hr1003
                    case hi1003 => (simp only [List.getElem?_toArray, List.getElem?_cons_succ, List.getElem?_cons_zero]; rfl)
                    case hq1003 => exact fun _ _ _ h => h
                    case hy1003 => exact Or.inl ⟨by rfl, by intro whSw hSw'; (try dsimp only at hSw'); (first | (go_simp; done) | (go_simp; with_reducible rfl))⟩
                    try simp only [Act.put, List.setIfInBounds_toArray, List.set_cons_zero, List.set_cons_succ]
                    refine wpAnyH_take (i := 3) (oi := ?oi1004) (v := ?v1004) ?hi1004 (by kernel_rfl) (by kernel_rfl) (by kernel_rfl) ?hq1004 ?hy1004 (by assumption) ?hr1004
                    case hi1004 => (simp only [List.getElem?_toArray, List.getElem?_cons_succ, List.getElem?_cons_zero]; rfl)
                    case hq1004 => exact fun _ _ _ h => h
                    case hy1004 => exact Or.inl ⟨by rfl, by intro whSw hSw'; (try dsimp only at hSw'); (first | (go_simp; done) | (go_simp; with_reducible rfl))⟩
                    try simp only [Act.put, List.setIfInBounds_toArray, List.set_cons_zero, List.set_cons_succ]
                    refine wpAnyH_take (i := 4) (oi := ?oi1005) (v := ?v1005) ?hi1005 (by kernel_rfl) (by kernel_rfl) (by kernel_rfl) ?hq1005 ?hy1005 (by assumption) ?hr1005
                    case hi1005 => (simp only [List.getElem?_toArray, List.getElem?_cons_succ, List.getElem?_cons_zero]; rfl)
                    case hq1005 => exact fun _ _ _ h => h
                    case hy1005 => exact Or.inl ⟨by rfl, by intro whSw hSw'; (try dsimp only at hSw'); (first | (go_simp; done) | (go_simp; with_reducible rfl))⟩
                    try simp only [Act.put, List.setIfInBounds_toArray, List.set_cons_zero, List.set_cons_succ]
                    refine wpAnyH_take (i := 5) (oi := ?oi1006) (v := ?v1006) ?hi1006 (by kernel_rfl) (by kernel_rfl) (by kernel_rfl) ?hq1006 ?hy1006 (by assumption) ?hr1006
                    case hi1006 => (simp only [List.getElem?_toArray, List.getElem?_cons_succ, List.getElem?_cons_zero]; rfl)
                    case hq1006 => exact fun _ _ _ h => h
                    case hy1006 => first | exact Or.inl ⟨by rfl, by intro whSw hSw'; (try dsimp only at hSw'); (first | (go_simp; done) | (go_simp; with_reducible rfl))⟩ | exact Or.inr ⟨by rfl, by with_reducible rfl⟩ | fail
                    try simp only [Act.put, List.setIfInBounds_toArray, List.set_cons_zero, List.set_cons_succ]
                    refine wpAnyH_take (i := 6) (oi := ?oi1007) (v := ?v1007) ?hi1007 (by kernel_rfl) (by kernel_rfl) (by kernel_rfl) ?hq1007 ?hy1007 (by assumption) ?hr1007
                    case hi1007 => (simp only [List.getElem?_toArray, List.getElem?_cons_succ, List.getElem?_cons_zero]; rfl)
                    case hq1007 => exact fun _ _ _ h => h
                    case hy1007 => first | exact Or.inl ⟨by rfl, by intro whSw hSw'; (try dsimp only at hSw'); (first | (go_simp; done) | (go_simp; with_reducible rfl))⟩ | exact Or.inr ⟨by rfl, by with_reducible rfl⟩ | fail
                    try simp only [Act.put, List.setIfInBounds_toArray, List.set_cons_zero, List.set_cons_succ]
                    refine wpAnyH_take (i := 7) (oi := ?oi1008) (v := ?v1008) ?hi1008 (by kernel_rfl) (by kernel_rfl) (by kernel_rfl) ?hq1008 ?hy1008 (by assumption) ?hr1008
                    case hi1008 => (simp only [List.getElem?_toArray, List.getElem?_cons_succ, List.getElem?_cons_zero]; rfl)
                    case hq1008 => exact fun _ _ _ h => h
                    case hy1008 => first | exact Or.inl ⟨by rfl, by intro whSw hSw'; (try dsimp only at hSw'); (first | (go_simp; done) | (go_simp; with_reducible rfl))⟩ | exact Or.inr ⟨by rfl, by with_reducible rfl⟩ | fail
                    try simp only [Act.put, List.setIfInBounds_toArray, List.set_cons_zero, List.set_cons_succ]
                    refine wpAnyH_take (i := 9) (oi := ?oi1009) (v := ?v1009) ?hi1009 (by kernel_rfl) (by kernel_rfl) (by kernel_rfl) ?hq1009 ?hy1009 (by assumption) ?hr1009
                    case hi1009 => (simp only [List.getElem?_toArray, List.getElem?_cons_succ, List.getElem?_cons_zero]; rfl)
                    case hq1009 => exact fun _ _ _ h => h
                    case hy1009 => first | exact Or.inl ⟨by rfl, by intro whSw hSw'; (try dsimp only at hSw'); (first | (go_simp; done) | (go_simp; with_reducible rfl))⟩ | exact Or.inr ⟨by rfl, by with_reducible rfl⟩ | fail
                    try simp only [Act.put, List.setIfInBounds_toArray, List.set_cons_zero, List.set_cons_succ]
                    refine wpAnyH_ready (rs := [8]) (by kernel_rfl) (by simp) ?_
                    refine AllReadyH.cons (o := ?oo1010) ?hi1010 (fun K hK => ?hs1010) ?hm1010
                    case hi1010 => (simp only [List.getElem?_toArray, List.getElem?_cons_succ, List.getElem?_cons_zero]; rfl)
                    · go_simp
                      refine (HC3.out X1 HB0.out).mono ?_
                      rintro e zz1 ⟨rfl, hbzz1⟩
                      have HBzz1 := Lib.hid (HB0.out.trans (hbzz1.mono HB0.out.size))
                      clear hbzz1
                      (try go_wp2_with fail)
                      refine hK.out _ _ ?_ (fun hHeld => ?_)
                      · (try dsimp only); exact HS.out zz1 HBzz1.out
                      clear hK K
                      try simp only [Act.put, List.setIfInBounds_toArray, List.set_cons_zero, List.set_cons_succ]
                      refine wpAnyH_take (i := 10) (oi := ?oi1011) (v := ?v1011) ?hi1011 (by kernel_rfl) (by kernel_rfl) (by kernel_rfl) ?hq1011 ?hy1011 (by assumption) ?hr1011
                      case hi1011 => (simp only [List.getElem?_toArray, List.getElem?_cons_succ, List.getElem?_cons_zero]; rfl)
                      case hq1011 => exact fun _ _ _ h => h
                      case hy1011 => first | exact Or.inl ⟨by rfl, by intro whSw hSw'; (try dsimp only at hSw'); (first | (go_simp; done) | (go_simp; with_reducible rfl))⟩ | exact Or.inr ⟨by rfl, by with_reducible rfl⟩ | fail
                      try simp only [Act.put, List.setIfInBounds_toArray, List.set_cons_zero, List.set_cons_succ]
                      refine wpAnyH_take (i := 11) (oi := ?oi1012) (v := ?v1012) ?hi1012 (by kernel_rfl) (by kernel_rfl) (by kernel_rfl) ?hq1012 ?hy1012 (by assumption) ?hr1012
                      case hi1012 => (simp only [List.getElem?_toArray, List.getElem?_cons_succ, List.getElem?_cons_zero]; rfl)
                      case hq1012 => exact fun _ _ _ h => h
                      case hy1012 => exact Or.inl ⟨by rfl, by intro whSw hSw'; (try dsimp only at hSw'); (first | (go_simp; done) | (go_simp; with_reducible rfl))⟩
                      try simp only [Act.put, List.setIfInBounds_toArray, List.set_cons_zero, List.set_cons_succ]
                      refine wpAnyH_take (i := 12) (oi := ?oi1013) (v := ?v1013) ?hi1013 (by kernel_rfl) (by kernel_rfl) (by kernel_rfl) ?hq1013 ?hy1013 (by assumption) ?hr1013
                      case hi1013 => (simp only [List.getElem?_toArray, List.getElem?_cons_succ, List.getElem?_cons_zero]; rfl)
                      case hq1013 => exact fun _ _ _ h => h
                      case hy1013 => exact Or.inl ⟨by rfl, by intro whSw hSw'; (try dsimp only at hSw'); (first | (go_simp; done) | (go_simp; with_reducible rfl))⟩
                      try simp only [Act.put, List.setIfInBounds_toArray, List.set_cons_zero, List.set_cons_succ]
                      refine wpAnyH_take (i := 13) (oi := ?oi1014) (v := ?v1014) ?hi1014 (by kernel_rfl) (by kernel_rfl) (by kernel_rfl) ?hq1014 ?hy1014 (by assumption) ?hr1014
                      case hi1014 => (simp only [List.getElem?_toArray, List.getElem?_cons_succ, List.getElem?_cons_zero]; rfl)
                      case hq1014 => exact fun _ _ _ h => h
                      case hy1014 => first | exact Or.inl ⟨by rfl, by intro whSw hSw'; (try dsimp only at hSw'); (first | (go_simp; done) | (go_simp; with_reducible rfl))⟩ | exact Or.inr ⟨by rfl, by with_reducible rfl⟩ | fail
                      try simp only [Act.put, List.setIfInBounds_toArray, List.set_cons_zero, List.set_cons_succ]
                      refine wpAnyH_take (i := 14) (oi := ?oi1015) (v := ?v1015) ?hi1015 (by kernel_rfl) (by kernel_rfl) (by kernel_rfl) ?hq1015 ?hy1015 (by assumption) ?hr1015
                      case hi1015 => (simp only [List.getElem?_toArray, List.getElem?_cons_succ, List.getElem?_cons_zero]; rfl)
                      case hq1015 => exact fun _ _ _ h => h
                      case hy1015 => first | exact Or.inl ⟨by rfl, by intro whSw hSw'; (try dsimp only at hSw'); (first | (go_simp; done) | (go_simp; with_reducible rfl))⟩ | exact Or.inr ⟨by rfl, by with_reducible rfl⟩ | fail
                      try simp only [Act.put, List.setIfInBounds_toArray, List.set_cons_zero, List.set_cons_succ]
                      refine wpAnyH_take (i := 15) (oi := ?oi1016) (v := ?v1016) ?hi1016 (by kernel_rfl) (by kernel_rfl) (by kernel_rfl) ?hq1016 ?hy1016 (by assumption) ?hr1016
                      case hi1016 => (simp only [List.getElem?_toArray, List.getElem?_cons_succ, List.getElem?_cons_zero]; rfl)
                      case hq1016 => exact fun _ _ _ h => h
                      case hy1016 => first | exact Or.inl ⟨by rfl, by intro whSw hSw'; (try dsimp only at hSw'); (first | (go_simp; done) | (go_simp; with_reducible rfl))⟩ | exact Or.inr ⟨by rfl, by with_reducible rfl⟩ | fail
                      try simp only [Act.put, List.setIfInBounds_toArray, List.set_cons_zero, List.set_cons_succ]
                      refine wpAnyH_take (i := 17) (oi := ?oi1017) (v := ?v1017) ?hi1017 (by kernel_rfl) (by kernel_rfl) (by kernel_rfl) ?hq1017 ?hy1017 (by assumption) ?hr1017
                      case hi1017 => (simp only [List.getElem?_toArray, List.getElem?_cons_succ, List.getElem?_cons_zero]; rfl)
                      case hq1017 => exact fun _ _ _ h => h
                      case hy1017 => first | exact Or.inl ⟨by rfl, by intro whSw hSw'; (try dsimp only at hSw'); (first | (go_simp; done) | (go_simp; with_reducible rfl))⟩ | exact Or.inr ⟨by rfl, by with_reducible rfl⟩ | fail
                      try simp only [Act.put, List.setIfInBounds_toArray, List.set_cons_zero, List.set_cons_succ]
                      refine wpAnyH_take (i := 18) (oi := ?oi1018) (v := ?v1018) ?hi1018 (by kernel_rfl) (by kernel_rfl) (by kernel_rfl) ?hq1018 ?hy1018 (by assumption) ?hr1018
                      case hi1018 => (simp only [List.getElem?_toArray, List.getElem?_cons_succ, List.getElem?_cons_zero]; rfl)
                      case hq1018 => exact fun _ _ _ h => h
                      case hy1018 => first | exact Or.inl ⟨by rfl, by intro whSw hSw'; (try dsimp only at hSw'); (first | (go_simp; done) | (go_simp; with_reducible rfl))⟩ | exact Or.inr ⟨by rfl, by with_reducible rfl⟩ | fail
                      try simp only [Act.put, List.setIfInBounds_toArray, List.set_cons_zero, List.set_cons_succ]
                      refine wpAnyH_take (i := 19) (oi := ?oi1019) (v := ?v1019) ?hi1019 (by kernel_rfl) (by kernel_rfl) (by kernel_rfl) ?hq1019 ?hy1019 (by assumption) ?hr1019
                      case hi1019 => (simp only [List.getElem?_toArray, List.getElem?_cons_succ, List.getElem?_cons_zero]; rfl)
                      case hq1019 => exact fun _ _ _ h => h
                      case hy1019 => first | exact Or.inl ⟨by rfl, by intro whSw hSw'; (try dsimp only at hSw'); (first | (go_simp; done) | (go_simp; with_reducible rfl))⟩ | exact Or.inr ⟨by rfl, by with_reducible rfl⟩ | fail
                      try simp only [Act.put, List.setIfInBounds_toArray, List.set_cons_zero, List.set_cons_succ]
                      refine wpAnyH_ready (rs := [16]) (by kernel_rfl) (by simp) ?_
                      refine AllReadyH.cons (o := ?oo1020) ?hi1020 (fun K hK => ?hs1020) ?hm1020
                      case hi1020 => (simp only [List.getElem?_toArray, List.getElem?_cons_succ, List.getElem?_cons_zero]; rfl)
                      · go_simp
                        refine (HSJ.out zz1 HBzz1.out).mono ?_
                        rintro e zz2 ⟨rfl, hbzz2⟩
                        have HBzz2 := Lib.hid (HBzz1.out.trans (hbzz2.mono HBzz1.out.size))
                        clear hbzz2
                        (try go_wp2_with fail)
                        refine hK.out _ _ ?_ (fun hHeld => ?_)
                        · (try dsimp only); exact HS.out zz2 HBzz2.out
                        clear hK K
                        try simp only [Act.put, List.setIfInBounds_toArray, List.set_cons_zero, List.set_cons_succ]
                        refine wpAnyH_take (i := 20) (oi := ?oi1021) (v := ?v1021) ?hi1021 (by kernel_rfl) (by kernel_rfl) (by kernel_rfl) ?hq1021 ?hy1021 (by assumption) ?hr1021
                        case hi1021 => (simp only [List.getElem?_toArray, List.getElem?_cons_succ, List.getElem?_cons_zero]; rfl)
                        case hq1021 => exact fun _ _ _ h => h
                        case hy1021 => first | exact Or.inl ⟨by rfl, by intro whSw hSw'; (try dsimp only at hSw'); (first | (go_simp; done) | (go_simp; with_reducible rfl))⟩ | exact Or.inr ⟨by rfl, by with_reducible rfl⟩ | fail
                        try simp only [Act.put, List.setIfInBounds_toArray, List.set_cons_zero, List.set_cons_succ]
                        refine wpAnyH_take (i := 21) (oi := ?oi1022) (v := ?v1022) ?hi1022 (by kernel_rfl) (by kernel_rfl) (by kernel_rfl) ?hq1022 ?hy1022 (by assumption) ?hr1022
                        case hi1022 => (simp only [List.getElem?_toArray, List.getElem?_cons_succ, List.getElem?_cons_zero]; rfl)
                        case hq1022 => exact fun _ _ _ h => h
                        case hy1022 => first | exact Or.inl ⟨by rfl, by intro whSw hSw'; (try dsimp only at hSw'); (first | (go_simp; done) | (go_simp; with_reducible rfl))⟩ | exact Or.inr ⟨by rfl, by with_reducible rfl⟩ | fail
                        try simp only [Act.put, List.setIfInBounds_toArray, List.set_cons_zero, List.set_cons_succ]
                        refine wpAnyH_take (i := 22) (oi := ?oi1023) (v := ?v1023) ?hi1023 (by kernel_rfl) (by kernel_rfl) (by kernel_rfl) ?hq1023 ?hy1023 (by assumption) ?hr1023
                        case hi1023 => (simp only [List.getElem?_toArray, List.getElem?_cons_succ, List.getElem?_cons_zero]; rfl)
                        case hq1023 => exact fun _ _ _ h => h
                        case hy1023 => first | exact Or.inl ⟨by rfl, by intro whSw hSw'; (try dsimp only at hSw'); (first | (go_simp; done) | (go_simp; with_reducible rfl))⟩ | exact Or.inr ⟨by rfl, by with_reducible rfl⟩ | fail
                        try simp only [Act.put, List.setIfInBounds_toArray, List.set_cons_zero, List.set_cons_succ]
                        refine wpAnyH_take (i := 23) (oi := ?oi1024) (v := ?v1024) ?hi1024 (by kernel_rfl) (by kernel_rfl) (by kernel_rfl) ?hq1024 ?hy1024 (by assumption) ?hr1024
                        case hi1024 => (simp only [List.getElem?_toArray, List.getElem?_cons_succ, List.getElem?_cons_zero]; rfl)
                        case hq1024 => exact fun _ _ _ h => h
                        case hy1024 => first | exact Or.inl ⟨by rfl, by intro whSw hSw'; (try dsimp only at hSw'); (first | (go_simp; done) | (go_simp; with_reducible rfl))⟩ | exact Or.inr ⟨by rfl, by with_reducible rfl⟩ | fail
                        try simp only [Act.put, List.setIfInBounds_toArray, List.set_cons_zero, List.set_cons_succ]
                        refine wpAnyH_take (i := 24) (oi := ?oi1025) (v := ?v1025) ?hi1025 (by kernel_rfl) (by kernel_rfl) (by kernel_rfl) ?hq1025 ?hy1025 (by assumption) ?hr1025
                        case hi1025 => (simp only [List.getElem?_toArray, List.getElem?_cons_succ, List.getElem?_cons_zero]; rfl)
                        case hq1025 => exact fun _ _ _ h => h
                        case hy1025 => first | exact Or.inl ⟨by rfl, by intro whSw hSw'; (try dsimp only at hSw'); (first | (go_simp; done) | (go_simp; with_reducible rfl))⟩ | exact Or.inr ⟨by rfl, by with_reducible rfl⟩ | fail
                        try simp only [Act.put, List.setIfInBounds_toArray, List.set_cons_zero, List.set_cons_succ]
                        refine wpAnyH_take (i := 25) (oi := ?oi1026) (v := ?v1026) ?hi1026 (by kernel_rfl) (by kernel_rfl) (by kernel_rfl) ?hq1026 ?hy1026 (by assumption) ?hr1026
                        case hi1026 => (simp only [List.getElem?_toArray, List.getElem?_cons_succ, List.getElem?_cons_zero]; rfl)
                        case hq1026 => exact fun _ _ _ h => h
                        case hy1026 => first | exact Or.inl ⟨by rfl, by intro whSw hSw'; (try dsimp only at hSw'); (first | (go_simp; done) | (go_simp; with_reducible rfl))⟩ | exact Or.inr ⟨by rfl, by with_reducible rfl⟩ | fail
                        try simp only [Act.put, List.setIfInBounds_toArray, List.set_cons_zero, List.set_cons_succ]
                        refine wpAnyH_take (i := 26) (oi := ?oi1027) (v := ?v1027) ?hi1027 (by kernel_rfl) (by kernel_rfl) (by kernel_rfl) ?hq1027 ?hy1027 (by assumption) ?hr1027
                        case hi1027 => (simp only [List.getElem?_toArray, List.getElem?_cons_succ, List.getElem?_cons_zero]; rfl)
                        case hq1027 => exact fun _ _ _ h => h
                        case hy1027 => first | exact Or.inl ⟨by rfl, by intro whSw hSw'; (try dsimp only at hSw'); (first | (go_simp; done) | (go_simp; with_reducible rfl))⟩ | exact Or.inr ⟨by rfl, by with_reducible rfl⟩ | fail
                        try simp only [Act.put, List.setIfInBounds_toArray, List.set_cons_zero, List.set_cons_succ]
                        refine wpAnyH_take (i := 27) (oi := ?oi1028) (v := ?v1028) ?hi1028 (by kernel_rfl) (by kernel_rfl) (by kernel_rfl) ?hq1028 ?hy1028 (by assumption) ?hr1028
                        case hi1028 => (simp only [List.getElem?_toArray, List.getElem?_cons_succ, List.getElem?_cons_zero]; rfl)
                        case hq1028 => exact fun _ _ _ h => h
                        case hy1028 => first | exact Or.inl ⟨by rfl, by intro whSw hSw'; (try dsimp only at hSw'); (first | (go_simp; done) | (go_simp; with_reducible rfl))⟩ | exact Or.inr ⟨by rfl, by with_reducible rfl⟩ | fail
                        try simp only [Act.put, List.setIfInBounds_toArray, List.set_cons_zero, List.set_cons_succ]
                        refine wpAnyH_take (i := 28) (oi := ?oi1029) (v := ?v1029) ?hi1029 (by kernel_rfl) (by kernel_rfl) (by kernel_rfl) ?hq1029 ?hy1029 (by assumption) ?hr1029
                        case hi1029 => (simp only [List.getElem?_toArray, List.getElem?_cons_succ, List.getElem?_cons_zero]; rfl)
                        case hq1029 => exact fun _ _ _ h => h
                        case hy1029 => first | exact Or.inl ⟨by rfl, by intro whSw hSw'; (try dsimp only at hSw'); (first | (go_simp; done) | (go_simp; with_reducible rfl))⟩ | exact Or.inr ⟨by rfl, by with_reducible rfl⟩ | fail
                        try simp only [Act.put, List.setIfInBounds_toArray, List.set_cons_zero, List.set_cons_succ]
                        refine wpAnyH_take (i := 29) (oi := ?oi1030) (v := ?v1030) ?hi1030 (by kernel_rfl) (by kernel_rfl) (by kernel_rfl) ?hq1030 ?hy1030 (by assumption) ?hr1030
                        case hi1030 => (simp only [List.getElem?_toArray, List.getElem?_cons_succ, List.getElem?_cons_zero]; rfl)
                        case hq1030 => exact fun _ _ _ h => h
                        case hy1030 => first | exact Or.inl ⟨by rfl, by intro whSw hSw'; (try dsimp only at hSw'); (first | (go_simp; done) | (go_simp; with_reducible rfl))⟩ | exact Or.inr ⟨by rfl, by with_reducible rfl⟩ | fail
                        try simp only [Act.put, List.setIfInBounds_toArray, List.set_cons_zero, List.set_cons_succ]
                        refine wpAnyH_take (i := 30) (oi := ?oi1031) (v := ?v1031) ?hi1031 (by kernel_rfl) (by kernel_rfl) (by kernel_rfl) ?hq1031 ?hy1031 (by assumption) ?hr1031
                        case hi1031 => (simp only [List.getElem?_toArray, List.getElem?_cons_succ, List.getElem?_cons_zero]; rfl)
                        case hq1031 => exact fun _ _ _ h => h
                        case hy1031 => first | exact Or.inl ⟨by rfl, by intro whSw hSw'; (try dsimp only at hSw'); (first | (go_simp; done) | (go_simp; with_reducible rfl))⟩ | exact Or.inr ⟨by rfl, by with_reducible rfl⟩ | fail
                        try simp only [Act.put, List.setIfInBounds_toArray, List.set_cons_zero, List.set_cons_succ]
                        refine wpAnyH_take (i := 31) (oi := ?oi1032) (v := ?v1032) ?hi1032 (by kernel_rfl) (by kernel_rfl) (by kernel_rfl) ?hq1032 ?hy1032 (by assumption) ?hr1032
                        case hi1032 => (simp only [List.getElem?_toArray, List.getElem?_cons_succ, List.getElem?_cons_zero]; rfl)
                        case hq1032 => exact fun _ _ _ h => h
                        case hy1032 => first | exact Or.inl ⟨by rfl, by intro whSw hSw'; (try dsimp only at hSw'); (first | (go_simp; done) | (go_simp; with_reducible rfl))⟩ | exact Or.inr ⟨by rfl, by with_reducible rfl⟩ | fail
                        try simp only [Act.put, List.setIfInBounds_toArray, List.set_cons_zero, List.set_cons_succ]
                        refine wpAnyH_take (i := 32) (oi := ?oi1033) (v := ?v1033) ?hi1033 (by kernel_rfl) (by kernel_rfl) (by kernel_rfl) ?hq1033 ?hy1033 (by assumption) ?hr1033
                        case hi1033 => (simp only [List.getElem?_toArray, List.getElem?_cons_succ, List.getElem?_cons_zero]; rfl)
                        case hq1033 => exact fun _ _ _ h => h
                        case hy1033 => exact Or.inl ⟨by rfl, by intro whSw hSw'; (try dsimp only at hSw'); (first | (go_simp; done) | (go_simp; with_reducible rfl))⟩
                        try simp only [Act.put, List.setIfInBounds_toArray, List.set_cons_zero, List.set_cons_succ]
                        refine wpAnyH_take (i := 33) (oi := ?oi1034) (v := ?v1034) ?hi1034 (by kernel_rfl) (by kernel_rfl) (by kernel_rfl) ?hq1034 ?hy1034 (by assumption) ?hr1034
                        case hi1034 => (simp only [List.getElem?_toArray, List.getElem?_cons_succ, List.getElem?_cons_zero]; rfl)
                        case hq1034 => exact fun _ _ _ h => h
                        case hy1034 => exact Or.inl ⟨by rfl, by intro whSw hSw'; (try dsimp only at hSw'); (first | (go_simp; done) | (go_simp; with_reducible rfl))⟩
                        try simp only [Act.put, List.setIfInBounds_toArray, List.set_cons_zero, List.set_cons_succ]
                        refine wpAnyH_take (i := 34) (oi := ?oi1035) (v := ?v1035) ?hi1035 (by kernel_rfl) (by kernel_rfl) (by kernel_rfl) ?hq1035 ?hy1035 (by assumption) ?hr1035
                        case hi1035 => (simp only [List.getElem?_toArray, List.getElem?_cons_succ, List.getElem?_cons_zero]; rfl)
                        case hq1035 => exact fun _ _ _ h => h
                        case hy1035 => first | exact Or.inl ⟨by rfl, by intro whSw hSw'; (try dsimp only at hSw'); (first | (go_simp; done) | (go_simp; with_reducible rfl))⟩ | exact Or.inr ⟨by rfl, by with_reducible rfl⟩ | fail
                        try simp only [Act.put, List.setIfInBounds_toArray, List.set_cons_zero, List.set_cons_succ]
                        refine wpAnyH_take (i := 35) (oi := ?oi1036) (v := ?v1036) ?hi1036 (by kernel_rfl) (by kernel_rfl) (by kernel_rfl) ?hq1036 ?hy1036 (by assumption) ?hr1036
                        case hi1036 => (simp only [List.getElem?_toArray, List.getElem?_cons_succ, List.getElem?_cons_zero]; rfl)
                        case hq1036 => exact fun _ _ _ h => h
                        case hy1036 => first | exact Or.inl ⟨by rfl, by intro whSw hSw'; (try dsimp only at hSw'); (first | (go_simp; done) | (go_simp; with_reducible rfl))⟩ | exact Or.inr ⟨by rfl, by with_reducible rfl⟩ | fail
                        try simp only [Act.put, List.setIfInBounds_toArray, List.set_cons_zero, List.set_cons_succ]
                        refine wpAnyH_take (i := 36) (oi := ?oi1037) (v := ?v1037) ?hi1037 (by kernel_rfl) (by kernel_rfl) (by kernel_rfl) ?hq1037 ?hy1037 (by assumption) ?hr1037
                        case hi1037 => (simp only [List.getElem?_toArray, List.getElem?_cons_succ, List.getElem?_cons_zero]; rfl)
                        case hq1037 => exact fun _ _ _ h => h
                        case hy1037 => first | exact Or.inl ⟨by rfl, by intro whSw hSw'; (try dsimp only at hSw'); (first | (go_simp; done) | (go_simp; with_reducible rfl))⟩ | exact Or.inr ⟨by rfl, by with_reducible rfl⟩ | fail
                        try simp only [Act.put, List.setIfInBounds_toArray, List.set_cons_zero, List.set_cons_succ]
                        refine wpAnyH_take (i := 37) (oi := ?oi1038) (v := ?v1038) ?hi1038 (by kernel_rfl) (by kernel_rfl) (by kernel_rfl) ?hq1038 ?hy1038 (by assumption) ?hr1038
                        case hi1038 => (simp only [List.getElem?_toArray, List.getElem?_cons_succ, List.getElem?_cons_zero]; rfl)
                        case hq1038 => exact fun _ _ _ h => h
                        case hy1038 => exact Or.inl ⟨by rfl, by intro whSw hSw'; (try dsimp only at hSw'); (first | (go_simp; done) | (go_simp; with_reducible rfl))⟩
                        try simp only [Act.put, List.setIfInBounds_toArray, List.set_cons_zero, List.set_cons_succ]
                        refine wpAnyH_done (by kernel_rfl) ?_ _
                        go_wp2_with fail
                        go_meet
                        exact ⟨rfl, HBzz2⟩
                      exact AllReadyH.nil
                    exact AllReadyH.nil
                  · rw [decide_eq_false hab] at HSJ
                    have habb : (a == b) = false := by simp [hab]
                    refine wp_region_held_drew (S := (fun w' => w'.cell? ⟨bh, oh + x, none⟩ = some (.int .i64 a) ∧ w'.cell? ⟨bh, oh + y, none⟩ = some (.int .i64 b))) (by kernel_rfl) ?_ (fun hHeld => ?_)
                    · (try dsimp only); (rw [HX1.out]; exact HS.out X1 HB0.out)
                    rw [HX1.out] at hHeld ⊢
                    refine wpAnyH_take (i := 0) (oi := ?oi2001) (v := ?v2001) ?hi2001 (by kernel_rfl) (by kernel_rfl) (by kernel_rfl) ?hq2001 ?hy2001 (by assumption) ?hr2001
                    case hi2001 => (simp only [List.getElem?_toArray, List.getElem?_cons_zero]; rfl)
                    case hq2001 => exact fun _ _ _ h => h
                    case hy2001 => exact Or.inl ⟨by rfl, by intro whSw hSw'; (try dsimp only at hSw'); (first | (go_simp; done) | (go_simp; with_reducible rfl))⟩
                    try simp only [Act.put, List.setIfInBounds_toArray, List.set_cons_zero, List.set_cons_succ]
                    refine wpAnyH_take (i := 1) (oi := ?oi2002) (v := ?v2002) ?hi2002 (by kernel_rfl) (by kernel_rfl) (by kernel_rfl) ?hq2002 ?hy2002 (by assumption) ?hr2002
                    case hi2002 => (simp only [List.getElem?_toArray, List.getElem?_cons_succ, List.getElem?_cons_zero]; rfl)
                    case hq2002 => exact fun _ _ _ h => h
                    case hy2002 => exact Or.inl ⟨by rfl, by intro whSw hSw'; (try dsimp only at hSw'); (first | (go_simp; done) | (go_simp; with_reducible rfl))⟩
                    try simp only [Act.put, List.setIfInBounds_toArray, List.set_cons_zero, List.set_cons_succ]
                    refine wpAnyH_take (i := 2) (oi := ?oi2003) (v := ?v2003) ?hi2003 (by kernel_rfl) (by kernel_rfl) (by kernel_rfl) ?hq2003 ?hy2003 (by assumption) ?hr2003
                    case hi2003 => (simp only [List.getElem?_toArray, List.getElem?_cons_succ, List.getElem?_cons_zero]; rfl)
                    case hq2003 => exact fun _ _ _ h => h
                    case hy2003 => exact Or.inl ⟨by rfl, by intro whSw hSw'; (try dsimp only at hSw'); (first | (go_simp; done) | (go_simp; with_reducible rfl))⟩
                    try simp only [Act.put, List.setIfInBounds_toArray, List.set_cons_zero, List.set_cons_succ]
                    refine wpAnyH_take (i := 3) (oi := ?oi2004) (v := ?v2004) ?hi2004 (by kernel_rfl) (by kernel_rfl) (by kernel_rfl) ?hq2004 ?hy2004 (by assumption) ?hr2004
                    case hi2004 => (simp only [List.getElem?_toArray, List.getElem?_cons_succ, List.getElem?_cons_zero]; rfl)
                    case hq2004 => exact fun _ _ _ h => h
                    case hy2004 => exact Or.inl ⟨by rfl, by intro whSw hSw'; (try dsimp only at hSw'); (first | (go_simp; done) | (go_simp; with_reducible rfl))⟩
                    try simp only [Act.put, List.setIfInBounds_toArray, List.set_cons_zero, List.set_cons_succ]
                    refine wpAnyH_take (i := 4) (oi := ?oi2005) (v := ?v2005) ?hi2005 (by kernel_rfl) (by kernel_rfl) (by kernel_rfl) ?hq2005 ?hy2005 (by assumption) ?hr2005
                    case hi2005 => (simp only [List.getElem?_toArray, List.getElem?_cons_succ, List.getElem?_cons_zero]; rfl)
                    case hq2005 => exact fun _ _ _ h => h
                    case hy2005 => exact Or.inl ⟨by rfl, by intro whSw hSw'; (try dsimp only at hSw'); (first | (go_simp; done) | (go_simp; with_reducible rfl))⟩
                    try simp only [Act.put, List.setIfInBounds_toArray, List.set_cons_zero, List.set_cons_succ]
                    refine wpAnyH_take (i := 5) (oi := ?oi2006) (v := ?v2006) ?hi2006 (by kernel_rfl) (by kernel_rfl) (by kernel_rfl) ?hq2006 ?hy2006 (by assumption) ?hr2006
                    case hi2006 => (simp only [List.getElem?_toArray, List.getElem?_cons_succ, List.getElem?_cons_zero]; rfl)
                    case hq2006 => exact fun _ _ _ h => h
                    case hy2006 => first | exact Or.inl ⟨by rfl, by intro whSw hSw'; (try dsimp only at hSw'); (first | (go_simp; done) | (go_simp; with_reducible rfl))⟩ | exact Or.inr ⟨by rfl, by with_reducible rfl⟩ | fail
                    try simp only [Act.put, List.setIfInBounds_toArray, List.set_cons_zero, List.set_cons_succ]
                    refine wpAnyH_take (i := 6) (oi := ?oi2007) (v := ?v2007) ?hi2007 (by kernel_rfl) (by kernel_rfl) (by kernel_rfl) ?hq2007 ?hy2007 (by assumption) ?hr2007
                    case hi2007 => (simp only [List.getElem?_toArray, List.getElem?_cons_succ, List.getElem?_cons_zero]; rfl)
                    case hq2007 => exact fun _ _ _ h => h
                    case hy2007 => first | exact Or.inl ⟨by rfl, by intro whSw hSw'; (try dsimp only at hSw'); (first | (go_simp; done) | (go_simp; with_reducible rfl))⟩ | exact Or.inr ⟨by rfl, by with_reducible rfl⟩ | fail
                    try simp only [Act.put, List.setIfInBounds_toArray, List.set_cons_zero, List.set_cons_succ]
                    refine wpAnyH_take (i := 7) (oi := ?oi2008) (v := ?v2008) ?hi2008 (by kernel_rfl) (by kernel_rfl) (by kernel_rfl) ?hq2008 ?hy2008 (by assumption) ?hr2008
                    case hi2008 => (simp only [List.getElem?_toArray, List.getElem?_cons_succ, List.getElem?_cons_zero]; rfl)
                    case hq2008 => exact fun _ _ _ h => h
                    case hy2008 => first | exact Or.inl ⟨by rfl, by intro whSw hSw'; (try dsimp only at hSw'); (first | (go_simp; done) | (go_simp; with_reducible rfl))⟩ | exact Or.inr ⟨by rfl, by with_reducible rfl⟩ | fail
                    try simp only [Act.put, List.setIfInBounds_toArray, List.set_cons_zero, List.set_cons_succ]
                    refine wpAnyH_take (i := 9) (oi := ?oi2009) (v := ?v2009) ?hi2009 (by kernel_rfl) (by kernel_rfl) (by kernel_rfl) ?hq2009 ?hy2009 (by assumption) ?hr2009
                    case hi2009 => (simp only [List.getElem?_toArray, List.getElem?_cons_succ, List.getElem?_cons_zero]; rfl)
                    case hq2009 => exact fun _ _ _ h => h
                    case hy2009 => first | exact Or.inl ⟨by rfl, by intro whSw hSw'; (try dsimp only at hSw'); (first | (go_simp; done) | (go_simp; with_reducible rfl))⟩ | exact Or.inr ⟨by rfl, by with_reducible rfl⟩ | fail
                    try simp only [Act.put, List.setIfInBounds_toArray, List.set_cons_zero, List.set_cons_succ]
                    refine wpAnyH_ready (rs := [8]) (by kernel_rfl) (by simp) ?_
                    refine AllReadyH.cons (o := ?oo2010) ?hi2010 (fun K hK => ?hs2010) ?hm2010
                    case hi2010 => (simp only [List.getElem?_toArray, List.getElem?_cons_succ, List.getElem?_cons_zero]; rfl)
                    · go_simp
                      refine (HC3.out X1 HB0.out).mono ?_
                      rintro e zz1 ⟨rfl, hbzz1⟩
                      have HBzz1 := Lib.hid (HB0.out.trans (hbzz1.mono HB0.out.size))
                      clear hbzz1
                      (try go_wp2_with fail)
                      refine hK.out _ _ ?_ (fun hHeld => ?_)
                      · (try dsimp only); exact HS.out zz1 HBzz1.out
                      clear hK K
                      try simp only [Act.put, List.setIfInBounds_toArray, List.set_cons_zero, List.set_cons_succ]
                      refine wpAnyH_take (i := 10) (oi := ?oi2011) (v := ?v2011) ?hi2011 (by kernel_rfl) (by kernel_rfl) (by kernel_rfl) ?hq2011 ?hy2011 (by assumption) ?hr2011
                      case hi2011 => (simp only [List.getElem?_toArray, List.getElem?_cons_succ, List.getElem?_cons_zero]; rfl)
                      case hq2011 => exact fun _ _ _ h => h
                      case hy2011 => first | exact Or.inl ⟨by rfl, by intro whSw hSw'; (try dsimp only at hSw'); (first | (go_simp; done) | (go_simp; with_reducible rfl))⟩ | exact Or.inr ⟨by rfl, by with_reducible rfl⟩ | fail
                      try simp only [Act.put, List.setIfInBounds_toArray, List.set_cons_zero, List.set_cons_succ]
                      refine wpAnyH_take (i := 11) (oi := ?oi2012) (v := ?v2012) ?hi2012 (by kernel_rfl) (by kernel_rfl) (by kernel_rfl) ?hq2012 ?hy2012 (by assumption) ?hr2012
                      case hi2012 => (simp only [List.getElem?_toArray, List.getElem?_cons_succ, List.getElem?_cons_zero]; rfl)
                      case hq2012 => exact fun _ _ _ h => h
                      case hy2012 => exact Or.inl ⟨by rfl, by intro whSw hSw'; (try dsimp only at hSw'); (first | (go_simp; done) | (go_simp; with_reducible rfl))⟩
                      try simp only [Act.put, List.setIfInBounds_toArray, List.set_cons_zero, List.set_cons_succ]
                      refine wpAnyH_take (i := 12) (oi := ?oi2013) (v := ?v2013) ?hi2013 (by kernel_rfl) (by kernel_rfl) (by kernel_rfl) ?hq2013 ?hy2013 (by assumption) ?hr2013
                      case hi2013 => (simp only [List.getElem?_toArray, List.getElem?_cons_succ, List.getElem?_cons_zero]; rfl)
                      case hq2013 => exact fun _ _ _ h => h
                      case hy2013 => exact Or.inl ⟨by rfl, by intro whSw hSw'; (try dsimp only at hSw'); (first | (go_simp; done) | (go_simp; with_reducible rfl))⟩
                      try simp only [Act.put, List.setIfInBounds_toArray, List.set_cons_zero, List.set_cons_succ]
                      refine wpAnyH_take (i := 13) (oi := ?oi2014) (v := ?v2014) ?hi2014 (by kernel_rfl) (by kernel_rfl) (by kernel_rfl) ?hq2014 ?hy2014 (by assumption) ?hr2014
                      case hi2014 => (simp only [List.getElem?_toArray, List.getElem?_cons_succ, List.getElem?_cons_zero]; rfl)
                      case hq2014 => exact fun _ _ _ h => h
                      case hy2014 => first | exact Or.inl ⟨by rfl, by intro whSw hSw'; (try dsimp only at hSw'); (first | (go_simp; done) | (go_simp; with_reducible rfl))⟩ | exact Or.inr ⟨by rfl, by with_reducible rfl⟩ | fail
                      try simp only [Act.put, List.setIfInBounds_toArray, List.set_cons_zero, List.set_cons_succ]
                      refine wpAnyH_take (i := 14) (oi := ?oi2015) (v := ?v2015) ?hi2015 (by kernel_rfl) (by kernel_rfl) (by kernel_rfl) ?hq2015 ?hy2015 (by assumption) ?hr2015
                      case hi2015 => (simp only [List.getElem?_toArray, List.getElem?_cons_succ, List.getElem?_cons_zero]; rfl)
                      case hq2015 => exact fun _ _ _ h => h
                      case hy2015 => first | exact Or.inl ⟨by rfl, by intro whSw hSw'; (try dsimp only at hSw'); (first | (go_simp; done) | (go_simp; with_reducible rfl))⟩ | exact Or.inr ⟨by rfl, by with_reducible rfl⟩ | fail
                      try simp only [Act.put, List.setIfInBounds_toArray, List.set_cons_zero, List.set_cons_succ]
                      refine wpAnyH_take (i := 15) (oi := ?oi2016) (v := ?v2016) ?hi2016 (by kernel_rfl) (by kernel_rfl) (by kernel_rfl) ?hq2016 ?hy2016 (by assumption) ?hr2016
                      case hi2016 => (simp only [List.getElem?_toArray, List.getElem?_cons_succ, List.getElem?_cons_zero]; rfl)
                      case hq2016 => exact fun _ _ _ h => h
                      case hy2016 => first | exact Or.inl ⟨by rfl, by intro whSw hSw'; (try dsimp only at hSw'); (first | (go_simp; done) | (go_simp; with_reducible rfl))⟩ | exact Or.inr ⟨by rfl, by with_reducible rfl⟩ | fail
                      try simp only [Act.put, List.setIfInBounds_toArray, List.set_cons_zero, List.set_cons_succ]
                      refine wpAnyH_take (i := 17) (oi := ?oi2017) (v := ?v2017) ?hi2017 (by kernel_rfl) (by kernel_rfl) (by kernel_rfl) ?hq2017 ?hy2017 (by assumption) ?hr2017
                      case hi2017 => (simp only [List.getElem?_toArray, List.getElem?_cons_succ, List.getElem?_cons_zero]; rfl)
                      case hq2017 => exact fun _ _ _ h => h
                      case hy2017 => first | exact Or.inl ⟨by rfl, by intro whSw hSw'; (try dsimp only at hSw'); (first | (go_simp; done) | (go_simp; with_reducible rfl))⟩ | exact Or.inr ⟨by rfl, by with_reducible rfl⟩ | fail
                      try simp only [Act.put, List.setIfInBounds_toArray, List.set_cons_zero, List.set_cons_succ]
                      refine wpAnyH_take (i := 18) (oi := ?oi2018) (v := ?v2018) ?hi2018 (by kernel_rfl) (by kernel_rfl) (by kernel_rfl) ?hq2018 ?hy2018 (by assumption) ?hr2018
                      case hi2018 => (simp only [List.getElem?_toArray, List.getElem?_cons_succ, List.getElem?_cons_zero]; rfl)
                      case hq2018 => exact fun _ _ _ h => h
                      case hy2018 => first | exact Or.inl ⟨by rfl, by intro whSw hSw'; (try dsimp only at hSw'); (first | (go_simp; done) | (go_simp; with_reducible rfl))⟩ | exact Or.inr ⟨by rfl, by with_reducible rfl⟩ | fail
                      try simp only [Act.put, List.setIfInBounds_toArray, List.set_cons_zero, List.set_cons_succ]
                      refine wpAnyH_take (i := 19) (oi := ?oi2019) (v := ?v2019) ?hi2019 (by kernel_rfl) (by kernel_rfl) (by kernel_rfl) ?hq2019 ?hy2019 (by assumption) ?hr2019
                      case hi2019 => (simp only [List.getElem?_toArray, List.getElem?_cons_succ, List.getElem?_cons_zero]; rfl)
                      case hq2019 => exact fun _ _ _ h => h
                      case hy2019 => first | exact Or.inl ⟨by rfl, by intro whSw hSw'; (try dsimp only at hSw'); (first | (go_simp; done) | (go_simp; with_reducible rfl))⟩ | exact Or.inr ⟨by rfl, by with_reducible rfl⟩ | fail
                      try simp only [Act.put, List.setIfInBounds_toArray, List.set_cons_zero, List.set_cons_succ]
                      refine wpAnyH_ready (rs := [16]) (by kernel_rfl) (by simp) ?_
                      refine AllReadyH.cons (o := ?oo2020) ?hi2020 (fun K hK => ?hs2020) ?hm2020
                      case hi2020 => (simp only [List.getElem?_toArray, List.getElem?_cons_succ, List.getElem?_cons_zero]; rfl)
                      · go_simp
                        refine (HSJ.out zz1 HBzz1.out).mono ?_
                        rintro e zz2 ⟨rfl, hbzz2⟩
                        have HBzz2 := Lib.hid (HBzz1.out.trans (hbzz2.mono HBzz1.out.size))
                        clear hbzz2
                        (try go_wp2_with fail)
                        refine hK.out _ _ ?_ (fun hHeld => ?_)
                        · (try dsimp only); exact HS.out zz2 HBzz2.out
                        clear hK K
                        try simp only [Act.put, List.setIfInBounds_toArray, List.set_cons_zero, List.set_cons_succ]
                        refine wpAnyH_take (i := 20) (oi := ?oi2021) (v := ?v2021) ?hi2021 (by kernel_rfl) (by kernel_rfl) (by kernel_rfl) ?hq2021 ?hy2021 (by assumption) ?hr2021
                        case hi2021 => (simp only [List.getElem?_toArray, List.getElem?_cons_succ, List.getElem?_cons_zero]; rfl)
                        case hq2021 => exact fun _ _ _ h => h
                        case hy2021 => first | exact Or.inl ⟨by rfl, by intro whSw hSw'; (try dsimp only at hSw'); (first | (go_simp; done) | (go_simp; with_reducible rfl))⟩ | exact Or.inr ⟨by rfl, by with_reducible rfl⟩ | fail
                        try simp only [Act.put, List.setIfInBounds_toArray, List.set_cons_zero, List.set_cons_succ]
                        refine wpAnyH_take (i := 21) (oi := ?oi2022) (v := ?v2022) ?hi2022 (by kernel_rfl) (by kernel_rfl) (by kernel_rfl) ?hq2022 ?hy2022 (by assumption) ?hr2022
                        case hi2022 => (simp only [List.getElem?_toArray, List.getElem?_cons_succ, List.getElem?_cons_zero]; rfl)
                        case hq2022 => exact fun _ _ _ h => h
                        case hy2022 => first | exact Or.inl ⟨by rfl, by intro whSw hSw'; (try dsimp only at hSw'); (first | (go_simp; done) | (go_simp; with_reducible rfl))⟩ | exact Or.inr ⟨by rfl, by with_reducible rfl⟩ | fail
                        try simp only [Act.put, List.setIfInBounds_toArray, List.set_cons_zero, List.set_cons_succ]
                        refine wpAnyH_take (i := 22) (oi := ?oi2023) (v := ?v2023) ?hi2023 (by kernel_rfl) (by kernel_rfl) (by kernel_rfl) ?hq2023 ?hy2023 (by assumption) ?hr2023
                        case hi2023 => (simp only [List.getElem?_toArray, List.getElem?_cons_succ, List.getElem?_cons_zero]; rfl)
                        case hq2023 => exact fun _ _ _ h => h
                        case hy2023 => first | exact Or.inl ⟨by rfl, by intro whSw hSw'; (try dsimp only at hSw'); (first | (go_simp; done) | (go_simp; with_reducible rfl))⟩ | exact Or.inr ⟨by rfl, by with_reducible rfl⟩ | fail
                        try simp only [Act.put, List.setIfInBounds_toArray, List.set_cons_zero, List.set_cons_succ]
                        refine wpAnyH_take (i := 23) (oi := ?oi2024) (v := ?v2024) ?hi2024 (by kernel_rfl) (by kernel_rfl) (by kernel_rfl) ?hq2024 ?hy2024 (by assumption) ?hr2024
                        case hi2024 => (simp only [List.getElem?_toArray, List.getElem?_cons_succ, List.getElem?_cons_zero]; rfl)
                        case hq2024 => exact fun _ _ _ h => h
                        case hy2024 => first | exact Or.inl ⟨by rfl, by intro whSw hSw'; (try dsimp only at hSw'); (first | (go_simp; done) | (go_simp; with_reducible rfl))⟩ | exact Or.inr ⟨by rfl, by with_reducible rfl⟩ | fail
                        try simp only [Act.put, List.setIfInBounds_toArray, List.set_cons_zero, List.set_cons_succ]
                        refine wpAnyH_take (i := 24) (oi := ?oi2025) (v := ?v2025) ?hi2025 (by kernel_rfl) (by kernel_rfl) (by kernel_rfl) ?hq2025 ?hy2025 (by assumption) ?hr2025
                        case hi2025 => (simp only [List.getElem?_toArray, List.getElem?_cons_succ, List.getElem?_cons_zero]; rfl)
                        case hq2025 => exact fun _ _ _ h => h
                        case hy2025 => first | exact Or.inl ⟨by rfl, by intro whSw hSw'; (try dsimp only at hSw'); (first | (go_simp; done) | (go_simp; with_reducible rfl))⟩ | exact Or.inr ⟨by rfl, by with_reducible rfl⟩ | fail
                        try simp only [Act.put, List.setIfInBounds_toArray, List.set_cons_zero, List.set_cons_succ]
                        refine wpAnyH_take (i := 25) (oi := ?oi2026) (v := ?v2026) ?hi2026 (by kernel_rfl) (by kernel_rfl) (by kernel_rfl) ?hq2026 ?hy2026 (by assumption) ?hr2026
                        case hi2026 => (simp only [List.getElem?_toArray, List.getElem?_cons_succ, List.getElem?_cons_zero]; rfl)
                        case hq2026 => exact fun _ _ _ h => h
                        case hy2026 => first | exact Or.inl ⟨by rfl, by intro whSw hSw'; (try dsimp only at hSw'); (first | (go_simp; done) | (go_simp; with_reducible rfl))⟩ | exact Or.inr ⟨by rfl, by with_reducible rfl⟩ | fail
                        try simp only [Act.put, List.setIfInBounds_toArray, List.set_cons_zero, List.set_cons_succ]
                        refine wpAnyH_take (i := 26) (oi := ?oi2027) (v := ?v2027) ?hi2027 (by kernel_rfl) (by kernel_rfl) (by kernel_rfl) ?hq2027 ?hy2027 (by assumption) ?hr2027
                        case hi2027 => (simp only [List.getElem?_toArray, List.getElem?_cons_succ, List.getElem?_cons_zero]; rfl)
                        case hq2027 => exact fun _ _ _ h => h
                        case hy2027 => first | exact Or.inl ⟨by rfl, by intro whSw hSw'; (try dsimp only at hSw'); (first | (go_simp; done) | (go_simp; with_reducible rfl))⟩ | exact Or.inr ⟨by rfl, by with_reducible rfl⟩ | fail
                        try simp only [Act.put, List.setIfInBounds_toArray, List.set_cons_zero, List.set_cons_succ]
                        refine wpAnyH_take (i := 27) (oi := ?oi2028) (v := ?v2028) ?hi2028 (by kernel_rfl) (by kernel_rfl) (by kernel_rfl) ?hq2028 ?hy2028 (by assumption) ?hr2028
                        case hi2028 => (simp only [List.getElem?_toArray, List.getElem?_cons_succ, List.getElem?_cons_zero]; rfl)
                        case hq2028 => exact fun _ _ _ h => h
                        case hy2028 => first | exact Or.inl ⟨by rfl, by intro whSw hSw'; (try dsimp only at hSw'); (first | (go_simp; done) | (go_simp; with_reducible rfl))⟩ | exact Or.inr ⟨by rfl, by with_reducible rfl⟩ | fail
                        try simp only [Act.put, List.setIfInBounds_toArray, List.set_cons_zero, List.set_cons_succ]
                        refine wpAnyH_take (i := 28) (oi := ?oi2029) (v := ?v2029) ?hi2029 (by kernel_rfl) (by kernel_rfl) (by kernel_rfl) ?hq2029 ?hy2029 (by assumption) ?hr2029
                        case hi2029 => (simp only [List.getElem?_toArray, List.getElem?_cons_succ, List.getElem?_cons_zero]; rfl)
                        case hq2029 => exact fun _ _ _ h => h
                        case hy2029 => first | exact Or.inl ⟨by rfl, by intro whSw hSw'; (try dsimp only at hSw'); (first | (go_simp; done) | (go_simp; with_reducible rfl))⟩ | exact Or.inr ⟨by rfl, by with_reducible rfl⟩ | fail
                        try simp only [Act.put, List.setIfInBounds_toArray, List.set_cons_zero, List.set_cons_succ]
                        refine wpAnyH_take (i := 29) (oi := ?oi2030) (v := ?v2030) ?hi2030 (by kernel_rfl) (by kernel_rfl) (by kernel_rfl) ?hq2030 ?hy2030 (by assumption) ?hr2030
                        case hi2030 => (simp only [List.getElem?_toArray, List.getElem?_cons_succ, List.getElem?_cons_zero]; rfl)
                        case hq2030 => exact fun _ _ _ h => h
                        case hy2030 => first | exact Or.inl ⟨by rfl, by intro whSw hSw'; (try dsimp only at hSw'); (first | (go_simp; done) | (go_simp; with_reducible rfl))⟩ | exact Or.inr ⟨by rfl, by with_reducible rfl⟩ | fail
                        try simp only [Act.put, List.setIfInBounds_toArray, List.set_cons_zero, List.set_cons_succ]
                        refine wpAnyH_take (i := 30) (oi := ?oi2031) (v := ?v2031) ?hi2031 (by kernel_rfl) (by kernel_rfl) (by kernel_rfl) ?hq2031 ?hy2031 (by assumption) ?hr2031
                        case hi2031 => (simp only [List.getElem?_toArray, List.getElem?_cons_succ, List.getElem?_cons_zero]; rfl)
                        case hq2031 => exact fun _ _ _ h => h
                        case hy2031 => first | exact Or.inl ⟨by rfl, by intro whSw hSw'; (try dsimp only at hSw'); (first | (go_simp; done) | (go_simp; with_reducible rfl))⟩ | exact Or.inr ⟨by rfl, by with_reducible rfl⟩ | fail
                        try simp only [Act.put, List.setIfInBounds_toArray, List.set_cons_zero, List.set_cons_succ]
                        refine wpAnyH_take (i := 31) (oi := ?oi2032) (v := ?v2032) ?hi2032 (by kernel_rfl) (by kernel_rfl) (by kernel_rfl) ?hq2032 ?hy2032 (by assumption) ?hr2032
                        case hi2032 => (simp only [List.getElem?_toArray, List.getElem?_cons_succ, List.getElem?_cons_zero]; rfl)
                        case hq2032 => exact fun _ _ _ h => h
                        case hy2032 => first | exact Or.inl ⟨by rfl, by intro whSw hSw'; (try dsimp only at hSw'); (first | (go_simp; done) | (go_simp; with_reducible rfl))⟩ | exact Or.inr ⟨by rfl, by with_reducible rfl⟩ | fail
                        try simp only [Act.put, List.setIfInBounds_toArray, List.set_cons_zero, List.set_cons_succ]
                        refine wpAnyH_take (i := 32) (oi := ?oi2033) (v := ?v2033) ?hi2033 (by kernel_rfl) (by kernel_rfl) (by kernel_rfl) ?hq2033 ?hy2033 (by assumption) ?hr2033
                        case hi2033 => (simp only [List.getElem?_toArray, List.getElem?_cons_succ, List.getElem?_cons_zero]; rfl)
                        case hq2033 => exact fun _ _ _ h => h
                        case hy2033 => exact Or.inl ⟨by rfl, by intro whSw hSw'; (try dsimp only at hSw'); (first | (go_simp; done) | (go_simp; with_reducible rfl))⟩
                        try simp only [Act.put, List.setIfInBounds_toArray, List.set_cons_zero, List.set_cons_succ]
                        refine wpAnyH_take (i := 33) (oi := ?oi2034) (v := ?v2034) ?hi2034 (by kernel_rfl) (by kernel_rfl) (by kernel_rfl) ?hq2034 ?hy2034 (by assumption) ?hr2034
                        case hi2034 => (simp only [List.getElem?_toArray, List.getElem?_cons_succ, List.getElem?_cons_zero]; rfl)
                        case hq2034 => exact fun _ _ _ h => h
                        case hy2034 => exact Or.inl ⟨by rfl, by intro whSw hSw'; (try dsimp only at hSw'); (first | (go_simp; done) | (go_simp; with_reducible rfl))⟩
                        try simp only [Act.put, List.setIfInBounds_toArray, List.set_cons_zero, List.set_cons_succ]
                        refine wpAnyH_take (i := 34) (oi := ?oi2035) (v := ?v2035) ?hi2035 (by kernel_rfl) (by kernel_rfl) (by kernel_rfl) ?hq2035 ?hy2035 (by assumption) ?hr2035
                        case hi2035 => (simp only [List.getElem?_toArray, List.getElem?_cons_succ, List.getElem?_cons_zero]; rfl)
                        case hq2035 => exact fun _ _ _ h => h
                        case hy2035 => first | exact Or.inl ⟨by rfl, by intro whSw hSw'; (try dsimp only at hSw'); (first | (go_simp; done) | (go_simp; with_reducible rfl))⟩ | exact Or.inr ⟨by rfl, by with_reducible rfl⟩ | fail
                        try simp only [Act.put, List.setIfInBounds_toArray, List.set_cons_zero, List.set_cons_succ]
                        refine wpAnyH_take (i := 35) (oi := ?oi2036) (v := ?v2036) ?hi2036 (by kernel_rfl) (by kernel_rfl) (by kernel_rfl) ?hq2036 ?hy2036 (by assumption) ?hr2036
                        case hi2036 => (simp only [List.getElem?_toArray, List.getElem?_cons_succ, List.getElem?_cons_zero]; rfl)
                        case hq2036 => exact fun _ _ _ h => h
                        case hy2036 => first | exact Or.inl ⟨by rfl, by intro whSw hSw'; (try dsimp only at hSw'); (first | (go_simp; done) | (go_simp; with_reducible rfl))⟩ | exact Or.inr ⟨by rfl, by with_reducible rfl⟩ | fail
                        try simp only [Act.put, List.setIfInBounds_toArray, List.set_cons_zero, List.set_cons_succ]
                        refine wpAnyH_take (i := 36) (oi := ?oi2037) (v := ?v2037) ?hi2037 (by kernel_rfl) (by kernel_rfl) (by kernel_rfl) ?hq2037 ?hy2037 (by assumption) ?hr2037
                        case hi2037 => (simp only [List.getElem?_toArray, List.getElem?_cons_succ, List.getElem?_cons_zero]; rfl)
                        case hq2037 => exact fun _ _ _ h => h
                        case hy2037 => first | exact Or.inl ⟨by rfl, by intro whSw hSw'; (try dsimp only at hSw'); (first | (go_simp; done) | (go_simp; with_reducible rfl))⟩ | exact Or.inr ⟨by rfl, by with_reducible rfl⟩ | fail
                        try simp only [Act.put, List.setIfInBounds_toArray, List.set_cons_zero, List.set_cons_succ]
                        refine wpAnyH_take (i := 37) (oi := ?oi2038) (v := ?v2038) ?hi2038 (by kernel_rfl) (by kernel_rfl) (by kernel_rfl) ?hq2038 ?hy2038 (by assumption) ?hr2038
                        case hi2038 => (simp only [List.getElem?_toArray, List.getElem?_cons_succ, List.getElem?_cons_zero]; rfl)
                        case hq2038 => exact fun _ _ _ h => h
                        case hy2038 => exact Or.inl ⟨by rfl, by intro whSw hSw'; (try dsimp only at hSw'); (first | (go_simp; done) | (go_simp; with_reducible rfl))⟩
                        try simp only [Act.put, List.setIfInBounds_toArray, List.set_cons_zero, List.set_cons_succ]
                        refine wpAnyH_done (by kernel_rfl) ?_ _
                        go_wp2_with fail
                        go_meet
                        exact ⟨rfl, HBzz2⟩
                      exact AllReadyH.nil
                    exact AllReadyH.nil
              case rest =>
                obtain ⟨rfl, HB3⟩ := hcut
                clear HB2
                go_wp2_with fail
                go_loopw [12] (fun kv wr => ∃ k : Nat, k ≤ n ∧ kv = .int .i64 k ∧ Hid (Below w1.heap.size w1 wr)) (fun kv _ => n - (Go.RowKit.intOf kv).toNat)
                case atStart => exact ⟨0, Nat.zero_le _, rfl, HB3⟩
                case round =>
                  obtain ⟨k, hk, rfl, HBK⟩ := hrel
                  by_cases hlt : k < n
                  · have hki : (k : Int) < (n : Int) := by omega
                    obtain ⟨u, hu⟩ : ∃ a, L[k]? = some a := ⟨_, List.getElem?_eq_getElem (by rw [HLL.out]; exact hlt)⟩
                    obtain ⟨s, hs⟩ : ∃ a, L[x]? = some a := ⟨_, List.getElem?_eq_getElem (by rw [HLL.out]; exact hxn)⟩
                    obtain ⟨t, ht⟩ : ∃ a, L[y]? = some a := ⟨_, List.getElem?_eq_getElem (by rw [HLL.out]; exact hyn)⟩
                    have hbx := both_iff HO.out HLO.out hu hs
                    have hby := both_iff HO.out HLO.out hu ht
                    obtain ⟨u1, u2, u3⟩ := u
                    obtain ⟨s1, s2, s3⟩ := s
                    obtain ⟨t1, t2, t3⟩ := t
                    have HD1 := Lib.hid (fun W => dominates_any (u1, u2, u3) (s1, s2, s3) W)
                    have HD2 := Lib.hid (fun W => dominates_any (u1, u2, u3) (t1, t2, t3) W)
                    obtain ⟨d1, hd1⟩ : ∃ d, domL (u1, u2, u3) (s1, s2, s3) = d := ⟨_, rfl⟩
                    obtain ⟨d2, hd2⟩ : ∃ d, domL (u1, u2, u3) (t1, t2, t3) = d := ⟨_, rfl⟩
                    rw [hd1] at HD1 hbx
                    rw [hd2] at HD2 hby
                    unfold lbA at HD1 HD2
                    simp only at HD1 HD2
                    obtain ⟨bl, ol, rfl, hbl, hcl⟩ := at_lb (HLV.out w1 (Below.refl _ _)) (by rw [HLL.out]; exact hn0)
                    have hkp : ∀ W, Below w1.heap.size w1 W → ∀ o, W.cell? ⟨bl, o, none⟩ = w1.cell? ⟨bl, o, none⟩ := fun W hb o => hb.cell (p := ⟨bl, o, none⟩) hbl
                    have HKP := Lib.hid hkp
                    have HUC := Lib.hid (hcl k _ hu)
                    have HSC := Lib.hid (hcl x _ hs)
                    have HTC := Lib.hid (hcl y _ ht)
                    obtain ⟨both, hbo⟩ : ∃ b, decide (k ∈ way h x ∧ k ∈ way h y) = b := ⟨_, rfl⟩
                    have hbi : both = true ↔ (k = x ∨ d1 = true) ∧ (k = y ∨ d2 = true) := by rw [← hbo, decide_eq_true_iff, hbx, hby]
                    have HBO := Lib.hid hbo
                    have HBI := Lib.hid hbi
                    have HU := Lib.hid hu
                    have HCL := Lib.hid hcl
                    clear hbi hkp hcl hd1 hd2 hu hs ht hbx hby hbo hbl
                    go_upto_region 11 with fail
                    go_cut [13] from 93 to 122 (fun s13 wx => s13 = .bool both ∧ Hid (Below w1.heap.size w1 wx))
                    case first =>
                      refine cp_strict ?_
                      have bi := HBI.out
                      obtain ⟨X1, hX1⟩ : ∃ X, wr.drew = X := ⟨_, rfl⟩
                      have HX1 := Lib.hid hX1
                      have HB0 := Lib.hid (show Below w1.heap.size w1 X1 by rw [← hX1]; exact HBK.out.drew)
                      by_cases hkx : k = x
                      · subst hkx
                        by_cases hky : k = y
                        · subst hky
                          obtain rfl : both = true := bi.2 ⟨.inl rfl, .inl rfl⟩
                          clear hX1 bi
                          go_quiet (fail)
                          go_wp2_with fail
                          go_meet
                          exact ⟨rfl, Lib.hid (below_drewN HBK.out _)⟩
                        · obtain rfl : both = d2 := Bool.eq_iff_iff.2 ⟨fun e => (bi.1 e).2.resolve_left hky, fun e => bi.2 ⟨.inl rfl, .inr e⟩⟩
                          have hyi : ((k : Int) == (y : Int)) = false := by simp; omega
                          have HS := Lib.hid (fun (W : World) (hb : Below w1.heap.size w1 W) => show W.cell? ⟨bl, ol + k * 3, none⟩ = some (.int .i64 u1) ∧ W.cell? ⟨bl, ol + k * 3 + 1, none⟩ = some (.int .i64 u2) ∧ W.cell? ⟨bl, ol + k * 3 + 2, none⟩ = some (.int .i64 u3) ∧ W.cell? ⟨bl, ol + y * 3, none⟩ = some (.int .i64 t1) ∧ W.cell? ⟨bl, ol + y * 3 + 1, none⟩ = some (.int .i64 t2) ∧ W.cell? ⟨bl, ol + y * 3 + 2, none⟩ = some (.int .i64 t3) from by
                            exact ⟨(HKP.out W hb _).trans HUC.out.1, (HKP.out W hb _).trans HUC.out.2.1, (HKP.out W hb _).trans HUC.out.2.2, (HKP.out W hb _).trans HTC.out.1, (HKP.out W hb _).trans HTC.out.2.1, (HKP.out W hb _).trans HTC.out.2.2⟩)
                          clear hX1 bi
                          refine wp_region_held_drew (S := (fun w' => w'.cell? ⟨bl, ol + k * 3, none⟩ = some (.int .i64 u1) ∧ w'.cell? ⟨bl, ol + k * 3 + 1, none⟩ = some (.int .i64 u2) ∧ w'.cell? ⟨bl, ol + k * 3 + 2, none⟩ = some (.int .i64 u3) ∧ w'.cell? ⟨bl, ol + y * 3, none⟩ = some (.int .i64 t1) ∧ w'.cell? ⟨bl, ol + y * 3 + 1, none⟩ = some (.int .i64 t2) ∧ w'.cell? ⟨bl, ol + y * 3 + 2, none⟩ = some (.int .i64 t3))) (by kernel_rfl) ?_ (fun hHeld => ?_)
                          · (try dsimp only); (rw [HX1.out]; exact HS.out X1 HB0.out)
                          rw [HX1.out] at hHeld ⊢
                          refine wpAnyH_take (i := 0) (oi := ?oi3001) (v := ?v3001) ?hi3001 (by kernel_rfl) (by kernel_rfl) (by kernel_rfl) ?hq3001 ?hy3001 (by assumption) ?hr3001
                          case hi3001 => (simp only [List.getElem?_toArray, List.getElem?_cons_zero]; rfl)
                          case hq3001 => exact fun _ _ _ h => h
                          case hy3001 => exact Or.inl ⟨by rfl, by intro whSw hSw'; (try dsimp only at hSw'); (first | (go_simp; done) | (go_simp; with_reducible rfl))⟩
                          try simp only [Act.put, List.setIfInBounds_toArray, List.set_cons_zero, List.set_cons_succ]
                          refine wpAnyH_take (i := 1) (oi := ?oi3002) (v := ?v3002) ?hi3002 (by kernel_rfl) (by kernel_rfl) (by kernel_rfl) ?hq3002 ?hy3002 (by assumption) ?hr3002
                          case hi3002 => (simp only [List.getElem?_toArray, List.getElem?_cons_succ, List.getElem?_cons_zero]; rfl)
                          case hq3002 => exact fun _ _ _ h => h
                          case hy3002 => exact Or.inl ⟨by rfl, by intro whSw hSw'; (try dsimp only at hSw'); (first | (go_simp; done) | (go_simp; with_reducible rfl))⟩
                          try simp only [Act.put, List.setIfInBounds_toArray, List.set_cons_zero, List.set_cons_succ]
                          refine wpAnyH_take (i := 2) (oi := ?oi3003) (v := ?v3003) ?hi3003 (by kernel_rfl) (by kernel_rfl) (by kernel_rfl) ?hq3003 ?hy3003 (by assumption) ?hr3003
                          case hi3003 => (simp only [List.getElem?_toArray, List.getElem?_cons_succ, List.getElem?_cons_zero]; rfl)
                          case hq3003 => exact fun _ _ _ h => h
                          case hy3003 => exact Or.inl ⟨by rfl, by intro whSw hSw'; (try dsimp only at hSw'); (first | (go_simp; done) | (go_simp; with_reducible rfl))⟩
                          try simp only [Act.put, List.setIfInBounds_toArray, List.set_cons_zero, List.set_cons_succ]
                          refine wpAnyH_take (i := 3) (oi := ?oi3004) (v := ?v3004) ?hi3004 (by kernel_rfl) (by kernel_rfl) (by kernel_rfl) ?hq3004 ?hy3004 (by assumption) ?hr3004
                          case hi3004 => (simp only [List.getElem?_toArray, List.getElem?_cons_succ, List.getElem?_cons_zero]; rfl)
                          case hq3004 => exact fun _ _ _ h => h
                          case hy3004 => exact Or.inl ⟨by rfl, by intro whSw hSw'; (try dsimp only at hSw'); (first | (go_simp; done) | (go_simp; with_reducible rfl))⟩
                          try simp only [Act.put, List.setIfInBounds_toArray, List.set_cons_zero, List.set_cons_succ]
                          refine wpAnyH_take (i := 4) (oi := ?oi3005) (v := ?v3005) ?hi3005 (by kernel_rfl) (by kernel_rfl) (by kernel_rfl) ?hq3005 ?hy3005 (by assumption) ?hr3005
                          case hi3005 => (simp only [List.getElem?_toArray, List.getElem?_cons_succ, List.getElem?_cons_zero]; rfl)
                          case hq3005 => exact fun _ _ _ h => h
                          case hy3005 => first | exact Or.inl ⟨by rfl, by intro whSw hSw'; (try dsimp only at hSw'); (first | (go_simp; done) | (go_simp; with_reducible rfl))⟩ | exact Or.inr ⟨by rfl, by with_reducible rfl⟩ | fail
                          try simp only [Act.put, List.setIfInBounds_toArray, List.set_cons_zero, List.set_cons_succ]
                          refine wpAnyH_take (i := 5) (oi := ?oi3006) (v := ?v3006) ?hi3006 (by kernel_rfl) (by kernel_rfl) (by kernel_rfl) ?hq3006 ?hy3006 (by assumption) ?hr3006
                          case hi3006 => (simp only [List.getElem?_toArray, List.getElem?_cons_succ, List.getElem?_cons_zero]; rfl)
                          case hq3006 => exact fun _ _ _ h => h
                          case hy3006 => first | exact Or.inl ⟨by rfl, by intro whSw hSw'; (try dsimp only at hSw'); (first | (go_simp; done) | (go_simp; with_reducible rfl))⟩ | exact Or.inr ⟨by rfl, by with_reducible rfl⟩ | fail
                          try simp only [Act.put, List.setIfInBounds_toArray, List.set_cons_zero, List.set_cons_succ]
                          refine wpAnyH_take (i := 6) (oi := ?oi3007) (v := ?v3007) ?hi3007 (by kernel_rfl) (by kernel_rfl) (by kernel_rfl) ?hq3007 ?hy3007 (by assumption) ?hr3007
                          case hi3007 => (simp only [List.getElem?_toArray, List.getElem?_cons_succ, List.getElem?_cons_zero]; rfl)
                          case hq3007 => exact fun _ _ _ h => h
                          case hy3007 => first | exact Or.inl ⟨by rfl, by intro whSw hSw'; (try dsimp only at hSw'); (first | (go_simp; done) | (go_simp; with_reducible rfl))⟩ | exact Or.inr ⟨by rfl, by with_reducible rfl⟩ | fail
                          try simp only [Act.put, List.setIfInBounds_toArray, List.set_cons_zero, List.set_cons_succ]
                          refine wpAnyH_take (i := 7) (oi := ?oi3008) (v := ?v3008) ?hi3008 (by kernel_rfl) (by kernel_rfl) (by kernel_rfl) ?hq3008 ?hy3008 (by assumption) ?hr3008
                          case hi3008 => (simp only [List.getElem?_toArray, List.getElem?_cons_succ, List.getElem?_cons_zero]; rfl)
                          case hq3008 => exact fun _ _ _ h => h
                          case hy3008 => first | exact Or.inl ⟨by rfl, by intro whSw hSw'; (try dsimp only at hSw'); (first | (go_simp; done) | (go_simp; with_reducible rfl))⟩ | exact Or.inr ⟨by rfl, by with_reducible rfl⟩ | fail
                          try simp only [Act.put, List.setIfInBounds_toArray, List.set_cons_zero, List.set_cons_succ]
                          refine wpAnyH_take (i := 8) (oi := ?oi3009) (v := ?v3009) ?hi3009 (by kernel_rfl) (by kernel_rfl) (by kernel_rfl) ?hq3009 ?hy3009 (by assumption) ?hr3009
                          case hi3009 => (simp only [List.getElem?_toArray, List.getElem?_cons_succ, List.getElem?_cons_zero]; rfl)
                          case hq3009 => exact fun _ _ _ h => h
                          case hy3009 => first | exact Or.inl ⟨by rfl, by intro whSw hSw'; (try dsimp only at hSw'); (first | (go_simp; done) | (go_simp; with_reducible rfl))⟩ | exact Or.inr ⟨by rfl, by with_reducible rfl⟩ | fail
                          try simp only [Act.put, List.setIfInBounds_toArray, List.set_cons_zero, List.set_cons_succ]
                          refine wpAnyH_take (i := 9) (oi := ?oi3010) (v := ?v3010) ?hi3010 (by kernel_rfl) (by kernel_rfl) (by kernel_rfl) ?hq3010 ?hy3010 (by assumption) ?hr3010
                          case hi3010 => (simp only [List.getElem?_toArray, List.getElem?_cons_succ, List.getElem?_cons_zero]; rfl)
                          case hq3010 => exact fun _ _ _ h => h
                          case hy3010 => first | exact Or.inl ⟨by rfl, by intro whSw hSw'; (try dsimp only at hSw'); (first | (go_simp; done) | (go_simp; with_reducible rfl))⟩ | exact Or.inr ⟨by rfl, by with_reducible rfl⟩ | fail
                          try simp only [Act.put, List.setIfInBounds_toArray, List.set_cons_zero, List.set_cons_succ]
                          refine wpAnyH_take (i := 10) (oi := ?oi3011) (v := ?v3011) ?hi3011 (by kernel_rfl) (by kernel_rfl) (by kernel_rfl) ?hq3011 ?hy3011 (by assumption) ?hr3011
                          case hi3011 => (simp only [List.getElem?_toArray, List.getElem?_cons_succ, List.getElem?_cons_zero]; rfl)
                          case hq3011 => exact fun _ _ _ h => h
                          case hy3011 => first | exact Or.inl ⟨by rfl, by intro whSw hSw'; (try dsimp only at hSw'); (first | (go_simp; done) | (go_simp; with_reducible rfl))⟩ | exact Or.inr ⟨by rfl, by with_reducible rfl⟩ | fail
                          try simp only [Act.put, List.setIfInBounds_toArray, List.set_cons_zero, List.set_cons_succ]
                          refine wpAnyH_take (i := 11) (oi := ?oi3012) (v := ?v3012) ?hi3012 (by kernel_rfl) (by kernel_rfl) (by kernel_rfl) ?hq3012 ?hy3012 (by assumption) ?hr3012
                          case hi3012 => (simp only [List.getElem?_toArray, List.getElem?_cons_succ, List.getElem?_cons_zero]; rfl)
                          case hq3012 => exact fun _ _ _ h => h
                          case hy3012 => first | exact Or.inl ⟨by rfl, by intro whSw hSw'; (try dsimp only at hSw'); (first | (go_simp; done) | (go_simp; with_reducible rfl))⟩ | exact Or.inr ⟨by rfl, by with_reducible rfl⟩ | fail
                          try simp only [Act.put, List.setIfInBounds_toArray, List.set_cons_zero, List.set_cons_succ]
                          refine wpAnyH_take (i := 12) (oi := ?oi3013) (v := ?v3013) ?hi3013 (by kernel_rfl) (by kernel_rfl) (by kernel_rfl) ?hq3013 ?hy3013 (by assumption) ?hr3013
                          case hi3013 => (simp only [List.getElem?_toArray, List.getElem?_cons_succ, List.getElem?_cons_zero]; rfl)
                          case hq3013 => exact fun _ _ _ h => h
                          case hy3013 => first | exact Or.inl ⟨by rfl, by intro whSw hSw'; (try dsimp only at hSw'); (first | (go_simp; done) | (go_simp; with_reducible rfl))⟩ | exact Or.inr ⟨by rfl, by with_reducible rfl⟩ | fail
                          try simp only [Act.put, List.setIfInBounds_toArray, List.set_cons_zero, List.set_cons_succ]
                          refine wpAnyH_take (i := 13) (oi := ?oi3014) (v := ?v3014) ?hi3014 (by kernel_rfl) (by kernel_rfl) (by kernel_rfl) ?hq3014 ?hy3014 (by assumption) ?hr3014
                          case hi3014 => (simp only [List.getElem?_toArray, List.getElem?_cons_succ, List.getElem?_cons_zero]; rfl)
                          case hq3014 => exact fun _ _ _ h => h
                          case hy3014 => exact Or.inl ⟨by rfl, by intro whSw hSw'; (try dsimp only at hSw'); (first | (go_simp; done) | (go_simp; with_reducible rfl))⟩
                          try simp only [Act.put, List.setIfInBounds_toArray, List.set_cons_zero, List.set_cons_succ]
                          refine wpAnyH_take (i := 14) (oi := ?oi3015) (v := ?v3015) ?hi3015 (by kernel_rfl) (by kernel_rfl) (by kernel_rfl) ?hq3015 ?hy3015 (by assumption) ?hr3015
                          case hi3015 => (simp only [List.getElem?_toArray, List.getElem?_cons_succ, List.getElem?_cons_zero]; rfl)
                          case hq3015 => exact fun _ _ _ h => h
                          case hy3015 => exact Or.inl ⟨by rfl, by intro whSw hSw'; (try dsimp only at hSw'); (first | (go_simp; done) | (go_simp; with_reducible rfl))⟩
                          try simp only [Act.put, List.setIfInBounds_toArray, List.set_cons_zero, List.set_cons_succ]
                          refine wpAnyH_take (i := 15) (oi := ?oi3016) (v := ?v3016) ?hi3016 (by kernel_rfl) (by kernel_rfl) (by kernel_rfl) ?hq3016 ?hy3016 (by assumption) ?hr3016
                          case hi3016 => (simp only [List.getElem?_toArray, List.getElem?_cons_succ, List.getElem?_cons_zero]; rfl)
                          case hq3016 => exact fun _ _ _ h => h
                          case hy3016 => first | exact Or.inl ⟨by rfl, by intro whSw hSw'; (try dsimp only at hSw'); (first | (go_simp; done) | (go_simp; with_reducible rfl))⟩ | exact Or.inr ⟨by rfl, by with_reducible rfl⟩ | fail
                          try simp only [Act.put, List.setIfInBounds_toArray, List.set_cons_zero, List.set_cons_succ]
                          refine wpAnyH_take (i := 16) (oi := ?oi3017) (v := ?v3017) ?hi3017 (by kernel_rfl) (by kernel_rfl) (by kernel_rfl) ?hq3017 ?hy3017 (by assumption) ?hr3017
                          case hi3017 => (simp only [List.getElem?_toArray, List.getElem?_cons_succ, List.getElem?_cons_zero]; rfl)
                          case hq3017 => exact fun _ _ _ h => h
                          case hy3017 => first | exact Or.inl ⟨by rfl, by intro whSw hSw'; (try dsimp only at hSw'); (first | (go_simp; done) | (go_simp; with_reducible rfl))⟩ | exact Or.inr ⟨by rfl, by with_reducible rfl⟩ | fail
                          try simp only [Act.put, List.setIfInBounds_toArray, List.set_cons_zero, List.set_cons_succ]
                          refine wpAnyH_take (i := 17) (oi := ?oi3018) (v := ?v3018) ?hi3018 (by kernel_rfl) (by kernel_rfl) (by kernel_rfl) ?hq3018 ?hy3018 (by assumption) ?hr3018
                          case hi3018 => (simp only [List.getElem?_toArray, List.getElem?_cons_succ, List.getElem?_cons_zero]; rfl)
                          case hq3018 => exact fun _ _ _ h => h
                          case hy3018 => first | exact Or.inl ⟨by rfl, by intro whSw hSw'; (try dsimp only at hSw'); (first | (go_simp; done) | (go_simp; with_reducible rfl))⟩ | exact Or.inr ⟨by rfl, by with_reducible rfl⟩ | fail
                          try simp only [Act.put, List.setIfInBounds_toArray, List.set_cons_zero, List.set_cons_succ]
                          refine wpAnyH_take (i := 18) (oi := ?oi3019) (v := ?v3019) ?hi3019 (by kernel_rfl) (by kernel_rfl) (by kernel_rfl) ?hq3019 ?hy3019 (by assumption) ?hr3019
                          case hi3019 => (simp only [List.getElem?_toArray, List.getElem?_cons_succ, List.getElem?_cons_zero]; rfl)
                          case hq3019 => exact fun _ _ _ h => h
                          case hy3019 => first | exact Or.inl ⟨by rfl, by intro whSw hSw'; (try dsimp only at hSw'); (first | (go_simp; done) | (go_simp; with_reducible rfl))⟩ | exact Or.inr ⟨by rfl, by with_reducible rfl⟩ | fail
                          try simp only [Act.put, List.setIfInBounds_toArray, List.set_cons_zero, List.set_cons_succ]
                          refine wpAnyH_take (i := 19) (oi := ?oi3020) (v := ?v3020) ?hi3020 (by kernel_rfl) (by kernel_rfl) (by kernel_rfl) ?hq3020 ?hy3020 (by assumption) ?hr3020
                          case hi3020 => (simp only [List.getElem?_toArray, List.getElem?_cons_succ, List.getElem?_cons_zero]; rfl)
                          case hq3020 => exact fun _ _ _ h => h
                          case hy3020 => first | exact Or.inl ⟨by rfl, by intro whSw hSw'; (try dsimp only at hSw'); (first | (go_simp; done) | (go_simp; with_reducible rfl))⟩ | exact Or.inr ⟨by rfl, by with_reducible rfl⟩ | fail
                          try simp only [Act.put, List.setIfInBounds_toArray, List.set_cons_zero, List.set_cons_succ]
                          refine wpAnyH_take (i := 20) (oi := ?oi3021) (v := ?v3021) ?hi3021 (by kernel_rfl) (by kernel_rfl) (by kernel_rfl) ?hq3021 ?hy3021 (by assumption) ?hr3021
                          case hi3021 => (simp only [List.getElem?_toArray, List.getElem?_cons_succ, List.getElem?_cons_zero]; rfl)
                          case hq3021 => exact fun _ _ _ h => h
                          case hy3021 => first | exact Or.inl ⟨by rfl, by intro whSw hSw'; (try dsimp only at hSw'); (first | (go_simp; done) | (go_simp; with_reducible rfl))⟩ | exact Or.inr ⟨by rfl, by with_reducible rfl⟩ | fail
                          try simp only [Act.put, List.setIfInBounds_toArray, List.set_cons_zero, List.set_cons_succ]
                          refine wpAnyH_take (i := 21) (oi := ?oi3022) (v := ?v3022) ?hi3022 (by kernel_rfl) (by kernel_rfl) (by kernel_rfl) ?hq3022 ?hy3022 (by assumption) ?hr3022
                          case hi3022 => (simp only [List.getElem?_toArray, List.getElem?_cons_succ, List.getElem?_cons_zero]; rfl)
                          case hq3022 => exact fun _ _ _ h => h
                          case hy3022 => first | exact Or.inl ⟨by rfl, by intro whSw hSw'; (try dsimp only at hSw'); (first | (go_simp; done) | (go_simp; with_reducible rfl))⟩ | exact Or.inr ⟨by rfl, by with_reducible rfl⟩ | fail
                          try simp only [Act.put, List.setIfInBounds_toArray, List.set_cons_zero, List.set_cons_succ]
                          refine wpAnyH_take (i := 22) (oi := ?oi3023) (v := ?v3023) ?hi3023 (by kernel_rfl) (by kernel_rfl) (by kernel_rfl) ?hq3023 ?hy3023 (by assumption) ?hr3023
                          case hi3023 => (simp only [List.getElem?_toArray, List.getElem?_cons_succ, List.getElem?_cons_zero]; rfl)
                          case hq3023 => exact fun _ _ _ h => h
                          case hy3023 => first | exact Or.inl ⟨by rfl, by intro whSw hSw'; (try dsimp only at hSw'); (first | (go_simp; done) | (go_simp; with_reducible rfl))⟩ | exact Or.inr ⟨by rfl, by with_reducible rfl⟩ | fail
                          try simp only [Act.put, List.setIfInBounds_toArray, List.set_cons_zero, List.set_cons_succ]
                          refine wpAnyH_take (i := 23) (oi := ?oi3024) (v := ?v3024) ?hi3024 (by kernel_rfl) (by kernel_rfl) (by kernel_rfl) ?hq3024 ?hy3024 (by assumption) ?hr3024
                          case hi3024 => (simp only [List.getElem?_toArray, List.getElem?_cons_succ, List.getElem?_cons_zero]; rfl)
                          case hq3024 => exact fun _ _ _ h => h
                          case hy3024 => first | exact Or.inl ⟨by rfl, by intro whSw hSw'; (try dsimp only at hSw'); (first | (go_simp; done) | (go_simp; with_reducible rfl))⟩ | exact Or.inr ⟨by rfl, by with_reducible rfl⟩ | fail
                          try simp only [Act.put, List.setIfInBounds_toArray, List.set_cons_zero, List.set_cons_succ]
                          refine wpAnyH_take (i := 24) (oi := ?oi3025) (v := ?v3025) ?hi3025 (by kernel_rfl) (by kernel_rfl) (by kernel_rfl) ?hq3025 ?hy3025 (by assumption) ?hr3025
                          case hi3025 => (simp only [List.getElem?_toArray, List.getElem?_cons_succ, List.getElem?_cons_zero]; rfl)
                          case hq3025 => exact fun _ _ _ h => h
                          case hy3025 => first | exact Or.inl ⟨by rfl, by intro whSw hSw'; (try dsimp only at hSw'); (first | (go_simp; done) | (go_simp; with_reducible rfl))⟩ | exact Or.inr ⟨by rfl, by with_reducible rfl⟩ | fail
                          try simp only [Act.put, List.setIfInBounds_toArray, List.set_cons_zero, List.set_cons_succ]
                          refine wpAnyH_take (i := 25) (oi := ?oi3026) (v := ?v3026) ?hi3026 (by kernel_rfl) (by kernel_rfl) (by kernel_rfl) ?hq3026 ?hy3026 (by assumption) ?hr3026
                          case hi3026 => (simp only [List.getElem?_toArray, List.getElem?_cons_succ, List.getElem?_cons_zero]; rfl)
                          case hq3026 => exact fun _ _ _ h => h
                          case hy3026 => first | exact Or.inl ⟨by rfl, by intro whSw hSw'; (try dsimp only at hSw'); (first | (go_simp; done) | (go_simp; with_reducible rfl))⟩ | exact Or.inr ⟨by rfl, by with_reducible rfl⟩ | fail
                          try simp only [Act.put, List.setIfInBounds_toArray, List.set_cons_zero, List.set_cons_succ]
                          refine wpAnyH_take (i := 26) (oi := ?oi3027) (v := ?v3027) ?hi3027 (by kernel_rfl) (by kernel_rfl) (by kernel_rfl) ?hq3027 ?hy3027 (by assumption) ?hr3027
                          case hi3027 => (simp only [List.getElem?_toArray, List.getElem?_cons_succ, List.getElem?_cons_zero]; rfl)
                          case hq3027 => exact fun _ _ _ h => h
                          case hy3027 => first | exact Or.inl ⟨by rfl, by intro whSw hSw'; (try dsimp only at hSw'); (first | (go_simp; done) | (go_simp; with_reducible rfl))⟩ | exact Or.inr ⟨by rfl, by with_reducible rfl⟩ | fail
                          try simp only [Act.put, List.setIfInBounds_toArray, List.set_cons_zero, List.set_cons_succ]
                          refine wpAnyH_ready (rs := [27]) (by kernel_rfl) (by simp) ?_
                          refine AllReadyH.cons (o := ?oo3028) ?hi3028 (fun K hK => ?hs3028) ?hm3028
                          case hi3028 => (simp only [List.getElem?_toArray, List.getElem?_cons_succ, List.getElem?_cons_zero]; rfl)
                          · go_simp
                            refine (HD2.out X1).mono ?_
                            rintro e zz1 ⟨rfl, hbzz1⟩
                            have HBzz1 := Lib.hid (HB0.out.trans (hbzz1.mono HB0.out.size))
                            clear hbzz1
                            (try go_wp2_with fail)
                            refine hK.out _ _ ?_ (fun hHeld => ?_)
                            · (try dsimp only); exact HS.out zz1 HBzz1.out
                            clear hK K
                            try simp only [Act.put, List.setIfInBounds_toArray, List.set_cons_zero, List.set_cons_succ]
                            refine wpAnyH_take (i := 28) (oi := ?oi3029) (v := ?v3029) ?hi3029 (by kernel_rfl) (by kernel_rfl) (by kernel_rfl) ?hq3029 ?hy3029 (by assumption) ?hr3029
                            case hi3029 => (simp only [List.getElem?_toArray, List.getElem?_cons_succ, List.getElem?_cons_zero]; rfl)
                            case hq3029 => exact fun _ _ _ h => h
                            case hy3029 => first | exact Or.inl ⟨by rfl, by intro whSw hSw'; (try dsimp only at hSw'); (first | (go_simp; done) | (go_simp; with_reducible rfl))⟩ | exact Or.inr ⟨by rfl, by with_reducible rfl⟩ | fail
                            try simp only [Act.put, List.setIfInBounds_toArray, List.set_cons_zero, List.set_cons_succ]
                            refine wpAnyH_take (i := 29) (oi := ?oi3030) (v := ?v3030) ?hi3030 (by kernel_rfl) (by kernel_rfl) (by kernel_rfl) ?hq3030 ?hy3030 (by assumption) ?hr3030
                            case hi3030 => (simp only [List.getElem?_toArray, List.getElem?_cons_succ, List.getElem?_cons_zero]; rfl)
                            case hq3030 => exact fun _ _ _ h => h
                            case hy3030 => exact Or.inl ⟨by rfl, by intro whSw hSw'; (try dsimp only at hSw'); (first | (go_simp; done) | (go_simp; with_reducible rfl))⟩
                            try simp only [Act.put, List.setIfInBounds_toArray, List.set_cons_zero, List.set_cons_succ]
                            refine wpAnyH_take (i := 30) (oi := ?oi3031) (v := ?v3031) ?hi3031 (by kernel_rfl) (by kernel_rfl) (by kernel_rfl) ?hq3031 ?hy3031 (by assumption) ?hr3031
                            case hi3031 => (simp only [List.getElem?_toArray, List.getElem?_cons_succ, List.getElem?_cons_zero]; rfl)
                            case hq3031 => exact fun _ _ _ h => h
                            case hy3031 => exact Or.inl ⟨by rfl, by intro whSw hSw'; (try dsimp only at hSw'); (first | (go_simp; done) | (go_simp; with_reducible rfl))⟩
                            try simp only [Act.put, List.setIfInBounds_toArray, List.set_cons_zero, List.set_cons_succ]
                            refine wpAnyH_done (by kernel_rfl) ?_ _
                            go_wp2_with fail
                            go_meet
                            exact ⟨rfl, HBzz1⟩
                          exact AllReadyH.nil
                      · have hxi : ((k : Int) == (x : Int)) = false := by simp; omega
                        have HS2 := Lib.hid (fun (W : World) (hb : Below w1.heap.size w1 W) => show W.cell? ⟨bl, ol + k * 3, none⟩ = some (.int .i64 u1) ∧ W.cell? ⟨bl, ol + k * 3 + 1, none⟩ = some (.int .i64 u2) ∧ W.cell? ⟨bl, ol + k * 3 + 2, none⟩ = some (.int .i64 u3) ∧ W.cell? ⟨bl, ol + x * 3, none⟩ = some (.int .i64 s1) ∧ W.cell? ⟨bl, ol + x * 3 + 1, none⟩ = some (.int .i64 s2) ∧ W.cell? ⟨bl, ol + x * 3 + 2, none⟩ = some (.int .i64 s3) from by
                            exact ⟨(HKP.out W hb _).trans HUC.out.1, (HKP.out W hb _).trans HUC.out.2.1, (HKP.out W hb _).trans HUC.out.2.2, (HKP.out W hb _).trans HSC.out.1, (HKP.out W hb _).trans HSC.out.2.1, (HKP.out W hb _).trans HSC.out.2.2⟩)
                        cases d1 with
                        | false =>
                          obtain rfl : both = false := by
                            rw [← Bool.not_eq_true]
                            intro hb
                            have := (bi.1 hb).1
                            rcases this with e | e
                            · exact hkx e
                            · cases e
                          have HS := HS2
                          clear hX1 bi
                          refine wp_region_held_drew (S := (fun w' => w'.cell? ⟨bl, ol + k * 3, none⟩ = some (.int .i64 u1) ∧ w'.cell? ⟨bl, ol + k * 3 + 1, none⟩ = some (.int .i64 u2) ∧ w'.cell? ⟨bl, ol + k * 3 + 2, none⟩ = some (.int .i64 u3) ∧ w'.cell? ⟨bl, ol + x * 3, none⟩ = some (.int .i64 s1) ∧ w'.cell? ⟨bl, ol + x * 3 + 1, none⟩ = some (.int .i64 s2) ∧ w'.cell? ⟨bl, ol + x * 3 + 2, none⟩ = some (.int .i64 s3))) (by kernel_rfl) ?_ (fun hHeld => ?_)
                          · (try dsimp only); (rw [HX1.out]; exact HS.out X1 HB0.out)
                          rw [HX1.out] at hHeld ⊢
                          refine wpAnyH_take (i := 0) (oi := ?oi4001) (v := ?v4001) ?hi4001 (by kernel_rfl) (by kernel_rfl) (by kernel_rfl) ?hq4001 ?hy4001 (by assumption) ?hr4001
                          case hi4001 => (simp only [List.getElem?_toArray, List.getElem?_cons_zero]; rfl)
                          case hq4001 => exact fun _ _ _ h => h
                          case hy4001 => exact Or.inl ⟨by rfl, by intro whSw hSw'; (try dsimp only at hSw'); (first | (go_simp; done) | (go_simp; with_reducible rfl))⟩
                          try simp only [Act.put, List.setIfInBounds_toArray, List.set_cons_zero, List.set_cons_succ]
                          refine wpAnyH_take (i := 1) (oi := ?oi4002) (v := ?v4002) ?hi4002 (by kernel_rfl) (by kernel_rfl) (by kernel_rfl) ?hq4002 ?hy4002 (by assumption) ?hr4002
                          case hi4002 => (simp only [List.getElem?_toArray, List.getElem?_cons_succ, List.getElem?_cons_zero]; rfl)
                          case hq4002 => exact fun _ _ _ h => h
                          case hy4002 => exact Or.inl ⟨by rfl, by intro whSw hSw'; (try dsimp only at hSw'); (first | (go_simp; done) | (go_simp; with_reducible rfl))⟩
                          try simp only [Act.put, List.setIfInBounds_toArray, List.set_cons_zero, List.set_cons_succ]
                          refine wpAnyH_take (i := 2) (oi := ?oi4003) (v := ?v4003) ?hi4003 (by kernel_rfl) (by kernel_rfl) (by kernel_rfl) ?hq4003 ?hy4003 (by assumption) ?hr4003
                          case hi4003 => (simp only [List.getElem?_toArray, List.getElem?_cons_succ, List.getElem?_cons_zero]; rfl)
                          case hq4003 => exact fun _ _ _ h => h
                          case hy4003 => exact Or.inl ⟨by rfl, by intro whSw hSw'; (try dsimp only at hSw'); (first | (go_simp; done) | (go_simp; with_reducible rfl))⟩
                          try simp only [Act.put, List.setIfInBounds_toArray, List.set_cons_zero, List.set_cons_succ]
                          refine wpAnyH_take (i := 3) (oi := ?oi4004) (v := ?v4004) ?hi4004 (by kernel_rfl) (by kernel_rfl) (by kernel_rfl) ?hq4004 ?hy4004 (by assumption) ?hr4004
                          case hi4004 => (simp only [List.getElem?_toArray, List.getElem?_cons_succ, List.getElem?_cons_zero]; rfl)
                          case hq4004 => exact fun _ _ _ h => h
                          case hy4004 => exact Or.inl ⟨by rfl, by intro whSw hSw'; (try dsimp only at hSw'); (first | (go_simp; done) | (go_simp; with_reducible rfl))⟩
                          try simp only [Act.put, List.setIfInBounds_toArray, List.set_cons_zero, List.set_cons_succ]
                          refine wpAnyH_take (i := 4) (oi := ?oi4005) (v := ?v4005) ?hi4005 (by kernel_rfl) (by kernel_rfl) (by kernel_rfl) ?hq4005 ?hy4005 (by assumption) ?hr4005
                          case hi4005 => (simp only [List.getElem?_toArray, List.getElem?_cons_succ, List.getElem?_cons_zero]; rfl)
                          case hq4005 => exact fun _ _ _ h => h
                          case hy4005 => first | exact Or.inl ⟨by rfl, by intro whSw hSw'; (try dsimp only at hSw'); (first | (go_simp; done) | (go_simp; with_reducible rfl))⟩ | exact Or.inr ⟨by rfl, by with_reducible rfl⟩ | fail
                          try simp only [Act.put, List.setIfInBounds_toArray, List.set_cons_zero, List.set_cons_succ]
                          refine wpAnyH_take (i := 5) (oi := ?oi4006) (v := ?v4006) ?hi4006 (by kernel_rfl) (by kernel_rfl) (by kernel_rfl) ?hq4006 ?hy4006 (by assumption) ?hr4006
                          case hi4006 => (simp only [List.getElem?_toArray, List.getElem?_cons_succ, List.getElem?_cons_zero]; rfl)
                          case hq4006 => exact fun _ _ _ h => h
                          case hy4006 => first | exact Or.inl ⟨by rfl, by intro whSw hSw'; (try dsimp only at hSw'); (first | (go_simp; done) | (go_simp; with_reducible rfl))⟩ | exact Or.inr ⟨by rfl, by with_reducible rfl⟩ | fail
                          try simp only [Act.put, List.setIfInBounds_toArray, List.set_cons_zero, List.set_cons_succ]
                          refine wpAnyH_take (i := 6) (oi := ?oi4007) (v := ?v4007) ?hi4007 (by kernel_rfl) (by kernel_rfl) (by kernel_rfl) ?hq4007 ?hy4007 (by assumption) ?hr4007
                          case hi4007 => (simp only [List.getElem?_toArray, List.getElem?_cons_succ, List.getElem?_cons_zero]; rfl)
                          case hq4007 => exact fun _ _ _ h => h
                          case hy4007 => first | exact Or.inl ⟨by rfl, by intro whSw hSw'; (try dsimp only at hSw'); (first | (go_simp; done) | (go_simp; with_reducible rfl))⟩ | exact Or.inr ⟨by rfl, by with_reducible rfl⟩ | fail
                          try simp only [Act.put, List.setIfInBounds_toArray, List.set_cons_zero, List.set_cons_succ]
                          refine wpAnyH_take (i := 7) (oi := ?oi4008) (v := ?v4008) ?hi4008 (by kernel_rfl) (by kernel_rfl) (by kernel_rfl) ?hq4008 ?hy4008 (by assumption) ?hr4008
                          case hi4008 => (simp only [List.getElem?_toArray, List.getElem?_cons_succ, List.getElem?_cons_zero]; rfl)
                          case hq4008 => exact fun _ _ _ h => h
                          case hy4008 => first | exact Or.inl ⟨by rfl, by intro whSw hSw'; (try dsimp only at hSw'); (first | (go_simp; done) | (go_simp; with_reducible rfl))⟩ | exact Or.inr ⟨by rfl, by with_reducible rfl⟩ | fail
                          try simp only [Act.put, List.setIfInBounds_toArray, List.set_cons_zero, List.set_cons_succ]
                          refine wpAnyH_take (i := 8) (oi := ?oi4009) (v := ?v4009) ?hi4009 (by kernel_rfl) (by kernel_rfl) (by kernel_rfl) ?hq4009 ?hy4009 (by assumption) ?hr4009
                          case hi4009 => (simp only [List.getElem?_toArray, List.getElem?_cons_succ, List.getElem?_cons_zero]; rfl)
                          case hq4009 => exact fun _ _ _ h => h
                          case hy4009 => first | exact Or.inl ⟨by rfl, by intro whSw hSw'; (try dsimp only at hSw'); (first | (go_simp; done) | (go_simp; with_reducible rfl))⟩ | exact Or.inr ⟨by rfl, by with_reducible rfl⟩ | fail
                          try simp only [Act.put, List.setIfInBounds_toArray, List.set_cons_zero, List.set_cons_succ]
                          refine wpAnyH_take (i := 9) (oi := ?oi4010) (v := ?v4010) ?hi4010 (by kernel_rfl) (by kernel_rfl) (by kernel_rfl) ?hq4010 ?hy4010 (by assumption) ?hr4010
                          case hi4010 => (simp only [List.getElem?_toArray, List.getElem?_cons_succ, List.getElem?_cons_zero]; rfl)
                          case hq4010 => exact fun _ _ _ h => h
                          case hy4010 => first | exact Or.inl ⟨by rfl, by intro whSw hSw'; (try dsimp only at hSw'); (first | (go_simp; done) | (go_simp; with_reducible rfl))⟩ | exact Or.inr ⟨by rfl, by with_reducible rfl⟩ | fail
                          try simp only [Act.put, List.setIfInBounds_toArray, List.set_cons_zero, List.set_cons_succ]
                          refine wpAnyH_take (i := 10) (oi := ?oi4011) (v := ?v4011) ?hi4011 (by kernel_rfl) (by kernel_rfl) (by kernel_rfl) ?hq4011 ?hy4011 (by assumption) ?hr4011
                          case hi4011 => (simp only [List.getElem?_toArray, List.getElem?_cons_succ, List.getElem?_cons_zero]; rfl)
                          case hq4011 => exact fun _ _ _ h => h
                          case hy4011 => first | exact Or.inl ⟨by rfl, by intro whSw hSw'; (try dsimp only at hSw'); (first | (go_simp; done) | (go_simp; with_reducible rfl))⟩ | exact Or.inr ⟨by rfl, by with_reducible rfl⟩ | fail
                          try simp only [Act.put, List.setIfInBounds_toArray, List.set_cons_zero, List.set_cons_succ]
                          refine wpAnyH_take (i := 11) (oi := ?oi4012) (v := ?v4012) ?hi4012 (by kernel_rfl) (by kernel_rfl) (by kernel_rfl) ?hq4012 ?hy4012 (by assumption) ?hr4012
                          case hi4012 => (simp only [List.getElem?_toArray, List.getElem?_cons_succ, List.getElem?_cons_zero]; rfl)
                          case hq4012 => exact fun _ _ _ h => h
                          case hy4012 => first | exact Or.inl ⟨by rfl, by intro whSw hSw'; (try dsimp only at hSw'); (first | (go_simp; done) | (go_simp; with_reducible rfl))⟩ | exact Or.inr ⟨by rfl, by with_reducible rfl⟩ | fail
                          try simp only [Act.put, List.setIfInBounds_toArray, List.set_cons_zero, List.set_cons_succ]
                          refine wpAnyH_ready (rs := [12]) (by kernel_rfl) (by simp) ?_
                          refine AllReadyH.cons (o := ?oo4013) ?hi4013 (fun K hK => ?hs4013) ?hm4013
                          case hi4013 => (simp only [List.getElem?_toArray, List.getElem?_cons_succ, List.getElem?_cons_zero]; rfl)
                          · go_simp
                            refine (HD1.out X1).mono ?_
                            rintro e zz1 ⟨rfl, hbzz1⟩
                            have HBzz1 := Lib.hid (HB0.out.trans (hbzz1.mono HB0.out.size))
                            clear hbzz1
                            (try go_wp2_with fail)
                            refine hK.out _ _ ?_ (fun hHeld => ?_)
                            · (try dsimp only); exact HS.out zz1 HBzz1.out
                            clear hK K
                            try simp only [Act.put, List.setIfInBounds_toArray, List.set_cons_zero, List.set_cons_succ]
                            refine wpAnyH_take (i := 13) (oi := ?oi4014) (v := ?v4014) ?hi4014 (by kernel_rfl) (by kernel_rfl) (by kernel_rfl) ?hq4014 ?hy4014 (by assumption) ?hr4014
                            case hi4014 => (simp only [List.getElem?_toArray, List.getElem?_cons_succ, List.getElem?_cons_zero]; rfl)
                            case hq4014 => exact fun _ _ _ h => h
                            case hy4014 => exact Or.inl ⟨by rfl, by intro whSw hSw'; (try dsimp only at hSw'); (first | (go_simp; done) | (go_simp; with_reducible rfl))⟩
                            try simp only [Act.put, List.setIfInBounds_toArray, List.set_cons_zero, List.set_cons_succ]
                            refine wpAnyH_take (i := 14) (oi := ?oi4015) (v := ?v4015) ?hi4015 (by kernel_rfl) (by kernel_rfl) (by kernel_rfl) ?hq4015 ?hy4015 (by assumption) ?hr4015
                            case hi4015 => (simp only [List.getElem?_toArray, List.getElem?_cons_succ, List.getElem?_cons_zero]; rfl)
                            case hq4015 => exact fun _ _ _ h => h
                            case hy4015 => exact Or.inl ⟨by rfl, by intro whSw hSw'; (try dsimp only at hSw'); (first | (go_simp; done) | (go_simp; with_reducible rfl))⟩
                            try simp only [Act.put, List.setIfInBounds_toArray, List.set_cons_zero, List.set_cons_succ]
                            refine wpAnyH_take (i := 15) (oi := ?oi4016) (v := ?v4016) ?hi4016 (by kernel_rfl) (by kernel_rfl) (by kernel_rfl) ?hq4016 ?hy4016 (by assumption) ?hr4016
                            case hi4016 => (simp only [List.getElem?_toArray, List.getElem?_cons_succ, List.getElem?_cons_zero]; rfl)
                            case hq4016 => exact fun _ _ _ h => h
                            case hy4016 => first | exact Or.inl ⟨by rfl, by intro whSw hSw'; (try dsimp only at hSw'); (first | (go_simp; done) | (go_simp; with_reducible rfl))⟩ | exact Or.inr ⟨by rfl, by with_reducible rfl⟩ | fail
                            try simp only [Act.put, List.setIfInBounds_toArray, List.set_cons_zero, List.set_cons_succ]
                            refine wpAnyH_take (i := 16) (oi := ?oi4017) (v := ?v4017) ?hi4017 (by kernel_rfl) (by kernel_rfl) (by kernel_rfl) ?hq4017 ?hy4017 (by assumption) ?hr4017
                            case hi4017 => (simp only [List.getElem?_toArray, List.getElem?_cons_succ, List.getElem?_cons_zero]; rfl)
                            case hq4017 => exact fun _ _ _ h => h
                            case hy4017 => first | exact Or.inl ⟨by rfl, by intro whSw hSw'; (try dsimp only at hSw'); (first | (go_simp; done) | (go_simp; with_reducible rfl))⟩ | exact Or.inr ⟨by rfl, by with_reducible rfl⟩ | fail
                            try simp only [Act.put, List.setIfInBounds_toArray, List.set_cons_zero, List.set_cons_succ]
                            refine wpAnyH_take (i := 17) (oi := ?oi4018) (v := ?v4018) ?hi4018 (by kernel_rfl) (by kernel_rfl) (by kernel_rfl) ?hq4018 ?hy4018 (by assumption) ?hr4018
                            case hi4018 => (simp only [List.getElem?_toArray, List.getElem?_cons_succ, List.getElem?_cons_zero]; rfl)
                            case hq4018 => exact fun _ _ _ h => h
                            case hy4018 => first | exact Or.inl ⟨by rfl, by intro whSw hSw'; (try dsimp only at hSw'); (first | (go_simp; done) | (go_simp; with_reducible rfl))⟩ | exact Or.inr ⟨by rfl, by with_reducible rfl⟩ | fail
                            try simp only [Act.put, List.setIfInBounds_toArray, List.set_cons_zero, List.set_cons_succ]
                            refine wpAnyH_take (i := 18) (oi := ?oi4019) (v := ?v4019) ?hi4019 (by kernel_rfl) (by kernel_rfl) (by kernel_rfl) ?hq4019 ?hy4019 (by assumption) ?hr4019
                            case hi4019 => (simp only [List.getElem?_toArray, List.getElem?_cons_succ, List.getElem?_cons_zero]; rfl)
                            case hq4019 => exact fun _ _ _ h => h
                            case hy4019 => first | exact Or.inl ⟨by rfl, by intro whSw hSw'; (try dsimp only at hSw'); (first | (go_simp; done) | (go_simp; with_reducible rfl))⟩ | exact Or.inr ⟨by rfl, by with_reducible rfl⟩ | fail
                            try simp only [Act.put, List.setIfInBounds_toArray, List.set_cons_zero, List.set_cons_succ]
                            refine wpAnyH_take (i := 19) (oi := ?oi4020) (v := ?v4020) ?hi4020 (by kernel_rfl) (by kernel_rfl) (by kernel_rfl) ?hq4020 ?hy4020 (by assumption) ?hr4020
                            case hi4020 => (simp only [List.getElem?_toArray, List.getElem?_cons_succ, List.getElem?_cons_zero]; rfl)
                            case hq4020 => exact fun _ _ _ h => h
                            case hy4020 => first | exact Or.inl ⟨by rfl, by intro whSw hSw'; (try dsimp only at hSw'); (first | (go_simp; done) | (go_simp; with_reducible rfl))⟩ | exact Or.inr ⟨by rfl, by with_reducible rfl⟩ | fail
                            try simp only [Act.put, List.setIfInBounds_toArray, List.set_cons_zero, List.set_cons_succ]
                            refine wpAnyH_take (i := 20) (oi := ?oi4021) (v := ?v4021) ?hi4021 (by kernel_rfl) (by kernel_rfl) (by kernel_rfl) ?hq4021 ?hy4021 (by assumption) ?hr4021
                            case hi4021 => (simp only [List.getElem?_toArray, List.getElem?_cons_succ, List.getElem?_cons_zero]; rfl)
                            case hq4021 => exact fun _ _ _ h => h
                            case hy4021 => first | exact Or.inl ⟨by rfl, by intro whSw hSw'; (try dsimp only at hSw'); (first | (go_simp; done) | (go_simp; with_reducible rfl))⟩ | exact Or.inr ⟨by rfl, by with_reducible rfl⟩ | fail
                            try simp only [Act.put, List.setIfInBounds_toArray, List.set_cons_zero, List.set_cons_succ]
                            refine wpAnyH_take (i := 21) (oi := ?oi4022) (v := ?v4022) ?hi4022 (by kernel_rfl) (by kernel_rfl) (by kernel_rfl) ?hq4022 ?hy4022 (by assumption) ?hr4022
                            case hi4022 => (simp only [List.getElem?_toArray, List.getElem?_cons_succ, List.getElem?_cons_zero]; rfl)
                            case hq4022 => exact fun _ _ _ h => h
                            case hy4022 => first | exact Or.inl ⟨by rfl, by intro whSw hSw'; (try dsimp only at hSw'); (first | (go_simp; done) | (go_simp; with_reducible rfl))⟩ | exact Or.inr ⟨by rfl, by with_reducible rfl⟩ | fail
                            try simp only [Act.put, List.setIfInBounds_toArray, List.set_cons_zero, List.set_cons_succ]
                            refine wpAnyH_take (i := 22) (oi := ?oi4023) (v := ?v4023) ?hi4023 (by kernel_rfl) (by kernel_rfl) (by kernel_rfl) ?hq4023 ?hy4023 (by assumption) ?hr4023
                            case hi4023 => (simp only [List.getElem?_toArray, List.getElem?_cons_succ, List.getElem?_cons_zero]; rfl)
                            case hq4023 => exact fun _ _ _ h => h
                            case hy4023 => first | exact Or.inl ⟨by rfl, by intro whSw hSw'; (try dsimp only at hSw'); (first | (go_simp; done) | (go_simp; with_reducible rfl))⟩ | exact Or.inr ⟨by rfl, by with_reducible rfl⟩ | fail
                            try simp only [Act.put, List.setIfInBounds_toArray, List.set_cons_zero, List.set_cons_succ]
                            refine wpAnyH_take (i := 23) (oi := ?oi4024) (v := ?v4024) ?hi4024 (by kernel_rfl) (by kernel_rfl) (by kernel_rfl) ?hq4024 ?hy4024 (by assumption) ?hr4024
                            case hi4024 => (simp only [List.getElem?_toArray, List.getElem?_cons_succ, List.getElem?_cons_zero]; rfl)
                            case hq4024 => exact fun _ _ _ h => h
                            case hy4024 => first | exact Or.inl ⟨by rfl, by intro whSw hSw'; (try dsimp only at hSw'); (first | (go_simp; done) | (go_simp; with_reducible rfl))⟩ | exact Or.inr ⟨by rfl, by with_reducible rfl⟩ | fail
                            try simp only [Act.put, List.setIfInBounds_toArray, List.set_cons_zero, List.set_cons_succ]
                            refine wpAnyH_take (i := 24) (oi := ?oi4025) (v := ?v4025) ?hi4025 (by kernel_rfl) (by kernel_rfl) (by kernel_rfl) ?hq4025 ?hy4025 (by assumption) ?hr4025
                            case hi4025 => (simp only [List.getElem?_toArray, List.getElem?_cons_succ, List.getElem?_cons_zero]; rfl)
                            case hq4025 => exact fun _ _ _ h => h
                            case hy4025 => first | exact Or.inl ⟨by rfl, by intro whSw hSw'; (try dsimp only at hSw'); (first | (go_simp; done) | (go_simp; with_reducible rfl))⟩ | exact Or.inr ⟨by rfl, by with_reducible rfl⟩ | fail
                            try simp only [Act.put, List.setIfInBounds_toArray, List.set_cons_zero, List.set_cons_succ]
                            refine wpAnyH_take (i := 25) (oi := ?oi4026) (v := ?v4026) ?hi4026 (by kernel_rfl) (by kernel_rfl) (by kernel_rfl) ?hq4026 ?hy4026 (by assumption) ?hr4026
                            case hi4026 => (simp only [List.getElem?_toArray, List.getElem?_cons_succ, List.getElem?_cons_zero]; rfl)
                            case hq4026 => exact fun _ _ _ h => h
                            case hy4026 => first | exact Or.inl ⟨by rfl, by intro whSw hSw'; (try dsimp only at hSw'); (first | (go_simp; done) | (go_simp; with_reducible rfl))⟩ | exact Or.inr ⟨by rfl, by with_reducible rfl⟩ | fail
                            try simp only [Act.put, List.setIfInBounds_toArray, List.set_cons_zero, List.set_cons_succ]
                            refine wpAnyH_take (i := 26) (oi := ?oi4027) (v := ?v4027) ?hi4027 (by kernel_rfl) (by kernel_rfl) (by kernel_rfl) ?hq4027 ?hy4027 (by assumption) ?hr4027
                            case hi4027 => (simp only [List.getElem?_toArray, List.getElem?_cons_succ, List.getElem?_cons_zero]; rfl)
                            case hq4027 => exact fun _ _ _ h => h
                            case hy4027 => first | exact Or.inl ⟨by rfl, by intro whSw hSw'; (try dsimp only at hSw'); (first | (go_simp; done) | (go_simp; with_reducible rfl))⟩ | exact Or.inr ⟨by rfl, by with_reducible rfl⟩ | fail
                            try simp only [Act.put, List.setIfInBounds_toArray, List.set_cons_zero, List.set_cons_succ]
                            refine wpAnyH_take (i := 27) (oi := ?oi4028) (v := ?v4028) ?hi4028 (by kernel_rfl) (by kernel_rfl) (by kernel_rfl) ?hq4028 ?hy4028 (by assumption) ?hr4028
                            case hi4028 => (simp only [List.getElem?_toArray, List.getElem?_cons_succ, List.getElem?_cons_zero]; rfl)
                            case hq4028 => exact fun _ _ _ h => h
                            case hy4028 => first | exact Or.inl ⟨by rfl, by intro whSw hSw'; (try dsimp only at hSw'); (first | (go_simp; done) | (go_simp; with_reducible rfl))⟩ | exact Or.inr ⟨by rfl, by with_reducible rfl⟩ | fail
                            try simp only [Act.put, List.setIfInBounds_toArray, List.set_cons_zero, List.set_cons_succ]
                            refine wpAnyH_take (i := 28) (oi := ?oi4029) (v := ?v4029) ?hi4029 (by kernel_rfl) (by kernel_rfl) (by kernel_rfl) ?hq4029 ?hy4029 (by assumption) ?hr4029
                            case hi4029 => (simp only [List.getElem?_toArray, List.getElem?_cons_succ, List.getElem?_cons_zero]; rfl)
                            case hq4029 => exact fun _ _ _ h => h
                            case hy4029 => first | exact Or.inl ⟨by rfl, by intro whSw hSw'; (try dsimp only at hSw'); (first | (go_simp; done) | (go_simp; with_reducible rfl))⟩ | exact Or.inr ⟨by rfl, by with_reducible rfl⟩ | fail
                            try simp only [Act.put, List.setIfInBounds_toArray, List.set_cons_zero, List.set_cons_succ]
                            refine wpAnyH_take (i := 29) (oi := ?oi4030) (v := ?v4030) ?hi4030 (by kernel_rfl) (by kernel_rfl) (by kernel_rfl) ?hq4030 ?hy4030 (by assumption) ?hr4030
                            case hi4030 => (simp only [List.getElem?_toArray, List.getElem?_cons_succ, List.getElem?_cons_zero]; rfl)
                            case hq4030 => exact fun _ _ _ h => h
                            case hy4030 => exact Or.inl ⟨by rfl, by intro whSw hSw'; (try dsimp only at hSw'); (first | (go_simp; done) | (go_simp; with_reducible rfl))⟩
                            try simp only [Act.put, List.setIfInBounds_toArray, List.set_cons_zero, List.set_cons_succ]
                            refine wpAnyH_take (i := 30) (oi := ?oi4031) (v := ?v4031) ?hi4031 (by kernel_rfl) (by kernel_rfl) (by kernel_rfl) ?hq4031 ?hy4031 (by assumption) ?hr4031
                            case hi4031 => (simp only [List.getElem?_toArray, List.getElem?_cons_succ, List.getElem?_cons_zero]; rfl)
                            case hq4031 => exact fun _ _ _ h => h
                            case hy4031 => exact Or.inl ⟨by rfl, by intro whSw hSw'; (try dsimp only at hSw'); (first | (go_simp; done) | (go_simp; with_reducible rfl))⟩
                            try simp only [Act.put, List.setIfInBounds_toArray, List.set_cons_zero, List.set_cons_succ]
                            refine wpAnyH_done (by kernel_rfl) ?_ _
                            go_wp2_with fail
                            go_meet
                            exact ⟨rfl, HBzz1⟩
                          exact AllReadyH.nil
                        | true =>
                          by_cases hky : k = y
                          · subst hky
                            obtain rfl : both = true := bi.2 ⟨.inr rfl, .inl rfl⟩
                            have HS := HS2
                            clear hX1 bi
                            refine wp_region_held_drew (S := (fun w' => w'.cell? ⟨bl, ol + k * 3, none⟩ = some (.int .i64 u1) ∧ w'.cell? ⟨bl, ol + k * 3 + 1, none⟩ = some (.int .i64 u2) ∧ w'.cell? ⟨bl, ol + k * 3 + 2, none⟩ = some (.int .i64 u3) ∧ w'.cell? ⟨bl, ol + x * 3, none⟩ = some (.int .i64 s1) ∧ w'.cell? ⟨bl, ol + x * 3 + 1, none⟩ = some (.int .i64 s2) ∧ w'.cell? ⟨bl, ol + x * 3 + 2, none⟩ = some (.int .i64 s3))) (by kernel_rfl) ?_ (fun hHeld => ?_)
                            · (try dsimp only); (rw [HX1.out]; exact HS.out X1 HB0.out)
                            rw [HX1.out] at hHeld ⊢
                            refine wpAnyH_take (i := 0) (oi := ?oi5001) (v := ?v5001) ?hi5001 (by kernel_rfl) (by kernel_rfl) (by kernel_rfl) ?hq5001 ?hy5001 (by assumption) ?hr5001
                            case hi5001 => (simp only [List.getElem?_toArray, List.getElem?_cons_zero]; rfl)
                            case hq5001 => exact fun _ _ _ h => h
                            case hy5001 => exact Or.inl ⟨by rfl, by intro whSw hSw'; (try dsimp only at hSw'); (first | (go_simp; done) | (go_simp; with_reducible rfl))⟩
                            try simp only [Act.put, List.setIfInBounds_toArray, List.set_cons_zero, List.set_cons_succ]
                            refine wpAnyH_take (i := 1) (oi := ?oi5002) (v := ?v5002) ?hi5002 (by kernel_rfl) (by kernel_rfl) (by kernel_rfl) ?hq5002 ?hy5002 (by assumption) ?hr5002
                            case hi5002 => (simp only [List.getElem?_toArray, List.getElem?_cons_succ, List.getElem?_cons_zero]; rfl)
                            case hq5002 => exact fun _ _ _ h => h
                            case hy5002 => exact Or.inl ⟨by rfl, by intro whSw hSw'; (try dsimp only at hSw'); (first | (go_simp; done) | (go_simp; with_reducible rfl))⟩
                            try simp only [Act.put, List.setIfInBounds_toArray, List.set_cons_zero, List.set_cons_succ]
                            refine wpAnyH_take (i := 2) (oi := ?oi5003) (v := ?v5003) ?hi5003 (by kernel_rfl) (by kernel_rfl) (by kernel_rfl) ?hq5003 ?hy5003 (by assumption) ?hr5003
                            case hi5003 => (simp only [List.getElem?_toArray, List.getElem?_cons_succ, List.getElem?_cons_zero]; rfl)
                            case hq5003 => exact fun _ _ _ h => h
                            case hy5003 => exact Or.inl ⟨by rfl, by intro whSw hSw'; (try dsimp only at hSw'); (first | (go_simp; done) | (go_simp; with_reducible rfl))⟩
                            try simp only [Act.put, List.setIfInBounds_toArray, List.set_cons_zero, List.set_cons_succ]
                            refine wpAnyH_take (i := 3) (oi := ?oi5004) (v := ?v5004) ?hi5004 (by kernel_rfl) (by kernel_rfl) (by kernel_rfl) ?hq5004 ?hy5004 (by assumption) ?hr5004
                            case hi5004 => (simp only [List.getElem?_toArray, List.getElem?_cons_succ, List.getElem?_cons_zero]; rfl)
                            case hq5004 => exact fun _ _ _ h => h
                            case hy5004 => exact Or.inl ⟨by rfl, by intro whSw hSw'; (try dsimp only at hSw'); (first | (go_simp; done) | (go_simp; with_reducible rfl))⟩
                            try simp only [Act.put, List.setIfInBounds_toArray, List.set_cons_zero, List.set_cons_succ]
                            refine wpAnyH_take (i := 4) (oi := ?oi5005) (v := ?v5005) ?hi5005 (by kernel_rfl) (by kernel_rfl) (by kernel_rfl) ?hq5005 ?hy5005 (by assumption) ?hr5005
                            case hi5005 => (simp only [List.getElem?_toArray, List.getElem?_cons_succ, List.getElem?_cons_zero]; rfl)
                            case hq5005 => exact fun _ _ _ h => h
                            case hy5005 => first | exact Or.inl ⟨by rfl, by intro whSw hSw'; (try dsimp only at hSw'); (first | (go_simp; done) | (go_simp; with_reducible rfl))⟩ | exact Or.inr ⟨by rfl, by with_reducible rfl⟩ | fail
                            try simp only [Act.put, List.setIfInBounds_toArray, List.set_cons_zero, List.set_cons_succ]
                            refine wpAnyH_take (i := 5) (oi := ?oi5006) (v := ?v5006) ?hi5006 (by kernel_rfl) (by kernel_rfl) (by kernel_rfl) ?hq5006 ?hy5006 (by assumption) ?hr5006
                            case hi5006 => (simp only [List.getElem?_toArray, List.getElem?_cons_succ, List.getElem?_cons_zero]; rfl)
                            case hq5006 => exact fun _ _ _ h => h
                            case hy5006 => first | exact Or.inl ⟨by rfl, by intro whSw hSw'; (try dsimp only at hSw'); (first | (go_simp; done) | (go_simp; with_reducible rfl))⟩ | exact Or.inr ⟨by rfl, by with_reducible rfl⟩ | fail
                            try simp only [Act.put, List.setIfInBounds_toArray, List.set_cons_zero, List.set_cons_succ]
                            refine wpAnyH_take (i := 6) (oi := ?oi5007) (v := ?v5007) ?hi5007 (by kernel_rfl) (by kernel_rfl) (by kernel_rfl) ?hq5007 ?hy5007 (by assumption) ?hr5007
                            case hi5007 => (simp only [List.getElem?_toArray, List.getElem?_cons_succ, List.getElem?_cons_zero]; rfl)
                            case hq5007 => exact fun _ _ _ h => h
                            case hy5007 => first | exact Or.inl ⟨by rfl, by intro whSw hSw'; (try dsimp only at hSw'); (first | (go_simp; done) | (go_simp; with_reducible rfl))⟩ | exact Or.inr ⟨by rfl, by with_reducible rfl⟩ | fail
                            try simp only [Act.put, List.setIfInBounds_toArray, List.set_cons_zero, List.set_cons_succ]
                            refine wpAnyH_take (i := 7) (oi := ?oi5008) (v := ?v5008) ?hi5008 (by kernel_rfl) (by kernel_rfl) (by kernel_rfl) ?hq5008 ?hy5008 (by assumption) ?hr5008
                            case hi5008 => (simp only [List.getElem?_toArray, List.getElem?_cons_succ, List.getElem?_cons_zero]; rfl)
                            case hq5008 => exact fun _ _ _ h => h
                            case hy5008 => first | exact Or.inl ⟨by rfl, by intro whSw hSw'; (try dsimp only at hSw'); (first | (go_simp; done) | (go_simp; with_reducible rfl))⟩ | exact Or.inr ⟨by rfl, by with_reducible rfl⟩ | fail
                            try simp only [Act.put, List.setIfInBounds_toArray, List.set_cons_zero, List.set_cons_succ]
                            refine wpAnyH_take (i := 8) (oi := ?oi5009) (v := ?v5009) ?hi5009 (by kernel_rfl) (by kernel_rfl) (by kernel_rfl) ?hq5009 ?hy5009 (by assumption) ?hr5009
                            case hi5009 => (simp only [List.getElem?_toArray, List.getElem?_cons_succ, List.getElem?_cons_zero]; rfl)
                            case hq5009 => exact fun _ _ _ h => h
                            case hy5009 => first | exact Or.inl ⟨by rfl, by intro whSw hSw'; (try dsimp only at hSw'); (first | (go_simp; done) | (go_simp; with_reducible rfl))⟩ | exact Or.inr ⟨by rfl, by with_reducible rfl⟩ | fail
                            try simp only [Act.put, List.setIfInBounds_toArray, List.set_cons_zero, List.set_cons_succ]
                            refine wpAnyH_take (i := 9) (oi := ?oi5010) (v := ?v5010) ?hi5010 (by kernel_rfl) (by kernel_rfl) (by kernel_rfl) ?hq5010 ?hy5010 (by assumption) ?hr5010
                            case hi5010 => (simp only [List.getElem?_toArray, List.getElem?_cons_succ, List.getElem?_cons_zero]; rfl)
                            case hq5010 => exact fun _ _ _ h => h
                            case hy5010 => first | exact Or.inl ⟨by rfl, by intro whSw hSw'; (try dsimp only at hSw'); (first | (go_simp; done) | (go_simp; with_reducible rfl))⟩ | exact Or.inr ⟨by rfl, by with_reducible rfl⟩ | fail
                            try simp only [Act.put, List.setIfInBounds_toArray, List.set_cons_zero, List.set_cons_succ]
                            refine wpAnyH_take (i := 10) (oi := ?oi5011) (v := ?v5011) ?hi5011 (by kernel_rfl) (by kernel_rfl) (by kernel_rfl) ?hq5011 ?hy5011 (by assumption) ?hr5011
                            case hi5011 => (simp only [List.getElem?_toArray, List.getElem?_cons_succ, List.getElem?_cons_zero]; rfl)
                            case hq5011 => exact fun _ _ _ h => h
                            case hy5011 => first | exact Or.inl ⟨by rfl, by intro whSw hSw'; (try dsimp only at hSw'); (first | (go_simp; done) | (go_simp; with_reducible rfl))⟩ | exact Or.inr ⟨by rfl, by with_reducible rfl⟩ | fail
                            try simp only [Act.put, List.setIfInBounds_toArray, List.set_cons_zero, List.set_cons_succ]
                            refine wpAnyH_take (i := 11) (oi := ?oi5012) (v := ?v5012) ?hi5012 (by kernel_rfl) (by kernel_rfl) (by kernel_rfl) ?hq5012 ?hy5012 (by assumption) ?hr5012
                            case hi5012 => (simp only [List.getElem?_toArray, List.getElem?_cons_succ, List.getElem?_cons_zero]; rfl)
                            case hq5012 => exact fun _ _ _ h => h
                            case hy5012 => first | exact Or.inl ⟨by rfl, by intro whSw hSw'; (try dsimp only at hSw'); (first | (go_simp; done) | (go_simp; with_reducible rfl))⟩ | exact Or.inr ⟨by rfl, by with_reducible rfl⟩ | fail
                            try simp only [Act.put, List.setIfInBounds_toArray, List.set_cons_zero, List.set_cons_succ]
                            refine wpAnyH_ready (rs := [12]) (by kernel_rfl) (by simp) ?_
                            refine AllReadyH.cons (o := ?oo5013) ?hi5013 (fun K hK => ?hs5013) ?hm5013
                            case hi5013 => (simp only [List.getElem?_toArray, List.getElem?_cons_succ, List.getElem?_cons_zero]; rfl)
                            · go_simp
                              refine (HD1.out X1).mono ?_
                              rintro e zz1 ⟨rfl, hbzz1⟩
                              have HBzz1 := Lib.hid (HB0.out.trans (hbzz1.mono HB0.out.size))
                              clear hbzz1
                              (try go_wp2_with fail)
                              refine hK.out _ _ ?_ (fun hHeld => ?_)
                              · (try dsimp only); exact HS.out zz1 HBzz1.out
                              clear hK K
                              try simp only [Act.put, List.setIfInBounds_toArray, List.set_cons_zero, List.set_cons_succ]
                              refine wpAnyH_take (i := 13) (oi := ?oi5014) (v := ?v5014) ?hi5014 (by kernel_rfl) (by kernel_rfl) (by kernel_rfl) ?hq5014 ?hy5014 (by assumption) ?hr5014
                              case hi5014 => (simp only [List.getElem?_toArray, List.getElem?_cons_succ, List.getElem?_cons_zero]; rfl)
                              case hq5014 => exact fun _ _ _ h => h
                              case hy5014 => exact Or.inl ⟨by rfl, by intro whSw hSw'; (try dsimp only at hSw'); (first | (go_simp; done) | (go_simp; with_reducible rfl))⟩
                              try simp only [Act.put, List.setIfInBounds_toArray, List.set_cons_zero, List.set_cons_succ]
                              refine wpAnyH_take (i := 14) (oi := ?oi5015) (v := ?v5015) ?hi5015 (by kernel_rfl) (by kernel_rfl) (by kernel_rfl) ?hq5015 ?hy5015 (by assumption) ?hr5015
                              case hi5015 => (simp only [List.getElem?_toArray, List.getElem?_cons_succ, List.getElem?_cons_zero]; rfl)
                              case hq5015 => exact fun _ _ _ h => h
                              case hy5015 => exact Or.inl ⟨by rfl, by intro whSw hSw'; (try dsimp only at hSw'); (first | (go_simp; done) | (go_simp; with_reducible rfl))⟩
                              try simp only [Act.put, List.setIfInBounds_toArray, List.set_cons_zero, List.set_cons_succ]
                              refine wpAnyH_take (i := 15) (oi := ?oi5016) (v := ?v5016) ?hi5016 (by kernel_rfl) (by kernel_rfl) (by kernel_rfl) ?hq5016 ?hy5016 (by assumption) ?hr5016
                              case hi5016 => (simp only [List.getElem?_toArray, List.getElem?_cons_succ, List.getElem?_cons_zero]; rfl)
                              case hq5016 => exact fun _ _ _ h => h
                              case hy5016 => first | exact Or.inl ⟨by rfl, by intro whSw hSw'; (try dsimp only at hSw'); (first | (go_simp; done) | (go_simp; with_reducible rfl))⟩ | exact Or.inr ⟨by rfl, by with_reducible rfl⟩ | fail
                              try simp only [Act.put, List.setIfInBounds_toArray, List.set_cons_zero, List.set_cons_succ]
                              refine wpAnyH_take (i := 16) (oi := ?oi5017) (v := ?v5017) ?hi5017 (by kernel_rfl) (by kernel_rfl) (by kernel_rfl) ?hq5017 ?hy5017 (by assumption) ?hr5017
                              case hi5017 => (simp only [List.getElem?_toArray, List.getElem?_cons_succ, List.getElem?_cons_zero]; rfl)
                              case hq5017 => exact fun _ _ _ h => h
                              case hy5017 => first | exact Or.inl ⟨by rfl, by intro whSw hSw'; (try dsimp only at hSw'); (first | (go_simp; done) | (go_simp; with_reducible rfl))⟩ | exact Or.inr ⟨by rfl, by with_reducible rfl⟩ | fail
                              try simp only [Act.put, List.setIfInBounds_toArray, List.set_cons_zero, List.set_cons_succ]
                              refine wpAnyH_take (i := 17) (oi := ?oi5018) (v := ?v5018) ?hi5018 (by kernel_rfl) (by kernel_rfl) (by kernel_rfl) ?hq5018 ?hy5018 (by assumption) ?hr5018
                              case hi5018 => (simp only [List.getElem?_toArray, List.getElem?_cons_succ, List.getElem?_cons_zero]; rfl)
                              case hq5018 => exact fun _ _ _ h => h
                              case hy5018 => first | exact Or.inl ⟨by rfl, by intro whSw hSw'; (try dsimp only at hSw'); (first | (go_simp; done) | (go_simp; with_reducible rfl))⟩ | exact Or.inr ⟨by rfl, by with_reducible rfl⟩ | fail
                              try simp only [Act.put, List.setIfInBounds_toArray, List.set_cons_zero, List.set_cons_succ]
                              refine wpAnyH_take (i := 18) (oi := ?oi5019) (v := ?v5019) ?hi5019 (by kernel_rfl) (by kernel_rfl) (by kernel_rfl) ?hq5019 ?hy5019 (by assumption) ?hr5019
                              case hi5019 => (simp only [List.getElem?_toArray, List.getElem?_cons_succ, List.getElem?_cons_zero]; rfl)
                              case hq5019 => exact fun _ _ _ h => h
                              case hy5019 => first | exact Or.inl ⟨by rfl, by intro whSw hSw'; (try dsimp only at hSw'); (first | (go_simp; done) | (go_simp; with_reducible rfl))⟩ | exact Or.inr ⟨by rfl, by with_reducible rfl⟩ | fail
                              try simp only [Act.put, List.setIfInBounds_toArray, List.set_cons_zero, List.set_cons_succ]
                              refine wpAnyH_take (i := 19) (oi := ?oi5020) (v := ?v5020) ?hi5020 (by kernel_rfl) (by kernel_rfl) (by kernel_rfl) ?hq5020 ?hy5020 (by assumption) ?hr5020
                              case hi5020 => (simp only [List.getElem?_toArray, List.getElem?_cons_succ, List.getElem?_cons_zero]; rfl)
                              case hq5020 => exact fun _ _ _ h => h
                              case hy5020 => first | exact Or.inl ⟨by rfl, by intro whSw hSw'; (try dsimp only at hSw'); (first | (go_simp; done) | (go_simp; with_reducible rfl))⟩ | exact Or.inr ⟨by rfl, by with_reducible rfl⟩ | fail
                              try simp only [Act.put, List.setIfInBounds_toArray, List.set_cons_zero, List.set_cons_succ]
                              refine wpAnyH_take (i := 20) (oi := ?oi5021) (v := ?v5021) ?hi5021 (by kernel_rfl) (by kernel_rfl) (by kernel_rfl) ?hq5021 ?hy5021 (by assumption) ?hr5021
                              case hi5021 => (simp only [List.getElem?_toArray, List.getElem?_cons_succ, List.getElem?_cons_zero]; rfl)
                              case hq5021 => exact fun _ _ _ h => h
                              case hy5021 => first | exact Or.inl ⟨by rfl, by intro whSw hSw'; (try dsimp only at hSw'); (first | (go_simp; done) | (go_simp; with_reducible rfl))⟩ | exact Or.inr ⟨by rfl, by with_reducible rfl⟩ | fail
                              try simp only [Act.put, List.setIfInBounds_toArray, List.set_cons_zero, List.set_cons_succ]
                              refine wpAnyH_take (i := 21) (oi := ?oi5022) (v := ?v5022) ?hi5022 (by kernel_rfl) (by kernel_rfl) (by kernel_rfl) ?hq5022 ?hy5022 (by assumption) ?hr5022
                              case hi5022 => (simp only [List.getElem?_toArray, List.getElem?_cons_succ, List.getElem?_cons_zero]; rfl)
                              case hq5022 => exact fun _ _ _ h => h
                              case hy5022 => first | exact Or.inl ⟨by rfl, by intro whSw hSw'; (try dsimp only at hSw'); (first | (go_simp; done) | (go_simp; with_reducible rfl))⟩ | exact Or.inr ⟨by rfl, by with_reducible rfl⟩ | fail
                              try simp only [Act.put, List.setIfInBounds_toArray, List.set_cons_zero, List.set_cons_succ]
                              refine wpAnyH_take (i := 22) (oi := ?oi5023) (v := ?v5023) ?hi5023 (by kernel_rfl) (by kernel_rfl) (by kernel_rfl) ?hq5023 ?hy5023 (by assumption) ?hr5023
                              case hi5023 => (simp only [List.getElem?_toArray, List.getElem?_cons_succ, List.getElem?_cons_zero]; rfl)
                              case hq5023 => exact fun _ _ _ h => h
                              case hy5023 => first | exact Or.inl ⟨by rfl, by intro whSw hSw'; (try dsimp only at hSw'); (first | (go_simp; done) | (go_simp; with_reducible rfl))⟩ | exact Or.inr ⟨by rfl, by with_reducible rfl⟩ | fail
                              try simp only [Act.put, List.setIfInBounds_toArray, List.set_cons_zero, List.set_cons_succ]
                              refine wpAnyH_take (i := 23) (oi := ?oi5024) (v := ?v5024) ?hi5024 (by kernel_rfl) (by kernel_rfl) (by kernel_rfl) ?hq5024 ?hy5024 (by assumption) ?hr5024
                              case hi5024 => (simp only [List.getElem?_toArray, List.getElem?_cons_succ, List.getElem?_cons_zero]; rfl)
                              case hq5024 => exact fun _ _ _ h => h
                              case hy5024 => first | exact Or.inl ⟨by rfl, by intro whSw hSw'; (try dsimp only at hSw'); (first | (go_simp; done) | (go_simp; with_reducible rfl))⟩ | exact Or.inr ⟨by rfl, by with_reducible rfl⟩ | fail
                              try simp only [Act.put, List.setIfInBounds_toArray, List.set_cons_zero, List.set_cons_succ]
                              refine wpAnyH_take (i := 24) (oi := ?oi5025) (v := ?v5025) ?hi5025 (by kernel_rfl) (by kernel_rfl) (by kernel_rfl) ?hq5025 ?hy5025 (by assumption) ?hr5025
                              case hi5025 => (simp only [List.getElem?_toArray, List.getElem?_cons_succ, List.getElem?_cons_zero]; rfl)
                              case hq5025 => exact fun _ _ _ h => h
                              case hy5025 => first | exact Or.inl ⟨by rfl, by intro whSw hSw'; (try dsimp only at hSw'); (first | (go_simp; done) | (go_simp; with_reducible rfl))⟩ | exact Or.inr ⟨by rfl, by with_reducible rfl⟩ | fail
                              try simp only [Act.put, List.setIfInBounds_toArray, List.set_cons_zero, List.set_cons_succ]
                              refine wpAnyH_take (i := 25) (oi := ?oi5026) (v := ?v5026) ?hi5026 (by kernel_rfl) (by kernel_rfl) (by kernel_rfl) ?hq5026 ?hy5026 (by assumption) ?hr5026
                              case hi5026 => (simp only [List.getElem?_toArray, List.getElem?_cons_succ, List.getElem?_cons_zero]; rfl)
                              case hq5026 => exact fun _ _ _ h => h
                              case hy5026 => first | exact Or.inl ⟨by rfl, by intro whSw hSw'; (try dsimp only at hSw'); (first | (go_simp; done) | (go_simp; with_reducible rfl))⟩ | exact Or.inr ⟨by rfl, by with_reducible rfl⟩ | fail
                              try simp only [Act.put, List.setIfInBounds_toArray, List.set_cons_zero, List.set_cons_succ]
                              refine wpAnyH_take (i := 26) (oi := ?oi5027) (v := ?v5027) ?hi5027 (by kernel_rfl) (by kernel_rfl) (by kernel_rfl) ?hq5027 ?hy5027 (by assumption) ?hr5027
                              case hi5027 => (simp only [List.getElem?_toArray, List.getElem?_cons_succ, List.getElem?_cons_zero]; rfl)
                              case hq5027 => exact fun _ _ _ h => h
                              case hy5027 => first | exact Or.inl ⟨by rfl, by intro whSw hSw'; (try dsimp only at hSw'); (first | (go_simp; done) | (go_simp; with_reducible rfl))⟩ | exact Or.inr ⟨by rfl, by with_reducible rfl⟩ | fail
                              try simp only [Act.put, List.setIfInBounds_toArray, List.set_cons_zero, List.set_cons_succ]
                              refine wpAnyH_take (i := 27) (oi := ?oi5028) (v := ?v5028) ?hi5028 (by kernel_rfl) (by kernel_rfl) (by kernel_rfl) ?hq5028 ?hy5028 (by assumption) ?hr5028
                              case hi5028 => (simp only [List.getElem?_toArray, List.getElem?_cons_succ, List.getElem?_cons_zero]; rfl)
                              case hq5028 => exact fun _ _ _ h => h
                              case hy5028 => first | exact Or.inl ⟨by rfl, by intro whSw hSw'; (try dsimp only at hSw'); (first | (go_simp; done) | (go_simp; with_reducible rfl))⟩ | exact Or.inr ⟨by rfl, by with_reducible rfl⟩ | fail
                              try simp only [Act.put, List.setIfInBounds_toArray, List.set_cons_zero, List.set_cons_succ]
                              refine wpAnyH_take (i := 28) (oi := ?oi5029) (v := ?v5029) ?hi5029 (by kernel_rfl) (by kernel_rfl) (by kernel_rfl) ?hq5029 ?hy5029 (by assumption) ?hr5029
                              case hi5029 => (simp only [List.getElem?_toArray, List.getElem?_cons_succ, List.getElem?_cons_zero]; rfl)
                              case hq5029 => exact fun _ _ _ h => h
                              case hy5029 => first | exact Or.inl ⟨by rfl, by intro whSw hSw'; (try dsimp only at hSw'); (first | (go_simp; done) | (go_simp; with_reducible rfl))⟩ | exact Or.inr ⟨by rfl, by with_reducible rfl⟩ | fail
                              try simp only [Act.put, List.setIfInBounds_toArray, List.set_cons_zero, List.set_cons_succ]
                              refine wpAnyH_take (i := 29) (oi := ?oi5030) (v := ?v5030) ?hi5030 (by kernel_rfl) (by kernel_rfl) (by kernel_rfl) ?hq5030 ?hy5030 (by assumption) ?hr5030
                              case hi5030 => (simp only [List.getElem?_toArray, List.getElem?_cons_succ, List.getElem?_cons_zero]; rfl)
                              case hq5030 => exact fun _ _ _ h => h
                              case hy5030 => exact Or.inl ⟨by rfl, by intro whSw hSw'; (try dsimp only at hSw'); (first | (go_simp; done) | (go_simp; with_reducible rfl))⟩
                              try simp only [Act.put, List.setIfInBounds_toArray, List.set_cons_zero, List.set_cons_succ]
                              refine wpAnyH_take (i := 30) (oi := ?oi5031) (v := ?v5031) ?hi5031 (by kernel_rfl) (by kernel_rfl) (by kernel_rfl) ?hq5031 ?hy5031 (by assumption) ?hr5031
                              case hi5031 => (simp only [List.getElem?_toArray, List.getElem?_cons_succ, List.getElem?_cons_zero]; rfl)
                              case hq5031 => exact fun _ _ _ h => h
                              case hy5031 => exact Or.inl ⟨by rfl, by intro whSw hSw'; (try dsimp only at hSw'); (first | (go_simp; done) | (go_simp; with_reducible rfl))⟩
                              try simp only [Act.put, List.setIfInBounds_toArray, List.set_cons_zero, List.set_cons_succ]
                              refine wpAnyH_done (by kernel_rfl) ?_ _
                              go_wp2_with fail
                              go_meet
                              exact ⟨rfl, HBzz1⟩
                            exact AllReadyH.nil
                          · obtain rfl : both = d2 := Bool.eq_iff_iff.2 ⟨fun e => (bi.1 e).2.resolve_left hky, fun e => bi.2 ⟨.inr rfl, .inr e⟩⟩
                            have hyi : ((k : Int) == (y : Int)) = false := by simp; omega
                            have HS := Lib.hid (fun (W : World) (hb : Below w1.heap.size w1 W) => show W.cell? ⟨bl, ol + k * 3, none⟩ = some (.int .i64 u1) ∧ W.cell? ⟨bl, ol + k * 3 + 1, none⟩ = some (.int .i64 u2) ∧ W.cell? ⟨bl, ol + k * 3 + 2, none⟩ = some (.int .i64 u3) ∧ W.cell? ⟨bl, ol + x * 3, none⟩ = some (.int .i64 s1) ∧ W.cell? ⟨bl, ol + x * 3 + 1, none⟩ = some (.int .i64 s2) ∧ W.cell? ⟨bl, ol + x * 3 + 2, none⟩ = some (.int .i64 s3) ∧ W.cell? ⟨bl, ol + y * 3, none⟩ = some (.int .i64 t1) ∧ W.cell? ⟨bl, ol + y * 3 + 1, none⟩ = some (.int .i64 t2) ∧ W.cell? ⟨bl, ol + y * 3 + 2, none⟩ = some (.int .i64 t3) from by
                              exact ⟨(HKP.out W hb _).trans HUC.out.1, (HKP.out W hb _).trans HUC.out.2.1, (HKP.out W hb _).trans HUC.out.2.2, (HKP.out W hb _).trans HSC.out.1, (HKP.out W hb _).trans HSC.out.2.1, (HKP.out W hb _).trans HSC.out.2.2, (HKP.out W hb _).trans HTC.out.1, (HKP.out W hb _).trans HTC.out.2.1, (HKP.out W hb _).trans HTC.out.2.2⟩)
                            clear hX1 bi
                            refine wp_region_held_drew (S := (fun w' => w'.cell? ⟨bl, ol + k * 3, none⟩ = some (.int .i64 u1) ∧ w'.cell? ⟨bl, ol + k * 3 + 1, none⟩ = some (.int .i64 u2) ∧ w'.cell? ⟨bl, ol + k * 3 + 2, none⟩ = some (.int .i64 u3) ∧ w'.cell? ⟨bl, ol + x * 3, none⟩ = some (.int .i64 s1) ∧ w'.cell? ⟨bl, ol + x * 3 + 1, none⟩ = some (.int .i64 s2) ∧ w'.cell? ⟨bl, ol + x * 3 + 2, none⟩ = some (.int .i64 s3) ∧ w'.cell? ⟨bl, ol + y * 3, none⟩ = some (.int .i64 t1) ∧ w'.cell? ⟨bl, ol + y * 3 + 1, none⟩ = some (.int .i64 t2) ∧ w'.cell? ⟨bl, ol + y * 3 + 2, none⟩ = some (.int .i64 t3))) (by kernel_rfl) ?_ (fun hHeld => ?_)
                            · (try dsimp only); (rw [HX1.out]; exact HS.out X1 HB0.out)
                            rw [HX1.out] at hHeld ⊢
                            refine wpAnyH_take (i := 0) (oi := ?oi6001) (v := ?v6001) ?hi6001 (by kernel_rfl) (by kernel_rfl) (by kernel_rfl) ?hq6001 ?hy6001 (by assumption) ?hr6001
                            case hi6001 => (simp only [List.getElem?_toArray, List.getElem?_cons_zero]; rfl)
                            case hq6001 => exact fun _ _ _ h => h
                            case hy6001 => exact Or.inl ⟨by rfl, by intro whSw hSw'; (try dsimp only at hSw'); (first | (go_simp; done) | (go_simp; with_reducible rfl))⟩
                            try simp only [Act.put, List.setIfInBounds_toArray, List.set_cons_zero, List.set_cons_succ]
                            refine wpAnyH_take (i := 1) (oi := ?oi6002) (v := ?v6002) ?hi6002 (by kernel_rfl) (by kernel_rfl) (by kernel_rfl) ?hq6002 ?hy6002 (by assumption) ?hr6002
                            case hi6002 => (simp only [List.getElem?_toArray, List.getElem?_cons_succ, List.getElem?_cons_zero]; rfl)
                            case hq6002 => exact fun _ _ _ h => h
                            case hy6002 => exact Or.inl ⟨by rfl, by intro whSw hSw'; (try dsimp only at hSw'); (first | (go_simp; done) | (go_simp; with_reducible rfl))⟩
                            try simp only [Act.put, List.setIfInBounds_toArray, List.set_cons_zero, List.set_cons_succ]
                            refine wpAnyH_take (i := 2) (oi := ?oi6003) (v := ?v6003) ?hi6003 (by kernel_rfl) (by kernel_rfl) (by kernel_rfl) ?hq6003 ?hy6003 (by assumption) ?hr6003
                            case hi6003 => (simp only [List.getElem?_toArray, List.getElem?_cons_succ, List.getElem?_cons_zero]; rfl)
                            case hq6003 => exact fun _ _ _ h => h
                            case hy6003 => exact Or.inl ⟨by rfl, by intro whSw hSw'; (try dsimp only at hSw'); (first | (go_simp; done) | (go_simp; with_reducible rfl))⟩
                            try simp only [Act.put, List.setIfInBounds_toArray, List.set_cons_zero, List.set_cons_succ]
                            refine wpAnyH_take (i := 3) (oi := ?oi6004) (v := ?v6004) ?hi6004 (by kernel_rfl) (by kernel_rfl) (by kernel_rfl) ?hq6004 ?hy6004 (by assumption) ?hr6004
                            case hi6004 => (simp only [List.getElem?_toArray, List.getElem?_cons_succ, List.getElem?_cons_zero]; rfl)
                            case hq6004 => exact fun _ _ _ h => h
                            case hy6004 => exact Or.inl ⟨by rfl, by intro whSw hSw'; (try dsimp only at hSw'); (first | (go_simp; done) | (go_simp; with_reducible rfl))⟩
                            try simp only [Act.put, List.setIfInBounds_toArray, List.set_cons_zero, List.set_cons_succ]
                            refine wpAnyH_take (i := 4) (oi := ?oi6005) (v := ?v6005) ?hi6005 (by kernel_rfl) (by kernel_rfl) (by kernel_rfl) ?hq6005 ?hy6005 (by assumption) ?hr6005
                            case hi6005 => (simp only [List.getElem?_toArray, List.getElem?_cons_succ, List.getElem?_cons_zero]; rfl)
                            case hq6005 => exact fun _ _ _ h => h
                            case hy6005 => first | exact Or.inl ⟨by rfl, by intro whSw hSw'; (try dsimp only at hSw'); (first | (go_simp; done) | (go_simp; with_reducible rfl))⟩ | exact Or.inr ⟨by rfl, by with_reducible rfl⟩ | fail
                            try simp only [Act.put, List.setIfInBounds_toArray, List.set_cons_zero, List.set_cons_succ]
                            refine wpAnyH_take (i := 5) (oi := ?oi6006) (v := ?v6006) ?hi6006 (by kernel_rfl) (by kernel_rfl) (by kernel_rfl) ?hq6006 ?hy6006 (by assumption) ?hr6006
                            case hi6006 => (simp only [List.getElem?_toArray, List.getElem?_cons_succ, List.getElem?_cons_zero]; rfl)
                            case hq6006 => exact fun _ _ _ h => h
                            case hy6006 => first | exact Or.inl ⟨by rfl, by intro whSw hSw'; (try dsimp only at hSw'); (first | (go_simp; done) | (go_simp; with_reducible rfl))⟩ | exact Or.inr ⟨by rfl, by with_reducible rfl⟩ | fail
                            try simp only [Act.put, List.setIfInBounds_toArray, List.set_cons_zero, List.set_cons_succ]
                            refine wpAnyH_take (i := 6) (oi := ?oi6007) (v := ?v6007) ?hi6007 (by kernel_rfl) (by kernel_rfl) (by kernel_rfl) ?hq6007 ?hy6007 (by assumption) ?hr6007
                            case hi6007 => (simp only [List.getElem?_toArray, List.getElem?_cons_succ, List.getElem?_cons_zero]; rfl)
                            case hq6007 => exact fun _ _ _ h => h
                            case hy6007 => first | exact Or.inl ⟨by rfl, by intro whSw hSw'; (try dsimp only at hSw'); (first | (go_simp; done) | (go_simp; with_reducible rfl))⟩ | exact Or.inr ⟨by rfl, by with_reducible rfl⟩ | fail
                            try simp only [Act.put, List.setIfInBounds_toArray, List.set_cons_zero, List.set_cons_succ]
                            refine wpAnyH_take (i := 7) (oi := ?oi6008) (v := ?v6008) ?hi6008 (by kernel_rfl) (by kernel_rfl) (by kernel_rfl) ?hq6008 ?hy6008 (by assumption) ?hr6008
                            case hi6008 => (simp only [List.getElem?_toArray, List.getElem?_cons_succ, List.getElem?_cons_zero]; rfl)
                            case hq6008 => exact fun _ _ _ h => h
                            case hy6008 => first | exact Or.inl ⟨by rfl, by intro whSw hSw'; (try dsimp only at hSw'); (first | (go_simp; done) | (go_simp; with_reducible rfl))⟩ | exact Or.inr ⟨by rfl, by with_reducible rfl⟩ | fail
                            try simp only [Act.put, List.setIfInBounds_toArray, List.set_cons_zero, List.set_cons_succ]
                            refine wpAnyH_take (i := 8) (oi := ?oi6009) (v := ?v6009) ?hi6009 (by kernel_rfl) (by kernel_rfl) (by kernel_rfl) ?hq6009 ?hy6009 (by assumption) ?hr6009
                            case hi6009 => (simp only [List.getElem?_toArray, List.getElem?_cons_succ, List.getElem?_cons_zero]; rfl)
                            case hq6009 => exact fun _ _ _ h => h
                            case hy6009 => first | exact Or.inl ⟨by rfl, by intro whSw hSw'; (try dsimp only at hSw'); (first | (go_simp; done) | (go_simp; with_reducible rfl))⟩ | exact Or.inr ⟨by rfl, by with_reducible rfl⟩ | fail
                            try simp only [Act.put, List.setIfInBounds_toArray, List.set_cons_zero, List.set_cons_succ]
                            refine wpAnyH_take (i := 9) (oi := ?oi6010) (v := ?v6010) ?hi6010 (by kernel_rfl) (by kernel_rfl) (by kernel_rfl) ?hq6010 ?hy6010 (by assumption) ?hr6010
                            case hi6010 => (simp only [List.getElem?_toArray, List.getElem?_cons_succ, List.getElem?_cons_zero]; rfl)
                            case hq6010 => exact fun _ _ _ h => h
                            case hy6010 => first | exact Or.inl ⟨by rfl, by intro whSw hSw'; (try dsimp only at hSw'); (first | (go_simp; done) | (go_simp; with_reducible rfl))⟩ | exact Or.inr ⟨by rfl, by with_reducible rfl⟩ | fail
                            try simp only [Act.put, List.setIfInBounds_toArray, List.set_cons_zero, List.set_cons_succ]
                            refine wpAnyH_take (i := 10) (oi := ?oi6011) (v := ?v6011) ?hi6011 (by kernel_rfl) (by kernel_rfl) (by kernel_rfl) ?hq6011 ?hy6011 (by assumption) ?hr6011
                            case hi6011 => (simp only [List.getElem?_toArray, List.getElem?_cons_succ, List.getElem?_cons_zero]; rfl)
                            case hq6011 => exact fun _ _ _ h => h
                            case hy6011 => first | exact Or.inl ⟨by rfl, by intro whSw hSw'; (try dsimp only at hSw'); (first | (go_simp; done) | (go_simp; with_reducible rfl))⟩ | exact Or.inr ⟨by rfl, by with_reducible rfl⟩ | fail
                            try simp only [Act.put, List.setIfInBounds_toArray, List.set_cons_zero, List.set_cons_succ]
                            refine wpAnyH_take (i := 11) (oi := ?oi6012) (v := ?v6012) ?hi6012 (by kernel_rfl) (by kernel_rfl) (by kernel_rfl) ?hq6012 ?hy6012 (by assumption) ?hr6012
                            case hi6012 => (simp only [List.getElem?_toArray, List.getElem?_cons_succ, List.getElem?_cons_zero]; rfl)
                            case hq6012 => exact fun _ _ _ h => h
                            case hy6012 => first | exact Or.inl ⟨by rfl, by intro whSw hSw'; (try dsimp only at hSw'); (first | (go_simp; done) | (go_simp; with_reducible rfl))⟩ | exact Or.inr ⟨by rfl, by with_reducible rfl⟩ | fail
                            try simp only [Act.put, List.setIfInBounds_toArray, List.set_cons_zero, List.set_cons_succ]
                            refine wpAnyH_ready (rs := [12]) (by kernel_rfl) (by simp) ?_
                            refine AllReadyH.cons (o := ?oo6013) ?hi6013 (fun K hK => ?hs6013) ?hm6013
                            case hi6013 => (simp only [List.getElem?_toArray, List.getElem?_cons_succ, List.getElem?_cons_zero]; rfl)
                            · go_simp
                              refine (HD1.out X1).mono ?_
                              rintro e zz1 ⟨rfl, hbzz1⟩
                              have HBzz1 := Lib.hid (HB0.out.trans (hbzz1.mono HB0.out.size))
                              clear hbzz1
                              (try go_wp2_with fail)
                              refine hK.out _ _ ?_ (fun hHeld => ?_)
                              · (try dsimp only); exact HS.out zz1 HBzz1.out
                              clear hK K
                              try simp only [Act.put, List.setIfInBounds_toArray, List.set_cons_zero, List.set_cons_succ]
                              refine wpAnyH_take (i := 13) (oi := ?oi6014) (v := ?v6014) ?hi6014 (by kernel_rfl) (by kernel_rfl) (by kernel_rfl) ?hq6014 ?hy6014 (by assumption) ?hr6014
                              case hi6014 => (simp only [List.getElem?_toArray, List.getElem?_cons_succ, List.getElem?_cons_zero]; rfl)
                              case hq6014 => exact fun _ _ _ h => h
                              case hy6014 => exact Or.inl ⟨by rfl, by intro whSw hSw'; (try dsimp only at hSw'); (first | (go_simp; done) | (go_simp; with_reducible rfl))⟩
                              try simp only [Act.put, List.setIfInBounds_toArray, List.set_cons_zero, List.set_cons_succ]
                              refine wpAnyH_take (i := 14) (oi := ?oi6015) (v := ?v6015) ?hi6015 (by kernel_rfl) (by kernel_rfl) (by kernel_rfl) ?hq6015 ?hy6015 (by assumption) ?hr6015
                              case hi6015 => (simp only [List.getElem?_toArray, List.getElem?_cons_succ, List.getElem?_cons_zero]; rfl)
                              case hq6015 => exact fun _ _ _ h => h
                              case hy6015 => exact Or.inl ⟨by rfl, by intro whSw hSw'; (try dsimp only at hSw'); (first | (go_simp; done) | (go_simp; with_reducible rfl))⟩
                              try simp only [Act.put, List.setIfInBounds_toArray, List.set_cons_zero, List.set_cons_succ]
                              refine wpAnyH_take (i := 15) (oi := ?oi6016) (v := ?v6016) ?hi6016 (by kernel_rfl) (by kernel_rfl) (by kernel_rfl) ?hq6016 ?hy6016 (by assumption) ?hr6016
                              case hi6016 => (simp only [List.getElem?_toArray, List.getElem?_cons_succ, List.getElem?_cons_zero]; rfl)
                              case hq6016 => exact fun _ _ _ h => h
                              case hy6016 => first | exact Or.inl ⟨by rfl, by intro whSw hSw'; (try dsimp only at hSw'); (first | (go_simp; done) | (go_simp; with_reducible rfl))⟩ | exact Or.inr ⟨by rfl, by with_reducible rfl⟩ | fail
                              try simp only [Act.put, List.setIfInBounds_toArray, List.set_cons_zero, List.set_cons_succ]
                              refine wpAnyH_take (i := 16) (oi := ?oi6017) (v := ?v6017) ?hi6017 (by kernel_rfl) (by kernel_rfl) (by kernel_rfl) ?hq6017 ?hy6017 (by assumption) ?hr6017
                              case hi6017 => (simp only [List.getElem?_toArray, List.getElem?_cons_succ, List.getElem?_cons_zero]; rfl)
                              case hq6017 => exact fun _ _ _ h => h
                              case hy6017 => first | exact Or.inl ⟨by rfl, by intro whSw hSw'; (try dsimp only at hSw'); (first | (go_simp; done) | (go_simp; with_reducible rfl))⟩ | exact Or.inr ⟨by rfl, by with_reducible rfl⟩ | fail
                              try simp only [Act.put, List.setIfInBounds_toArray, List.set_cons_zero, List.set_cons_succ]
                              refine wpAnyH_take (i := 17) (oi := ?oi6018) (v := ?v6018) ?hi6018 (by kernel_rfl) (by kernel_rfl) (by kernel_rfl) ?hq6018 ?hy6018 (by assumption) ?hr6018
                              case hi6018 => (simp only [List.getElem?_toArray, List.getElem?_cons_succ, List.getElem?_cons_zero]; rfl)
                              case hq6018 => exact fun _ _ _ h => h
                              case hy6018 => first | exact Or.inl ⟨by rfl, by intro whSw hSw'; (try dsimp only at hSw'); (first | (go_simp; done) | (go_simp; with_reducible rfl))⟩ | exact Or.inr ⟨by rfl, by with_reducible rfl⟩ | fail
                              try simp only [Act.put, List.setIfInBounds_toArray, List.set_cons_zero, List.set_cons_succ]
                              refine wpAnyH_take (i := 18) (oi := ?oi6019) (v := ?v6019) ?hi6019 (by kernel_rfl) (by kernel_rfl) (by kernel_rfl) ?hq6019 ?hy6019 (by assumption) ?hr6019
                              case hi6019 => (simp only [List.getElem?_toArray, List.getElem?_cons_succ, List.getElem?_cons_zero]; rfl)
                              case hq6019 => exact fun _ _ _ h => h
                              case hy6019 => first | exact Or.inl ⟨by rfl, by intro whSw hSw'; (try dsimp only at hSw'); (first | (go_simp; done) | (go_simp; with_reducible rfl))⟩ | exact Or.inr ⟨by rfl, by with_reducible rfl⟩ | fail
                              try simp only [Act.put, List.setIfInBounds_toArray, List.set_cons_zero, List.set_cons_succ]
                              refine wpAnyH_take (i := 19) (oi := ?oi6020) (v := ?v6020) ?hi6020 (by kernel_rfl) (by kernel_rfl) (by kernel_rfl) ?hq6020 ?hy6020 (by assumption) ?hr6020
                              case hi6020 => (simp only [List.getElem?_toArray, List.getElem?_cons_succ, List.getElem?_cons_zero]; rfl)
                              case hq6020 => exact fun _ _ _ h => h
                              case hy6020 => first | exact Or.inl ⟨by rfl, by intro whSw hSw'; (try dsimp only at hSw'); (first | (go_simp; done) | (go_simp; with_reducible rfl))⟩ | exact Or.inr ⟨by rfl, by with_reducible rfl⟩ | fail
                              try simp only [Act.put, List.setIfInBounds_toArray, List.set_cons_zero, List.set_cons_succ]
                              refine wpAnyH_take (i := 20) (oi := ?oi6021) (v := ?v6021) ?hi6021 (by kernel_rfl) (by kernel_rfl) (by kernel_rfl) ?hq6021 ?hy6021 (by assumption) ?hr6021
                              case hi6021 => (simp only [List.getElem?_toArray, List.getElem?_cons_succ, List.getElem?_cons_zero]; rfl)
                              case hq6021 => exact fun _ _ _ h => h
                              case hy6021 => first | exact Or.inl ⟨by rfl, by intro whSw hSw'; (try dsimp only at hSw'); (first | (go_simp; done) | (go_simp; with_reducible rfl))⟩ | exact Or.inr ⟨by rfl, by with_reducible rfl⟩ | fail
                              try simp only [Act.put, List.setIfInBounds_toArray, List.set_cons_zero, List.set_cons_succ]
                              refine wpAnyH_take (i := 21) (oi := ?oi6022) (v := ?v6022) ?hi6022 (by kernel_rfl) (by kernel_rfl) (by kernel_rfl) ?hq6022 ?hy6022 (by assumption) ?hr6022
                              case hi6022 => (simp only [List.getElem?_toArray, List.getElem?_cons_succ, List.getElem?_cons_zero]; rfl)
                              case hq6022 => exact fun _ _ _ h => h
                              case hy6022 => first | exact Or.inl ⟨by rfl, by intro whSw hSw'; (try dsimp only at hSw'); (first | (go_simp; done) | (go_simp; with_reducible rfl))⟩ | exact Or.inr ⟨by rfl, by with_reducible rfl⟩ | fail
                              try simp only [Act.put, List.setIfInBounds_toArray, List.set_cons_zero, List.set_cons_succ]
                              refine wpAnyH_take (i := 22) (oi := ?oi6023) (v := ?v6023) ?hi6023 (by kernel_rfl) (by kernel_rfl) (by kernel_rfl) ?hq6023 ?hy6023 (by assumption) ?hr6023
                              case hi6023 => (simp only [List.getElem?_toArray, List.getElem?_cons_succ, List.getElem?_cons_zero]; rfl)
                              case hq6023 => exact fun _ _ _ h => h
                              case hy6023 => first | exact Or.inl ⟨by rfl, by intro whSw hSw'; (try dsimp only at hSw'); (first | (go_simp; done) | (go_simp; with_reducible rfl))⟩ | exact Or.inr ⟨by rfl, by with_reducible rfl⟩ | fail
                              try simp only [Act.put, List.setIfInBounds_toArray, List.set_cons_zero, List.set_cons_succ]
                              refine wpAnyH_take (i := 23) (oi := ?oi6024) (v := ?v6024) ?hi6024 (by kernel_rfl) (by kernel_rfl) (by kernel_rfl) ?hq6024 ?hy6024 (by assumption) ?hr6024
                              case hi6024 => (simp only [List.getElem?_toArray, List.getElem?_cons_succ, List.getElem?_cons_zero]; rfl)
                              case hq6024 => exact fun _ _ _ h => h
                              case hy6024 => first | exact Or.inl ⟨by rfl, by intro whSw hSw'; (try dsimp only at hSw'); (first | (go_simp; done) | (go_simp; with_reducible rfl))⟩ | exact Or.inr ⟨by rfl, by with_reducible rfl⟩ | fail
                              try simp only [Act.put, List.setIfInBounds_toArray, List.set_cons_zero, List.set_cons_succ]
                              refine wpAnyH_take (i := 24) (oi := ?oi6025) (v := ?v6025) ?hi6025 (by kernel_rfl) (by kernel_rfl) (by kernel_rfl) ?hq6025 ?hy6025 (by assumption) ?hr6025
                              case hi6025 => (simp only [List.getElem?_toArray, List.getElem?_cons_succ, List.getElem?_cons_zero]; rfl)
                              case hq6025 => exact fun _ _ _ h => h
                              case hy6025 => first | exact Or.inl ⟨by rfl, by intro whSw hSw'; (try dsimp only at hSw'); (first | (go_simp; done) | (go_simp; with_reducible rfl))⟩ | exact Or.inr ⟨by rfl, by with_reducible rfl⟩ | fail
                              try simp only [Act.put, List.setIfInBounds_toArray, List.set_cons_zero, List.set_cons_succ]
                              refine wpAnyH_take (i := 25) (oi := ?oi6026) (v := ?v6026) ?hi6026 (by kernel_rfl) (by kernel_rfl) (by kernel_rfl) ?hq6026 ?hy6026 (by assumption) ?hr6026
                              case hi6026 => (simp only [List.getElem?_toArray, List.getElem?_cons_succ, List.getElem?_cons_zero]; rfl)
                              case hq6026 => exact fun _ _ _ h => h
                              case hy6026 => first | exact Or.inl ⟨by rfl, by intro whSw hSw'; (try dsimp only at hSw'); (first | (go_simp; done) | (go_simp; with_reducible rfl))⟩ | exact Or.inr ⟨by rfl, by with_reducible rfl⟩ | fail
                              try simp only [Act.put, List.setIfInBounds_toArray, List.set_cons_zero, List.set_cons_succ]
                              refine wpAnyH_take (i := 26) (oi := ?oi6027) (v := ?v6027) ?hi6027 (by kernel_rfl) (by kernel_rfl) (by kernel_rfl) ?hq6027 ?hy6027 (by assumption) ?hr6027
                              case hi6027 => (simp only [List.getElem?_toArray, List.getElem?_cons_succ, List.getElem?_cons_zero]; rfl)
                              case hq6027 => exact fun _ _ _ h => h
                              case hy6027 => first | exact Or.inl ⟨by rfl, by intro whSw hSw'; (try dsimp only at hSw'); (first | (go_simp; done) | (go_simp; with_reducible rfl))⟩ | exact Or.inr ⟨by rfl, by with_reducible rfl⟩ | fail
                              try simp only [Act.put, List.setIfInBounds_toArray, List.set_cons_zero, List.set_cons_succ]
                              refine wpAnyH_ready (rs := [27]) (by kernel_rfl) (by simp) ?_
                              refine AllReadyH.cons (o := ?oo6028) ?hi6028 (fun K hK => ?hs6028) ?hm6028
                              case hi6028 => (simp only [List.getElem?_toArray, List.getElem?_cons_succ, List.getElem?_cons_zero]; rfl)
                              · go_simp
                                refine (HD2.out zz1).mono ?_
                                rintro e zz2 ⟨rfl, hbzz2⟩
                                have HBzz2 := Lib.hid (HBzz1.out.trans (hbzz2.mono HBzz1.out.size))
                                clear hbzz2
                                (try go_wp2_with fail)
                                refine hK.out _ _ ?_ (fun hHeld => ?_)
                                · (try dsimp only); exact HS.out zz2 HBzz2.out
                                clear hK K
                                try simp only [Act.put, List.setIfInBounds_toArray, List.set_cons_zero, List.set_cons_succ]
                                refine wpAnyH_take (i := 28) (oi := ?oi6029) (v := ?v6029) ?hi6029 (by kernel_rfl) (by kernel_rfl) (by kernel_rfl) ?hq6029 ?hy6029 (by assumption) ?hr6029
                                case hi6029 => (simp only [List.getElem?_toArray, List.getElem?_cons_succ, List.getElem?_cons_zero]; rfl)
                                case hq6029 => exact fun _ _ _ h => h
                                case hy6029 => first | exact Or.inl ⟨by rfl, by intro whSw hSw'; (try dsimp only at hSw'); (first | (go_simp; done) | (go_simp; with_reducible rfl))⟩ | exact Or.inr ⟨by rfl, by with_reducible rfl⟩ | fail
                                try simp only [Act.put, List.setIfInBounds_toArray, List.set_cons_zero, List.set_cons_succ]
                                refine wpAnyH_take (i := 29) (oi := ?oi6030) (v := ?v6030) ?hi6030 (by kernel_rfl) (by kernel_rfl) (by kernel_rfl) ?hq6030 ?hy6030 (by assumption) ?hr6030
                                case hi6030 => (simp only [List.getElem?_toArray, List.getElem?_cons_succ, List.getElem?_cons_zero]; rfl)
                                case hq6030 => exact fun _ _ _ h => h
                                case hy6030 => exact Or.inl ⟨by rfl, by intro whSw hSw'; (try dsimp only at hSw'); (first | (go_simp; done) | (go_simp; with_reducible rfl))⟩
                                try simp only [Act.put, List.setIfInBounds_toArray, List.set_cons_zero, List.set_cons_succ]
                                refine wpAnyH_take (i := 30) (oi := ?oi6031) (v := ?v6031) ?hi6031 (by kernel_rfl) (by kernel_rfl) (by kernel_rfl) ?hq6031 ?hy6031 (by assumption) ?hr6031
                                case hi6031 => (simp only [List.getElem?_toArray, List.getElem?_cons_succ, List.getElem?_cons_zero]; rfl)
                                case hq6031 => exact fun _ _ _ h => h
                                case hy6031 => exact Or.inl ⟨by rfl, by intro whSw hSw'; (try dsimp only at hSw'); (first | (go_simp; done) | (go_simp; with_reducible rfl))⟩
                                try simp only [Act.put, List.setIfInBounds_toArray, List.set_cons_zero, List.set_cons_succ]
                                refine wpAnyH_done (by kernel_rfl) ?_ _
                                go_wp2_with fail
                                go_meet
                                exact ⟨rfl, HBzz2⟩
                              exact AllReadyH.nil
                            exact AllReadyH.nil
                    case rest =>
                      obtain ⟨rfl, HBL⟩ := hcut
                      clear HBK
                      rcases comH_cases h x y with e | ⟨z, e⟩
                      · have hno := comH_none.1 e
                        obtain rfl : both = false := by
                          rw [← HBO.out]
                          exact decide_eq_false (fun hb => hno k hb.1 hb.2)
                        obtain rfl : (-1 : Int) = c := e.symm.trans HCM.out
                        have e1 : ((-1 : Int) == (k : Int)) = false := by simp <;> omega
                        clear hno e
                        go_wp2_with fail
                        go_quiet (fail)
                        go_wp2_with fail
                        exact ⟨⟨k + 1, by omega, by go_num, Lib.hid (below_drewN HBL.out _)⟩, by simp only [Go.RowKit.intOf]; omega⟩
                      · obtain rfl : (z : Int) = c := e.symm.trans HCM.out
                        have hz := (comH_some HO.out).1 e
                        have hzn : z < n := by omega
                        have f1 : decide ((z : Int) < 0) = false := decide_eq_false (by omega)
                        have f2 : (0 : Int) ≤ (z : Int) := by omega
                        clear e
                        cases both with
                        | false =>
                          have hkz : ¬ k = z := fun e' => by
                            subst e'
                            have := HBO.out
                            rw [decide_eq_true ⟨hz.1, hz.2.1⟩] at this
                            cases this
                          have e1 : ((z : Int) == (k : Int)) = false := by simp <;> omega
                          have e2 : ((k : Int) != (z : Int)) = true := by simp <;> omega
                          clear hz
                          go_wp2_with fail
                          go_quiet (fail)
                          go_wp2_with fail
                          exact ⟨⟨k + 1, by omega, by go_num, Lib.hid (below_drewN HBL.out _)⟩, by simp only [Go.RowKit.intOf]; omega⟩
                        | true =>
                          obtain ⟨m1, m2⟩ := of_decide_eq_true HBO.out
                          by_cases hkz : k = z
                          · subst hkz
                            clear hz m1 m2
                            go_wp2_with fail
                            go_quiet (fail)
                            go_wp2_with fail
                            exact ⟨⟨k + 1, by omega, by go_num, Lib.hid (below_drewN HBL.out _)⟩, by simp only [Go.RowKit.intOf]; omega⟩
                          · have e1 : ((z : Int) == (k : Int)) = false := by simp <;> omega
                            have e2 : ((k : Int) != (z : Int)) = true := by simp <;> omega
                            obtain ⟨r, hr⟩ : ∃ a, L[z]? = some a := ⟨_, List.getElem?_eq_getElem (by rw [HLL.out]; exact hzn)⟩
                            have hd3 := (HLO.out.dom HO.out HU.out hr).2 ⟨hkz, hz.2.2 k m1 m2⟩
                            obtain ⟨r1, r2, r3⟩ := r
                            have HD3 := Lib.hid (fun W => dominates_any (u1, u2, u3) (r1, r2, r3) W)
                            rw [hd3] at HD3
                            unfold lbA at HD3
                            simp only at HD3
                            have HRC := Lib.hid (HCL.out z _ hr)
                            have HS := Lib.hid (fun (W : World) (hb : Below w1.heap.size w1 W) => show W.cell? ⟨bl, ol + k * 3, none⟩ = some (.int .i64 u1) ∧ W.cell? ⟨bl, ol + k * 3 + 1, none⟩ = some (.int .i64 u2) ∧ W.cell? ⟨bl, ol + k * 3 + 2, none⟩ = some (.int .i64 u3) ∧ W.cell? ⟨bl, ol + z * 3, none⟩ = some (.int .i64 r1) ∧ W.cell? ⟨bl, ol + z * 3 + 1, none⟩ = some (.int .i64 r2) ∧ W.cell? ⟨bl, ol + z * 3 + 2, none⟩ = some (.int .i64 r3) from ⟨(HKP.out W hb _).trans HUC.out.1, (HKP.out W hb _).trans HUC.out.2.1, (HKP.out W hb _).trans HUC.out.2.2, (HKP.out W hb _).trans HRC.out.1, (HKP.out W hb _).trans HRC.out.2.1, (HKP.out W hb _).trans HRC.out.2.2⟩)
                            clear hz m1 m2 hd3 hr
                            go_wp2_with fail
                            obtain ⟨X1, hX1⟩ : ∃ X, wc.drew = X := ⟨_, rfl⟩
                            have HX1 := Lib.hid hX1
                            have HB0 := Lib.hid (show Below w1.heap.size w1 X1 by rw [← hX1]; exact HBL.out.drew)
                            clear hX1
                            refine wp_region_held_drew (S := (fun w' => w'.cell? ⟨bl, ol + k * 3, none⟩ = some (.int .i64 u1) ∧ w'.cell? ⟨bl, ol + k * 3 + 1, none⟩ = some (.int .i64 u2) ∧ w'.cell? ⟨bl, ol + k * 3 + 2, none⟩ = some (.int .i64 u3) ∧ w'.cell? ⟨bl, ol + z * 3, none⟩ = some (.int .i64 r1) ∧ w'.cell? ⟨bl, ol + z * 3 + 1, none⟩ = some (.int .i64 r2) ∧ w'.cell? ⟨bl, ol + z * 3 + 2, none⟩ = some (.int .i64 r3))) (by kernel_rfl) ?_ (fun hHeld => ?_)
                            · (try dsimp only); (rw [HX1.out]; exact HS.out X1 HB0.out)
                            rw [HX1.out] at hHeld ⊢
                            refine wpAnyH_take (i := 0) (oi := ?oi7001) (v := ?v7001) ?hi7001 (by kernel_rfl) (by kernel_rfl) (by kernel_rfl) ?hq7001 ?hy7001 (by assumption) ?hr7001
                            case hi7001 => (simp only [List.getElem?_toArray, List.getElem?_cons_zero]; rfl)
                            case hq7001 => exact fun _ _ _ h => h
                            case hy7001 => exact Or.inl ⟨by rfl, by intro whSw hSw'; (try dsimp only at hSw'); (first | (go_simp; done) | (go_simp; with_reducible rfl))⟩
                            try simp only [Act.put, List.setIfInBounds_toArray, List.set_cons_zero, List.set_cons_succ]
                            refine wpAnyH_take (i := 1) (oi := ?oi7002) (v := ?v7002) ?hi7002 (by kernel_rfl) (by kernel_rfl) (by kernel_rfl) ?hq7002 ?hy7002 (by assumption) ?hr7002
                            case hi7002 => (simp only [List.getElem?_toArray, List.getElem?_cons_succ, List.getElem?_cons_zero]; rfl)
                            case hq7002 => exact fun _ _ _ h => h
                            case hy7002 => exact Or.inl ⟨by rfl, by intro whSw hSw'; (try dsimp only at hSw'); (first | (go_simp; done) | (go_simp; with_reducible rfl))⟩
                            try simp only [Act.put, List.setIfInBounds_toArray, List.set_cons_zero, List.set_cons_succ]
                            refine wpAnyH_take (i := 2) (oi := ?oi7003) (v := ?v7003) ?hi7003 (by kernel_rfl) (by kernel_rfl) (by kernel_rfl) ?hq7003 ?hy7003 (by assumption) ?hr7003
                            case hi7003 => (simp only [List.getElem?_toArray, List.getElem?_cons_succ, List.getElem?_cons_zero]; rfl)
                            case hq7003 => exact fun _ _ _ h => h
                            case hy7003 => exact Or.inl ⟨by rfl, by intro whSw hSw'; (try dsimp only at hSw'); (first | (go_simp; done) | (go_simp; with_reducible rfl))⟩
                            try simp only [Act.put, List.setIfInBounds_toArray, List.set_cons_zero, List.set_cons_succ]
                            refine wpAnyH_take (i := 3) (oi := ?oi7004) (v := ?v7004) ?hi7004 (by kernel_rfl) (by kernel_rfl) (by kernel_rfl) ?hq7004 ?hy7004 (by assumption) ?hr7004
                            case hi7004 => (simp only [List.getElem?_toArray, List.getElem?_cons_succ, List.getElem?_cons_zero]; rfl)
                            case hq7004 => exact fun _ _ _ h => h
                            case hy7004 => first | exact Or.inl ⟨by rfl, by intro whSw hSw'; (try dsimp only at hSw'); (first | (go_simp; done) | (go_simp; with_reducible rfl))⟩ | exact Or.inr ⟨by rfl, by with_reducible rfl⟩ | fail
                            try simp only [Act.put, List.setIfInBounds_toArray, List.set_cons_zero, List.set_cons_succ]
                            refine wpAnyH_take (i := 4) (oi := ?oi7005) (v := ?v7005) ?hi7005 (by kernel_rfl) (by kernel_rfl) (by kernel_rfl) ?hq7005 ?hy7005 (by assumption) ?hr7005
                            case hi7005 => (simp only [List.getElem?_toArray, List.getElem?_cons_succ, List.getElem?_cons_zero]; rfl)
                            case hq7005 => exact fun _ _ _ h => h
                            case hy7005 => exact Or.inl ⟨by rfl, by intro whSw hSw'; (try dsimp only at hSw'); (first | (go_simp; done) | (go_simp; with_reducible rfl))⟩
                            try simp only [Act.put, List.setIfInBounds_toArray, List.set_cons_zero, List.set_cons_succ]
                            refine wpAnyH_take (i := 5) (oi := ?oi7006) (v := ?v7006) ?hi7006 (by kernel_rfl) (by kernel_rfl) (by kernel_rfl) ?hq7006 ?hy7006 (by assumption) ?hr7006
                            case hi7006 => (simp only [List.getElem?_toArray, List.getElem?_cons_succ, List.getElem?_cons_zero]; rfl)
                            case hq7006 => exact fun _ _ _ h => h
                            case hy7006 => exact Or.inl ⟨by rfl, by intro whSw hSw'; (try dsimp only at hSw'); (first | (go_simp; done) | (go_simp; with_reducible rfl))⟩
                            try simp only [Act.put, List.setIfInBounds_toArray, List.set_cons_zero, List.set_cons_succ]
                            refine wpAnyH_take (i := 6) (oi := ?oi7007) (v := ?v7007) ?hi7007 (by kernel_rfl) (by kernel_rfl) (by kernel_rfl) ?hq7007 ?hy7007 (by assumption) ?hr7007
                            case hi7007 => (simp only [List.getElem?_toArray, List.getElem?_cons_succ, List.getElem?_cons_zero]; rfl)
                            case hq7007 => exact fun _ _ _ h => h
                            case hy7007 => first | exact Or.inl ⟨by rfl, by intro whSw hSw'; (try dsimp only at hSw'); (first | (go_simp; done) | (go_simp; with_reducible rfl))⟩ | exact Or.inr ⟨by rfl, by with_reducible rfl⟩ | fail
                            try simp only [Act.put, List.setIfInBounds_toArray, List.set_cons_zero, List.set_cons_succ]
                            refine wpAnyH_take (i := 7) (oi := ?oi7008) (v := ?v7008) ?hi7008 (by kernel_rfl) (by kernel_rfl) (by kernel_rfl) ?hq7008 ?hy7008 (by assumption) ?hr7008
                            case hi7008 => (simp only [List.getElem?_toArray, List.getElem?_cons_succ, List.getElem?_cons_zero]; rfl)
                            case hq7008 => exact fun _ _ _ h => h
                            case hy7008 => first | exact Or.inl ⟨by rfl, by intro whSw hSw'; (try dsimp only at hSw'); (first | (go_simp; done) | (go_simp; with_reducible rfl))⟩ | exact Or.inr ⟨by rfl, by with_reducible rfl⟩ | fail
                            try simp only [Act.put, List.setIfInBounds_toArray, List.set_cons_zero, List.set_cons_succ]
                            refine wpAnyH_take (i := 8) (oi := ?oi7009) (v := ?v7009) ?hi7009 (by kernel_rfl) (by kernel_rfl) (by kernel_rfl) ?hq7009 ?hy7009 (by assumption) ?hr7009
                            case hi7009 => (simp only [List.getElem?_toArray, List.getElem?_cons_succ, List.getElem?_cons_zero]; rfl)
                            case hq7009 => exact fun _ _ _ h => h
                            case hy7009 => first | exact Or.inl ⟨by rfl, by intro whSw hSw'; (try dsimp only at hSw'); (first | (go_simp; done) | (go_simp; with_reducible rfl))⟩ | exact Or.inr ⟨by rfl, by with_reducible rfl⟩ | fail
                            try simp only [Act.put, List.setIfInBounds_toArray, List.set_cons_zero, List.set_cons_succ]
                            refine wpAnyH_take (i := 9) (oi := ?oi7010) (v := ?v7010) ?hi7010 (by kernel_rfl) (by kernel_rfl) (by kernel_rfl) ?hq7010 ?hy7010 (by assumption) ?hr7010
                            case hi7010 => (simp only [List.getElem?_toArray, List.getElem?_cons_succ, List.getElem?_cons_zero]; rfl)
                            case hq7010 => exact fun _ _ _ h => h
                            case hy7010 => first | exact Or.inl ⟨by rfl, by intro whSw hSw'; (try dsimp only at hSw'); (first | (go_simp; done) | (go_simp; with_reducible rfl))⟩ | exact Or.inr ⟨by rfl, by with_reducible rfl⟩ | fail
                            try simp only [Act.put, List.setIfInBounds_toArray, List.set_cons_zero, List.set_cons_succ]
                            refine wpAnyH_take (i := 10) (oi := ?oi7011) (v := ?v7011) ?hi7011 (by kernel_rfl) (by kernel_rfl) (by kernel_rfl) ?hq7011 ?hy7011 (by assumption) ?hr7011
                            case hi7011 => (simp only [List.getElem?_toArray, List.getElem?_cons_succ, List.getElem?_cons_zero]; rfl)
                            case hq7011 => exact fun _ _ _ h => h
                            case hy7011 => first | exact Or.inl ⟨by rfl, by intro whSw hSw'; (try dsimp only at hSw'); (first | (go_simp; done) | (go_simp; with_reducible rfl))⟩ | exact Or.inr ⟨by rfl, by with_reducible rfl⟩ | fail
                            try simp only [Act.put, List.setIfInBounds_toArray, List.set_cons_zero, List.set_cons_succ]
                            refine wpAnyH_take (i := 11) (oi := ?oi7012) (v := ?v7012) ?hi7012 (by kernel_rfl) (by kernel_rfl) (by kernel_rfl) ?hq7012 ?hy7012 (by assumption) ?hr7012
                            case hi7012 => (simp only [List.getElem?_toArray, List.getElem?_cons_succ, List.getElem?_cons_zero]; rfl)
                            case hq7012 => exact fun _ _ _ h => h
                            case hy7012 => first | exact Or.inl ⟨by rfl, by intro whSw hSw'; (try dsimp only at hSw'); (first | (go_simp; done) | (go_simp; with_reducible rfl))⟩ | exact Or.inr ⟨by rfl, by with_reducible rfl⟩ | fail
                            try simp only [Act.put, List.setIfInBounds_toArray, List.set_cons_zero, List.set_cons_succ]
                            refine wpAnyH_take (i := 12) (oi := ?oi7013) (v := ?v7013) ?hi7013 (by kernel_rfl) (by kernel_rfl) (by kernel_rfl) ?hq7013 ?hy7013 (by assumption) ?hr7013
                            case hi7013 => (simp only [List.getElem?_toArray, List.getElem?_cons_succ, List.getElem?_cons_zero]; rfl)
                            case hq7013 => exact fun _ _ _ h => h
                            case hy7013 => first | exact Or.inl ⟨by rfl, by intro whSw hSw'; (try dsimp only at hSw'); (first | (go_simp; done) | (go_simp; with_reducible rfl))⟩ | exact Or.inr ⟨by rfl, by with_reducible rfl⟩ | fail
                            try simp only [Act.put, List.setIfInBounds_toArray, List.set_cons_zero, List.set_cons_succ]
                            refine wpAnyH_take (i := 13) (oi := ?oi7014) (v := ?v7014) ?hi7014 (by kernel_rfl) (by kernel_rfl) (by kernel_rfl) ?hq7014 ?hy7014 (by assumption) ?hr7014
                            case hi7014 => (simp only [List.getElem?_toArray, List.getElem?_cons_succ, List.getElem?_cons_zero]; rfl)
                            case hq7014 => exact fun _ _ _ h => h
                            case hy7014 => first | exact Or.inl ⟨by rfl, by intro whSw hSw'; (try dsimp only at hSw'); (first | (go_simp; done) | (go_simp; with_reducible rfl))⟩ | exact Or.inr ⟨by rfl, by with_reducible rfl⟩ | fail
                            try simp only [Act.put, List.setIfInBounds_toArray, List.set_cons_zero, List.set_cons_succ]
                            refine wpAnyH_take (i := 14) (oi := ?oi7015) (v := ?v7015) ?hi7015 (by kernel_rfl) (by kernel_rfl) (by kernel_rfl) ?hq7015 ?hy7015 (by assumption) ?hr7015
                            case hi7015 => (simp only [List.getElem?_toArray, List.getElem?_cons_succ, List.getElem?_cons_zero]; rfl)
                            case hq7015 => exact fun _ _ _ h => h
                            case hy7015 => first | exact Or.inl ⟨by rfl, by intro whSw hSw'; (try dsimp only at hSw'); (first | (go_simp; done) | (go_simp; with_reducible rfl))⟩ | exact Or.inr ⟨by rfl, by with_reducible rfl⟩ | fail
                            try simp only [Act.put, List.setIfInBounds_toArray, List.set_cons_zero, List.set_cons_succ]
                            refine wpAnyH_take (i := 15) (oi := ?oi7016) (v := ?v7016) ?hi7016 (by kernel_rfl) (by kernel_rfl) (by kernel_rfl) ?hq7016 ?hy7016 (by assumption) ?hr7016
                            case hi7016 => (simp only [List.getElem?_toArray, List.getElem?_cons_succ, List.getElem?_cons_zero]; rfl)
                            case hq7016 => exact fun _ _ _ h => h
                            case hy7016 => first | exact Or.inl ⟨by rfl, by intro whSw hSw'; (try dsimp only at hSw'); (first | (go_simp; done) | (go_simp; with_reducible rfl))⟩ | exact Or.inr ⟨by rfl, by with_reducible rfl⟩ | fail
                            try simp only [Act.put, List.setIfInBounds_toArray, List.set_cons_zero, List.set_cons_succ]
                            refine wpAnyH_take (i := 16) (oi := ?oi7017) (v := ?v7017) ?hi7017 (by kernel_rfl) (by kernel_rfl) (by kernel_rfl) ?hq7017 ?hy7017 (by assumption) ?hr7017
                            case hi7017 => (simp only [List.getElem?_toArray, List.getElem?_cons_succ, List.getElem?_cons_zero]; rfl)
                            case hq7017 => exact fun _ _ _ h => h
                            case hy7017 => first | exact Or.inl ⟨by rfl, by intro whSw hSw'; (try dsimp only at hSw'); (first | (go_simp; done) | (go_simp; with_reducible rfl))⟩ | exact Or.inr ⟨by rfl, by with_reducible rfl⟩ | fail
                            try simp only [Act.put, List.setIfInBounds_toArray, List.set_cons_zero, List.set_cons_succ]
                            refine wpAnyH_take (i := 17) (oi := ?oi7018) (v := ?v7018) ?hi7018 (by kernel_rfl) (by kernel_rfl) (by kernel_rfl) ?hq7018 ?hy7018 (by assumption) ?hr7018
                            case hi7018 => (simp only [List.getElem?_toArray, List.getElem?_cons_succ, List.getElem?_cons_zero]; rfl)
                            case hq7018 => exact fun _ _ _ h => h
                            case hy7018 => first | exact Or.inl ⟨by rfl, by intro whSw hSw'; (try dsimp only at hSw'); (first | (go_simp; done) | (go_simp; with_reducible rfl))⟩ | exact Or.inr ⟨by rfl, by with_reducible rfl⟩ | fail
                            try simp only [Act.put, List.setIfInBounds_toArray, List.set_cons_zero, List.set_cons_succ]
                            refine wpAnyH_take (i := 18) (oi := ?oi7019) (v := ?v7019) ?hi7019 (by kernel_rfl) (by kernel_rfl) (by kernel_rfl) ?hq7019 ?hy7019 (by assumption) ?hr7019
                            case hi7019 => (simp only [List.getElem?_toArray, List.getElem?_cons_succ, List.getElem?_cons_zero]; rfl)
                            case hq7019 => exact fun _ _ _ h => h
                            case hy7019 => first | exact Or.inl ⟨by rfl, by intro whSw hSw'; (try dsimp only at hSw'); (first | (go_simp; done) | (go_simp; with_reducible rfl))⟩ | exact Or.inr ⟨by rfl, by with_reducible rfl⟩ | fail
                            try simp only [Act.put, List.setIfInBounds_toArray, List.set_cons_zero, List.set_cons_succ]
                            refine wpAnyH_take (i := 19) (oi := ?oi7020) (v := ?v7020) ?hi7020 (by kernel_rfl) (by kernel_rfl) (by kernel_rfl) ?hq7020 ?hy7020 (by assumption) ?hr7020
                            case hi7020 => (simp only [List.getElem?_toArray, List.getElem?_cons_succ, List.getElem?_cons_zero]; rfl)
                            case hq7020 => exact fun _ _ _ h => h
                            case hy7020 => first | exact Or.inl ⟨by rfl, by intro whSw hSw'; (try dsimp only at hSw'); (first | (go_simp; done) | (go_simp; with_reducible rfl))⟩ | exact Or.inr ⟨by rfl, by with_reducible rfl⟩ | fail
                            try simp only [Act.put, List.setIfInBounds_toArray, List.set_cons_zero, List.set_cons_succ]
                            refine wpAnyH_take (i := 20) (oi := ?oi7021) (v := ?v7021) ?hi7021 (by kernel_rfl) (by kernel_rfl) (by kernel_rfl) ?hq7021 ?hy7021 (by assumption) ?hr7021
                            case hi7021 => (simp only [List.getElem?_toArray, List.getElem?_cons_succ, List.getElem?_cons_zero]; rfl)
                            case hq7021 => exact fun _ _ _ h => h
                            case hy7021 => first | exact Or.inl ⟨by rfl, by intro whSw hSw'; (try dsimp only at hSw'); (first | (go_simp; done) | (go_simp; with_reducible rfl))⟩ | exact Or.inr ⟨by rfl, by with_reducible rfl⟩ | fail
                            try simp only [Act.put, List.setIfInBounds_toArray, List.set_cons_zero, List.set_cons_succ]
                            refine wpAnyH_take (i := 21) (oi := ?oi7022) (v := ?v7022) ?hi7022 (by kernel_rfl) (by kernel_rfl) (by kernel_rfl) ?hq7022 ?hy7022 (by assumption) ?hr7022
                            case hi7022 => (simp only [List.getElem?_toArray, List.getElem?_cons_succ, List.getElem?_cons_zero]; rfl)
                            case hq7022 => exact fun _ _ _ h => h
                            case hy7022 => first | exact Or.inl ⟨by rfl, by intro whSw hSw'; (try dsimp only at hSw'); (first | (go_simp; done) | (go_simp; with_reducible rfl))⟩ | exact Or.inr ⟨by rfl, by with_reducible rfl⟩ | fail
                            try simp only [Act.put, List.setIfInBounds_toArray, List.set_cons_zero, List.set_cons_succ]
                            refine wpAnyH_take (i := 22) (oi := ?oi7023) (v := ?v7023) ?hi7023 (by kernel_rfl) (by kernel_rfl) (by kernel_rfl) ?hq7023 ?hy7023 (by assumption) ?hr7023
                            case hi7023 => (simp only [List.getElem?_toArray, List.getElem?_cons_succ, List.getElem?_cons_zero]; rfl)
                            case hq7023 => exact fun _ _ _ h => h
                            case hy7023 => first | exact Or.inl ⟨by rfl, by intro whSw hSw'; (try dsimp only at hSw'); (first | (go_simp; done) | (go_simp; with_reducible rfl))⟩ | exact Or.inr ⟨by rfl, by with_reducible rfl⟩ | fail
                            try simp only [Act.put, List.setIfInBounds_toArray, List.set_cons_zero, List.set_cons_succ]
                            refine wpAnyH_take (i := 23) (oi := ?oi7024) (v := ?v7024) ?hi7024 (by kernel_rfl) (by kernel_rfl) (by kernel_rfl) ?hq7024 ?hy7024 (by assumption) ?hr7024
                            case hi7024 => (simp only [List.getElem?_toArray, List.getElem?_cons_succ, List.getElem?_cons_zero]; rfl)
                            case hq7024 => exact fun _ _ _ h => h
                            case hy7024 => first | exact Or.inl ⟨by rfl, by intro whSw hSw'; (try dsimp only at hSw'); (first | (go_simp; done) | (go_simp; with_reducible rfl))⟩ | exact Or.inr ⟨by rfl, by with_reducible rfl⟩ | fail
                            try simp only [Act.put, List.setIfInBounds_toArray, List.set_cons_zero, List.set_cons_succ]
                            refine wpAnyH_take (i := 24) (oi := ?oi7025) (v := ?v7025) ?hi7025 (by kernel_rfl) (by kernel_rfl) (by kernel_rfl) ?hq7025 ?hy7025 (by assumption) ?hr7025
                            case hi7025 => (simp only [List.getElem?_toArray, List.getElem?_cons_succ, List.getElem?_cons_zero]; rfl)
                            case hq7025 => exact fun _ _ _ h => h
                            case hy7025 => first | exact Or.inl ⟨by rfl, by intro whSw hSw'; (try dsimp only at hSw'); (first | (go_simp; done) | (go_simp; with_reducible rfl))⟩ | exact Or.inr ⟨by rfl, by with_reducible rfl⟩ | fail
                            try simp only [Act.put, List.setIfInBounds_toArray, List.set_cons_zero, List.set_cons_succ]
                            refine wpAnyH_ready (rs := [25]) (by kernel_rfl) (by simp) ?_
                            refine AllReadyH.cons (o := ?oo7026) ?hi7026 (fun K hK => ?hs7026) ?hm7026
                            case hi7026 => (simp only [List.getElem?_toArray, List.getElem?_cons_succ, List.getElem?_cons_zero]; rfl)
                            · go_simp
                              refine (HD3.out X1).mono ?_
                              rintro e zz1 ⟨rfl, hbzz1⟩
                              have HBzz1 := Lib.hid (HB0.out.trans (hbzz1.mono HB0.out.size))
                              clear hbzz1
                              (try go_wp2_with fail)
                              refine hK.out _ _ ?_ (fun hHeld => ?_)
                              · (try dsimp only); exact HS.out zz1 HBzz1.out
                              clear hK K
                              try simp only [Act.put, List.setIfInBounds_toArray, List.set_cons_zero, List.set_cons_succ]
                              refine wpAnyH_take (i := 26) (oi := ?oi7027) (v := ?v7027) ?hi7027 (by kernel_rfl) (by kernel_rfl) (by kernel_rfl) ?hq7027 ?hy7027 (by assumption) ?hr7027
                              case hi7027 => (simp only [List.getElem?_toArray, List.getElem?_cons_succ, List.getElem?_cons_zero]; rfl)
                              case hq7027 => exact fun _ _ _ h => h
                              case hy7027 => first | exact Or.inl ⟨by rfl, by intro whSw hSw'; (try dsimp only at hSw'); (first | (go_simp; done) | (go_simp; with_reducible rfl))⟩ | exact Or.inr ⟨by rfl, by with_reducible rfl⟩ | fail
                              try simp only [Act.put, List.setIfInBounds_toArray, List.set_cons_zero, List.set_cons_succ]
                              refine wpAnyH_take (i := 27) (oi := ?oi7028) (v := ?v7028) ?hi7028 (by kernel_rfl) (by kernel_rfl) (by kernel_rfl) ?hq7028 ?hy7028 (by assumption) ?hr7028
                              case hi7028 => (simp only [List.getElem?_toArray, List.getElem?_cons_succ, List.getElem?_cons_zero]; rfl)
                              case hq7028 => exact fun _ _ _ h => h
                              case hy7028 => first | exact Or.inl ⟨by rfl, by intro whSw hSw'; (try dsimp only at hSw'); (first | (go_simp; done) | (go_simp; with_reducible rfl))⟩ | exact Or.inr ⟨by rfl, by with_reducible rfl⟩ | fail
                              try simp only [Act.put, List.setIfInBounds_toArray, List.set_cons_zero, List.set_cons_succ]
                              refine wpAnyH_take (i := 28) (oi := ?oi7029) (v := ?v7029) ?hi7029 (by kernel_rfl) (by kernel_rfl) (by kernel_rfl) ?hq7029 ?hy7029 (by assumption) ?hr7029
                              case hi7029 => (simp only [List.getElem?_toArray, List.getElem?_cons_succ, List.getElem?_cons_zero]; rfl)
                              case hq7029 => exact fun _ _ _ h => h
                              case hy7029 => exact Or.inl ⟨by rfl, by intro whSw hSw'; (try dsimp only at hSw'); (first | (go_simp; done) | (go_simp; with_reducible rfl))⟩
                              try simp only [Act.put, List.setIfInBounds_toArray, List.set_cons_zero, List.set_cons_succ]
                              refine wpAnyH_take (i := 29) (oi := ?oi7030) (v := ?v7030) ?hi7030 (by kernel_rfl) (by kernel_rfl) (by kernel_rfl) ?hq7030 ?hy7030 (by assumption) ?hr7030
                              case hi7030 => (simp only [List.getElem?_toArray, List.getElem?_cons_succ, List.getElem?_cons_zero]; rfl)
                              case hq7030 => exact fun _ _ _ h => h
                              case hy7030 => exact Or.inl ⟨by rfl, by intro whSw hSw'; (try dsimp only at hSw'); (first | (go_simp; done) | (go_simp; with_reducible rfl))⟩
                              try simp only [Act.put, List.setIfInBounds_toArray, List.set_cons_zero, List.set_cons_succ]
                              refine wpAnyH_take (i := 30) (oi := ?oi7031) (v := ?v7031) ?hi7031 (by kernel_rfl) (by kernel_rfl) (by kernel_rfl) ?hq7031 ?hy7031 (by assumption) ?hr7031
                              case hi7031 => (simp only [List.getElem?_toArray, List.getElem?_cons_succ, List.getElem?_cons_zero]; rfl)
                              case hq7031 => exact fun _ _ _ h => h
                              case hy7031 => first | exact Or.inl ⟨by rfl, by intro whSw hSw'; (try dsimp only at hSw'); (first | (go_simp; done) | (go_simp; with_reducible rfl))⟩ | exact Or.inr ⟨by rfl, by with_reducible rfl⟩ | fail
                              try simp only [Act.put, List.setIfInBounds_toArray, List.set_cons_zero, List.set_cons_succ]
                              refine wpAnyH_take (i := 31) (oi := ?oi7032) (v := ?v7032) ?hi7032 (by kernel_rfl) (by kernel_rfl) (by kernel_rfl) ?hq7032 ?hy7032 (by assumption) ?hr7032
                              case hi7032 => (simp only [List.getElem?_toArray, List.getElem?_cons_succ, List.getElem?_cons_zero]; rfl)
                              case hq7032 => exact fun _ _ _ h => h
                              case hy7032 => first | exact Or.inl ⟨by rfl, by intro whSw hSw'; (try dsimp only at hSw'); (first | (go_simp; done) | (go_simp; with_reducible rfl))⟩ | exact Or.inr ⟨by rfl, by with_reducible rfl⟩ | fail
                              try simp only [Act.put, List.setIfInBounds_toArray, List.set_cons_zero, List.set_cons_succ]
                              refine wpAnyH_take (i := 32) (oi := ?oi7033) (v := ?v7033) ?hi7033 (by kernel_rfl) (by kernel_rfl) (by kernel_rfl) ?hq7033 ?hy7033 (by assumption) ?hr7033
                              case hi7033 => (simp only [List.getElem?_toArray, List.getElem?_cons_succ, List.getElem?_cons_zero]; rfl)
                              case hq7033 => exact fun _ _ _ h => h
                              case hy7033 => first | exact Or.inl ⟨by rfl, by intro whSw hSw'; (try dsimp only at hSw'); (first | (go_simp; done) | (go_simp; with_reducible rfl))⟩ | exact Or.inr ⟨by rfl, by with_reducible rfl⟩ | fail
                              try simp only [Act.put, List.setIfInBounds_toArray, List.set_cons_zero, List.set_cons_succ]
                              refine wpAnyH_take (i := 33) (oi := ?oi7034) (v := ?v7034) ?hi7034 (by kernel_rfl) (by kernel_rfl) (by kernel_rfl) ?hq7034 ?hy7034 (by assumption) ?hr7034
                              case hi7034 => (simp only [List.getElem?_toArray, List.getElem?_cons_succ, List.getElem?_cons_zero]; rfl)
                              case hq7034 => exact fun _ _ _ h => h
                              case hy7034 => first | exact Or.inl ⟨by rfl, by intro whSw hSw'; (try dsimp only at hSw'); (first | (go_simp; done) | (go_simp; with_reducible rfl))⟩ | exact Or.inr ⟨by rfl, by with_reducible rfl⟩ | fail
                              try simp only [Act.put, List.setIfInBounds_toArray, List.set_cons_zero, List.set_cons_succ]
                              refine wpAnyH_take (i := 34) (oi := ?oi7035) (v := ?v7035) ?hi7035 (by kernel_rfl) (by kernel_rfl) (by kernel_rfl) ?hq7035 ?hy7035 (by assumption) ?hr7035
                              case hi7035 => (simp only [List.getElem?_toArray, List.getElem?_cons_succ, List.getElem?_cons_zero]; rfl)
                              case hq7035 => exact fun _ _ _ h => h
                              case hy7035 => first | exact Or.inl ⟨by rfl, by intro whSw hSw'; (try dsimp only at hSw'); (first | (go_simp; done) | (go_simp; with_reducible rfl))⟩ | exact Or.inr ⟨by rfl, by with_reducible rfl⟩ | fail
                              try simp only [Act.put, List.setIfInBounds_toArray, List.set_cons_zero, List.set_cons_succ]
                              refine wpAnyH_take (i := 35) (oi := ?oi7036) (v := ?v7036) ?hi7036 (by kernel_rfl) (by kernel_rfl) (by kernel_rfl) ?hq7036 ?hy7036 (by assumption) ?hr7036
                              case hi7036 => (simp only [List.getElem?_toArray, List.getElem?_cons_succ, List.getElem?_cons_zero]; rfl)
                              case hq7036 => exact fun _ _ _ h => h
                              case hy7036 => first | exact Or.inl ⟨by rfl, by intro whSw hSw'; (try dsimp only at hSw'); (first | (go_simp; done) | (go_simp; with_reducible rfl))⟩ | exact Or.inr ⟨by rfl, by with_reducible rfl⟩ | fail
                              try simp only [Act.put, List.setIfInBounds_toArray, List.set_cons_zero, List.set_cons_succ]
                              refine wpAnyH_take (i := 36) (oi := ?oi7037) (v := ?v7037) ?hi7037 (by kernel_rfl) (by kernel_rfl) (by kernel_rfl) ?hq7037 ?hy7037 (by assumption) ?hr7037
                              case hi7037 => (simp only [List.getElem?_toArray, List.getElem?_cons_succ, List.getElem?_cons_zero]; rfl)
                              case hq7037 => exact fun _ _ _ h => h
                              case hy7037 => first | exact Or.inl ⟨by rfl, by intro whSw hSw'; (try dsimp only at hSw'); (first | (go_simp; done) | (go_simp; with_reducible rfl))⟩ | exact Or.inr ⟨by rfl, by with_reducible rfl⟩ | fail
                              try simp only [Act.put, List.setIfInBounds_toArray, List.set_cons_zero, List.set_cons_succ]
                              refine wpAnyH_take (i := 37) (oi := ?oi7038) (v := ?v7038) ?hi7038 (by kernel_rfl) (by kernel_rfl) (by kernel_rfl) ?hq7038 ?hy7038 (by assumption) ?hr7038
                              case hi7038 => (simp only [List.getElem?_toArray, List.getElem?_cons_succ, List.getElem?_cons_zero]; rfl)
                              case hq7038 => exact fun _ _ _ h => h
                              case hy7038 => exact Or.inl ⟨by rfl, by intro whSw hSw'; (try dsimp only at hSw'); (first | (go_simp; done) | (go_simp; with_reducible rfl))⟩
                              try simp only [Act.put, List.setIfInBounds_toArray, List.set_cons_zero, List.set_cons_succ]
                              refine wpAnyH_done (by kernel_rfl) ?_ _
                              go_wp2_with fail
                              exact ⟨⟨k + 1, by omega, by go_num, HBzz1⟩, by simp only [Go.RowKit.intOf]; omega⟩
                            exact AllReadyH.nil
                  · obtain rfl : k = n := by omega
                    go_wp2_with fail
                    refine (HA.out _).mono ?_
                    rintro e w4 ⟨rfl, hb4⟩
                    have HB4 := Lib.hid (HBK.out.trans (hb4.mono HBK.out.size))
                    clear hb4
                    go_wp2_with fail
                    go_ret
                    exact ⟨rfl, HB1.out.trans (HB4.out.mono HB1.out.size)⟩
    · obtain ⟨⟨c1, c2⟩, hcc⟩ : ∃ r, checkH h = r := ⟨_, rfl⟩
      rw [assign_err hcc (by rw [hcc] at hok; exact hok)] at HAS
      rw [hcc] at hok
      simp only at HAS hok
      have hcb : (c2 != 0) = true := by simp [hok]
      clear hcc ha
      rw [hn] at hl hc HAS HV ⊢
      unfold maxLen at hl
      clear hv hn
      go_enter Try.func9, Try.ntmps9
      go_wp2_with fail
      refine HAS.out.mono ?_
      rintro e w1 ⟨⟨lv, rfl, hlv⟩, hb1⟩
      obtain ⟨A2, cap2, rfl, hc2⟩ := hlv.form
      have HB1 := Lib.hid hb1
      clear hb1 hlv
      go_wp2_with fail
      go_ret
      exact ⟨rfl, HB1.out⟩

theorem own : ownKnob Try.prog.godebug = none := by kernel_rfl

set_option maxRecDepth 100000 in
theorem lifted (os : Os) (started : os.Started) (H : Type) (enc : TypeId × Value → H) :
    ReturnsInHanded {} Try.checked os 9 .any (Rows.treelabelCommonSpec.pre6 enc Try.prog Try.f9 Rows.treelabelCommonRow.domain false) (Rows.treelabelCommonSpec.post enc Try.prog Try.f9 false true false false) := by
  refine returnsInHanded_of_change (C := Try.checked) own started (by kernel_rfl) Try.func9
    (ChangeSpec.witness6 (enc := enc) (C := Try.checked) false ⟨#[], #[.slice none 0 0, .int .i64 0, .int .i64 0], []⟩ 8 (by kernel_rfl) (by kernel_rfl) (by kernel_rfl) (by kernel_rfl)) ?_
  intro W base args ds gs before hval0 hW hcnd _
  have hval : ∀ (j : Nat) t v, Try.f9.params[j]? = some t → args[j]? = some v → Value.okWide Try.prog W .any base t v := hval0
  have hW' := hW
  have hplt : ∀ x ∈ before, x.block < W.heap.size := fun x hx => hW.lt x hx
  obtain ⟨p, q, hA0, hV, rfl, hfz, hnd⟩ := hW
  have hA : DataW.TrodAll enc Try.prog W 0 (fun _ => true) true Try.f9.params.toList args.toList ds p := hA0
  rw [Try.params9] at hA hval
  obtain ⟨v0, vs0, d0, ds0, p0, q0, hargs, rfl, rfl, h0, r0⟩ := trodAll_cons hA
  obtain ⟨v1, vs1, d1, ds1, p1, q1, rfl, rfl, rfl, h1, r1⟩ := trodAll_cons r0
  obtain ⟨v2, vs2, d2, ds2, p2, q2, rfl, rfl, rfl, h2, r2⟩ := trodAll_cons r1
  obtain ⟨rfl, rfl, rfl⟩ := trodAll_nil r2
  obtain rfl : args = #[v0, v1, v2] := by cases args; simp_all
  obtain ⟨rfl, rfl⟩ := trodVars_none hV
  obtain ⟨l0, s0, m0, n0⟩ := open_rowI (hval 0 22 v0 rfl rfl) h0
  obtain ⟨x1, rfl, m1, n1⟩ := open_i64 (hval 1 3 v1 rfl rfl) h1
  obtain ⟨x2, rfl, m2, n2⟩ := open_i64 (hval 2 3 v2 rfl rfl) h2
  clear hA0 hval0
  refine (walk v0 l0 s0 m0 n0 x1 m1 n1 x2 m2 n2).mono fun e W' ⟨he, bel⟩ => ?_
  subst he
  exact ⟨_, rfl, _, _, _, [], _, [], hW', trodAll_mk1 (shut_bool Try.underlying4 _), (trodAll_cons_mk (Below.trod Try.laidOut (by kernel_rfl) (of_decide_eq_true (by kernel_rfl)) h0 bel (fun x hx => hplt x (by simp [hx]))) (trodAll_cons_mk (Below.trod Try.laidOut (by kernel_rfl) (of_decide_eq_true (by kernel_rfl)) h1 bel (fun x hx => hplt x (by simp [hx]))) (trodAll_cons_mk (Below.trod Try.laidOut (by kernel_rfl) (of_decide_eq_true (by kernel_rfl)) h2 bel (fun x hx => hplt x (by simp [hx]))) trodAll_mk0))), rfl, World.keptBut_mono (fun x hx => ⟨hx, Or.inr (by simpa using hx)⟩) (bel.frame (· ∈ _)), fun h => by cases h⟩

theorem over : Rows.treelabelCommonRow.holds Try.pinned (OpenSpec.ofChange Rows.treelabelCommonSpec) :=
  OpenClaim.holds_of_wide 9 Try.f9 rfl rfl rfl rfl rfl rfl rfl ⟨rfl, rfl, rfl, rfl, rfl⟩ rfl rfl rfl rfl rfl (by kernel_rfl) Try.func9 (by kernel_rfl)
    (of_decide_eq_true (by kernel_rfl)) (by unfold Func.isWrapper; first | (rw [if_pos (by decide +kernel)]; kernel_rfl) | (rw [if_neg (by decide +kernel)]; exact ⟨rfl, rfl⟩))
    (fun os started H enc _ => lifted os started H enc)

/-- THE STATEMENT. -/
theorem proved : Rows.TreelabelCommonSaid := over
end Go.Proofs.Ytjialelklnjcfaa.treelabelCommon
