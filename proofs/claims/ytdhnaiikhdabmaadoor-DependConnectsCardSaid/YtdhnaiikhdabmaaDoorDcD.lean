/-
  WALKS over the reference of depend: Path.
-/
import Derived.Test.YtdhnaiikhdabmaaDoorDcC
namespace Go.Proofs.YtdhnaiikhdabmaaDoor
open Go Go.RowKit Go.Shelf Go.Lib
set_option linter.unusedVariables false
attribute [local go_sem] Oper.semAt_some

theorem joinW_miss {X Y : List Nat} (h : ∀ (j y : Nat), X[j]? = some y → y ∉ Y) : joinW X Y = ([], 11) := by
  unfold joinW
  have h1 : X.findIdx? (fun x => Y.contains x) = none := by
    rw [List.findIdx?_eq_none_iff]
    intro x hx
    obtain ⟨j, hj⟩ := List.getElem?_of_mem hx
    simpa using h j x hj
  rw [h1]
theorem drop_prev {Y : List Nat} {k d y : Nat} (hy : Y[d]? = some y) (hd : d < k) (T : List Nat) : (T ++ ((Y.take k).drop (d + 1)).reverse) ++ [y] = T ++ ((Y.take k).drop d).reverse := by
  have hdl := (List.getElem?_eq_some_iff.1 hy).1
  have h1 : (Y.take k).drop d = y :: (Y.take k).drop (d + 1) := by
    have hl : d < (Y.take k).length := by rw [List.length_take]; omega
    rw [List.drop_eq_getElem_cons hl]
    congr 1
    rw [List.getElem_take]
    exact (List.getElem?_eq_some_iff.1 hy).2
  rw [h1, List.reverse_cons, List.append_assoc]

set_option maxRecDepth 100000 in
set_option maxHeartbeats 8000000 in
theorem refPath_ok {w : World} {v : Value} {h : List Int} (hv : Rows 1 EInt w v h) (hl : h.length ≤ maxLen) (hok : okH h = true) (a b : Nat) (ha : a < h.length) (hb : b < h.length) :
    Calls Tryd.prog 18 #[v, .int .i64 a, .int .i64 b] w fun e w' => (∃ vr, e = .returned (.tuple #[vr, .int .i64 (joinW (way h a) (way h b)).2]) ∧ RN w' vr (joinW (way h a) (way h b)).1) ∧ Below w.heap.size w w' := by
  have HVA := Lib.hid (refValid_any hv hl)
  rw [hok] at HVA
  have hO := okh_iff.1 hok
  have HWA := Lib.hid (fun (W : World) (hb : Below w.heap.size w W) => refWay_any (hv.below stays_int hb) hO a ha)
  have HWB := Lib.hid (fun (W : World) (hb' : Below w.heap.size w W) => refWay_any (hv.below stays_int hb') hO b hb)
  have hxl := way_len hO ha
  have hyl := way_len hO hb
  have hl4 := hO.len
  obtain ⟨A, cap, rfl, hc⟩ := hv.form
  obtain ⟨N, hN⟩ : ∃ n, h.length = n := ⟨_, rfl⟩
  obtain ⟨X, hX⟩ : ∃ L, way h a = L := ⟨_, rfl⟩
  obtain ⟨Y, hY⟩ : ∃ L, way h b = L := ⟨_, rfl⟩
  rw [hX] at HWA hxl ⊢
  rw [hY] at HWB hyl ⊢
  rw [hN] at HVA HWA HWB ha hb hxl hyl hl4 hc hl ⊢
  obtain ⟨n, hn⟩ : ∃ n, X.length = n := ⟨_, rfl⟩
  obtain ⟨m, hm⟩ : ∃ n, Y.length = n := ⟨_, rfl⟩
  rw [hn] at HWA hxl
  rw [hm] at HWB hyl
  have HN := Lib.hid (And.intro hn hm)
  have HXL := Lib.hid (And.intro hxl (And.intro hyl hl4))
  have HSOME := Lib.hid (fun (i k x : Nat) => joinW_some (X := X) (Y := Y) (i := i) (k := k) (x := x))
  have HMISS := Lib.hid (joinW_miss (X := X) (Y := Y))
  obtain ⟨J, hJ⟩ : ∃ J, joinW X Y = J := ⟨_, rfl⟩
  rw [hJ] at HMISS ⊢
  simp only [hJ] at HSOME
  have ea : ¬ (a : Int) < 0 := by omega
  have ea2 : ¬ (a : Int) ≥ (N : Int) := by omega
  have eb : ¬ (b : Int) < 0 := by omega
  have eb2 : ¬ (b : Int) ≥ (N : Int) := by omega
  clear hok hO hv hN hX hY hn hm hJ hl ha hb
  go_enter Tryd.func18, Tryd.ntmps18
  go_wp2_with fail
  refine HVA.out.mono ?_
  rintro e w1 ⟨rfl, hb1⟩
  have HB1 := Lib.hid hb1
  clear hb1
  go_wp2_with fail
  refine (HWA.out w1 HB1.out).mono ?_
  rintro e w2 ⟨⟨vx, rfl, hox⟩, hb2⟩
  obtain ⟨Ax, cx, rfl, hcx⟩ := own_form hox
  have HB2 := Lib.hid (HB1.out.trans (hb2.mono HB1.out.size))
  have HX2 := Lib.hid (rn_own hox).1
  clear hb2 hox
  go_wp2_with fail
  refine (HWB.out w2 HB2.out).mono ?_
  rintro e w3 ⟨⟨vy, rfl, hoy⟩, hb3⟩
  obtain ⟨Ay, cy, rfl, hcy⟩ := own_form hoy
  have HB3 := Lib.hid (HB2.out.trans (hb3.mono HB2.out.size))
  have HX3 := Lib.hid (fun W (hb : Below w3.heap.size w3 W) => (HX2.out.below (hb3.trans (hb.mono hb3.size))))
  have HY3 := Lib.hid (fun W (hb : Below w3.heap.size w3 W) => (rn_own hoy).1.below hb)
  clear hb3 hoy HX2 HWA HWB HVA
  go_wp2_with fail
  go_loopw [45] (fun iv wr => ∃ i : Nat, i ≤ n ∧ iv = .int .i64 i ∧ Hid (∀ (j y : Nat), j < i → X[j]? = some y → y ∉ Y) ∧ Hid (Below w3.heap.size w3 wr)) (fun iv _ => n - (Go.RowKit.intOf iv).toNat)
  case atStart => exact ⟨0, Nat.zero_le _, rfl, Lib.hid (fun j y h => absurd h (by omega)), Lib.hid (Below.refl _ _)⟩
  case round =>
    obtain ⟨i, hin, rfl, HL, HB⟩ := hrel
    by_cases hlt : i < n
    · have hlti : (i : Int) < (n : Int) := by omega
      obtain ⟨x, hx⟩ : ∃ x, X[i]? = some x := ⟨_, List.getElem?_eq_getElem (by rw [HN.out.1]; exact hlt)⟩
      have HX := Lib.hid hx
      clear hx
      go_wp2_with fail
      go_loopw [50] (fun kv wr => ∃ k : Nat, k ≤ m ∧ kv = .int .i64 k ∧ Hid (∀ (j y : Nat), j < k → Y[j]? = some y → y ≠ x) ∧ Hid (Below w3.heap.size w3 wr)) (fun kv _ => m - (Go.RowKit.intOf kv).toNat)
      case atStart => exact ⟨0, Nat.zero_le _, rfl, Lib.hid (fun j y h => absurd h (by omega)), HB⟩
      case round =>
        clear HB
        obtain ⟨k, hkm, rfl, HK, HB⟩ := hrel
        by_cases hlt2 : k < m
        · have hlti2 : (k : Int) < (m : Int) := by omega
          obtain ⟨y, hy⟩ : ∃ y, Y[k]? = some y := ⟨_, List.getElem?_eq_getElem (by rw [HN.out.2]; exact hlt2)⟩
          obtain ⟨b1, o1, rfl, -, hj1⟩ := at_int (HX3.out _ HB.out).rows (by rw [intsN_len, HN.out.1]; omega)
          obtain ⟨b2, o2, rfl, -, hj2⟩ := at_int (HY3.out _ HB.out).rows (by rw [intsN_len, HN.out.2]; omega)
          have u1 := hj1 i x (intsN_get HX.out)
          have u2 := hj2 k y (intsN_get hy)
          have HY := Lib.hid hy
          have i0 : (0 : Int) ≤ (i : Int) := by omega
          have k0 : (0 : Int) ≤ (k : Int) := by omega
          clear hj1 hj2 hy
          by_cases he : x = y
          · subst he
            have ebb : ((x : Int) != (x : Int)) = false := by simp
            have hF := HSOME.out i k x HX.out HY.out HL.out (fun j hj e => HK.out j x hj e rfl)
            subst hF
            have HTK := Lib.hid (show (X.take (i + 1)).length = i + 1 by rw [List.length_take, HN.out.1]; omega)
            have hsl := fun W => sliceI_to (some ⟨b1, o1, none⟩) n cx (i + 1) (by omega) hcx W
            rw [show (((i + 1 : Nat) : Nat) : Int) = (i : Int) + 1 by omega] at hsl
            have HSL := Lib.hid hsl
            clear HL HK HMISS HSOME hsl
            go_wp2_with fail
            go_quiet (fail)
            obtain ⟨w4, hw4⟩ : ∃ W, wr.drewN nq = W := ⟨_, rfl⟩
            rw [hw4]
            have HB4 := Lib.hid (show Below w3.heap.size w3 w4 by rw [← hw4]; exact below_drewN HB.out nq)
            clear hw4 u1 u2
            obtain ⟨i1, hi1, hy0, hy1, hy2⟩ := info_parts' Tryd.infoInt2
            have HSX := Lib.hid ((HX3.out w4 HB4.out).take (k := i + 1) (by omega) (by simp))
            have HBN := Lib.hid (show i + 1 ≤ 4096 ∧ k ≤ 4096 by have := HXL.out; omega)
            go_wp2_with (at_builtin; refine wpList_append_sees rfl (.const (.slice none 0 0)) (.tmp 65) 22 rfl w4.heap.size 3 i1 _ 8 Tryd.underlying22 hi1 hy0 hy1 hy2 (by decide) _ 0 [] rfl (World.ownsRow_nil _ _ _ 1) _ w4.heap.size (natV (X.take (i + 1))) rfl HSX.out (natV_one _) (by rw [natV_len, HTK.out]; unfold maxLen; have := HBN.out; omega) (by rw [natV_len, HTK.out]; have := HBN.out; omega) (Nat.le_refl _) ?_; intro v5 w5 ho5 hg5 _; have HG5 := Lib.hid (below_of_grown hg5 (Nat.le_refl _) (fun k e => by cases e)); have HO5 := Lib.hid ho5; obtain ⟨A5, c5, rfl, hc5⟩ := own_form ho5; clear ho5 hg5 hc5)
            have ho5 := HO5.out
            rw [List.nil_append, Nat.zero_add, natV_len, HTK.out] at ho5
            have HO5' := Lib.hid ho5
            have HT0 := Lib.hid (show X.take (i + 1) ++ ((Y.take k).drop k).reverse = X.take (i + 1) by rw [List.drop_eq_nil_of_le (by rw [List.length_take]; omega)]; simp)
            clear HO5 ho5
            go_loopw [12, 13] (fun sv jv wr => ∃ d : Nat, d ≤ k ∧ jv = .int .i64 ((d : Int) - 1) ∧ Hid (wr.ownsRow w4.heap.size 3 1 sv (i + 1 + (k - d)) (natV (X.take (i + 1) ++ ((Y.take k).drop d).reverse))) ∧ Hid (Below w4.heap.size w4 wr)) (fun _ jv _ => (Go.RowKit.intOf jv + 1).toNat)
            case atStart =>
              refine ⟨k, Nat.le_refl _, ?_, Lib.hid ?_, HG5⟩
              · go_num
              · rw [HT0.out, Nat.sub_self, Nat.add_zero, natV_len, HTK.out]
                exact HO5'.out
            case round =>
              clear HO5' HG5
              obtain ⟨d, hd, rfl, HO6, HB6⟩ := hrel
              obtain ⟨A6, c6, rfl, hc6⟩ := own_form HO6.out
              clear hc6
              cases d with
              | zero =>
                go_wp2_with fail
                go_ret2
                exact ⟨⟨_, rfl, (rn_own HO6.out).1⟩, HB3.out.trans ((HB4.out.trans (HB6.out.mono HB4.out.size)).mono HB3.out.size)⟩
              | succ d =>
                rw [show (((d + 1 : Nat) : Int) - 1) = (d : Int) by omega]
                have hB36 : Below w3.heap.size w3 wr := HB4.out.trans (HB6.out.mono HB4.out.size)
                obtain ⟨z, hz⟩ : ∃ y, Y[d]? = some y := ⟨_, List.getElem?_eq_getElem (by rw [HN.out.2]; omega)⟩
                obtain ⟨_, _, he2, -, hj2⟩ := at_int (HY3.out wr hB36).rows (by rw [intsN_len, HN.out.2]; omega)
                cases he2
                have u0 := hj2 d z (intsN_get hz)
                have d0 : (0 : Int) ≤ (d : Int) := by omega
                have dm : (d : Int) < (m : Int) := by omega
                have HD1 := Lib.hid (drop_prev hz (show d < k by omega) (X.take (i + 1)))
                have hkk : k ≤ 4096 := HBN.out.2
                have HBS := Lib.hid (show w4.heap.size ≤ wr.heap.size from HB6.out.size)
                have HDK := Lib.hid (show d < k by omega)
                clear hj2 hz hB36 hd hkk
                go_wp2_with (at_builtin; refine wpList_pushI rfl (.tmp 73) (.tmp 78) rfl w4.heap.size _ _ _ (z : Int) rfl rfl HO6.out (by have := HBN.out; omega) HBS.out ?_; intro v' w' HO7 HB7 HK7; have HB8 := Lib.hid (HB7.out _ _ HB6.out (Nat.le_refl _)); have HO8 := HO7; obtain ⟨A7, c7, rfl, hc7⟩ := own_form HO7.out; clear HK7 hc7 HB7 HO7)
                refine ⟨⟨d, by have := HDK.out; omega, by go_num, Lib.hid ?_, HB8⟩, ?_⟩
                · have h1 := HO8.out
                  rw [← HD1.out, natV_app]
                  rw [show i + 1 + (k - d) = i + 1 + (k - (d + 1)) + 1 by have := HDK.out; omega]
                  exact h1
                · simp only [Go.RowKit.intOf]; omega
          · have ebb : ((x : Int) != (y : Int)) = true := by simp <;> omega
            have hne : ¬ ((x : Int) = (y : Int)) := by omega
            have HK2 := Lib.hid (show ∀ (j z : Nat), j < k + 1 → Y[j]? = some z → z ≠ x from fun j z hj hz => by
              by_cases e : j = k
              · subst e
                rw [HY.out] at hz
                cases hz
                exact fun e => he e.symm
              · exact HK.out j z (by omega) hz)
            clear HY HK he
            go_wp2_with fail
            go_quiet (fail)
            go_wp2_with fail
            exact ⟨⟨k + 1, by omega, by go_num, HK2, Lib.hid (below_drewN HB.out _)⟩, by simp only [Go.RowKit.intOf]; omega⟩
        · obtain rfl : k = m := by omega
          have HL2 := Lib.hid (show ∀ (j y : Nat), j < i + 1 → X[j]? = some y → y ∉ Y from fun j y hj hy hm => by
            by_cases e : j = i
            · subst e
              rw [HX.out] at hy
              cases hy
              obtain ⟨p, hp⟩ := List.getElem?_of_mem hm
              exact HK.out p _ (by rw [← HN.out.2]; exact (List.getElem?_eq_some_iff.1 hp).1) hp rfl
            · exact HL.out j y (by omega) hy hm)
          clear HL HK HX
          go_wp2_with fail
          exact ⟨⟨i + 1, by omega, by go_num, HL2, HB⟩, by simp only [Go.RowKit.intOf]; omega⟩
    · obtain rfl : i = n := by omega
      have hF := HMISS.out (fun j y hy => HL.out j y (by rw [← HN.out.1]; exact (List.getElem?_eq_some_iff.1 hy).1) hy)
      subst hF
      go_wp2_with fail
      go_ret2
      exact ⟨⟨_, rfl, RN.nil _⟩, HB3.out.trans (HB.out.mono HB3.out.size)⟩
end Go.Proofs.YtdhnaiikhdabmaaDoor
