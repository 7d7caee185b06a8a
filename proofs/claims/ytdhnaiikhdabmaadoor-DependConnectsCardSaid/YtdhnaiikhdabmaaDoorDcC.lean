/-
  WALKS over the reference of depend: Way, Depth.
-/
import Derived.Test.YtdhnaiikhdabmaaDoorDcA
import Derived.Test.YtdhnaiikhdabmaaDoorDaF
namespace Go.Proofs.YtdhnaiikhdabmaaDoor
open Go Go.RowKit Go.Shelf Go.Lib
set_option linter.unusedVariables false
attribute [local go_sem] Oper.semAt_some

theorem own_oneI (w : World) (x : Int) : (w.alloc (.cells #[.int .i64 x] 3)).ownsRow w.heap.size 3 1 (.slice (some ⟨w.heap.size, 0, none⟩) 1 1) 1 [.int .i64 x] :=
  ⟨rfl, .inr ⟨w.heap.size, 1, #[.int .i64 x], rfl, Nat.le_refl _, block_new w _, Nat.le_refl _, by unfold maxLen; omega, rfl, rfl⟩⟩
theorem way_cons {h : List Int} (hO : Okh h) (i : Nat) : ∃ r, way h i = i :: r := ⟨_, way_eq hO i⟩

set_option maxRecDepth 100000 in
set_option maxHeartbeats 4000000 in
theorem refWay_any {w : World} {v : Value} {h : List Int} (hv : Rows 1 EInt w v h) (hO : Okh h) (i : Nat) (hi : i < h.length) :
    Calls Tryd.prog 35 #[v, .int .i64 i] w fun e w' => (∃ vr, e = .returned vr ∧ w'.ownsRow w.heap.size 3 1 vr (way h i).length (natV (way h i))) ∧ Below w.heap.size w w' := by
  obtain ⟨A, cap, rfl, hc⟩ := hv.form
  obtain ⟨n, hn⟩ : ∃ n, h.length = n := ⟨_, rfl⟩
  have HV := Lib.hid (fun W (hb : Below w.heap.size w W) => hv.below stays_int hb)
  have hl := hO.len
  have HAT := Lib.hid (fun t (ht : t < n) => hO.at (i := t) (by rw [hn]; exact ht))
  have hwl := way_len hO hi
  rw [hn] at hc hl hi HV hwl
  have HN := Lib.hid hn
  have HO := Lib.hid hO
  have HWL := Lib.hid hwl
  obtain ⟨L, hL⟩ : ∃ L, way h i = L := ⟨_, rfl⟩
  rw [hL] at HWL ⊢
  obtain ⟨r0, hr0⟩ := way_cons hO i
  have HL := Lib.hid hL
  have HR0 := Lib.hid hr0
  have hcell : ∀ (W : World), Below w.heap.size w W → ∃ bk off, A = some ⟨bk, off, none⟩ ∧ ∀ (j : Nat) (x : Int), h[j]? = some x → W.cell? ⟨bk, off + j, none⟩ = some (.int .i64 x) := fun W hb => by
    obtain ⟨bk, off, h1, h3, h2⟩ := at_int (HV.out W hb) (by rw [HN.out]; omega)
    exact ⟨bk, off, h1, h2⟩
  have HCELL := Lib.hid hcell
  rw [hn]
  clear hn hv hO hwl hL hcell hr0
  go_enter Tryd.func35, Tryd.ntmps35
  go_wp2_with fail
  obtain ⟨wo, rfl⟩ : ∃ wo, wo = w := ⟨_, rfl⟩
  go_loopg [1, 5] (r0.length) (fun gg iv sv wr => ∃ (done rest : List Nat) (t : Nat), iv = .int .i64 t ∧ t < n ∧ rest.length ≤ gg ∧ Hid (L = done ++ rest) ∧ Hid (way h t = t :: rest) ∧ Hid (wr.ownsRow wo.heap.size 3 1 sv done.length (natV done)) ∧ Hid (Below wo.heap.size wo wr))
  case atStart => exact ⟨[i], r0, i, rfl, hi, Nat.le_refl _, Lib.hid (by rw [← HL.out, HR0.out]; rfl), HR0, Lib.hid (own_oneI wo i), Lib.hid (below_box wo _)⟩
  case round =>
    obtain ⟨done, rest, t, rfl, ht, hgg, HD, HR, HOW, HB⟩ := hrel
    obtain ⟨As, cs, rfl, hcs⟩ := own_form HOW.out
    obtain ⟨bk, off, rfl, hcel⟩ := HCELL.out wr HB.out
    have hti : (t : Int) < (n : Int) := by omega
    have hdl : done.length + rest.length ≤ n := by
      have h1 := HWL.out
      have h2 := congrArg List.length HD.out
      rw [List.length_append] at h2
      omega
    have hbase : wo.heap.size ≤ wr.heap.size := HB.out.size
    have HDL := Lib.hid hdl
    have HBS := Lib.hid hbase
    rcases HAT.out t ht with ⟨hx, hs⟩ | ⟨b, hx, hb, hs⟩
    · have hr : rest = [] := by
        have := HR.out
        rw [way_root HO.out hs] at this
        injection this with _ h2
        exact h2.symm
      subst hr
      have hd : L = done := by have := HD.out; rw [List.append_nil] at this; exact this
      subst hd
      have u0 := hcel t _ hx
      clear HR HD hx hs hcel
      go_wp2_with fail
      go_ret
      exact ⟨⟨_, rfl, HOW.out⟩, HB.out⟩
    · have hr : rest = way h b := by
        have := HR.out
        rw [way_step HO.out hs] at this
        injection this with _ h2
        exact h2.symm
      obtain ⟨r1, hr1⟩ := way_cons HO.out b
      have hrr : rest = b :: r1 := hr.trans hr1
      subst hrr
      have HR1 := Lib.hid hr1
      have HD1 := Lib.hid (show L = (done ++ [b]) ++ r1 by rw [HD.out]; simp)
      have hbn : b < n := by rw [← HN.out]; exact hb
      have HBN := Lib.hid hbn
      have u0 := hcel t _ hx
      have hgl := hgg
      simp only [List.length_cons] at hgl
      have HGL := Lib.hid hgl
      have hb0 : ¬ (b : Int) < 0 := by omega
      have hb1 : (b : Int) ≥ 0 := by omega
      simp only [List.length_cons] at HDL
      clear HR HD hx hs hcel hr hr1 hdl hbase hb hbn hgg hgl
      go_wp2_with (at_builtin; refine wpList_pushI rfl (.tmp 17) (.tmp 19) rfl wo.heap.size _ _ _ (b : Int) rfl rfl HOW.out (by have := HDL.out; omega) HBS.out ?_; intro v' w' HO2 HB2 HK2; have HB' := Lib.hid (HB2.out _ _ HB.out (Nat.le_refl _)); clear HK2)
      go_roundg r1.length
      case measure => have := HGL.out; omega
      case rel => exact ⟨done ++ [b], r1, b, rfl, HBN.out, Nat.le_refl _, HD1, HR1, Lib.hid (by rw [natV_app, List.length_append]; exact HO2.out), HB'⟩

set_option maxRecDepth 100000 in
set_option maxHeartbeats 4000000 in
theorem refDepth_any {w : World} {v : Value} {h : List Int} (hv : Rows 1 EInt w v h) (hl : h.length ≤ maxLen) (i : Int) :
    Calls Tryd.prog 16 #[v, .int .i64 i] w fun e w' => e = .returned (.int .i64 (depthH h i)) ∧ Below w.heap.size w w' := by
  have HVA := Lib.hid (refValid_any hv hl)
  unfold depthH
  by_cases hok : okH h = true
  · rw [hok] at HVA
    have hO := okh_iff.1 hok
    by_cases hi : 0 ≤ i ∧ i < (h.length : Int)
    · rw [if_pos ⟨hok, hi⟩]
      obtain ⟨t, rfl⟩ : ∃ t : Nat, i = (t : Int) := ⟨i.toNat, by omega⟩
      have ht : t < h.length := by omega
      rw [Int.toNat_natCast]
      have HW := Lib.hid (fun (W : World) (hb : Below w.heap.size w W) => refWay_any (hv.below stays_int hb) hO t ht)
      have hwl := way_len hO ht
      have hwp : 0 < (way h t).length := by
        obtain ⟨r, hr⟩ := way_cons hO t
        rw [hr]; simp
      obtain ⟨A, cap, rfl, hc⟩ := hv.form
      obtain ⟨n, hn⟩ : ∃ n, h.length = n := ⟨_, rfl⟩
      obtain ⟨L, hL⟩ : ∃ L, way h t = L := ⟨_, rfl⟩
      have hl4 := hO.len
      rw [hn] at HVA HW hi hc hl ht hwl hl4 ⊢
      rw [hL] at HW hwl hwp ⊢
      obtain ⟨m, hm⟩ : ∃ m, L.length = m := ⟨_, rfl⟩
      rw [hm] at HW hwl hwp ⊢
      have e1 : ¬ (t : Int) < 0 := by omega
      have e2 : ¬ (t : Int) ≥ (n : Int) := by omega
      clear hok hO hv hn hL hm
      go_enter Tryd.func16, Tryd.ntmps16
      go_wp2_with fail
      refine HVA.out.mono ?_
      rintro e w1 ⟨rfl, hb1⟩
      have HB1 := Lib.hid hb1
      clear hb1
      go_wp2_with fail
      refine (HW.out w1 HB1.out).mono ?_
      rintro e w2 ⟨⟨vr, rfl, ho⟩, hb2⟩
      obtain ⟨A2, c2, rfl, hc2⟩ := own_form ho
      have HB2 := Lib.hid (HB1.out.trans (hb2.mono HB1.out.size))
      clear hb2 ho
      go_wp2_with fail
      go_ret
      refine ⟨?_, HB2.out⟩
      go_num
    · rw [if_neg (fun hh => hi hh.2)]
      obtain ⟨A, cap, rfl, hc⟩ := hv.form
      obtain ⟨n, hn⟩ : ∃ n, h.length = n := ⟨_, rfl⟩
      rw [hn] at HVA hi hc hl ⊢
      unfold maxLen at hl
      clear hok hO hv hn
      by_cases e1 : i < 0
      · clear hi
        go_enter Tryd.func16, Tryd.ntmps16
        go_wp2_with fail
        refine HVA.out.mono ?_
        rintro e w1 ⟨rfl, hb1⟩
        have HB1 := Lib.hid hb1
        clear hb1
        go_wp2_with fail
        go_ret
        exact ⟨rfl, HB1.out⟩
      · have e2 : i ≥ (n : Int) := by omega
        clear hi
        go_enter Tryd.func16, Tryd.ntmps16
        go_wp2_with fail
        refine HVA.out.mono ?_
        rintro e w1 ⟨rfl, hb1⟩
        have HB1 := Lib.hid hb1
        clear hb1
        go_wp2_with fail
        go_ret
        exact ⟨rfl, HB1.out⟩
  · rw [if_neg (fun hh => hok hh.1)]
    have hok2 : okH h = false := by simpa using hok
    rw [hok2] at HVA
    obtain ⟨A, cap, rfl, hc⟩ := hv.form
    clear hok hok2 hv hl hc
    go_enter Tryd.func16, Tryd.ntmps16
    go_wp2_with fail
    refine HVA.out.mono ?_
    rintro e w1 ⟨rfl, hb1⟩
    have HB1 := Lib.hid hb1
    clear hb1
    go_wp2_with fail
    go_ret
    exact ⟨rfl, HB1.out⟩
end Go.Proofs.YtdhnaiikhdabmaaDoor
