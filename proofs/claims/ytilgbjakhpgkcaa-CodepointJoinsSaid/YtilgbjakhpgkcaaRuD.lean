/-
  WALKS over package corporaref01, fourth part: Reverse, sign, Compare, over strings of at most 400 bytes.
-/
import Derived.Test.YtilgbjakhpgkcaaRuC
import Derived.Test.YtilgbjakhpgkcaaOrM
namespace Go.Proofs.Ytilgbjakhpgkcaa
open Go.RowKit Go.Shelf Go.Lib

theorem nextB2 {a b c : World} (h : Below a.heap.size a b) (k : Below b.heap.size b c) : Below a.heap.size a c := h.trans (k.mono h.size)
theorem ba_eq {T : ByteArray} {l : List UInt8} (h : T.data.toList = l) : T = ⟨l.toArray⟩ := by
  subst h
  exact ByteArray.ext (by simp)

set_option maxRecDepth 100000 in
set_option maxHeartbeats 1000000 in
theorem refReverse_any (s : ByteArray) (hs : s.size ≤ 400) (w : World) :
    Calls Try.prog 26 #[.string s] w fun e w' => e = .returned (.string ⟨(revL s).toArray⟩) ∧ Below w.heap.size w w' := by
  have HU := Lib.hid (fun w => refUnits_row s hs w)
  have hul := units_le s
  have hfit : ∀ x ∈ units s, x.p + x.w ≤ s.size ∧ 1 ≤ x.w ∧ x.w ≤ 4 := fun x hx => by
    obtain ⟨_, h2, h3, h4, _⟩ := units_fit _ _ _ hx
    rw [← Lib.size_eq] at h2
    exact ⟨by omega, h3, h4⟩
  unfold revL
  obtain ⟨us, hus⟩ : ∃ us, units s = us := ⟨_, rfl⟩
  rw [hus] at HU hul hfit ⊢
  have hn : us.length ≤ 400 := by omega
  have HF := Lib.hid hfit
  clear hul hus hfit
  go_enter Try.func26, Try.ntmps26
  go_wp2_with fail
  refine (HU.out _).mono ?_
  rintro e w1 (⟨rfl, rfl, hb⟩ | ⟨g, cap, rfl, hg, hrow, hb⟩)
  · have HB := Lib.hid hb
    clear hb
    go_wp2_with fail
    go_loopw [3, 9] (fun t i wr => t = .string ⟨#[]⟩ ∧ i = .int .i64 0 ∧ Below w.heap.size w wr) (fun _ _ _ => 0)
    case atStart => exact ⟨rfl, rfl, HB.out⟩
    case round =>
      obtain ⟨rfl, rfl, hb2⟩ := hrel
      go_wp2
      go_ret
      exact ⟨rfl, hb2⟩
  · have HB := Lib.hid hb
    have HR := Lib.hid hrow
    clear hb hrow
    go_wp2_with fail
    go_loopw [3, 9] (fun t i wr => ∃ (k : Nat) (T : ByteArray), k ≤ us.length ∧ i = .int .i64 k ∧ t = .string T ∧ T.size ≤ 4 * k ∧ T.data.toList = (us.take k).reverse.flatMap (txt s) ∧ URow wr g us ∧ Below w.heap.size w wr) (fun _ i _ => us.length - (intOf i).toNat)
    case atStart => exact ⟨0, ⟨#[]⟩, Nat.zero_le _, rfl, rfl, Nat.le_refl _, rfl, HR.out, HB.out⟩
    case round =>
      obtain ⟨k, T, hk, rfl, rfl, hts, hT, hrow, hbel⟩ := hrel
      by_cases hlt : k < us.length
      · obtain ⟨b, hbad⟩ : ∃ b, (!badU us[k]) = b := ⟨_, rfl⟩
        obtain ⟨l0, l1, l2, l3⟩ := hrow.at0 (c := us[k].c) (p := us[k].p) (n := us[k].w) hlt rfl hbad
        obtain ⟨hf1, hf2, hf3⟩ := HF.out _ (List.getElem_mem hlt)
        have hbt : (s.extract us[k].p (us[k].p + us[k].w)).data.toList = txt s us[k] := by
          unfold txt
          rw [Lib.extract_data]
          congr 1
          omega
        have hnext : (s.extract us[k].p (us[k].p + us[k].w) ++ T).data.toList = (us.take (k + 1)).reverse.flatMap (txt s) ∧ (s.extract us[k].p (us[k].p + us[k].w) ++ T).size ≤ 4 * (k + 1) := by
          have h1 : (s.extract us[k].p (us[k].p + us[k].w) ++ T).data.toList = (us.take (k + 1)).reverse.flatMap (txt s) := by
            rw [List.take_succ_eq_append_getElem hlt, List.reverse_append, List.flatMap_append, ← hT]
            rw [ByteArray.data_append, Array.toList_append, hbt]
            simp
          refine ⟨h1, ?_⟩
          have h2 : (txt s us[k]).length ≤ us[k].w := by unfold txt; rw [List.length_take]; omega
          rw [Lib.size_eq, ByteArray.data_append, Array.toList_append, List.length_append, hbt, ← Lib.size_eq]
          omega
        obtain ⟨c, hc⟩ : ∃ c, us[k].c = c := ⟨_, rfl⟩
        obtain ⟨p, hp⟩ : ∃ p, us[k].p = p := ⟨_, rfl⟩
        obtain ⟨n, hn'⟩ : ∃ n, us[k].w = n := ⟨_, rfl⟩
        rw [hc] at l0
        rw [hp] at l1 hf1 hnext
        rw [hn'] at l2 hf1 hf2 hf3 hnext
        have hsl : (s.extract p (p + n)).size = n := by
          rw [Lib.size_eq, Lib.extract_data, List.length_take, List.length_drop, ← Lib.size_eq]
          omega
        have HN := Lib.hid hnext
        have HB2 := Lib.hid hbel
        have HR2 := Lib.hid hrow
        have hlt2 : k < us.length := hlt
        clear hnext hc hp hn' hbel hrow hbad hbt hT
        go_wp2
        go_roundw
        case rel => exact ⟨k + 1, _, by omega, by go_num, rfl, HN.out.2, HN.out.1, HR2.out.alloc _, HB2.out.alloc HB2.out.size _⟩
        case measure => simp [intOf]; omega
      · have HT := Lib.hid (show T.data.toList = us.reverse.flatMap (txt s) by rw [hT, List.take_of_length_le (by omega)])
        have HB2 := Lib.hid hbel
        clear hT hbel hrow
        go_wp2
        go_ret
        exact ⟨by rw [← ba_eq HT.out]; rfl, HB2.out⟩

theorem refSign_any (x : Int) (w : World) :
    Calls Try.prog 37 #[.int .i64 x] w fun e w' => e = .returned (.int .i64 (ordI x 0)) ∧ w = w' := by
  by_cases h1 : x < 0
  · have e : ordI x 0 = -1 := by simp [ordI, h1]
    rw [e]
    go_enter Try.func37, Try.ntmps37
    go_wp2
    go_ret
    exact ⟨rfl, rfl⟩
  · by_cases h2 : 0 < x
    · have e : ordI x 0 = 1 := by simp [ordI, h1, h2]
      rw [e]
      go_enter Try.func37, Try.ntmps37
      go_wp2
      go_ret
      exact ⟨rfl, rfl⟩
    · have e : ordI x 0 = 0 := by simp [ordI, h1, h2]
      rw [e]
      go_enter Try.func37, Try.ntmps37
      go_wp2
      go_ret
      exact ⟨rfl, rfl⟩

/-- A row, nil where there is nothing. -/
def RowOf (W : World) (B : Nat) (ao : Option Addr) (us : List U) : Prop := 0 < us.length → ∃ g, ao = some ⟨g, 0, none⟩ ∧ B ≤ g ∧ URow W g us
theorem refUnits_gen (s : ByteArray) (hs : s.size ≤ 400) (w : World) :
    Calls Try.prog 14 #[.string s] w fun e w' => ∃ ao cap, e = .returned (.slice ao (units s).length cap) ∧ RowOf w' w.heap.size ao (units s) ∧ Below w.heap.size w w' := by
  refine (refUnits_row s hs w).mono ?_
  rintro e w' (⟨rfl, h0, hb⟩ | ⟨g, cap, rfl, hg, hr, hb⟩)
  · rw [h0]
    exact ⟨none, 0, rfl, (fun h => by simp at h), hb⟩
  · exact ⟨_, _, rfl, fun _ => ⟨g, rfl, hg, hr⟩, hb⟩
theorem RowOf.below {W W' : World} {B : Nat} {ao : Option Addr} {us : List U} (h : RowOf W B ao us) (hb : Below W.heap.size W W') : RowOf W' B ao us := fun h0 => by
  obtain ⟨g, h1, h2, h3⟩ := h h0
  exact ⟨g, h1, h2, h3.keep (hb.block g h3.lt)⟩
theorem RowOf.drew {W : World} {B : Nat} {ao : Option Addr} {us : List U} (h : RowOf W B ao us) : RowOf W.drew B ao us := fun h0 => by
  obtain ⟨g, h1, h2, h3⟩ := h h0
  exact ⟨g, h1, h2, h3.keep rfl⟩

/-- The code points of the first k units agree. -/
def AgreeK (us vs : List U) (k : Nat) : Prop := (us.take k).map (·.c) = (vs.take k).map (·.c)
theorem agreeK_split {us vs : List U} {k : Nat} (h : AgreeK us vs k) : cmpC (us.map (·.c)) (vs.map (·.c)) = cmpC ((us.drop k).map (·.c)) ((vs.drop k).map (·.c)) := by
  have e1 : us.map (·.c) = (us.take k).map (·.c) ++ (us.drop k).map (·.c) := by rw [← List.map_append, List.take_append_drop]
  have e2 : vs.map (·.c) = (vs.take k).map (·.c) ++ (vs.drop k).map (·.c) := by rw [← List.map_append, List.take_append_drop]
  rw [e1, e2, h, cmpC_app]
theorem agreeK_differ {us vs : List U} {k : Nat} (h : AgreeK us vs k) (h1 : k < us.length) (h2 : k < vs.length) (hne : us[k].c ≠ vs[k].c) : cmpC (us.map (·.c)) (vs.map (·.c)) = ordI ((us[k].c : Int) - (vs[k].c : Int)) 0 ∧ cmpC (us.map (·.c)) (vs.map (·.c)) ≠ 0 := by
  rw [agreeK_split h, List.drop_eq_getElem_cons h1, List.drop_eq_getElem_cons h2, List.map_cons, List.map_cons]
  simp only [cmpC]
  unfold ordI
  by_cases h3 : us[k].c < vs[k].c
  · rw [if_pos h3, if_pos (by omega)]
    exact ⟨rfl, by decide⟩
  · rw [if_neg h3, if_pos (by omega), if_neg (by omega), if_pos (by omega)]
    exact ⟨rfl, by decide⟩
theorem agreeK_end {us vs : List U} {k : Nat} (h : AgreeK us vs k) (hk : ¬ (k < us.length ∧ k < vs.length)) (h1 : k ≤ us.length) (h2 : k ≤ vs.length) : cmpC (us.map (·.c)) (vs.map (·.c)) = ordI ((us.length : Int) - (vs.length : Int)) 0 := by
  rw [agreeK_split h]
  unfold ordI
  by_cases h3 : k < us.length
  · have e : vs.drop k = [] := List.drop_eq_nil_of_le (by omega)
    rw [e, List.drop_eq_getElem_cons h3]
    simp only [List.map_cons, List.map_nil, cmpC]
    rw [if_neg (by omega), if_pos (by omega)]
  · by_cases h4 : k < vs.length
    · have e : us.drop k = [] := List.drop_eq_nil_of_le (by omega)
      rw [e, List.drop_eq_getElem_cons h4]
      simp only [List.map_cons, List.map_nil, cmpC]
      rw [if_pos (by omega)]
    · have e : us.drop k = [] := List.drop_eq_nil_of_le (by omega)
      have e2 : vs.drop k = [] := List.drop_eq_nil_of_le (by omega)
      rw [e, e2, if_neg (by omega), if_neg (by omega)]
      rfl
theorem agreeK_step {us vs : List U} {k : Nat} (h : AgreeK us vs k) (h1 : k < us.length) (h2 : k < vs.length) (he : us[k].c = vs[k].c) : AgreeK us vs (k + 1) := by
  unfold AgreeK at *
  rw [List.take_succ_eq_append_getElem h1, List.take_succ_eq_append_getElem h2, List.map_append, List.map_append, h, List.map_cons, List.map_cons, he]

theorem cmp_ends (a b : ByteArray) (us vs : List U) (r : Int) (hr : r = if cmpC (us.map (·.c)) (vs.map (·.c)) = 0 then compareBytes a.data.toList b.data.toList else cmpC (us.map (·.c)) (vs.map (·.c)))
    (he : cmpC (us.map (·.c)) (vs.map (·.c)) = ordI ((us.length : Int) - (vs.length : Int)) 0) :
    (us.length ≠ vs.length → r = ordI ((us.length : Int) - (vs.length : Int)) 0) ∧
    (us.length = vs.length → r = if Op.bytesLess a.toList b.toList = true then -1 else if (a.toList == b.toList) = true then 0 else 1) := by
  rw [he] at hr
  constructor
  · intro h
    rw [if_neg] at hr
    · exact hr
    · unfold ordI
      by_cases h1 : (us.length : Int) - vs.length < 0
      · rw [if_pos h1]; decide
      · rw [if_neg h1, if_pos (by omega)]; decide
  · intro h
    have h0 : ordI ((us.length : Int) - (vs.length : Int)) 0 = 0 := by
      unfold ordI
      rw [if_neg (by omega), if_neg (by omega)]
    rw [h0, if_pos rfl] at hr
    rw [hr, bytesLess_compare, toList_d, toList_d]
    have h3 := cmpC_three (nums a.data.toList) (nums b.data.toList)
    have hz := cmpC_zero (nums a.data.toList) (nums b.data.toList)
    rw [compareBytes_nums]
    rcases h3 with h3 | h3 | h3
    · rw [h3]; rfl
    · have e := nums_inj (hz h3)
      rw [h3, e]
      simp
    · have hne : ¬ a.data.toList = b.data.toList := by
        intro e
        rw [e, cmpC_self] at h3
        cases h3
      rw [h3]
      simp
      exact fun e => hne (congrArg Array.toList e)
set_option maxRecDepth 100000 in
set_option maxHeartbeats 1000000 in
theorem refCompare_any (a b : ByteArray) (ha : a.size ≤ 400) (hb : b.size ≤ 400) (w : World) :
    Calls Try.prog 28 #[.string a, .string b] w fun e w' => e = .returned (.int .i64 (cmpS a b)) ∧ Below w.heap.size w w' := by
  have HU := Lib.hid (fun w => refUnits_gen a ha w)
  have HV := Lib.hid (fun w => refUnits_gen b hb w)
  have hul := units_le a
  have hvl := units_le b
  have hce : ∀ us vs, units a = us → units b = vs → cmpS a b = if cmpC (us.map (·.c)) (vs.map (·.c)) = 0 then compareBytes a.data.toList b.data.toList else cmpC (us.map (·.c)) (vs.map (·.c)) := by
    rintro us vs rfl rfl
    rfl
  have hcl : ∀ x ∈ units a, x.c ≤ 1114111 := fun x hx => (units_fit _ _ _ hx).2.2.2.2.1
  have hdl : ∀ x ∈ units b, x.c ≤ 1114111 := fun x hx => (units_fit _ _ _ hx).2.2.2.2.1
  obtain ⟨us, hus⟩ : ∃ us, units a = us := ⟨_, rfl⟩
  obtain ⟨vs, hvs⟩ : ∃ vs, units b = vs := ⟨_, rfl⟩
  replace hce := hce us vs hus hvs
  rw [hus] at HU hul hcl
  rw [hvs] at HV hvl hdl
  have hn : us.length ≤ 400 := by omega
  have hm : vs.length ≤ 400 := by omega
  obtain ⟨r, hr⟩ : ∃ r, cmpS a b = r := ⟨_, rfl⟩
  rw [hr] at hce ⊢
  have HC := Lib.hid hce
  have HCL := Lib.hid hcl
  have HDL := Lib.hid hdl
  clear hul hvl hus hvs hce hr hcl hdl
  go_enter Try.func28, Try.ntmps28
  go_wp2_with fail
  refine (HU.out _).mono ?_
  rintro e w1 ⟨ao, ca, rfl, hra, hb1⟩
  have HA := Lib.hid hra
  clear hra
  go_wp2_with fail
  refine (HV.out _).mono ?_
  rintro e w2 ⟨bo, cb, rfl, hrb, hb2⟩
  have HA2 := Lib.hid (HA.out.below hb2)
  have HB := Lib.hid hrb
  have HBL := Lib.hid (nextB2 hb1 hb2)
  clear hrb hb1 hb2 HA
  go_wp2_with fail
  go_loopw [7] (fun i wr => ∃ k : Nat, k ≤ us.length ∧ k ≤ vs.length ∧ i = .int .i64 k ∧ AgreeK us vs k ∧ RowOf wr w.heap.size ao us ∧ RowOf wr w1.heap.size bo vs ∧ Below w.heap.size w wr) (fun i _ => us.length - (intOf i).toNat)
  case atStart => exact ⟨0, Nat.zero_le _, Nat.zero_le _, rfl, rfl, HA2.out, HB.out, HBL.out⟩
  case round =>
    obtain ⟨k, hk1, hk2, rfl, hag, hra, hrb, hbel⟩ := hrel
    by_cases hlt : k < us.length ∧ k < vs.length
    · obtain ⟨hl1, hl2⟩ := hlt
      obtain ⟨g, rfl, hg, hrowa⟩ := hra (by omega)
      obtain ⟨g', rfl, hg', hrowb⟩ := hrb (by omega)
      obtain ⟨l0, _⟩ := hrowa.at0 (c := us[k].c) (p := us[k].p) (n := us[k].w) hl1 rfl rfl
      obtain ⟨m0, _⟩ := hrowb.at0 (c := vs[k].c) (p := vs[k].p) (n := vs[k].w) hl2 rfl rfl
      have hdi := agreeK_differ hag hl1 hl2
      have hst := agreeK_step hag hl1 hl2
      have hc4 := HCL.out _ (List.getElem_mem hl1)
      have hd4 := HDL.out _ (List.getElem_mem hl2)
      obtain ⟨c, hc⟩ : ∃ c, us[k].c = c := ⟨_, rfl⟩
      obtain ⟨d, hd⟩ : ∃ d, vs[k].c = d := ⟨_, rfl⟩
      rw [hc] at l0 hdi hst hc4
      rw [hd] at m0 hdi hst hd4
      have HDI := Lib.hid hdi
      have HST := Lib.hid hst
      have HRA := Lib.hid hra
      have HRB := Lib.hid hrb
      have HBE := Lib.hid hbel
      clear hdi hst hra hrb hbel hag hc hd hrowa hrowb
      by_cases hcd : c = d
      · subst hcd
        go_wp2_with fail
        have hmx : Try.prog.follows .mixedOrders = true := by kernel_rfl
        go_region
        go_wp2_with fail
        go_roundw
        case rel => exact ⟨k + 1, by omega, by omega, by go_num, HST.out trivial, HRA.out.drew, HRB.out.drew, HBE.out.drew⟩
        case measure => simp [intOf]; omega
      · have hcd2 : ((c : Int) == (d : Int)) = false := by rw [beq_eq_false_iff_ne]; omega
        go_wp2_with fail
        have hmx : Try.prog.follows .mixedOrders = true := by kernel_rfl
        go_region
        go_wp2_with fail
        go_region_with (go_at_call 37; refine (refSign_any _ _).mono ?_; rintro e w' ⟨rfl, rfl⟩)
        all_goals
          go_wp2_with fail
          go_ret
          refine ⟨?_, HBE.out.drew.drew⟩
          have h := HDI.out (by omega)
          have hw1 : IntKind.i64.wrap (c : Int) = c := by rw [IntKind.wrap_i64]; omega
          have hw2 : IntKind.i64.wrap (d : Int) = d := by rw [IntKind.wrap_i64]; omega
          have hw3 : IntKind.i64.wrap ((c : Int) - d) = (c : Int) - d := by rw [IntKind.wrap_i64]; omega
          have e : ordI (IntKind.i64.wrap (IntKind.i64.wrap (c : Int) - IntKind.i64.wrap (d : Int))) 0 = r := by
            rw [hw1, hw2, hw3, HC.out, if_neg h.2, h.1]
          exact congrArg (fun z => Ending.returned (Value.int IntKind.i64 z)) e
    · have hce2 := agreeK_end hag hlt hk1 hk2
      have hans := cmp_ends a b us vs r HC.out hce2
      have HA1 := Lib.hid hans.1
      have HA2 := Lib.hid hans.2
      have HBE := Lib.hid hbel
      clear hag hra hrb hbel hce2 hans
      by_cases h1 : k < us.length
      · have h2 : ¬ k < vs.length := fun h => hlt ⟨h1, h⟩
        have h3 : (((us.length : Int)) != (vs.length : Int)) = true := by simp; omega
        clear hlt
        go_wp2_with (go_at_call 37; refine (refSign_any _ _).mono ?_; rintro e w' ⟨rfl, rfl⟩)
        go_ret
        exact ⟨congrArg (fun z => Ending.returned (Value.int IntKind.i64 z)) (HA1.out (by omega)).symm, HBE.out⟩
      · clear hlt
        by_cases h4 : (us.length : Int) = (vs.length : Int)
        · have h3 : (((us.length : Int)) != (vs.length : Int)) = false := by simp; omega
          cases hl : Op.bytesLess a.toList b.toList with
          | true =>
            have hr := HA2.out (by omega)
            rw [hl] at hr
            have HF := Lib.hid hr
            clear hr
            go_wp2_with fail
            go_ret
            exact ⟨congrArg (fun z => Ending.returned (Value.int IntKind.i64 z)) HF.out.symm, HBE.out⟩
          | false =>
            cases hg : (a.toList == b.toList) with
            | true =>
              have hr := HA2.out (by omega)
              rw [hl, hg] at hr
              have HF := Lib.hid hr
              clear hr
              go_wp2_with fail
              go_ret
              exact ⟨congrArg (fun z => Ending.returned (Value.int IntKind.i64 z)) HF.out.symm, HBE.out⟩
            | false =>
              have hr := HA2.out (by omega)
              rw [hl, hg] at hr
              have HF := Lib.hid hr
              clear hr
              go_wp2_with fail
              go_ret
              exact ⟨congrArg (fun z => Ending.returned (Value.int IntKind.i64 z)) HF.out.symm, HBE.out⟩
        · have h3 : (((us.length : Int)) != (vs.length : Int)) = true := by simp; omega
          go_wp2_with (go_at_call 37; refine (refSign_any _ _).mono ?_; rintro e w' ⟨rfl, rfl⟩)
          go_ret
          exact ⟨congrArg (fun z => Ending.returned (Value.int IntKind.i64 z)) (HA1.out (by omega)).symm, HBE.out⟩
end Go.Proofs.Ytilgbjakhpgkcaa
