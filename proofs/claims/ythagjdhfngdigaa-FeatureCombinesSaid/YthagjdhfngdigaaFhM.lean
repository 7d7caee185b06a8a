/-
  WALKS over package feature: slices.Contains, common, slices.Grow and slices.Concat at strings.
-/
import Derived.Test.YthagjdhfngdigaaFgM
namespace Go.Proofs.Ythagjdhfngdigaa
open Go.RowKit Go.Shelf Go.Lib

theorem contains_row {w : World} {v : Value} {l : Fs} (hv : RS w v l) (hl : l.length ≤ maxLen) (f : ByteArray) :
    Calls Try.prog 36 #[v, .string f] w fun e w' => e = .returned (.bool (decide (f.data.toList ∈ l))) ∧ w' = w := by
  obtain ⟨A, cap, rfl, hc, hr⟩ := hv.form
  unfold maxLen at hl
  by_cases h0 : l.length = 0
  · have hnil : l = [] := List.length_eq_zero_iff.1 h0
    subst hnil
    refine (Try.slices_Contains_string_empty A cap f w).mono ?_
    rintro e w' ⟨rfl, rfl⟩
    exact ⟨by simp, rfl⟩
  · obtain ⟨b, off, rfl, hb, hj⟩ := hr (by omega)
    refine (Try.slices_Contains_string b off l.length cap (l.map fun g => ⟨g.toArray⟩) f w (by rw [List.length_map]; exact Nat.le_refl _) (by omega) (fun j hjl => by
      rw [List.length_map] at hjl
      rw [hj j l[j] (List.getElem?_eq_getElem hjl), List.getD_eq_getElem?_getD, List.getElem?_map, List.getElem?_eq_getElem hjl]
      rfl)).mono ?_
    rintro e w' ⟨rfl, rfl⟩
    refine ⟨?_, rfl⟩
    have : Lib.containsS ((l.map fun g => (⟨g.toArray⟩ : ByteArray)).take l.length) f = decide (f.data.toList ∈ l) := by
      rw [List.take_of_length_le (by rw [List.length_map]; exact Nat.le_refl _), Bool.eq_iff_iff, Lib.containsS_iff, decide_eq_true_iff, List.mem_map]
      constructor
      · rintro ⟨g, hg, rfl⟩
        exact hg
      · exact fun h => ⟨_, h, Lib.mk_data f⟩
    rw [this]
theorem both_take {l m : Fs} {k : Nat} {f : Bs} (hf : l[k]? = some f) : bothS (l.take (k + 1)) m = if decide (f ∈ m) = true then bothS (l.take k) m ++ [f] else bothS (l.take k) m := by
  unfold bothS
  rw [List.take_add_one, hf, List.filter_append]
  by_cases h : f ∈ m <;> simp [h]

set_option maxRecDepth 100000 in
set_option maxHeartbeats 2000000 in
theorem common_any {w : World} {v1 v2 : Value} {l m : Fs} (h1 : RS w v1 l) (h2 : RS w v2 m) (hl : l.length ≤ 1000) (hm : m.length ≤ 1000) :
    Calls Try.prog 39 #[v1, v2] w fun e w' => (∃ v', e = .returned v' ∧ w'.ownsRow w.heap.size 9 1 v' (bothS l m).length (strs (bothS l m))) ∧ Below w.heap.size w w' := by
  obtain ⟨A, cap, rfl, hc, -⟩ := h1.form
  obtain ⟨n, hn⟩ : ∃ n, l.length = n := ⟨_, rfl⟩
  have HV := Lib.hid (fun W (h : Below w.heap.size w W) => h1.below h)
  have HM := Lib.hid (fun W (h : Below w.heap.size w W) => contains_row (w := W) (h2.below h) (by unfold maxLen; omega))
  rw [hn] at hc hl ⊢
  have HN := Lib.hid hn
  have hbl : ∀ k, (bothS (l.take k) m).length ≤ 1000 := fun k => by
    have h1 : (bothS (l.take k) m).length ≤ (l.take k).length := List.length_filter_le _ _
    rw [List.length_take] at h1
    omega
  have HBL := Lib.hid hbl
  clear hn h1 h2 hbl
  go_enter Try.func39, Try.ntmps39
  go_wp2_with fail
  go_loopw [5, 10] (fun bv iv wr => ∃ k : Nat, k ≤ n ∧ iv = .int .i64 k ∧ wr.ownsRow w.heap.size 9 1 bv (bothS (l.take k) m).length (strs (bothS (l.take k) m)) ∧ Below w.heap.size w wr) (fun _ i _ => n - (Go.RowKit.intOf i).toNat)
  case atStart => exact ⟨0, Nat.zero_le _, rfl, World.ownsRow_nil _ _ _ _, Below.refl _ _⟩
  case round =>
    obtain ⟨k, hk, rfl, hown, hb⟩ := hrel
    by_cases hlt : k < n
    · obtain ⟨f, hf⟩ : ∃ f, l[k]? = some f := ⟨_, List.getElem?_eq_getElem (by rw [HN.out]; omega)⟩
      obtain ⟨A', cap', he', -, hr⟩ := (HV.out wr hb).form
      cases he'
      obtain ⟨bk, off, rfl, -, hj⟩ := hr (by rw [HN.out]; omega)
      have c0 := hj k f hf
      have hnx := both_take (m := m) hf
      obtain ⟨F, hF⟩ : ∃ s : ByteArray, (⟨f.toArray⟩ : ByteArray) = s := ⟨_, rfl⟩
      have hFl : F.data.toList = f := by rw [← hF]
      rw [hF] at c0
      have hcn := HM.out wr hb F
      rw [hFl] at hcn
      obtain ⟨q, hq⟩ : ∃ q, decide (f ∈ m) = q := ⟨_, rfl⟩
      rw [hq] at hcn hnx
      have hbl := HBL.out k
      obtain ⟨L, hL⟩ : ∃ L, bothS (l.take k) m = L := ⟨_, rfl⟩
      rw [hL] at hnx hown hbl
      have HC := Lib.hid hcn
      have HX := Lib.hid hnx
      have HO := Lib.hid hown
      have HB := Lib.hid hb
      have HFL := Lib.hid hFl
      have hszb := hb.size
      clear hcn hnx hown hb hF hFl hq hL hj hr hf
      cases q with
      | true =>
        go_wp2_with fail
        refine HC.out.mono ?_
        rintro e w2 ⟨rfl, rfl⟩
        go_wp2_with (at_builtin; refine wpList_push rfl (.tmp 17) (.tmp 19) rfl w.heap.size _ L.length L F rfl rfl HO.out (by omega) hszb ?_)
        intro v' w3 h1 h2 _
        have HO3 := Lib.hid h1.out
        have HB3 := Lib.hid (h2.out w.heap.size w HB.out (Nat.le_refl _))
        clear h1 h2
        go_wp2_with fail
        refine ⟨⟨k + 1, by omega, by go_num, ?_, HB3.out⟩, by simp only [Go.RowKit.intOf]; omega⟩
        have hx := HX.out
        simp only [if_true] at hx
        rw [hx, List.length_append, List.length_singleton, ← HFL.out]
        exact HO3.out
      | false =>
        go_wp2_with fail
        refine HC.out.mono ?_
        rintro e w2 ⟨rfl, rfl⟩
        go_wp2_with fail
        refine ⟨⟨k + 1, by omega, by go_num, ?_, HB.out⟩, by simp only [Go.RowKit.intOf]; omega⟩
        have hx := HX.out
        simp only [Bool.false_eq_true, if_false] at hx
        rw [hx]
        exact HO.out
    · obtain rfl : k = n := by omega
      have hT : l.take k = l := List.take_of_length_le (by rw [HN.out]; exact Nat.le_refl _)
      rw [hT] at hown
      have HO := Lib.hid hown
      have HB := Lib.hid hb
      clear hown hb hT
      go_wp2_with fail
      go_ret
      exact ⟨⟨_, rfl, HO.out⟩, HB.out⟩

/-- slices.Grow of the nil slice: an empty row with room. -/
theorem grow_any (w : World) (n : Nat) (hn : n ≤ 1000000) :
    Calls Try.prog 51 #[.slice none 0 0, .int .i64 n] w fun e w' => (∃ v', e = .returned v' ∧ w'.ownsRow w.heap.size 9 1 v' 0 []) ∧ Below w.heap.size w w' := by
  by_cases h0 : n = 0
  · subst h0
    refine (Any8.slices_Grow_room Try.laysGrow none 0 0 0 w (Nat.le_refl _) (by omega) (by omega) (Nat.le_refl _)).mono ?_
    rintro e w' ⟨rfl, rfl⟩
    exact ⟨⟨_, rfl, World.ownsRow_nil _ _ _ _⟩, Below.refl _ _⟩
  · obtain ⟨i0, hi, hz0, hz1, hz2⟩ := info_parts' Try.infoStr
    refine (Any8.slices_Grow_grow Try.laysGrow i0 (.string ⟨#[]⟩) hi hz0 (by rw [hz1]; decide) none 0 0 n [] w (Nat.le_refl _) (by omega) (by rw [hz2]; omega) (by omega) (by simp) (fun _ => rfl) (fun a h => by cases h)).mono ?_
    rintro e w' ⟨rfl, rfl⟩
    have hge := grownCap_ge w (0 + n) 0 9
    refine ⟨⟨_, rfl, rfl, .inr ⟨w.heap.size, _, _, rfl, Nat.le_refl _, heap_alloc_new w.drew _, Nat.zero_le _, grownCap_le_maxLen w _ _ 9 (by unfold maxLen; omega), ?_, rfl⟩⟩, (below_drewN (Below.refl _ w) 1).alloc (Nat.le_refl _) _⟩
    have hz : (Value.string ⟨#[]⟩).cells.size = 1 := rfl
    simp only [Array.size_append, size_zeroCells, hz]
    show 0 + (0 + n - 0) * 1 + (grownCap w (0 + n) 0 9 - (0 + n)) * 1 = grownCap w (0 + n) 0 9 * 1
    omega
/-- A row of slices of strings that is read. -/
def RowsS (w : World) (sv : Value) (ls : List Fs) : Prop :=
  ∃ vs, SeesC w w.heap.size sv vs ∧ vs.length = ls.length ∧ ∀ (i : Nat) (v : Value) (l : Fs), vs[i]? = some v → ls[i]? = some l → RS w v l
theorem RowsS.below {w w' : World} {sv : Value} {ls : List Fs} (h : RowsS w sv ls) (hb : Below w.heap.size w w') : RowsS w' sv ls := by
  obtain ⟨vs, h1, h2, h3⟩ := h
  refine ⟨vs, ?_, h2, fun i v l hv hl => (h3 i v l hv hl).below hb⟩
  rcases SeesC.below h1 hb with h | ⟨ad, cap, hv, hc, h0, hj⟩
  · exact .inl h
  · exact .inr ⟨ad, cap, hv, hc, fun h => Nat.lt_of_lt_of_le (h0 h) hb.size, hj⟩
theorem RowsS.form {w : World} {sv : Value} {ls : List Fs} (h : RowsS w sv ls) : ∃ A cap, sv = .slice A ls.length cap ∧ ls.length ≤ cap ∧ (0 < ls.length → ∃ b off, A = some ⟨b, off, none⟩ ∧ b < w.heap.size ∧ ∀ (j : Nat) (l : Fs), ls[j]? = some l → ∃ v, w.cell? ⟨b, off + j, none⟩ = some v ∧ RS w v l) := by
  obtain ⟨vs, h1, h2, h3⟩ := h
  obtain ⟨A, cap, hv, hc, hr⟩ := h1.form
  rw [h2] at hv hc hr
  refine ⟨A, cap, hv, hc, fun h0 => ?_⟩
  obtain ⟨b, off, hA, hb, hj⟩ := hr h0
  refine ⟨b, off, hA, hb, fun j l hl => ?_⟩
  have hjl : j < vs.length := by rw [h2]; exact (List.getElem?_eq_some_iff.1 hl).1
  exact ⟨vs[j], hj j _ (List.getElem?_eq_getElem hjl), h3 j _ l (List.getElem?_eq_getElem hjl) hl⟩
theorem Sets.rows {w : World} {base : Nat} {sv : Value} {vs : List Value} {ts : Fs} (h : Sets w base sv vs ts) : RowsS w sv (ts.map fun t => (parseL t).1) := by
  refine ⟨vs, (seesC_own h.1).1, by rw [List.length_map]; exact h.2.1, fun i v l hv hl => ?_⟩
  rw [List.getElem?_map] at hl
  cases ht : ts[i]? with
  | none => rw [ht] at hl; cases hl
  | some t =>
    rw [ht] at hl
    injection hl with hl
    subst hl
    exact (rs_own (h.2.2 i v t hv ht)).1
theorem flat_take {ls : List Fs} {k : Nat} {l : Fs} (h : ls[k]? = some l) : (ls.take (k + 1)).flatten = (ls.take k).flatten ++ l := by
  rw [List.take_add_one, h]
  simp
theorem flat_le (ls : List Fs) (k : Nat) : (ls.take k).flatten.length ≤ ls.flatten.length := by
  have h := congrArg List.flatten (List.take_append_drop k ls)
  rw [List.flatten_append] at h
  have := congrArg List.length h
  rw [List.length_append] at this
  omega

set_option maxRecDepth 100000 in
set_option maxHeartbeats 2000000 in
theorem concat_any {w : World} {sv : Value} {ls : List Fs} (hv : RowsS w sv ls) (hl : ls.length ≤ 1000) (ht : ls.flatten.length ≤ 100000) :
    Calls Try.prog 38 #[sv] w fun e w' => (∃ v', e = .returned v' ∧ w'.ownsRow w.heap.size 9 1 v' ls.flatten.length (strs ls.flatten)) ∧ Below w.heap.size w w' := by
  obtain ⟨A, cap, rfl, hc, -⟩ := hv.form
  obtain ⟨n, hn⟩ : ∃ n, ls.length = n := ⟨_, rfl⟩
  have HV := Lib.hid (fun W (h : Below w.heap.size w W) => hv.below h)
  rw [hn] at hc hl ⊢
  have HN := Lib.hid hn
  have hfl := flat_le ls
  have HFL := Lib.hid hfl
  obtain ⟨T, hT⟩ : ∃ T, ls.flatten.length = T := ⟨_, rfl⟩
  rw [hT] at ht HFL
  have HT := Lib.hid hT
  have HG := Lib.hid (fun W => grow_any W T (by omega))
  clear hn hv hfl hT
  go_enter Try.func38, Try.ntmps38
  go_wp2_with fail
  go_loopw [3, 11] (fun zv iv wr => ∃ k : Nat, k ≤ n ∧ iv = .int .i64 k ∧ zv = .int .i64 ((ls.take k).flatten.length : Nat) ∧ Below w.heap.size w wr) (fun _ i _ => n - (Go.RowKit.intOf i).toNat)
  case atStart => exact ⟨0, Nat.zero_le _, rfl, rfl, Below.refl _ _⟩
  case round =>
    obtain ⟨k, hk, rfl, rfl, hb⟩ := hrel
    have HB := Lib.hid hb
    by_cases hlt : k < n
    · obtain ⟨l, hl'⟩ : ∃ l, ls[k]? = some l := ⟨_, List.getElem?_eq_getElem (by rw [HN.out]; omega)⟩
      obtain ⟨A', cap', he', -, hr⟩ := (HV.out wr hb).form
      cases he'
      obtain ⟨bk, off, rfl, -, hj⟩ := hr (by rw [HN.out]; omega)
      obtain ⟨u, c0, hu⟩ := hj k l hl'
      obtain ⟨uA, uc, rfl, huc, -⟩ := hu.form
      have hnx := congrArg List.length (flat_take hl')
      rw [List.length_append] at hnx
      have hle := HFL.out (k + 1)
      rw [hnx] at hle
      obtain ⟨z, hz⟩ : ∃ z, (ls.take k).flatten.length = z := ⟨_, rfl⟩
      rw [hz] at hnx hle ⊢
      obtain ⟨m, hm⟩ : ∃ m, l.length = m := ⟨_, rfl⟩
      rw [hm] at hnx hle c0 huc
      have HX := Lib.hid hnx
      clear hb hnx hj hr hl' hz hm hu
      have hneg : ¬ ((z : Int) + (m : Int) < 0) := by omega
      go_wp2_with fail
      exact ⟨⟨k + 1, by omega, by go_num, by rw [HX.out]; rfl, HB.out⟩, by simp only [Go.RowKit.intOf]; omega⟩
    · obtain rfl : k = n := by omega
      have hTk : ls.take k = ls := List.take_of_length_le (by rw [HN.out]; exact Nat.le_refl _)
      rw [hTk, HT.out]
      clear hb hTk
      go_wp2_with fail
      refine (HG.out _).mono ?_
      rintro e w2 ⟨⟨gv, rfl, hown⟩, hb2⟩
      have HO := Lib.hid (ownsRow_base hown HB.out.size)
      have HB2 := Lib.hid (HB.out.trans (hb2.mono HB.out.size))
      clear hown hb2
      clear HB
      obtain ⟨w3, rfl⟩ : ∃ x, x = w2 := ⟨_, rfl⟩
      go_wp2_with fail
      go_loopw [6, 27] (fun gv iv wq => ∃ j : Nat, j ≤ k ∧ iv = .int .i64 j ∧ wq.ownsRow w.heap.size 9 1 gv (ls.take j).flatten.length (strs (ls.take j).flatten) ∧ Below w.heap.size w wq) (fun _ i _ => k - (Go.RowKit.intOf i).toNat)
      case atStart => exact ⟨0, Nat.zero_le _, rfl, HO.out, HB2.out⟩
      case round =>
        obtain ⟨j, hjk, rfl, hown, hb⟩ := hrel
        have HO3 := Lib.hid hown
        have HB3 := Lib.hid hb
        by_cases hlt : j < k
        · obtain ⟨l, hl'⟩ : ∃ l, ls[j]? = some l := ⟨_, List.getElem?_eq_getElem (by rw [HN.out]; omega)⟩
          obtain ⟨A', cap', he', -, hr⟩ := (HV.out _ hb).form
          cases he'
          obtain ⟨bk, off, rfl, -, hj⟩ := hr (by rw [HN.out]; omega)
          obtain ⟨u, c0, hu⟩ := hj j l hl'
          have HU := Lib.hid (show SeesC _ _ u (strs l) from hu)
          obtain ⟨uA, uc, rfl, huc, -⟩ := hu.form
          have hnx := flat_take hl'
          have hle := HFL.out (j + 1)
          rw [hnx, List.length_append] at hle
          obtain ⟨Z, hZ⟩ : ∃ Z, (ls.take j).flatten = Z := ⟨_, rfl⟩
          rw [hZ] at hnx hle HO3
          have hlow := own_low HO3.out
          have HLOW := Lib.hid hlow
          have HX := Lib.hid hnx
          have hszb := hb.size
          obtain ⟨i0, hi, hz0, hz1, hz2⟩ := info_parts' Try.infoStr
          have hsl := strs_len l
          have HSL := Lib.hid hsl
          clear hb hnx hj hr hl' hZ hown hu hlow hsl
          go_wp2_with (at_builtin; refine wpList_append_sees rfl (.tmp 31) (.tmp 32) 23 rfl w.heap.size 9 i0 _ 16 Try.underlying23 hi hz0 hz1 hz2 rfl _ Z.length (strs Z) rfl HO3.out _ _ (strs l) rfl HU.out (strs_one _) (by rw [HSL.out]; unfold maxLen; omega) (by rw [HSL.out]; omega) hszb ?_)
          intro v' w4 h1 h2 _
          have HO4 := Lib.hid h1
          have hb4 := HB3.out.grown h2 hszb (fun k e => (HLOW.out k e).1)
          have HB4 := Lib.hid hb4
          clear h1 h2 hb4
          go_wp2_with fail
          refine ⟨⟨j + 1, by omega, by go_num, ?_, HB4.out⟩, by simp only [Go.RowKit.intOf]; omega⟩
          rw [HX.out, List.length_append, strs_app, ← HSL.out]
          exact HO4.out
        · obtain rfl : j = k := by omega
          have hTk : ls.take j = ls := List.take_of_length_le (by rw [HN.out]; exact Nat.le_refl _)
          rw [hTk] at HO3
          clear hb hown hTk
          go_wp2_with fail
          go_ret
          exact ⟨⟨_, rfl, HO3.out⟩, HB3.out⟩
end Go.Proofs.Ythagjdhfngdigaa
