/-
  WALKS over package lexicon: slices.Grow and slices.Concat at strings.
-/
import Derived.Test.YteennnhinfnahaaLmB
import Derived.Shelf.Spec.SlicesGrow
namespace Go.Proofs.Yteennnhinfnahaa
open Go.RowKit Go.Shelf Go.Lib
set_option linter.unusedVariables false
set_option linter.unusedSimpArgs false
namespace Lm
/-- A value that reads as a list of strings. -/
def RS (w : World) (v : Value) (l : List Wd) : Prop := SeesC w w.heap.size v (sv l)
theorem RS.below {w w' : World} {v : Value} {l : List Wd} (h : RS w v l) (hb : Below w.heap.size w w') : RS w' v l := by
  rcases SeesC.below h hb with h | ⟨ad, cap, hv, hc, h0, hj⟩
  · exact .inl h
  · exact .inr ⟨ad, cap, hv, hc, fun h => Nat.lt_of_lt_of_le (h0 h) hb.size, hj⟩
theorem sv_get {l : List Wd} {j : Nat} {f : Wd} (h : l[j]? = some f) : (sv l)[j]? = some (.string ⟨f.toArray⟩) := by
  unfold sv
  rw [List.getElem?_map, h]
  rfl
theorem RS.form {w : World} {v : Value} {l : List Wd} (h : RS w v l) : ∃ A cap, v = .slice A l.length cap ∧ l.length ≤ cap ∧ (0 < l.length → ∃ b off, A = some ⟨b, off, none⟩ ∧ b < w.heap.size ∧ ∀ (j : Nat) (f : Wd), l[j]? = some f → w.cell? ⟨b, off + j, none⟩ = some (.string ⟨f.toArray⟩)) := by
  obtain ⟨A, cap, hv, hc, hr⟩ := SeesC.form h
  rw [sv_len] at hv hc hr
  refine ⟨A, cap, hv, hc, fun h0 => ?_⟩
  obtain ⟨b, off, hA, hb, hj⟩ := hr h0
  exact ⟨b, off, hA, hb, fun j f hf => hj j _ (sv_get hf)⟩
/-- slices.Grow of the nil slice: an empty row with room. -/
theorem grow_any (w : World) (n : Nat) (hn : n ≤ 1000000) :
    Calls Try.prog 56 #[.slice none 0 0, .int .i64 n] w fun e w' => (∃ v', e = .returned v' ∧ w'.ownsRow w.heap.size 9 1 v' 0 []) ∧ Below w.heap.size w w' := by
  by_cases h0 : n = 0
  · subst h0
    refine (Any8.slices_Grow_room Try.laysGrow none 0 0 0 w (Nat.le_refl _) (by omega) (by omega) (Nat.le_refl _)).mono ?_
    rintro e w' ⟨rfl, rfl⟩
    exact ⟨⟨_, rfl, World.ownsRow_nil _ _ _ _⟩, Below.refl _ _⟩
  · obtain ⟨i0, hi, hz0, hz1, hz2⟩ := info_parts' Try.infoStr
    refine (Any8.slices_Grow_grow Try.laysGrow i0 (.string ⟨#[]⟩) hi hz0 (by rw [hz1]; decide) none 0 0 n [] w (Nat.le_refl _) (by omega) (by rw [hz2]; omega) (by omega) (by simp) (fun _ => rfl) (fun a h => by cases h)).mono ?_
    rintro e w' ⟨rfl, rfl⟩
    have hge := grownCap_ge w (0 + n) 0 9
    refine ⟨⟨_, rfl, rfl, .inr ⟨w.heap.size, _, _, rfl, Nat.le_refl _, heap_alloc_new w.drew _, Nat.zero_le _, grownCap_le_maxLen w _ _ 9 (by unfold maxLen; omega), ?_, rfl⟩⟩, (below_drewN (Below.refl _ w) 1).alloc (Nat.le_refl _) _⟩
    have hz : (Value.string ⟨#[]⟩).cells.size = 1 := rfl
    simp only [Array.size_append, size_zeroCells, hz]
    show 0 + (0 + n - 0) * 1 + (grownCap w (0 + n) 0 9 - (0 + n)) * 1 = grownCap w (0 + n) 0 9 * 1
    omega
/-- A row of slices of strings that is read. -/
def RowsS (w : World) (qv : Value) (ls : List (List Wd)) : Prop :=
  ∃ vs, SeesC w w.heap.size qv vs ∧ vs.length = ls.length ∧ ∀ (i : Nat) (v : Value) (l : List Wd), vs[i]? = some v → ls[i]? = some l → RS w v l
theorem RowsS.below {w w' : World} {qv : Value} {ls : List (List Wd)} (h : RowsS w qv ls) (hb : Below w.heap.size w w') : RowsS w' qv ls := by
  obtain ⟨vs, h1, h2, h3⟩ := h
  refine ⟨vs, ?_, h2, fun i v l hv hl => (h3 i v l hv hl).below hb⟩
  rcases SeesC.below h1 hb with h | ⟨ad, cap, hv, hc, h0, hj⟩
  · exact .inl h
  · exact .inr ⟨ad, cap, hv, hc, fun h => Nat.lt_of_lt_of_le (h0 h) hb.size, hj⟩
theorem RowsS.form {w : World} {qv : Value} {ls : List (List Wd)} (h : RowsS w qv ls) : ∃ A cap, qv = .slice A ls.length cap ∧ ls.length ≤ cap ∧ (0 < ls.length → ∃ b off, A = some ⟨b, off, none⟩ ∧ b < w.heap.size ∧ ∀ (j : Nat) (l : List Wd), ls[j]? = some l → ∃ v, w.cell? ⟨b, off + j, none⟩ = some v ∧ RS w v l) := by
  obtain ⟨vs, h1, h2, h3⟩ := h
  obtain ⟨A, cap, hv, hc, hr⟩ := h1.form
  rw [h2] at hv hc hr
  refine ⟨A, cap, hv, hc, fun h0 => ?_⟩
  obtain ⟨b, off, hA, hb, hj⟩ := hr h0
  refine ⟨b, off, hA, hb, fun j l hl => ?_⟩
  have hjl : j < vs.length := by rw [h2]; exact (List.getElem?_eq_some_iff.1 hl).1
  exact ⟨vs[j], hj j _ (List.getElem?_eq_getElem hjl), h3 j _ l (List.getElem?_eq_getElem hjl) hl⟩
theorem flat_take {ls : List (List Wd)} {k : Nat} {l : List Wd} (h : ls[k]? = some l) : (ls.take (k + 1)).flatten = (ls.take k).flatten ++ l := by
  rw [List.take_add_one, h]
  simp
theorem flat_le (ls : List (List Wd)) (k : Nat) : (ls.take k).flatten.length ≤ ls.flatten.length := by
  have h := congrArg List.flatten (List.take_append_drop k ls)
  rw [List.flatten_append] at h
  have := congrArg List.length h
  rw [List.length_append] at this
  omega

set_option maxRecDepth 100000 in
set_option maxHeartbeats 2000000 in
theorem concat_any {w : World} {qv : Value} {ls : List (List Wd)} (hv : RowsS w qv ls) (hl : ls.length ≤ 1000) (ht : ls.flatten.length ≤ 100000) :
    Calls Try.prog 28 #[qv] w fun e w' => (∃ v', e = .returned v' ∧ w'.ownsRow w.heap.size 9 1 v' ls.flatten.length (sv ls.flatten)) ∧ Below w.heap.size w w' := by
  obtain ⟨A, cap, rfl, hc, -⟩ := hv.form
  obtain ⟨n, hn⟩ : ∃ n, ls.length = n := ⟨_, rfl⟩
  have HV := Lib.hid (fun W (h : Below w.heap.size w W) => hv.below h)
  rw [hn] at hc hl ⊢
  have HN := Lib.hid hn
  have hfl := flat_le ls
  have HFL := Lib.hid hfl
  obtain ⟨T, hT⟩ : ∃ T, ls.flatten.length = T := ⟨_, rfl⟩
  rw [hT] at ht HFL
  have HT := Lib.hid hT
  have HG := Lib.hid (fun W => grow_any W T (by omega))
  clear hn hv hfl hT
  go_enter Try.func28, Try.ntmps28
  go_wp2_with fail
  go_loopw [3, 11] (fun zv iv wr => ∃ k : Nat, k ≤ n ∧ iv = .int .i64 k ∧ zv = .int .i64 ((ls.take k).flatten.length : Nat) ∧ Below w.heap.size w wr) (fun _ i _ => n - (Go.RowKit.intOf i).toNat)
  case atStart => exact ⟨0, Nat.zero_le _, rfl, rfl, Below.refl _ _⟩
  case round =>
    obtain ⟨k, hk, rfl, rfl, hb⟩ := hrel
    have HB := Lib.hid hb
    by_cases hlt : k < n
    · obtain ⟨l, hl'⟩ : ∃ l, ls[k]? = some l := ⟨_, List.getElem?_eq_getElem (by rw [HN.out]; omega)⟩
      obtain ⟨A', cap', he', -, hr⟩ := (HV.out wr hb).form
      cases he'
      obtain ⟨bk, off, rfl, -, hj⟩ := hr (by rw [HN.out]; omega)
      obtain ⟨u, c0, hu⟩ := hj k l hl'
      obtain ⟨uA, uc, rfl, huc, -⟩ := hu.form
      have hnx := congrArg List.length (flat_take hl')
      rw [List.length_append] at hnx
      have hle := HFL.out (k + 1)
      rw [hnx] at hle
      obtain ⟨z, hz⟩ : ∃ z, (ls.take k).flatten.length = z := ⟨_, rfl⟩
      rw [hz] at hnx hle ⊢
      obtain ⟨m, hm⟩ : ∃ m, l.length = m := ⟨_, rfl⟩
      rw [hm] at hnx hle c0 huc
      have HX := Lib.hid hnx
      clear hb hnx hj hr hl' hz hm hu
      have hneg : ¬ ((z : Int) + (m : Int) < 0) := by omega
      go_wp2_with fail
      exact ⟨⟨k + 1, by omega, by go_num, by rw [HX.out]; rfl, HB.out⟩, by simp only [Go.RowKit.intOf]; omega⟩
    · obtain rfl : k = n := by omega
      have hTk : ls.take k = ls := List.take_of_length_le (by rw [HN.out]; exact Nat.le_refl _)
      rw [hTk, HT.out]
      clear hb hTk
      go_wp2_with fail
      refine (HG.out _).mono ?_
      rintro e w2 ⟨⟨gv, rfl, hown⟩, hb2⟩
      have HO := Lib.hid (ownsRow_base hown HB.out.size)
      have HB2 := Lib.hid (HB.out.trans (hb2.mono HB.out.size))
      clear hown hb2
      clear HB
      obtain ⟨w3, rfl⟩ : ∃ x, x = w2 := ⟨_, rfl⟩
      go_wp2_with fail
      go_loopw [6, 27] (fun gv iv wq => ∃ j : Nat, j ≤ k ∧ iv = .int .i64 j ∧ wq.ownsRow w.heap.size 9 1 gv (ls.take j).flatten.length (sv (ls.take j).flatten) ∧ Below w.heap.size w wq) (fun _ i _ => k - (Go.RowKit.intOf i).toNat)
      case atStart => exact ⟨0, Nat.zero_le _, rfl, HO.out, HB2.out⟩
      case round =>
        obtain ⟨j, hjk, rfl, hown, hb⟩ := hrel
        have HO3 := Lib.hid hown
        have HB3 := Lib.hid hb
        by_cases hlt : j < k
        · obtain ⟨l, hl'⟩ : ∃ l, ls[j]? = some l := ⟨_, List.getElem?_eq_getElem (by rw [HN.out]; omega)⟩
          obtain ⟨A', cap', he', -, hr⟩ := (HV.out _ hb).form
          cases he'
          obtain ⟨bk, off, rfl, -, hj⟩ := hr (by rw [HN.out]; omega)
          obtain ⟨u, c0, hu⟩ := hj j l hl'
          have HU := Lib.hid (show SeesC _ _ u (sv l) from hu)
          obtain ⟨uA, uc, rfl, huc, -⟩ := hu.form
          have hnx := flat_take hl'
          have hle := HFL.out (j + 1)
          rw [hnx, List.length_append] at hle
          obtain ⟨Z, hZ⟩ : ∃ Z, (ls.take j).flatten = Z := ⟨_, rfl⟩
          rw [hZ] at hnx hle HO3
          have hlow := own_low HO3.out
          have HLOW := Lib.hid hlow
          have HX := Lib.hid hnx
          have hszb := hb.size
          obtain ⟨i0, hi, hz0, hz1, hz2⟩ := info_parts' Try.infoStr
          have hsl := sv_len l
          have HSL := Lib.hid hsl
          clear hb hnx hj hr hl' hZ hown hu hlow hsl
          go_wp2_with (at_builtin; refine wpList_append_sees rfl (.tmp 31) (.tmp 32) 29 rfl w.heap.size 9 i0 _ 16 Try.underlying29 hi hz0 hz1 hz2 rfl _ Z.length (sv Z) rfl HO3.out _ _ (sv l) rfl HU.out (sv_one _) (by rw [HSL.out]; unfold maxLen; omega) (by rw [HSL.out]; omega) hszb ?_)
          intro v' w4 h1 h2 _
          have HO4 := Lib.hid h1
          have hb4 := HB3.out.grown h2 hszb (fun k e => (HLOW.out k e).1)
          have HB4 := Lib.hid hb4
          clear h1 h2 hb4
          go_wp2_with fail
          refine ⟨⟨j + 1, by omega, by go_num, ?_, HB4.out⟩, by simp only [Go.RowKit.intOf]; omega⟩
          rw [HX.out, List.length_append, sv_app, ← HSL.out]
          exact HO4.out
        · obtain rfl : j = k := by omega
          have hTk : ls.take j = ls := List.take_of_length_le (by rw [HN.out]; exact Nat.le_refl _)
          rw [hTk] at HO3
          clear hb hown hTk
          go_wp2_with fail
          go_ret
          exact ⟨⟨_, rfl, HO3.out⟩, HB3.out⟩
end Lm
end Go.Proofs.Yteennnhinfnahaa
