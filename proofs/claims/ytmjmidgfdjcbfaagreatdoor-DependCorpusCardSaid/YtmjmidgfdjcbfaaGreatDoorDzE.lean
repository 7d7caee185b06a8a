/-
  WALKS over package depend, third part: slices.Concat at numbers; Path.
  WALKS over package depend, fourth part: Path of any arguments; anyGap, Projective.
-/
import Derived.Test.YtmjmidgfdjcbfaaGreatDoorDaD
import Derived.Test.YtmjmidgfdjcbfaaGreatDoorShf
import Derived.RegionTactic
namespace Go.Proofs.YtmjmidgfdjcbfaaGreatDoor.Dep
open Go.RowKit Go.Shelf Go.Lib
set_option linter.unusedVariables false

theorem natV_one (l : List Nat) : ∀ u ∈ natV l, u.oneCell' = true := by
  intro u hu
  unfold natV at hu
  obtain ⟨b, _, rfl⟩ := List.mem_map.1 hu
  rfl
theorem natV_get {l : List Nat} {j : Nat} {f : Nat} (h : l[j]? = some f) : (natV l)[j]? = some (.int .i64 (f : Int)) := by
  unfold natV
  rw [List.getElem?_map, h]
  rfl
theorem natV_back {l : List Nat} {j : Nat} {u : Value} (h : (natV l)[j]? = some u) : ∃ f, l[j]? = some f ∧ u = .int .i64 (f : Int) := by
  unfold natV at h
  rw [List.getElem?_map] at h
  cases hl : l[j]? with
  | none => rw [hl] at h; cases h
  | some f => rw [hl] at h; injection h with h; exact ⟨f, rfl, h.symm⟩
/-- A value that reads as a list of strings. -/
def RN (w : World) (v : Value) (l : List Nat) : Prop := SeesC w w.heap.size v (natV l)
theorem RN.form {w : World} {v : Value} {l : List Nat} (h : RN w v l) : ∃ A cap, v = .slice A l.length cap ∧ l.length ≤ cap ∧ (0 < l.length → ∃ b off, A = some ⟨b, off, none⟩ ∧ b < w.heap.size ∧ ∀ (j : Nat) (f : Nat), l[j]? = some f → w.cell? ⟨b, off + j, none⟩ = some (.int .i64 (f : Int))) := by
  obtain ⟨A, cap, hv, hc, hr⟩ := SeesC.form h
  rw [natV_len] at hv hc hr
  refine ⟨A, cap, hv, hc, fun h0 => ?_⟩
  obtain ⟨b, off, hA, hb, hj⟩ := hr h0
  exact ⟨b, off, hA, hb, fun j f hf => hj j _ (natV_get hf)⟩
theorem RN.of {w : World} {A : Option Addr} {l : List Nat} {n cap : Nat} (hn : n = l.length) (hc : n ≤ cap) (h : 0 < l.length → ∃ b off, A = some ⟨b, off, none⟩ ∧ b < w.heap.size ∧ ∀ (j : Nat) (f : Nat), l[j]? = some f → w.cell? ⟨b, off + j, none⟩ = some (.int .i64 (f : Int))) (h0 : A = none → n = 0 ∧ cap = 0) : RN w (.slice A n cap) l := by
  subst hn
  cases A with
  | none =>
    obtain ⟨e1, rfl⟩ := h0 rfl
    have : l = [] := List.length_eq_zero_iff.1 e1
    subst this
    exact .inl ⟨rfl, rfl⟩
  | some ad =>
    refine .inr ⟨ad, cap, by rw [natV_len], by rw [natV_len]; exact hc, fun h1 => ?_, fun j u hu => ?_⟩
    · rw [natV_len] at h1
      obtain ⟨b, off, hA, hb, _⟩ := h h1
      cases hA
      exact hb
    · obtain ⟨f, hf, rfl⟩ := natV_back hu
      obtain ⟨b, off, hA, _, hj⟩ := h (by have := (List.getElem?_eq_some_iff.1 hf).1; omega)
      cases hA
      rw [add_plain]
      exact hj j f hf
theorem RN.below {w w' : World} {v : Value} {l : List Nat} (h : RN w v l) (hb : Below w.heap.size w w') : RN w' v l := by
  have h1 := SeesC.below h hb
  rcases h1 with h1 | ⟨ad, cap, hv, hc, h0, hj⟩
  · exact .inl h1
  · exact .inr ⟨ad, cap, hv, hc, fun h => Nat.lt_of_lt_of_le (h0 h) hb.size, hj⟩
theorem RN.nil (w : World) : RN w (.slice none 0 0) [] := .inl ⟨rfl, rfl⟩
theorem rn_own {w : World} {base : Nat} {v : Value} {n : Nat} {l : List Nat} (h : w.ownsRow base 3 1 v n (natV l)) : RN w v l ∧ l.length = n := by
  obtain ⟨h1, h2⟩ := seesC_own h
  rw [natV_len] at h2
  exact ⟨h1, h2⟩
theorem growI_any (w : World) (n : Nat) (hn : n ≤ 1000000) :
    Calls Tryz.prog 73 #[.slice none 0 0, .int .i64 n] w fun e w' => (∃ v', e = .returned v' ∧ w'.ownsRow w.heap.size 3 1 v' 0 []) ∧ Below w.heap.size w w' := by
  by_cases h0 : n = 0
  · subst h0
    refine (Any8.slices_Grow_room Tryz.laysGrowI none 0 0 0 w (Nat.le_refl _) (by omega) (by omega) (Nat.le_refl _)).mono ?_
    rintro e w' ⟨rfl, rfl⟩
    exact ⟨⟨_, rfl, World.ownsRow_nil _ _ _ _⟩, Below.refl _ _⟩
  · obtain ⟨i0, hi, hz0, hz1, hz2⟩ := info_parts' Tryz.infoInt2
    refine (Any8.slices_Grow_grow Tryz.laysGrowI i0 (.int .i64 0) hi hz0 (by rw [hz1]; decide) none 0 0 n [] w (Nat.le_refl _) (by omega) (by rw [hz2]; omega) (by omega) (by simp) (fun _ => rfl) (fun a h => by cases h)).mono ?_
    rintro e w' ⟨rfl, rfl⟩
    have hge := grownCap_ge w (0 + n) 0 3
    refine ⟨⟨_, rfl, rfl, .inr ⟨w.heap.size, _, _, rfl, Nat.le_refl _, heap_alloc_new w.drew _, Nat.zero_le _, grownCap_le_maxLen w _ _ 3 (by unfold maxLen; omega), ?_, rfl⟩⟩, (below_drewN (Below.refl _ w) 1).alloc (Nat.le_refl _) _⟩
    have hz : (Value.int .i64 0).cells.size = 1 := rfl
    simp only [Array.size_append, size_zeroCells, hz]
    show 0 + (0 + n - 0) * 1 + (grownCap w (0 + n) 0 3 - (0 + n)) * 1 = grownCap w (0 + n) 0 3 * 1
    omega
/-- A row of slices of strings that is read. -/
def RowsN (w : World) (sv : Value) (ls : List (List Nat)) : Prop :=
  ∃ vs, SeesC w w.heap.size sv vs ∧ vs.length = ls.length ∧ ∀ (i : Nat) (v : Value) (l : List Nat), vs[i]? = some v → ls[i]? = some l → RN w v l
theorem RowsN.below {w w' : World} {sv : Value} {ls : List (List Nat)} (h : RowsN w sv ls) (hb : Below w.heap.size w w') : RowsN w' sv ls := by
  obtain ⟨vs, h1, h2, h3⟩ := h
  refine ⟨vs, ?_, h2, fun i v l hv hl => (h3 i v l hv hl).below hb⟩
  rcases SeesC.below h1 hb with h | ⟨ad, cap, hv, hc, h0, hj⟩
  · exact .inl h
  · exact .inr ⟨ad, cap, hv, hc, fun h => Nat.lt_of_lt_of_le (h0 h) hb.size, hj⟩
theorem RowsN.form {w : World} {sv : Value} {ls : List (List Nat)} (h : RowsN w sv ls) : ∃ A cap, sv = .slice A ls.length cap ∧ ls.length ≤ cap ∧ (0 < ls.length → ∃ b off, A = some ⟨b, off, none⟩ ∧ b < w.heap.size ∧ ∀ (j : Nat) (l : List Nat), ls[j]? = some l → ∃ v, w.cell? ⟨b, off + j, none⟩ = some v ∧ RN w v l) := by
  obtain ⟨vs, h1, h2, h3⟩ := h
  obtain ⟨A, cap, hv, hc, hr⟩ := h1.form
  rw [h2] at hv hc hr
  refine ⟨A, cap, hv, hc, fun h0 => ?_⟩
  obtain ⟨b, off, hA, hb, hj⟩ := hr h0
  refine ⟨b, off, hA, hb, fun j l hl => ?_⟩
  have hjl : j < vs.length := by rw [h2]; exact (List.getElem?_eq_some_iff.1 hl).1
  exact ⟨vs[j], hj j _ (List.getElem?_eq_getElem hjl), h3 j _ l (List.getElem?_eq_getElem hjl) hl⟩
theorem flat_take {ls : List (List Nat)} {k : Nat} {l : List Nat} (h : ls[k]? = some l) : (ls.take (k + 1)).flatten = (ls.take k).flatten ++ l := by
  rw [List.take_add_one, h]
  simp
theorem flat_le (ls : List (List Nat)) (k : Nat) : (ls.take k).flatten.length ≤ ls.flatten.length := by
  have h := congrArg List.flatten (List.take_append_drop k ls)
  rw [List.flatten_append] at h
  have := congrArg List.length h
  rw [List.length_append] at this
  omega

set_option maxRecDepth 100000 in
set_option maxHeartbeats 2000000 in
theorem concatI_any {w : World} {sv : Value} {ls : List (List Nat)} (hv : RowsN w sv ls) (hl : ls.length ≤ 1000) (ht : ls.flatten.length ≤ 100000) :
    Calls Tryz.prog 44 #[sv] w fun e w' => (∃ v', e = .returned v' ∧ w'.ownsRow w.heap.size 3 1 v' ls.flatten.length (natV ls.flatten)) ∧ Below w.heap.size w w' := by
  obtain ⟨A, cap, rfl, hc, -⟩ := hv.form
  obtain ⟨n, hn⟩ : ∃ n, ls.length = n := ⟨_, rfl⟩
  have HV := Lib.hid (fun W (h : Below w.heap.size w W) => hv.below h)
  rw [hn] at hc hl ⊢
  have HN := Lib.hid hn
  have hfl := flat_le ls
  have HFL := Lib.hid hfl
  obtain ⟨T, hT⟩ : ∃ T, ls.flatten.length = T := ⟨_, rfl⟩
  rw [hT] at ht HFL
  have HT := Lib.hid hT
  have HG := Lib.hid (fun W => growI_any W T (by omega))
  clear hn hv hfl hT
  go_enter Tryz.func44, Tryz.ntmps44
  go_wp2_with fail
  go_loopw [3, 11] (fun zv iv wr => ∃ k : Nat, k ≤ n ∧ iv = .int .i64 k ∧ zv = .int .i64 ((ls.take k).flatten.length : Nat) ∧ Below w.heap.size w wr) (fun _ i _ => n - (Go.RowKit.intOf i).toNat)
  case atStart => exact ⟨0, Nat.zero_le _, rfl, rfl, Below.refl _ _⟩
  case round =>
    obtain ⟨k, hk, rfl, rfl, hb⟩ := hrel
    have HB := Lib.hid hb
    by_cases hlt : k < n
    · obtain ⟨l, hl'⟩ : ∃ l, ls[k]? = some l := ⟨_, List.getElem?_eq_getElem (by rw [HN.out]; omega)⟩
      obtain ⟨A', cap', he', -, hr⟩ := (HV.out wr hb).form
      cases he'
      obtain ⟨bk, off, rfl, -, hj⟩ := hr (by rw [HN.out]; omega)
      obtain ⟨u, c0, hu⟩ := hj k l hl'
      obtain ⟨uA, uc, rfl, huc, -⟩ := hu.form
      have hnx := congrArg List.length (flat_take hl')
      rw [List.length_append] at hnx
      have hle := HFL.out (k + 1)
      rw [hnx] at hle
      obtain ⟨z, hz⟩ : ∃ z, (ls.take k).flatten.length = z := ⟨_, rfl⟩
      rw [hz] at hnx hle ⊢
      obtain ⟨m, hm⟩ : ∃ m, l.length = m := ⟨_, rfl⟩
      rw [hm] at hnx hle c0 huc
      have HX := Lib.hid hnx
      clear hb hnx hj hr hl' hz hm hu
      have hneg : ¬ ((z : Int) + (m : Int) < 0) := by omega
      go_wp2_with fail
      exact ⟨⟨k + 1, by omega, by go_num, by rw [HX.out]; rfl, HB.out⟩, by simp only [Go.RowKit.intOf]; omega⟩
    · obtain rfl : k = n := by omega
      have hTk : ls.take k = ls := List.take_of_length_le (by rw [HN.out]; exact Nat.le_refl _)
      rw [hTk, HT.out]
      clear hb hTk
      go_wp2_with fail
      refine (HG.out _).mono ?_
      rintro e w2 ⟨⟨gv, rfl, hown⟩, hb2⟩
      have HO := Lib.hid (ownsRow_base hown HB.out.size)
      have HB2 := Lib.hid (HB.out.trans (hb2.mono HB.out.size))
      clear hown hb2
      clear HB
      obtain ⟨w3, rfl⟩ : ∃ x, x = w2 := ⟨_, rfl⟩
      go_wp2_with fail
      go_loopw [6, 27] (fun gv iv wq => ∃ j : Nat, j ≤ k ∧ iv = .int .i64 j ∧ wq.ownsRow w.heap.size 3 1 gv (ls.take j).flatten.length (natV (ls.take j).flatten) ∧ Below w.heap.size w wq) (fun _ i _ => k - (Go.RowKit.intOf i).toNat)
      case atStart => exact ⟨0, Nat.zero_le _, rfl, HO.out, HB2.out⟩
      case round =>
        obtain ⟨j, hjk, rfl, hown, hb⟩ := hrel
        have HO3 := Lib.hid hown
        have HB3 := Lib.hid hb
        by_cases hlt : j < k
        · obtain ⟨l, hl'⟩ : ∃ l, ls[j]? = some l := ⟨_, List.getElem?_eq_getElem (by rw [HN.out]; omega)⟩
          obtain ⟨A', cap', he', -, hr⟩ := (HV.out _ hb).form
          cases he'
          obtain ⟨bk, off, rfl, -, hj⟩ := hr (by rw [HN.out]; omega)
          obtain ⟨u, c0, hu⟩ := hj j l hl'
          have HU := Lib.hid (show SeesC _ _ u (natV l) from hu)
          obtain ⟨uA, uc, rfl, huc, -⟩ := hu.form
          have hnx := flat_take hl'
          have hle := HFL.out (j + 1)
          rw [hnx, List.length_append] at hle
          obtain ⟨Z, hZ⟩ : ∃ Z, (ls.take j).flatten = Z := ⟨_, rfl⟩
          rw [hZ] at hnx hle HO3
          have hlow := own_low HO3.out
          have HLOW := Lib.hid hlow
          have HX := Lib.hid hnx
          have hszb := hb.size
          obtain ⟨i0, hi, hz0, hz1, hz2⟩ := info_parts' Tryz.infoInt2
          have hsl := natV_len l
          have HSL := Lib.hid hsl
          clear hb hnx hj hr hl' hZ hown hu hlow hsl
          go_wp2_with (at_builtin; refine wpList_append_sees rfl (.tmp 31) (.tmp 32) 22 rfl w.heap.size 3 i0 _ 8 Tryz.underlying22 hi hz0 hz1 hz2 rfl _ Z.length (natV Z) rfl HO3.out _ _ (natV l) rfl HU.out (natV_one _) (by rw [HSL.out]; unfold maxLen; omega) (by rw [HSL.out]; omega) hszb ?_)
          intro v' w4 h1 h2 _
          have HO4 := Lib.hid h1
          have hb4 := HB3.out.grown h2 hszb (fun k e => (HLOW.out k e).1)
          have HB4 := Lib.hid hb4
          clear h1 h2 hb4
          go_wp2_with fail
          refine ⟨⟨j + 1, by omega, by go_num, ?_, HB4.out⟩, by simp only [Go.RowKit.intOf]; omega⟩
          rw [HX.out, List.length_append, natV_app, ← HSL.out]
          exact HO4.out
        · obtain rfl : j = k := by omega
          have hTk : ls.take j = ls := List.take_of_length_le (by rw [HN.out]; exact Nat.le_refl _)
          rw [hTk] at HO3
          clear hb hown hTk
          go_wp2_with fail
          go_ret
          exact ⟨⟨_, rfl, HO3.out⟩, HB3.out⟩

theorem RN.rows {w : World} {v : Value} {l : List Nat} (h : RN w v l) : Rows 1 EInt w v (intsN l) := by
  obtain ⟨A, cap, rfl, hc, hr⟩ := h.form
  refine ⟨A, cap, by rw [intsN_len], by rw [intsN_len]; exact hc, fun h0 => ?_⟩
  rw [intsN_len] at h0
  obtain ⟨b, off, hA, hb, hj⟩ := hr h0
  refine ⟨b, off, hA, hb, fun j x hx => ⟨[.int .i64 x], rfl, rfl, fun i u hu => ?_⟩⟩
  match i, hu with
  | 0, hu =>
    cases hu
    simp only [intsN, List.getElem?_map] at hx
    cases hl : l[j]? with
    | none => rw [hl] at hx; cases hx
    | some y =>
      rw [hl] at hx
      cases hx
      rw [Nat.mul_one, Nat.add_zero]
      exact hj j y hl
theorem sliceI_to (A : Option Addr) (n cap k : Nat) (hk : k ≤ n) (hn : n ≤ cap) (w : World) : (Instr.slice 22 (.slice A n cap) none (some (.int .i64 (k : Int))) none).run Tryz.prog w = .ok (.slice A k cap) w := by
  rw [run_slice_h w 22 _ _ _ (by kernel_rfl) .i64 k (by omega) (by omega)]
  have hz1 : (sizeOf (Tryz.prog.elem 22)).run Tryz.prog w = .ok 1 w := by kernel_rfl
  rw [hz1]
  cases A with
  | none => simp [Result.andThen, sliced]
  | some ad =>
    have h0 : ad.add 0 = ad := by simp [Addr.add]
    simp [Result.andThen, sliced, h0]
theorem RN.take {w : World} {A : Option Addr} {n cap : Nat} {l : List Nat} (h : RN w (.slice A n cap) l) {k : Nat} (hk : k ≤ n) (hA : A ≠ none) : RN w (.slice A k cap) (l.take k) := by
  obtain ⟨A0, cap0, hv, hc, hr⟩ := h.form
  cases hv
  refine RN.of (by rw [List.length_take]; omega) (by omega) (fun h0 => ?_) (fun e => absurd e hA)
  rw [List.length_take] at h0
  obtain ⟨b, off, h1, h2, h3⟩ := hr (by omega)
  refine ⟨b, off, h1, h2, fun j f hf => h3 j f ?_⟩
  rw [List.getElem?_take] at hf
  by_cases hj : j < k
  · rw [if_pos hj] at hf; exact hf
  · rw [if_neg hj] at hf; cases hf
theorem setCells_sz (g : Nat) : ∀ (vs : List Value) (o : Nat) (w : World), (w.setCells g o vs).heap.size = w.heap.size
  | [], _, w => rfl
  | v :: vs, o, w => by
    show ((w.setCell ⟨g, o, none⟩ v).setCells g (o + 1) vs).heap.size = _
    rw [setCells_sz g vs]
    simp [World.setCell]
theorem grown_setCells (g : Nat) : ∀ (vs : List Value) (o : Nat) (w : World), w.grownBy (w.setCells g o vs) (some g)
  | [], _, w => World.grownBy.refl w _
  | v :: vs, o, w => by
    show w.grownBy ((w.setCell ⟨g, o, none⟩ v).setCells g (o + 1) vs) (some g)
    exact grown_trans (grown_set w g o v) (grown_setCells g vs (o + 1) _)
/-- slices.Reverse of the beginning of a row of the call's own. -/
theorem reverse_any {w : World} {base : Nat} {v : Value} {l : List Nat} {n cap k : Nat} {A : Option Addr} (hv : v = .slice A n cap) (hown : w.ownsRow base 3 1 v n (natV l)) (hk : k ≤ n) (hn : 0 < n) (h4 : n ≤ 1000000) :
    ∃ g, A = some ⟨g, 0, none⟩ ∧ base ≤ g ∧ g < w.heap.size ∧ Calls Tryz.prog 43 #[.slice A k cap] w fun e w' => e = .returned (.tuple #[]) ∧ RN w' (.slice A k cap) (l.take k).reverse ∧ w.grownBy w' (some g) ∧ w'.heap.size = w.heap.size := by
  subst hv
  have hll : l.length = n := by have := hown.1; rw [natV_len] at this; omega
  rcases hown.2 with ⟨h0, h1⟩ | ⟨g, cap', cur, hv, hbg, hh, hc, hcm, hcs, htake⟩
  · omega
  · cases hv
    have hgl := (Array.getElem?_eq_some_iff.1 hh).1
    refine ⟨g, rfl, hbg, hgl, ?_⟩
    have hget : ∀ j, j < (intsN l).length → w.cell? ⟨g, 0 + j, none⟩ = some (.int .i64 ((intsN l).getD j 0)) := fun j hj => by
      rw [intsN_len] at hj
      rw [Nat.zero_add, hown.cellAt j (by omega)]
      simp [natV, intsN, hj]
    refine (Tryz.slices_Reverse_int_cells g 0 k cap (intsN l) w (by rw [intsN_len]; omega) (by omega) hget (fun j hj => by simp [World.frozen?, hh])).mono ?_
    rintro e w' ⟨rfl, q, rfl⟩
    have hE : ((intsN l).take k).reverse.map (Value.int .i64) = natV (l.take k).reverse := by
      simp only [intsN, natV, List.map_take, List.map_reverse, List.map_map]
      rfl
    rw [hE]
    have hlen : (natV (l.take k).reverse).length = k := by rw [natV_len, List.length_reverse, List.length_take]; omega
    have hcc : k ≤ cap := by omega
    refine ⟨rfl, ?_, ?_, ?_⟩
    · refine RN.of (by rw [List.length_reverse, List.length_take]; omega) hcc (fun h0 => ⟨g, 0, rfl, ?_, fun j f hf => ?_⟩) (fun e => by cases e)
      · rw [setCells_sz]; exact hgl
      · have hj : j < (natV (l.take k).reverse).length := by
          have := (List.getElem?_eq_some_iff.1 hf).1
          rw [natV_len]; exact this
        rw [World.cell?_setCells_in g _ 0 (w.drewN q) (fun i hi => ?_) j hj]
        · rw [← List.getElem?_eq_getElem hj]
          exact natV_get hf
        · rw [hlen] at hi
          have h1 : (w.drewN q).cell? ⟨g, 0 + i, none⟩ = w.cell? ⟨g, 0 + i, none⟩ := rfl
          rw [h1, hget i (by rw [intsN_len]; omega)]
          rfl
    · have h1 : w.grownBy (w.drewN q) (some g) := grown_below (below_drewN (Below.refl _ w) q) _
      exact grown_trans h1 (grown_setCells g _ 0 _)
    · exact setCells_sz g _ 0 _

theorem mt_of {h : List Int} (hO : Okh h) {a b i k : Nat} (hm : Mt (way h a) (way h b) i k) : joinW (way h a) (way h b) = ((way h a).take (i + 1) ++ ((way h b).take k).reverse, 0) := by
  obtain ⟨⟨c, h1, h2⟩, h3, h4⟩ := hm
  exact joinW_some h1 h2 h3 (fun j hj e => h4 j c hj e h1)
theorem own_blk {w : World} {base n : Nat} {e : TypeId} {A : Option Addr} {m cap : Nat} {xs : List Value} (h : w.ownsRow base e 1 (.slice A m cap) n xs) (hn : 0 < n) : ∃ g, A = some ⟨g, 0, none⟩ ∧ base ≤ g ∧ g < w.heap.size ∧ m = n := by
  rcases h.2 with ⟨h0, h1⟩ | ⟨g, cap', cur, hv, hbg, hh, _⟩
  · omega
  · cases hv
    exact ⟨g, rfl, hbg, (Array.getElem?_eq_some_iff.1 hh).1, rfl⟩
theorem last_way {h : List Int} (a : Nat) : (way h a)[(way h a).length - 1]? = some (rootH h a) := by
  unfold rootH
  have hp : 0 < (way h a).length := List.length_pos_of_mem (way_self a)
  rw [List.getLastD_eq_getLast?, List.getLast?_eq_getElem?, List.getElem?_eq_getElem (by omega)]
  rfl

set_option maxRecDepth 100000 in
set_option maxHeartbeats 8000000 in
theorem path_ok {w : World} {v : Value} {h : List Int} (hv : Rows 1 EInt w v h) (hok : okH h = true) (a b : Nat) (ha : a < h.length) (hb : b < h.length) :
    Calls Tryz.prog 14 #[v, .int .i64 a, .int .i64 b] w fun e w' => (∃ vr, e = .returned (.tuple #[vr, .int .i64 (joinW (way h a) (way h b)).2]) ∧ RN w' vr (joinW (way h a) (way h b)).1) ∧ Below w.heap.size w w' := by
  obtain ⟨A, cap, rfl, hc⟩ := hv.form
  have hO := okh_iff.1 hok
  have h4 := hO.len
  have HVA := Lib.hid (valid_any hv (by unfold maxLen; omega))
  have HTA := Lib.hid (fun W => isToken_any (a : Int) A h.length cap W)
  have HTB := Lib.hid (fun W => isToken_any (b : Int) A h.length cap W)
  rw [show decide (0 ≤ (a : Int) ∧ (a : Int) < (h.length : Int)) = true from decide_eq_true (by omega)] at HTA
  rw [show decide (0 ≤ (b : Int) ∧ (b : Int) < (h.length : Int)) = true from decide_eq_true (by omega)] at HTB
  rw [hok] at HVA
  have HWA := Lib.hid (fun (W : World) (hb : Below w.heap.size w W) => way_any (hv.below stays_int hb) hO a ha)
  have HWB := Lib.hid (fun (W : World) (hb' : Below w.heap.size w W) => way_any (hv.below stays_int hb') hO b hb)
  have hla := way_len hO ha
  have hlb := way_len hO hb
  have hpa : 0 < (way h a).length := List.length_pos_of_mem (way_self a)
  have hpb : 0 < (way h b).length := List.length_pos_of_mem (way_self b)
  have lwa := last_way (h := h) a
  have lwb := last_way (h := h) b
  have HMT := Lib.hid (fun i k => mt_of (a := a) (b := b) (i := i) (k := k) hO)
  have HNO := Lib.hid (fun e => joinW_none (a := a) (b := b) hO e)
  have HEX := Lib.hid (meet_iff hO a b)
  have HRL := Lib.hid (And.intro (way_lt hO ha (root_mem a)) (way_lt hO hb (root_mem b)))
  obtain ⟨n, hn⟩ : ∃ n, h.length = n := ⟨_, rfl⟩
  obtain ⟨X, hX⟩ : ∃ X, way h a = X := ⟨_, rfl⟩
  obtain ⟨Y, hY⟩ : ∃ Y, way h b = Y := ⟨_, rfl⟩
  obtain ⟨ra, hra⟩ : ∃ r, rootH h a = r := ⟨_, rfl⟩
  obtain ⟨rb, hrb⟩ : ∃ r, rootH h b = r := ⟨_, rfl⟩
  obtain ⟨m1, hm1⟩ : ∃ m, X.length = m := ⟨_, rfl⟩
  obtain ⟨m2, hm2⟩ : ∃ m, Y.length = m := ⟨_, rfl⟩
  rw [hX] at HWA hla hpa lwa HMT HNO HEX ⊢
  rw [hY] at HWB hlb hpb lwb HMT HNO HEX ⊢
  rw [hra] at lwa HNO HEX HRL
  rw [hrb] at lwb HNO HEX HRL
  rw [hn] at hc HVA HTA HTB HWA HWB hla hlb ha hb h4 HRL ⊢
  rw [hm1] at HWA hla hpa lwa
  rw [hm2] at HWB hlb hpb lwb
  obtain ⟨k1, hk1⟩ : ∃ k, m1 - 1 = k := ⟨_, rfl⟩
  obtain ⟨k2, hk2⟩ : ∃ k, m2 - 1 = k := ⟨_, rfl⟩
  rw [hk1] at lwa
  rw [hk2] at lwb
  have HM := Lib.hid (And.intro hm1 hm2)
  have HLW := Lib.hid (And.intro lwa lwb)
  have e1 : (m1 : Int) - 1 = (k1 : Int) := by omega
  have e2 : (m2 : Int) - 1 = (k2 : Int) := by omega
  have w1k : IntKind.i64.wrap (k1 : Int) = (k1 : Int) := by rw [IntKind.wrap_i64]; omega
  have w2k : IntKind.i64.wrap (k2 : Int) = (k2 : Int) := by rw [IntKind.wrap_i64]; omega
  have l1 : (k1 : Int) < (m1 : Int) := by omega
  have l2 : (k2 : Int) < (m2 : Int) := by omega
  have HB4 := Lib.hid (show m1 ≤ 4096 ∧ m2 ≤ 4096 ∧ 0 < m1 ∧ 0 < m2 by omega)
  clear hX hY hra hrb hm1 hm2 hk1 hk2 lwa lwb hla hlb hpa hpb hn hO hok hv ha hb
  go_enter Tryz.func14, Tryz.ntmps14
  go_wp2_with fail
  refine HVA.out.mono ?_
  rintro e w1 ⟨rfl, hb1⟩
  have HB1 := Lib.hid hb1
  clear hb1
  go_wp2_with fail
  refine (HTA.out w1).mono ?_
  rintro e w1 ⟨rfl, rfl⟩
  go_wp2_with fail
  refine (HTB.out w1).mono ?_
  rintro e w1 ⟨rfl, rfl⟩
  go_wp2_with fail
  refine (HWA.out _ HB1.out).mono ?_
  rintro e w2 ⟨⟨vr, rfl, hown1⟩, hb2⟩
  obtain ⟨A2, c2, rfl, hc2⟩ := own_form hown1
  have HB2 := Lib.hid (HB1.out.trans (hb2.mono HB1.out.size))
  have HO1 := Lib.hid hown1
  clear hb2 hown1
  go_wp2_with fail
  refine (HWB.out _ HB2.out).mono ?_
  rintro e w3 ⟨⟨vr, rfl, hown2⟩, hb3⟩
  obtain ⟨A3, c3, rfl, hc3⟩ := own_form hown2
  have HB3 := Lib.hid (HB2.out.trans (hb3.mono HB2.out.size))
  have HO1' := Lib.hid (own_after HO1.out hb3)
  have HO2 := Lib.hid hown2
  obtain ⟨g1, rfl, hg1b, hg1, -⟩ := own_blk HO1.out HB4.out.2.2.1
  obtain ⟨g2, rfl, hg2b, hg2, -⟩ := own_blk HO2.out HB4.out.2.2.2
  have HG := Lib.hid (show g1 ≠ g2 ∧ w.heap.size ≤ g1 ∧ w.heap.size ≤ g2 by have := (own_low HO1.out g1 rfl).1; have := HB1.out.size; have := HB2.out.size; omega)
  have hr1 := (rn_own HO1'.out).1
  have hr2 := (rn_own HO2.out).1
  have u1 : w3.cell? ⟨g1, k1, none⟩ = some (.int .i64 (ra : Int)) := by
    obtain ⟨A', c', e', _, hj⟩ := hr1.form
    cases e'
    obtain ⟨b', o', e', _, hj⟩ := hj (by rw [HM.out.1]; exact HB4.out.2.2.1)
    cases e'
    have := hj k1 ra HLW.out.1
    rw [Nat.zero_add] at this
    exact this
  have u2 : w3.cell? ⟨g2, k2, none⟩ = some (.int .i64 (rb : Int)) := by
    obtain ⟨A', c', e', _, hj⟩ := hr2.form
    cases e'
    obtain ⟨b', o', e', _, hj⟩ := hj (by rw [HM.out.2]; exact HB4.out.2.2.2)
    cases e'
    have := hj k2 rb HLW.out.2
    rw [Nat.zero_add] at this
    exact this
  clear hb3 hown2 HO1 hg1b hg1 hg2b hg2
  by_cases hroot : ra = rb
  · subst hroot
    have eb : ((ra : Int) != (ra : Int)) = false := by simp
    have HRN := Lib.hid (And.intro hr1 hr2)
    have hmeet : ∀ W, Below w3.heap.size w3 W → Calls Tryz.prog 42 #[.slice (some ⟨g1, 0, none⟩) m1 c2, .slice (some ⟨g2, 0, none⟩) m2 c3] W fun e w' => (∃ i k : Nat, e = .returned (.tuple #[.int .i64 i, .int .i64 k]) ∧ Mt X Y i k) ∧ Below W.heap.size W w' := fun W hW =>
      meeting_any (hr1.below hW).rows (hr2.below hW).rows (by have := HM.out; have := HB4.out; omega) (by have := HM.out; have := HB4.out; omega) (HEX.out.2 rfl)
    have HME := Lib.hid hmeet
    clear hr1 hr2 hmeet HNO
    go_wp2_with fail
    go_quiet (fail)
    obtain ⟨w4, hw4⟩ : ∃ W, w3.drewN nq = W := ⟨_, rfl⟩
    have hb4 : Below w3.heap.size w3 w4 := hw4 ▸ below_drewN (Below.refl _ _) nq
    rw [hw4]
    have HM4 := Lib.hid (HME.out w4 hb4)
    have HB4b := Lib.hid hb4
    clear hw4 hb4 u1 u2
    go_wp2_with fail
    refine HM4.out.mono ?_
    rintro e w5 ⟨⟨i, k, rfl, hmt⟩, hb5⟩
    have hb35 := HB4b.out.trans (hb5.mono HB4b.out.size)
    have hik : i < m1 ∧ k < m2 := by
      obtain ⟨c, x1, x2⟩ := hmt.x
      have := (List.getElem?_eq_some_iff.1 x1).1
      have := (List.getElem?_eq_some_iff.1 x2).1
      have := HM.out
      omega
    have HJ := Lib.hid (HMT.out i k hmt)
    have HOY := Lib.hid (own_after HO2.out hb35)
    have HOX := Lib.hid (own_after HO1'.out hb35)
    have HB5 := Lib.hid (HB3.out.trans (hb35.mono HB3.out.size))
    have hsl1 := sliceI_to (some ⟨g2, 0, none⟩) m2 c3 k (by omega) hc3
    obtain ⟨_, he, _, _, hrev⟩ := reverse_any (k := k) (cap := c3) (A := some ⟨g2, 0, none⟩) rfl HOY.out (by omega) HB4.out.2.2.2 (by have := HB4.out; omega)
    cases he
    have HREV := Lib.hid hrev
    have HS := Lib.hid hsl1
    have HIK := Lib.hid hik
    have HOI := Lib.hid (And.intro hc2 hc3)
    clear hmt hb5 hb35 hrev HM4 HME HB4b HRN hsl1 hik
    have hs := HS.out
    go_wp2_with fail
    refine HREV.out.mono ?_
    rintro e w6 ⟨rfl, hrn, hgr, hsz⟩
    have hb6 : Below w.heap.size w w6 := HB5.out.grown hgr HB5.out.size (fun k e => by cases e; exact HG.out.2.2)
    have hX6 : RN w6 (.slice (some ⟨g1, 0, none⟩) m1 c2) X := by
      refine (rn_own (base := w.heap.size) (n := m1) (ownsRow_block (w := w5) (ownsRow_base HOX.out HB1.out.size) ?_)).1
      refine hgr.block g1 ?_ (fun e => HG.out.1 (by cases e; rfl))
      have := (own_low HOX.out g1 rfl).2
      exact this
    have HB6 := Lib.hid hb6
    have hx7 := hX6.take (k := i + 1) (by have := HIK.out.1; omega) (by simp)
    have HR := Lib.hid (And.intro hx7 hrn)
    have hs2 : ∀ W, (Instr.slice 22 (.slice (some ⟨g1, 0, none⟩) m1 c2) none (some (.int .i64 ((i : Int) + 1))) none).run Tryz.prog W = .ok (.slice (some ⟨g1, 0, none⟩) (i + 1) c2) W := fun W => by
      rw [show (i : Int) + 1 = ((i + 1 : Nat) : Int) by omega]
      exact sliceI_to _ _ _ _ (by have := HIK.out.1; omega) HOI.out.1 W
    have hi64 : IntKind.i64.wrap ((i : Int) + 1) = (i : Int) + 1 := by rw [IntKind.wrap_i64]; have := HIK.out; have := HB4.out; omega
    have hcat : Calls Tryz.prog 44 #[.slice (some ⟨w6.heap.size, 0, none⟩) 2 2] (w6.alloc (.cells #[.slice (some ⟨g1, 0, none⟩) (i + 1) c2, .slice (some ⟨g2, 0, none⟩) k c3] 22)).drew fun e w' => (∃ v', e = .returned v' ∧ RN w' v' (X.take (i + 1) ++ (Y.take k).reverse)) ∧ Below w6.heap.size w6 w' := by
      have hbx : Below w6.heap.size w6 (w6.alloc (.cells #[.slice (some ⟨g1, 0, none⟩) (i + 1) c2, .slice (some ⟨g2, 0, none⟩) k c3] 22)).drew := ((Below.refl _ w6).alloc (Nat.le_refl _) _).drew
      have hrow : RowsN (w6.alloc (.cells #[.slice (some ⟨g1, 0, none⟩) (i + 1) c2, .slice (some ⟨g2, 0, none⟩) k c3] 22)).drew (.slice (some ⟨w6.heap.size, 0, none⟩) 2 2) [X.take (i + 1), (Y.take k).reverse] := by
        refine ⟨[.slice (some ⟨g1, 0, none⟩) (i + 1) c2, .slice (some ⟨g2, 0, none⟩) k c3], .inr ⟨_, 2, rfl, Nat.le_refl _, fun _ => by show w6.heap.size < (w6.alloc _).heap.size; simp, fun j u hu => ?_⟩, rfl, fun j u l hu hl => ?_⟩
        · exact news_at w6 [.slice (some ⟨g1, 0, none⟩) (i + 1) c2, .slice (some ⟨g2, 0, none⟩) k c3] _ j u hu
        · match j, hu, hl with
          | 0, hu, hl => cases hu; cases hl; exact HR.out.1.below hbx
          | 1, hu, hl => cases hu; cases hl; exact HR.out.2.below hbx
          | j + 2, hu, _ => simp at hu
      have hlen : ([X.take (i + 1), (Y.take k).reverse] : List (List Nat)).flatten.length ≤ 100000 := by
        have := HM.out
        have := HB4.out
        simp
        omega
      refine (concatI_any hrow (by simp) hlen).mono ?_
      rintro e w' ⟨⟨v', rfl, hown⟩, hb⟩
      refine ⟨⟨v', rfl, ?_⟩, hbx.trans (hb.mono hbx.size)⟩
      have := (rn_own hown).1
      simpa using this
    have HCAT := Lib.hid hcat
    have hw6 : Below w6.heap.size w6 w6 := Below.refl _ _
    have HW6 := Lib.hid hw6
    clear hrn hgr hb6 hX6 hx7 hcat hw6 hsz
    go_wp2_with fail
    go_region_held3 (fun _ => True)
      (first
        | go_keep
        | (exact trivial)
        | fail)
      ((first
        | (go_at_call 44; (with_reducible refine HCAT.out.mono ?_); rintro e w7 ⟨⟨vc, rfl, hvc⟩, hb7⟩)
        | fail))
    have HB7 := Lib.hid (HB6.out.trans (hb7.mono HB6.out.size))
    have HVC := Lib.hid hvc
    clear hb7 hvc
    go_wp2_with fail
    go_ret2
    rw [HJ.out]
    exact ⟨⟨_, rfl, HVC.out⟩, HB7.out⟩
  · have eb : ((ra : Int) != (rb : Int)) = true := by simp <;> omega
    have hne : ¬ ((ra : Int) = (rb : Int)) := by omega
    have HNR := Lib.hid (HNO.out hroot)
    have HRN := Lib.hid (And.intro hr1 hr2)
    clear hr1 hr2 HNO HMT HEX hroot
    go_wp2_with fail
    go_quiet (fail)
    go_wp2_with fail
    go_ret2
    rw [HNR.out]
    exact ⟨⟨_, rfl, RN.nil _⟩, below_drewN HB3.out _⟩
end Go.Proofs.YtmjmidgfdjcbfaaGreatDoor.Dep
namespace Go.Proofs.YtmjmidgfdjcbfaaGreatDoor.Dep
open Go.RowKit Go.Shelf Go.Lib
set_option linter.unusedVariables false

set_option maxRecDepth 100000 in
set_option maxHeartbeats 4000000 in
theorem path_any {w : World} {v : Value} {h : List Int} (hv : Rows 1 EInt w v h) (hl : h.length ≤ maxLen) (a b : Int) :
    Calls Tryz.prog 14 #[v, .int .i64 a, .int .i64 b] w fun e w' => (∃ vr, e = .returned (.tuple #[vr, .int .i64 (pathH h a b).2]) ∧ RN w' vr (pathH h a b).1) ∧ Below w.heap.size w w' := by
  unfold pathH
  by_cases hok : okH h = true
  · by_cases ha : 0 ≤ a ∧ a < (h.length : Int)
    · by_cases hb : 0 ≤ b ∧ b < (h.length : Int)
      · rw [if_pos ⟨hok, ha, hb⟩]
        obtain ⟨x, rfl⟩ : ∃ x : Nat, a = (x : Int) := ⟨a.toNat, by omega⟩
        obtain ⟨y, rfl⟩ : ∃ y : Nat, b = (y : Int) := ⟨b.toNat, by omega⟩
        rw [Int.toNat_natCast, Int.toNat_natCast]
        exact path_ok hv hok x y (by omega) (by omega)
      · rw [if_neg (fun hh => hb hh.2.2)]
        obtain ⟨A, cap, rfl, hc⟩ := hv.form
        have HVA := Lib.hid (valid_any hv hl)
        have HTA := Lib.hid (fun W => isToken_any a A h.length cap W)
        have HTB := Lib.hid (fun W => isToken_any b A h.length cap W)
        rw [show decide (0 ≤ a ∧ a < (h.length : Int)) = true from decide_eq_true ha] at HTA
        rw [show decide (0 ≤ b ∧ b < (h.length : Int)) = false from decide_eq_false hb] at HTB
        rw [hok] at HVA
        clear hok ha hb hv hl
        go_enter Tryz.func14, Tryz.ntmps14
        go_wp2_with fail
        refine HVA.out.mono ?_
        rintro e w1 ⟨rfl, hb1⟩
        have HB1 := Lib.hid hb1
        clear hb1
        go_wp2_with fail
        refine (HTA.out w1).mono ?_
        rintro e w1 ⟨rfl, rfl⟩
        go_wp2_with fail
        refine (HTB.out w1).mono ?_
        rintro e w1 ⟨rfl, rfl⟩
        go_wp2_with fail
        go_ret2
        exact ⟨⟨_, rfl, RN.nil _⟩, HB1.out⟩
    · rw [if_neg (fun hh => ha hh.2.1)]
      obtain ⟨A, cap, rfl, hc⟩ := hv.form
      have HVA := Lib.hid (valid_any hv hl)
      have HTA := Lib.hid (fun W => isToken_any a A h.length cap W)
      rw [show decide (0 ≤ a ∧ a < (h.length : Int)) = false from decide_eq_false ha] at HTA
      rw [hok] at HVA
      clear hok ha hv hl
      go_enter Tryz.func14, Tryz.ntmps14
      go_wp2_with fail
      refine HVA.out.mono ?_
      rintro e w1 ⟨rfl, hb1⟩
      have HB1 := Lib.hid hb1
      clear hb1
      go_wp2_with fail
      refine (HTA.out w1).mono ?_
      rintro e w1 ⟨rfl, rfl⟩
      go_wp2_with fail
      go_ret2
      exact ⟨⟨_, rfl, RN.nil _⟩, HB1.out⟩
  · rw [if_neg (fun hh => hok hh.1)]
    obtain ⟨A, cap, rfl, hc⟩ := hv.form
    have HVA := Lib.hid (valid_any hv hl)
    have hok2 : okH h = false := by simpa using hok
    rw [hok2] at HVA
    clear hok hok2 hv hl
    go_enter Tryz.func14, Tryz.ntmps14
    go_wp2_with fail
    refine HVA.out.mono ?_
    rintro e w1 ⟨rfl, hb1⟩
    have HB1 := Lib.hid hb1
    clear hb1
    go_wp2_with fail
    go_ret2
    exact ⟨⟨_, rfl, RN.nil _⟩, HB1.out⟩

theorem intsN_set (l : List Nat) (i n : Nat) : (intsN l).set i (n : Int) = intsN (l.set i n) := by
  simp [intsN, List.map_set]
theorem ends_at {h : List Int} {i t : Nat} {done : List Nat} (ht : t < h.length) (hn : t ∉ done) : (intsN (endsL h i done)).getD t 0 = (lastD h i t : Int) := by
  rw [List.getD_eq_getElem?_getD, intsN_get (ends_get ht), if_neg hn]
  rfl

set_option maxRecDepth 100000 in
set_option maxHeartbeats 16000000 in
theorem anyGap_any {w : World} {v : Value} {h : List Int} (hv : Rows 1 EInt w v h) (hO : Okh h) :
    Calls Tryz.prog 47 #[v] w fun e w' => e = .returned (.bool (gapB h)) ∧ Below w.heap.size w w' := by
  obtain ⟨A, cap, rfl, hc⟩ := hv.form
  obtain ⟨n, hn⟩ : ∃ n, h.length = n := ⟨_, rfl⟩
  have hl := hO.len
  have HV := Lib.hid (fun W (hb : Below w.heap.size w W) => hv.below stays_int hb)
  have HAT := Lib.hid (fun t (ht : t < n) => hO.at (i := t) (by rw [hn]; exact ht))
  rw [hn] at hc hl HV
  have HN := Lib.hid hn
  have HO := Lib.hid hO
  obtain ⟨i1, hi1, hy0, hy1, hy2⟩ := info_parts' Tryz.infoInt2
  have hmk : ∀ W : World, (Instr.makeSlice 22 (.int .i64 n) (.int .i64 n)).run Tryz.prog W = .ok (.slice (some ⟨W.heap.size, 0, none⟩) n n) (W.alloc (.cells (intRow (List.replicate n 0)) 3)) := fun W => by
    have := run_make (P := Tryz.prog) W 22 3 i1 _ Tryz.underlying22 hi1 hy0 .i64 .i64 n n (by omega) (by omega) (by rw [hy2]; omega) (by omega)
    rw [Int.toNat_natCast, hy1, Nat.mul_one] at this
    rw [← made_int]
    exact this
  obtain ⟨N, hN⟩ : ∃ N, w.heap.size = N := ⟨_, rfl⟩
  obtain ⟨W0, hW0⟩ : ∃ W0, w.alloc (.cells (intRow (List.replicate n 0)) 3) = W0 := ⟨_, rfl⟩
  have hst0 : DSt w W0 N (intsN (endsL h 0 [])) := by
    have b1 := block_new w (.cells (intRow (List.replicate n 0)) 3)
    rw [hN] at b1
    rw [← hW0, ends_start, hn]
    have e : intsN (List.replicate n 0) = List.replicate n 0 := by simp [intsN]
    rw [e]
    exact ⟨below_box w _, b1⟩
  have hcell : ∀ (W : World), Below w.heap.size w W → 0 < n → ∃ bk off, A = some ⟨bk, off, none⟩ ∧ bk < N ∧ ∀ (j : Nat) (x : Int), h[j]? = some x → W.cell? ⟨bk, off + j, none⟩ = some (.int .i64 x) := fun W hb h0 => by
    obtain ⟨bk, off, h1, h3, h2⟩ := at_int (HV.out W hb) (by rw [HN.out]; exact h0)
    obtain ⟨bk', off', h1', h3', _⟩ := at_int (HV.out w (Below.refl _ _)) (by rw [HN.out]; exact h0)
    rw [h1] at h1'
    cases h1'
    exact ⟨bk, off, h1, by omega, h2⟩
  obtain ⟨q, hq⟩ : ∃ q, gapB h = q := ⟨_, rfl⟩
  rw [hq]
  have HQ := Lib.hid hq
  have HST0 := Lib.hid hst0
  have HW0 := Lib.hid hW0
  have HNN := Lib.hid hN
  have HCELL := Lib.hid hcell
  clear hn hv hst0 hW0 hN hcell hO hq
  rw [HN.out]
  go_enter Tryz.func47, Tryz.ntmps47
  go_wp2_with fail
  rw [HW0.out, HNN.out]
  go_loopw [11] (fun sv wr => ∃ i : Nat, i ≤ n ∧ sv = .int .i64 i ∧ Hid (∀ j, j < i → ∀ a ∈ way h j, gapAt h j a = false) ∧ Hid (DSt w wr N (intsN (endsL h i [])))) (fun sv _ => n - (Go.RowKit.intOf sv).toNat)
  case atStart => exact ⟨0, Nat.zero_le _, rfl, Lib.hid (fun j hj => absurd hj (by omega)), HST0⟩
  case round =>
    clear HST0 HW0 hmk
    obtain ⟨i, hin, rfl, HZ, HS⟩ := hrel
    by_cases hlt : i < n
    · have hlti : (i : Int) < (n : Int) := by omega
      have hi64 : IntKind.i64.wrap ((i : Int) + 1) = (i : Int) + 1 := by rw [IntKind.wrap_i64]; omega
      go_wp2_with fail
      obtain ⟨wo, rfl⟩ : ∃ wo, wo = wr := ⟨_, rfl⟩
      go_loopg [5] (way h i).length (fun gg av wr => ∃ (done rest : List Nat) (a : Int), av = .int .i64 a ∧ rest.length ≤ gg ∧ Hid (way h i = done ++ rest) ∧ Hid ((a = -1 ∧ rest = []) ∨ ∃ t : Nat, a = (t : Int) ∧ t < n ∧ rest = way h t) ∧ Hid (∀ a ∈ done, gapAt h i a = false) ∧ Hid (DSt w wr N (intsN (endsL h i done))))
      case atStart => exact ⟨[], way h i, i, rfl, Nat.le_refl _, Lib.hid rfl, Lib.hid (.inr ⟨i, rfl, hlt, rfl⟩), Lib.hid (by simp), HS⟩
      case round =>
        clear HS
        obtain ⟨done, rest, a, rfl, hgg, HD, HR, HG, HS⟩ := hrel
        rcases HR.out with ⟨ha, hr⟩ | ⟨t, ha, ht, hr⟩
        · subst ha
          subst hr
          have HZ2 := Lib.hid (show ∀ j, j < i + 1 → ∀ a ∈ way h j, gapAt h j a = false from fun j hj a ha => by
            by_cases e : j = i
            · subst e
              rw [HD.out, List.append_nil] at ha
              exact HG.out a ha
            · exact HZ.out j (by omega) a ha)
          have HS2 := Lib.hid (show DSt w wr N (intsN (endsL h (i + 1) [])) by
            rw [← ends_next, HD.out, List.append_nil]
            exact HS.out)
          clear HR HD HG HS
          go_wp2_with fail
          exact ⟨⟨i + 1, by omega, by go_num, HZ2, HS2⟩, by simp only [Go.RowKit.intOf]; omega⟩
        · subst ha
          have hti : (t : Int) < (n : Int) := by omega
          have ht1 : ((t : Int) != -1) = true := by simp <;> omega
          have hnd : t ∉ done := fun hm => by
            have h1 := way_nodup HO.out i
            rw [HD.out, hr, List.nodup_append] at h1
            exact h1.2.2 t hm t (way_self t) rfl
          have hmem : t ∈ way h i := by rw [HD.out, hr]; exact List.mem_append_right _ (way_self t)
          have hcur := ends_at (h := h) (i := i) (by rw [HN.out]; exact ht) hnd
          have kw : wr.cell? ⟨N, t, none⟩ = some (.int .i64 (lastD h i t : Int)) := by
            rw [← hcur]
            exact cell_of HS.out.d (intRow_get (by rw [intsN_len, ends_len, HN.out]; exact ht))
          have fw : wr.frozen? ⟨N, t, none⟩ = false := frozen_of HS.out.d
          have hge : gapAt h i t = (decide (lastD h i t ≠ 0) && decide (lastD h i t ≠ i)) := rfl
          have hcl := lastD_le (h := h) (a := t) (i := i)
          obtain ⟨c, hcc⟩ : ∃ c, lastD h i t = c := ⟨_, rfl⟩
          rw [hcc] at kw hge hcl
          have HMEM := Lib.hid hmem
          by_cases hgap : gapAt h i t = true
          · rw [hgap] at hge
            have hqt : q = true := by
              rw [← HQ.out]
              unfold gapB
              rw [List.any_eq_true]
              exact ⟨i, List.mem_range.2 (by rw [HN.out]; exact hlt), List.any_eq_true.2 ⟨t, hmem, hgap⟩⟩
            subst hqt
            have hge2 := hge.symm
            rw [Bool.and_eq_true, decide_eq_true_iff, decide_eq_true_iff] at hge2
            have c0 : ((c : Int) != 0) = true := by simp <;> omega
            have c1 : ((c : Int) != (i : Int)) = true := by simp <;> omega
            have HB := Lib.hid HS.out.below
            clear HR HD HG HS hr ht hnd hmem hcur hge hge2 hcl hcc hgap
            go_wp2_with fail
            go_ret
            exact ⟨rfl, HB.out⟩
          · have hgf : gapAt h i t = false := by simpa using hgap
            have HG2 := Lib.hid (show ∀ a ∈ done ++ [t], gapAt h i a = false from fun a ha => by
              rw [List.mem_append, List.mem_singleton] at ha
              rcases ha with ha | ha
              · exact HG.out a ha
              · subst ha; exact hgf)
            have HS2 := Lib.hid (show DSt w (wr.setCell ⟨N, t, none⟩ (.int .i64 ((i : Int) + 1))) N (intsN (endsL h i (done ++ [t]))) by
              rw [← ends_set (by rw [HN.out]; exact ht), ← intsN_set]
              exact HS.out.set HNN.out t ((i + 1 : Nat) : Int))
            obtain ⟨bk, off, rfl, hbk, hcel⟩ := HCELL.out wr HS.out.below (by omega)
            have hk2 : ∀ x, h[t]? = some x → (wr.setCell ⟨N, t, none⟩ (.int .i64 ((i : Int) + 1))).cell? ⟨bk, off + t, none⟩ = some (.int .i64 x) := fun x hx => (World.cell?_of_block (Below.heap_setCell wr ⟨N, t, none⟩ _ bk (by show bk ≠ N; omega))).trans (hcel t x hx)
            have hpre : ∀ rest', way h t = t :: rest' → way h i = (done ++ [t]) ++ rest' ∧ rest.length = rest'.length + 1 := fun rest' e => by
              rw [HD.out, hr, e]
              simp
            rw [hgf] at hge
            have hge2 := hge.symm
            rcases HAT.out t ht with ⟨hx, hs⟩ | ⟨b, hx, hb, hs⟩
            · have u0 := hk2 _ hx
              have HP := Lib.hid (hpre [] (way_root HO.out hs))
              clear HR HD HG HS hr ht hnd hmem hcur hge hcl hcc hgap hgf hk2 hpre hx hs hcel hbk
              by_cases hc0 : c = 0
              · subst hc0
                clear hge2
                go_wp2_with fail
                go_roundg 0
                case measure => have := HP.out.2; simp only [List.length_nil] at this; omega
                case rel => exact ⟨done ++ [t], [], -1, rfl, Nat.le_refl _, Lib.hid HP.out.1, Lib.hid (.inl ⟨rfl, rfl⟩), HG2, HS2⟩
              · have hci : c = i := by
                  simp [hc0] at hge2
                  exact hge2
                subst hci
                have c0 : ((c : Int) != 0) = true := by simp <;> omega
                have c1 : ((c : Int) != (c : Int)) = false := by simp
                clear hge2
                go_wp2_with fail
                go_roundg 0
                case measure => have := HP.out.2; simp only [List.length_nil] at this; omega
                case rel => exact ⟨done ++ [t], [], -1, rfl, Nat.le_refl _, Lib.hid HP.out.1, Lib.hid (.inl ⟨rfl, rfl⟩), HG2, HS2⟩
            · have u0 := hk2 _ hx
              have HP := Lib.hid (hpre _ (way_step HO.out hs))
              have hbn : b < n := by rw [← HN.out]; exact hb
              have HBN := Lib.hid hbn
              clear HR HD HG HS hr ht hnd hmem hcur hge hcl hcc hgap hgf hk2 hpre hx hs hcel hbk hb hbn
              by_cases hc0 : c = 0
              · subst hc0
                clear hge2
                go_wp2_with fail
                go_roundg (way h b).length
                case measure => have := HP.out.2; omega
                case rel => exact ⟨done ++ [t], way h b, b, rfl, Nat.le_refl _, Lib.hid HP.out.1, Lib.hid (.inr ⟨b, rfl, HBN.out, rfl⟩), HG2, HS2⟩
              · have hci : c = i := by
                  simp [hc0] at hge2
                  exact hge2
                subst hci
                have c0 : ((c : Int) != 0) = true := by simp <;> omega
                have c1 : ((c : Int) != (c : Int)) = false := by simp
                clear hge2
                go_wp2_with fail
                go_roundg (way h b).length
                case measure => have := HP.out.2; omega
                case rel => exact ⟨done ++ [t], way h b, b, rfl, Nat.le_refl _, Lib.hid HP.out.1, Lib.hid (.inr ⟨b, rfl, HBN.out, rfl⟩), HG2, HS2⟩
    · obtain rfl : i = n := by omega
      have hqf : q = false := by
        rw [← HQ.out]
        unfold gapB
        rw [List.any_eq_false]
        intro j hj
        rw [Bool.not_eq_true, List.any_eq_false]
        intro a ha
        rw [HZ.out j (by have := List.mem_range.1 hj; rw [HN.out] at this; exact this) a ha]
        simp
      subst hqf
      have HB := Lib.hid HS.out.below
      clear HS HZ
      go_wp2_with fail
      go_ret
      exact ⟨rfl, HB.out⟩

set_option maxRecDepth 100000 in
set_option maxHeartbeats 4000000 in
theorem projective_any {w : World} {v : Value} {h : List Int} (hv : Rows 1 EInt w v h) (hl : h.length ≤ maxLen) :
    Calls Tryz.prog 18 #[v] w fun e w' => e = .returned (.bool (projH h)) ∧ Below w.heap.size w w' := by
  obtain ⟨A, cap, rfl, hc⟩ := hv.form
  have HVA := Lib.hid (valid_any hv hl)
  unfold projH
  by_cases hok : okH h = true
  · have HGA := Lib.hid (fun W (hb : Below w.heap.size w W) => anyGap_any (hv.below stays_int hb) (okh_iff.1 hok))
    rw [hok] at HVA ⊢
    obtain ⟨q, hq⟩ : ∃ q, gapB h = q := ⟨_, rfl⟩
    rw [hq] at HGA ⊢
    rw [Bool.true_and]
    obtain ⟨n, hn⟩ : ∃ n, h.length = n := ⟨_, rfl⟩
    rw [hn] at HVA HGA hc ⊢
    clear hok hq hv hl hn
    go_enter Tryz.func18, Tryz.ntmps18
    go_wp2_with fail
    refine HVA.out.mono ?_
    rintro e w1 ⟨rfl, hb1⟩
    have HB1 := Lib.hid hb1
    clear hb1
    go_wp2_with fail
    refine (HGA.out w1 HB1.out).mono ?_
    rintro e w2 ⟨rfl, hb2⟩
    have HB2 := Lib.hid (HB1.out.trans (hb2.mono HB1.out.size))
    clear hb2
    go_wp2_with fail
    go_ret
    exact ⟨rfl, HB2.out⟩
  · have hok2 : okH h = false := by simpa using hok
    rw [hok2] at HVA ⊢
    rw [Bool.false_and]
    obtain ⟨n, hn⟩ : ∃ n, h.length = n := ⟨_, rfl⟩
    rw [hn] at HVA hc ⊢
    clear hok hok2 hv hl hn
    go_enter Tryz.func18, Tryz.ntmps18
    go_wp2_with fail
    refine HVA.out.mono ?_
    rintro e w1 ⟨rfl, hb1⟩
    have HB1 := Lib.hid hb1
    clear hb1
    go_wp2_with fail
    go_ret
    exact ⟨rfl, HB1.out⟩
end Go.Proofs.YtmjmidgfdjcbfaaGreatDoor.Dep
