/-
  WALKS over package depend, first part: slices.IndexFunc at numbers; Check, firstOnCycle, valid.
  WALKS over package depend, second part: Check, valid, way, Depth, meeting.
  WALKS over package depend, third part: slices.Concat at numbers; Path.
-/
import Derived.Test.YteennnhinfnahaaDaRq
import Derived.Deep.LoopGhost
import Derived.Deep.RegionHeld3
import Derived.Deep.DrawnRows
import Derived.Test.YteennnhinfnahaaShf
import Derived.RegionTactic
namespace Go.Proofs.Yteennnhinfnahaa
open Go.RowKit Go.Shelf Go.Lib
set_option linter.unusedVariables false

/-- The block of firstOnCycle. -/
structure DSt (w W : World) (N : Nat) (ds : List Int) : Prop where
  below : Below w.heap.size w W
  d : W.heap[N]? = some (.cells (intRow ds) 3 (0, 0))
theorem DSt.set {w W : World} {N : Nat} {ds : List Int} (h : DSt w W N ds) (hN : w.heap.size = N) (i : Nat) (x : Int) : DSt w (W.setCell ⟨N, i, none⟩ (.int .i64 x)) N (ds.set i x) :=
  ⟨h.below.trans ⟨rfl, rfl, rfl, by simp [World.setCell], fun k hk => Below.heap_setCell _ _ _ k (by show k ≠ N; omega)⟩, by rw [← intRow_set]; exact set_of h.d _⟩

end Go.Proofs.Yteennnhinfnahaa
namespace Go.Proofs.Yteennnhinfnahaa
open Go.RowKit Go.Shelf Go.Lib
set_option linter.unusedVariables false

theorem checkH_cases (h : List Int) : (4096 < h.length ∧ checkH h = (0, 2)) ∨ (h.length ≤ 4096 ∧ 0 ≤ findZ (outH h.length) h ∧ checkH h = (findZ (outH h.length) h, 8)) ∨
    (h.length ≤ 4096 ∧ findZ (outH h.length) h < 0 ∧ (∀ x ∈ h, x = -1 ∨ (0 ≤ x ∧ x < h.length)) ∧ ((0 ≤ findZ (cyc h) (List.range h.length) ∧ checkH h = (findZ (cyc h) (List.range h.length), 12)) ∨ (findZ (cyc h) (List.range h.length) < 0 ∧ checkH h = (0, 0)))) := by
  unfold checkH
  by_cases h1 : 4096 < h.length
  · rw [if_pos h1]; exact .inl ⟨h1, rfl⟩
  · rw [if_neg h1]
    by_cases h2 : 0 ≤ findZ (outH h.length) h
    · rw [if_pos h2]; exact .inr (.inl ⟨by omega, h2, rfl⟩)
    · rw [if_neg h2]
      refine .inr (.inr ⟨by omega, by omega, fun x hx => outH_false.1 (findZ_neg.1 (by omega) x hx), ?_⟩)
      by_cases h3 : 0 ≤ findZ (cyc h) (List.range h.length)
      · rw [if_pos h3]; exact .inl ⟨h3, rfl⟩
      · rw [if_neg h3]; exact .inr ⟨by omega, rfl⟩

def natV (l : List Nat) : List Value := l.map fun (n : Nat) => Value.int .i64 (n : Int)
theorem natV_app (a b : List Nat) : natV (a ++ b) = natV a ++ natV b := by simp [natV]
theorem natV_len (l : List Nat) : (natV l).length = l.length := by simp [natV]
def intsN (l : List Nat) : List Int := l.map fun (n : Nat) => (n : Int)
theorem intsN_len (l : List Nat) : (intsN l).length = l.length := by simp [intsN]
theorem intsN_get {l : List Nat} {k x : Nat} (h : l[k]? = some x) : (intsN l)[k]? = some (x : Int) := by simp [intsN, h]
/-- A row of the call's own, of tokens, read. -/
theorem own_rowsN {w : World} {base : Nat} {v : Value} {xs : List Nat} {n : Nat} (hn : xs.length = n) (h : w.ownsRow base 3 1 v n (natV xs)) : Rows 1 EInt w v (intsN xs) := by
  subst hn
  refine own_rows (base := base) ?_
  rw [intsN_len]
  have : (intsN xs).map (fun x => Value.int .i64 x) = natV xs := by simp [intsN, natV]
  rw [this]
  exact h
theorem own_after {w w' : World} {base : Nat} {e : TypeId} {size n : Nat} {v : Value} {xs : List Value} (h : w.ownsRow base e size v n xs) (hb : Below w.heap.size w w') : w'.ownsRow base e size v n xs :=
  own_below h fun k hk => hb.block k (own_low h k hk).2
/-- append of one number to a row of the call's own. -/
theorem wpList_pushI {w : World} {ops : Array Oper} {rest : List Oper} {o : Oper} {a : Act} {Q : Exit → Act → World → Prop} (hgd : o.guard = none) (s x : Operand)
    (ho : o.op = .call { callee := .builtin .append, args := #[s, x], argTypes := #[22, 22] })
    (base : Nat) (v : Value) (n : Nat) (l : List Value) (p : Int) (hs : a.eval s = v) (hx : a.eval x = .slice (some ⟨w.heap.size, 0, none⟩) 1 1)
    (hown : w.ownsRow base 3 1 v n l) (hn : n ≤ 1000000) (hbase : base ≤ w.heap.size)
    (h : ∀ v' w', Hid (w'.ownsRow base 3 1 v' (n + 1) (l ++ [.int .i64 p])) → Hid (∀ B W, Below B W w → B ≤ base → Below B W w') → Hid (∀ k, k < w.heap.size → v.ownBlock ≠ some k → w'.heap[k]? = w.heap[k]?) → wpList Try.prog ops Q rest (a.put o.dst v') w') :
    wpList Try.prog ops Q (o :: rest) a (w.alloc (.cells #[.int .i64 p] 3)) := by
  obtain ⟨i0, hi, hz0, hz1, hz2⟩ := info_parts' Try.infoInt2
  refine wpList_append_own _ hgd s x 22 ho base 3 i0 _ 1 8 Try.underlying22 hi hz0 hz1 hz2 rfl (by decide) v n _ hs (hown.alloc _) _ 1 1 [.int .i64 p] hx rfl (news_at w [.int .i64 p] 3) (by simp [Value.oneCell']) (by unfold maxLen; omega) (by omega) (by simp; omega) ?_
  intro v' w' h1 h2 _
  have hlow := own_low hown
  refine h v' w' (Lib.hid h1) (Lib.hid fun B W hb hB => ?_) (Lib.hid fun k hk hne => ?_)
  · exact (hb.alloc (Nat.le_trans hB hbase) _).grown h2 (by simp; omega) (fun k e => Nat.le_trans hB (hlow k e).1)
  · rw [h2.block k (by simp; omega) (fun e => hne e.symm)]
    exact heap_alloc_old w _ hk

/-- Where two rows come together: the first element of the one that stands in the other. -/
structure Mt (X Y : List Nat) (i k : Nat) : Prop where
  x : ∃ c, X[i]? = some c ∧ Y[k]? = some c
  low : ∀ (j y : Nat), j < i → X[j]? = some y → y ∉ Y
  lowY : ∀ (j y : Nat), j < k → Y[j]? = some y → X[i]? ≠ some y

end Go.Proofs.Yteennnhinfnahaa
namespace Go.Proofs.Yteennnhinfnahaa
open Go.RowKit Go.Shelf Go.Lib
set_option linter.unusedVariables false

theorem natV_one (l : List Nat) : ∀ u ∈ natV l, u.oneCell' = true := by
  intro u hu
  unfold natV at hu
  obtain ⟨b, _, rfl⟩ := List.mem_map.1 hu
  rfl
theorem natV_get {l : List Nat} {j : Nat} {f : Nat} (h : l[j]? = some f) : (natV l)[j]? = some (.int .i64 (f : Int)) := by
  unfold natV
  rw [List.getElem?_map, h]
  rfl
theorem natV_back {l : List Nat} {j : Nat} {u : Value} (h : (natV l)[j]? = some u) : ∃ f, l[j]? = some f ∧ u = .int .i64 (f : Int) := by
  unfold natV at h
  rw [List.getElem?_map] at h
  cases hl : l[j]? with
  | none => rw [hl] at h; cases h
  | some f => rw [hl] at h; injection h with h; exact ⟨f, rfl, h.symm⟩
/-- A value that reads as a list of strings. -/
def RN (w : World) (v : Value) (l : List Nat) : Prop := SeesC w w.heap.size v (natV l)
theorem RN.form {w : World} {v : Value} {l : List Nat} (h : RN w v l) : ∃ A cap, v = .slice A l.length cap ∧ l.length ≤ cap ∧ (0 < l.length → ∃ b off, A = some ⟨b, off, none⟩ ∧ b < w.heap.size ∧ ∀ (j : Nat) (f : Nat), l[j]? = some f → w.cell? ⟨b, off + j, none⟩ = some (.int .i64 (f : Int))) := by
  obtain ⟨A, cap, hv, hc, hr⟩ := SeesC.form h
  rw [natV_len] at hv hc hr
  refine ⟨A, cap, hv, hc, fun h0 => ?_⟩
  obtain ⟨b, off, hA, hb, hj⟩ := hr h0
  exact ⟨b, off, hA, hb, fun j f hf => hj j _ (natV_get hf)⟩
theorem RN.of {w : World} {A : Option Addr} {l : List Nat} {n cap : Nat} (hn : n = l.length) (hc : n ≤ cap) (h : 0 < l.length → ∃ b off, A = some ⟨b, off, none⟩ ∧ b < w.heap.size ∧ ∀ (j : Nat) (f : Nat), l[j]? = some f → w.cell? ⟨b, off + j, none⟩ = some (.int .i64 (f : Int))) (h0 : A = none → n = 0 ∧ cap = 0) : RN w (.slice A n cap) l := by
  subst hn
  cases A with
  | none =>
    obtain ⟨e1, rfl⟩ := h0 rfl
    have : l = [] := List.length_eq_zero_iff.1 e1
    subst this
    exact .inl ⟨rfl, rfl⟩
  | some ad =>
    refine .inr ⟨ad, cap, by rw [natV_len], by rw [natV_len]; exact hc, fun h1 => ?_, fun j u hu => ?_⟩
    · rw [natV_len] at h1
      obtain ⟨b, off, hA, hb, _⟩ := h h1
      cases hA
      exact hb
    · obtain ⟨f, hf, rfl⟩ := natV_back hu
      obtain ⟨b, off, hA, _, hj⟩ := h (by have := (List.getElem?_eq_some_iff.1 hf).1; omega)
      cases hA
      rw [add_plain]
      exact hj j f hf
theorem RN.below {w w' : World} {v : Value} {l : List Nat} (h : RN w v l) (hb : Below w.heap.size w w') : RN w' v l := by
  have h1 := SeesC.below h hb
  rcases h1 with h1 | ⟨ad, cap, hv, hc, h0, hj⟩
  · exact .inl h1
  · exact .inr ⟨ad, cap, hv, hc, fun h => Nat.lt_of_lt_of_le (h0 h) hb.size, hj⟩
theorem RN.nil (w : World) : RN w (.slice none 0 0) [] := .inl ⟨rfl, rfl⟩
theorem rn_own {w : World} {base : Nat} {v : Value} {n : Nat} {l : List Nat} (h : w.ownsRow base 3 1 v n (natV l)) : RN w v l ∧ l.length = n := by
  obtain ⟨h1, h2⟩ := seesC_own h
  rw [natV_len] at h2
  exact ⟨h1, h2⟩
theorem growI_any (w : World) (n : Nat) (hn : n ≤ 1000000) :
    Calls Try.prog 58 #[.slice none 0 0, .int .i64 n] w fun e w' => (∃ v', e = .returned v' ∧ w'.ownsRow w.heap.size 3 1 v' 0 []) ∧ Below w.heap.size w w' := by
  by_cases h0 : n = 0
  · subst h0
    refine (Any8.slices_Grow_room Try.laysGrowI none 0 0 0 w (Nat.le_refl _) (by omega) (by omega) (Nat.le_refl _)).mono ?_
    rintro e w' ⟨rfl, rfl⟩
    exact ⟨⟨_, rfl, World.ownsRow_nil _ _ _ _⟩, Below.refl _ _⟩
  · obtain ⟨i0, hi, hz0, hz1, hz2⟩ := info_parts' Try.infoInt2
    refine (Any8.slices_Grow_grow Try.laysGrowI i0 (.int .i64 0) hi hz0 (by rw [hz1]; decide) none 0 0 n [] w (Nat.le_refl _) (by omega) (by rw [hz2]; omega) (by omega) (by simp) (fun _ => rfl) (fun a h => by cases h)).mono ?_
    rintro e w' ⟨rfl, rfl⟩
    have hge := grownCap_ge w (0 + n) 0 3
    refine ⟨⟨_, rfl, rfl, .inr ⟨w.heap.size, _, _, rfl, Nat.le_refl _, heap_alloc_new w.drew _, Nat.zero_le _, grownCap_le_maxLen w _ _ 3 (by unfold maxLen; omega), ?_, rfl⟩⟩, (below_drewN (Below.refl _ w) 1).alloc (Nat.le_refl _) _⟩
    have hz : (Value.int .i64 0).cells.size = 1 := rfl
    simp only [Array.size_append, size_zeroCells, hz]
    show 0 + (0 + n - 0) * 1 + (grownCap w (0 + n) 0 3 - (0 + n)) * 1 = grownCap w (0 + n) 0 3 * 1
    omega
/-- A row of slices of strings that is read. -/
def RowsN (w : World) (sv : Value) (ls : List (List Nat)) : Prop :=
  ∃ vs, SeesC w w.heap.size sv vs ∧ vs.length = ls.length ∧ ∀ (i : Nat) (v : Value) (l : List Nat), vs[i]? = some v → ls[i]? = some l → RN w v l
theorem RowsN.below {w w' : World} {sv : Value} {ls : List (List Nat)} (h : RowsN w sv ls) (hb : Below w.heap.size w w') : RowsN w' sv ls := by
  obtain ⟨vs, h1, h2, h3⟩ := h
  refine ⟨vs, ?_, h2, fun i v l hv hl => (h3 i v l hv hl).below hb⟩
  rcases SeesC.below h1 hb with h | ⟨ad, cap, hv, hc, h0, hj⟩
  · exact .inl h
  · exact .inr ⟨ad, cap, hv, hc, fun h => Nat.lt_of_lt_of_le (h0 h) hb.size, hj⟩
theorem RowsN.form {w : World} {sv : Value} {ls : List (List Nat)} (h : RowsN w sv ls) : ∃ A cap, sv = .slice A ls.length cap ∧ ls.length ≤ cap ∧ (0 < ls.length → ∃ b off, A = some ⟨b, off, none⟩ ∧ b < w.heap.size ∧ ∀ (j : Nat) (l : List Nat), ls[j]? = some l → ∃ v, w.cell? ⟨b, off + j, none⟩ = some v ∧ RN w v l) := by
  obtain ⟨vs, h1, h2, h3⟩ := h
  obtain ⟨A, cap, hv, hc, hr⟩ := h1.form
  rw [h2] at hv hc hr
  refine ⟨A, cap, hv, hc, fun h0 => ?_⟩
  obtain ⟨b, off, hA, hb, hj⟩ := hr h0
  refine ⟨b, off, hA, hb, fun j l hl => ?_⟩
  have hjl : j < vs.length := by rw [h2]; exact (List.getElem?_eq_some_iff.1 hl).1
  exact ⟨vs[j], hj j _ (List.getElem?_eq_getElem hjl), h3 j _ l (List.getElem?_eq_getElem hjl) hl⟩
theorem flat_take {ls : List (List Nat)} {k : Nat} {l : List Nat} (h : ls[k]? = some l) : (ls.take (k + 1)).flatten = (ls.take k).flatten ++ l := by
  rw [List.take_add_one, h]
  simp
theorem flat_le (ls : List (List Nat)) (k : Nat) : (ls.take k).flatten.length ≤ ls.flatten.length := by
  have h := congrArg List.flatten (List.take_append_drop k ls)
  rw [List.flatten_append] at h
  have := congrArg List.length h
  rw [List.length_append] at this
  omega

set_option maxRecDepth 100000 in
set_option maxHeartbeats 2000000 in
theorem concatI_any {w : World} {sv : Value} {ls : List (List Nat)} (hv : RowsN w sv ls) (hl : ls.length ≤ 1000) (ht : ls.flatten.length ≤ 100000) :
    Calls Try.prog 35 #[sv] w fun e w' => (∃ v', e = .returned v' ∧ w'.ownsRow w.heap.size 3 1 v' ls.flatten.length (natV ls.flatten)) ∧ Below w.heap.size w w' := by
  obtain ⟨A, cap, rfl, hc, -⟩ := hv.form
  obtain ⟨n, hn⟩ : ∃ n, ls.length = n := ⟨_, rfl⟩
  have HV := Lib.hid (fun W (h : Below w.heap.size w W) => hv.below h)
  rw [hn] at hc hl ⊢
  have HN := Lib.hid hn
  have hfl := flat_le ls
  have HFL := Lib.hid hfl
  obtain ⟨T, hT⟩ : ∃ T, ls.flatten.length = T := ⟨_, rfl⟩
  rw [hT] at ht HFL
  have HT := Lib.hid hT
  have HG := Lib.hid (fun W => growI_any W T (by omega))
  clear hn hv hfl hT
  go_enter Try.func35, Try.ntmps35
  go_wp2_with fail
  go_loopw [3, 11] (fun zv iv wr => ∃ k : Nat, k ≤ n ∧ iv = .int .i64 k ∧ zv = .int .i64 ((ls.take k).flatten.length : Nat) ∧ Below w.heap.size w wr) (fun _ i _ => n - (Go.RowKit.intOf i).toNat)
  case atStart => exact ⟨0, Nat.zero_le _, rfl, rfl, Below.refl _ _⟩
  case round =>
    obtain ⟨k, hk, rfl, rfl, hb⟩ := hrel
    have HB := Lib.hid hb
    by_cases hlt : k < n
    · obtain ⟨l, hl'⟩ : ∃ l, ls[k]? = some l := ⟨_, List.getElem?_eq_getElem (by rw [HN.out]; omega)⟩
      obtain ⟨A', cap', he', -, hr⟩ := (HV.out wr hb).form
      cases he'
      obtain ⟨bk, off, rfl, -, hj⟩ := hr (by rw [HN.out]; omega)
      obtain ⟨u, c0, hu⟩ := hj k l hl'
      obtain ⟨uA, uc, rfl, huc, -⟩ := hu.form
      have hnx := congrArg List.length (flat_take hl')
      rw [List.length_append] at hnx
      have hle := HFL.out (k + 1)
      rw [hnx] at hle
      obtain ⟨z, hz⟩ : ∃ z, (ls.take k).flatten.length = z := ⟨_, rfl⟩
      rw [hz] at hnx hle ⊢
      obtain ⟨m, hm⟩ : ∃ m, l.length = m := ⟨_, rfl⟩
      rw [hm] at hnx hle c0 huc
      have HX := Lib.hid hnx
      clear hb hnx hj hr hl' hz hm hu
      have hneg : ¬ ((z : Int) + (m : Int) < 0) := by omega
      go_wp2_with fail
      exact ⟨⟨k + 1, by omega, by go_num, by rw [HX.out]; rfl, HB.out⟩, by simp only [Go.RowKit.intOf]; omega⟩
    · obtain rfl : k = n := by omega
      have hTk : ls.take k = ls := List.take_of_length_le (by rw [HN.out]; exact Nat.le_refl _)
      rw [hTk, HT.out]
      clear hb hTk
      go_wp2_with fail
      refine (HG.out _).mono ?_
      rintro e w2 ⟨⟨gv, rfl, hown⟩, hb2⟩
      have HO := Lib.hid (ownsRow_base hown HB.out.size)
      have HB2 := Lib.hid (HB.out.trans (hb2.mono HB.out.size))
      clear hown hb2
      clear HB
      obtain ⟨w3, rfl⟩ : ∃ x, x = w2 := ⟨_, rfl⟩
      go_wp2_with fail
      go_loopw [6, 27] (fun gv iv wq => ∃ j : Nat, j ≤ k ∧ iv = .int .i64 j ∧ wq.ownsRow w.heap.size 3 1 gv (ls.take j).flatten.length (natV (ls.take j).flatten) ∧ Below w.heap.size w wq) (fun _ i _ => k - (Go.RowKit.intOf i).toNat)
      case atStart => exact ⟨0, Nat.zero_le _, rfl, HO.out, HB2.out⟩
      case round =>
        obtain ⟨j, hjk, rfl, hown, hb⟩ := hrel
        have HO3 := Lib.hid hown
        have HB3 := Lib.hid hb
        by_cases hlt : j < k
        · obtain ⟨l, hl'⟩ : ∃ l, ls[j]? = some l := ⟨_, List.getElem?_eq_getElem (by rw [HN.out]; omega)⟩
          obtain ⟨A', cap', he', -, hr⟩ := (HV.out _ hb).form
          cases he'
          obtain ⟨bk, off, rfl, -, hj⟩ := hr (by rw [HN.out]; omega)
          obtain ⟨u, c0, hu⟩ := hj j l hl'
          have HU := Lib.hid (show SeesC _ _ u (natV l) from hu)
          obtain ⟨uA, uc, rfl, huc, -⟩ := hu.form
          have hnx := flat_take hl'
          have hle := HFL.out (j + 1)
          rw [hnx, List.length_append] at hle
          obtain ⟨Z, hZ⟩ : ∃ Z, (ls.take j).flatten = Z := ⟨_, rfl⟩
          rw [hZ] at hnx hle HO3
          have hlow := own_low HO3.out
          have HLOW := Lib.hid hlow
          have HX := Lib.hid hnx
          have hszb := hb.size
          obtain ⟨i0, hi, hz0, hz1, hz2⟩ := info_parts' Try.infoInt2
          have hsl := natV_len l
          have HSL := Lib.hid hsl
          clear hb hnx hj hr hl' hZ hown hu hlow hsl
          go_wp2_with (at_builtin; refine wpList_append_sees rfl (.tmp 31) (.tmp 32) 22 rfl w.heap.size 3 i0 _ 8 Try.underlying22 hi hz0 hz1 hz2 rfl _ Z.length (natV Z) rfl HO3.out _ _ (natV l) rfl HU.out (natV_one _) (by rw [HSL.out]; unfold maxLen; omega) (by rw [HSL.out]; omega) hszb ?_)
          intro v' w4 h1 h2 _
          have HO4 := Lib.hid h1
          have hb4 := HB3.out.grown h2 hszb (fun k e => (HLOW.out k e).1)
          have HB4 := Lib.hid hb4
          clear h1 h2 hb4
          go_wp2_with fail
          refine ⟨⟨j + 1, by omega, by go_num, ?_, HB4.out⟩, by simp only [Go.RowKit.intOf]; omega⟩
          rw [HX.out, List.length_append, natV_app, ← HSL.out]
          exact HO4.out
        · obtain rfl : j = k := by omega
          have hTk : ls.take j = ls := List.take_of_length_le (by rw [HN.out]; exact Nat.le_refl _)
          rw [hTk] at HO3
          clear hb hown hTk
          go_wp2_with fail
          go_ret
          exact ⟨⟨_, rfl, HO3.out⟩, HB3.out⟩

theorem RN.rows {w : World} {v : Value} {l : List Nat} (h : RN w v l) : Rows 1 EInt w v (intsN l) := by
  obtain ⟨A, cap, rfl, hc, hr⟩ := h.form
  refine ⟨A, cap, by rw [intsN_len], by rw [intsN_len]; exact hc, fun h0 => ?_⟩
  rw [intsN_len] at h0
  obtain ⟨b, off, hA, hb, hj⟩ := hr h0
  refine ⟨b, off, hA, hb, fun j x hx => ⟨[.int .i64 x], rfl, rfl, fun i u hu => ?_⟩⟩
  match i, hu with
  | 0, hu =>
    cases hu
    simp only [intsN, List.getElem?_map] at hx
    cases hl : l[j]? with
    | none => rw [hl] at hx; cases hx
    | some y =>
      rw [hl] at hx
      cases hx
      rw [Nat.mul_one, Nat.add_zero]
      exact hj j y hl
theorem sliceI_to (A : Option Addr) (n cap k : Nat) (hk : k ≤ n) (hn : n ≤ cap) (w : World) : (Instr.slice 22 (.slice A n cap) none (some (.int .i64 (k : Int))) none).run Try.prog w = .ok (.slice A k cap) w := by
  rw [run_slice_h w 22 _ _ _ (by kernel_rfl) .i64 k (by omega) (by omega)]
  have hz1 : (sizeOf (Try.prog.elem 22)).run Try.prog w = .ok 1 w := by kernel_rfl
  rw [hz1]
  cases A with
  | none => simp [Result.andThen, sliced]
  | some ad =>
    have h0 : ad.add 0 = ad := by simp [Addr.add]
    simp [Result.andThen, sliced, h0]
theorem RN.take {w : World} {A : Option Addr} {n cap : Nat} {l : List Nat} (h : RN w (.slice A n cap) l) {k : Nat} (hk : k ≤ n) (hA : A ≠ none) : RN w (.slice A k cap) (l.take k) := by
  obtain ⟨A0, cap0, hv, hc, hr⟩ := h.form
  cases hv
  refine RN.of (by rw [List.length_take]; omega) (by omega) (fun h0 => ?_) (fun e => absurd e hA)
  rw [List.length_take] at h0
  obtain ⟨b, off, h1, h2, h3⟩ := hr (by omega)
  refine ⟨b, off, h1, h2, fun j f hf => h3 j f ?_⟩
  rw [List.getElem?_take] at hf
  by_cases hj : j < k
  · rw [if_pos hj] at hf; exact hf
  · rw [if_neg hj] at hf; cases hf
theorem setCells_sz (g : Nat) : ∀ (vs : List Value) (o : Nat) (w : World), (w.setCells g o vs).heap.size = w.heap.size
  | [], _, w => rfl
  | v :: vs, o, w => by
    show ((w.setCell ⟨g, o, none⟩ v).setCells g (o + 1) vs).heap.size = _
    rw [setCells_sz g vs]
    simp [World.setCell]
theorem grown_setCells (g : Nat) : ∀ (vs : List Value) (o : Nat) (w : World), w.grownBy (w.setCells g o vs) (some g)
  | [], _, w => World.grownBy.refl w _
  | v :: vs, o, w => by
    show w.grownBy ((w.setCell ⟨g, o, none⟩ v).setCells g (o + 1) vs) (some g)
    exact grown_trans (grown_set w g o v) (grown_setCells g vs (o + 1) _)
theorem mt_of {h : List Int} (hO : Okh h) {a b i k : Nat} (hm : Mt (way h a) (way h b) i k) : joinW (way h a) (way h b) = ((way h a).take (i + 1) ++ ((way h b).take k).reverse, 0) := by
  obtain ⟨⟨c, h1, h2⟩, h3, h4⟩ := hm
  exact joinW_some h1 h2 h3 (fun j hj e => h4 j c hj e h1)
theorem own_blk {w : World} {base n : Nat} {e : TypeId} {A : Option Addr} {m cap : Nat} {xs : List Value} (h : w.ownsRow base e 1 (.slice A m cap) n xs) (hn : 0 < n) : ∃ g, A = some ⟨g, 0, none⟩ ∧ base ≤ g ∧ g < w.heap.size ∧ m = n := by
  rcases h.2 with ⟨h0, h1⟩ | ⟨g, cap', cur, hv, hbg, hh, _⟩
  · omega
  · cases hv
    exact ⟨g, rfl, hbg, (Array.getElem?_eq_some_iff.1 hh).1, rfl⟩
theorem last_way {h : List Int} (a : Nat) : (way h a)[(way h a).length - 1]? = some (rootH h a) := by
  unfold rootH
  have hp : 0 < (way h a).length := List.length_pos_of_mem (way_self a)
  rw [List.getLastD_eq_getLast?, List.getLast?_eq_getElem?, List.getElem?_eq_getElem (by omega)]
  rfl

end Go.Proofs.Yteennnhinfnahaa
