/-
  WALKS over the library: slices.Insert of one region, where there is room.
-/
import Derived.Test.YtfcnihmfmbmmjaaGreatQxA
import Derived.Test.YtfcnihmfmbmmjaaGreatQeE
import Derived.Lib.Overlaps
import Derived.Deep.RegionLaw
import Derived.Shelf.RegionOpen
import Derived.Laws.CopyRow
namespace Go.Proofs.YtfcnihmfmbmmjaaGreat
open Go.RowKit Go.Shelf Go.Lib
set_option linter.unusedVariables false
set_option linter.unusedSimpArgs false

theorem wpList_copy_ran {P : Program} (w : World) {ops : Array Oper} {rest : List Oper} {o : Oper} {a : Act} {Q : Exit → Act → World → Prop} (hgd : o.guard = none) (d s : Operand) (t t' : TypeId)
    (ho : o.op = .call { callee := .builtin .copy, args := #[d, s], argTypes := #[t, t'] }) (v u : Value) (hd : a.eval d = v) (hs : a.eval s = u) {v' : Value} {w' : World}
    (hr : (Builtin.copy_ #[t, t'] o.type #[v, u]).run P w = .ok v' w') (h : wpList P ops Q rest (a.put o.dst v') w') : wpList P ops Q (o :: rest) a w :=
  wpList_plain hgd fun _ hK => by
    unfold Oper.wp execOp
    simp only [ho, resolve, invoke, builtin, Sem.run_bind, Sem.run_pure, Result.andThen_ok, List.map_toArray, List.map_cons, List.map_nil, hd, hs, hr]
    exact hK _ _ h
theorem wpList_append_ran {P : Program} (w : World) {ops : Array Oper} {rest : List Oper} {o : Oper} {a : Act} {Q : Exit → Act → World → Prop} (hgd : o.guard = none) (d s : Operand) (t t' : TypeId)
    (ho : o.op = .call { callee := .builtin .append, args := #[d, s], argTypes := #[t, t'] }) (v u : Value) (hd : a.eval d = v) (hs : a.eval s = u) {v' : Value} {w' : World}
    (hr : (Builtin.append_ #[t, t'] o.type #[v, u]).run P w = .ok v' w') (h : wpList P ops Q rest (a.put o.dst v') w') : wpList P ops Q (o :: rest) a w :=
  wpList_plain hgd fun _ hK => by
    unfold Oper.wp execOp
    simp only [ho, resolve, invoke, builtin, Sem.run_bind, Sem.run_pure, Result.andThen_ok, List.map_toArray, List.map_cons, List.map_nil, hd, hs, hr]
    exact hK _ _ h
theorem step_copy_ran {P : Program} {ops : Array Oper} {o : Oper} {a : Act} {w : World} {K : Act → World → Prop} {Q : Exit → Act → World → Prop} {E : Prop}
    (hg : o.guard = none) (d x : Operand) (dT sT : TypeId) (hop : o.op = Op.call { callee := Callee.builtin Builtin.copy, args := #[d, x], argTypes := #[dT, sT] })
    (v u : Value) (hd : a.eval d = v) (hx : a.eval x = u) {v' : Value} {w' : World} (hr : (Builtin.copy_ #[dT, sT] o.type #[v, u]).run P w = .ok v' w') (hK : K (a.put o.dst v') w') :
    if Region.wanted o (yielded ops a.tmps) = true then Oper.wp P o a w K Q else E := by
  have hw : Region.wanted o (yielded ops a.tmps) = true := by simp [Region.wanted, hg]
  rw [if_pos hw]
  unfold Oper.wp
  simp [execOp, hop, resolve, invoke, builtin, hd, hx, hr, Result.andThen]
  exact hK
theorem run_copy_rows {P : Program} (w : World) (dT sT ty elem : TypeId) (i : TypeInfo) (g o dLen dCap : Nat) (a : Addr) (sLen sCap : Nat) (cur : Array Value) (t : TypeId) (cs : List Value)
    (hu : P.underlying dT = some (.slice elem)) (hi : P.info? elem = some i)
    (hg : w.heap[g]? = some (.cells cur t (0, 0))) (hn : cs.length = Nat.min sLen dLen * i.size)
    (hsrc : ∀ j v, cs[j]? = some v → w.cell? (a.add j) = some v) (hfit : o + cs.length ≤ cur.size) (h1 : ∀ v ∈ cs, v.oneCell' = true) :
    (Builtin.copy_ #[dT, sT] ty #[.slice (some ⟨g, o, none⟩) dLen dCap, .slice (some a) sLen sCap]).run P w =
      .ok (goInt (Nat.min sLen dLen)) (w.setRow g (cur.toList.take o ++ cs ++ cur.toList.drop (o + cs.length)).toArray) := by
  have hl := run_loadCells_list (P := P) w a cs hsrc
  have hst := run_storeCells_at P g o t cs 0 cur w hg (by simpa using hfit) h1
  simp [Builtin.copy_, run_underlying hu, Builtin.lenOf, Builtin.firstCells, sizeOf, typeInfo, hi, ← hn, hl, hst]
theorem drop_take_left {α : Type} {A B : List α} {n : Nat} (h : A.length = n) : (A ++ B).drop n = B := by rw [← h, List.drop_left]
theorem take_take_left {α : Type} {A B : List α} {n : Nat} (h : A.length = n) : (A ++ B).take n = A := by rw [← h, List.take_left]
/-- Two copies: the cells behind are moved up, the new ones laid in between. -/
theorem two_copies {A B R c : List Value} {a : Nat} (hA : A.length = a) (hc : c.length = 4) (hR : 4 ≤ R.length) :
    (((A ++ (B ++ R)).take (a + 4) ++ B ++ (A ++ (B ++ R)).drop (a + 4 + B.length)).take a ++ c ++ ((A ++ (B ++ R)).take (a + 4) ++ B ++ (A ++ (B ++ R)).drop (a + 4 + B.length)).drop (a + c.length)) = A ++ c ++ B ++ R.drop 4 := by
  have e1 : (A ++ (B ++ R)).take (a + 4) = A ++ (B ++ R).take 4 := by
    rw [List.take_append, hA, List.take_of_length_le (by omega)]
    congr 1
    congr 1
    omega
  have e2 : (A ++ (B ++ R)).drop (a + 4 + B.length) = R.drop 4 := by
    rw [← List.append_assoc, List.drop_append, List.drop_eq_nil_of_le (by rw [List.length_append]; omega), List.nil_append]
    congr 1
    rw [List.length_append]
    omega
  have hl : ((B ++ R).take 4).length = 4 := by rw [List.length_take, List.length_append]; omega
  rw [e1, e2, hc]
  have e3 : (A ++ (B ++ R).take 4 ++ B ++ R.drop 4).take a = A := by
    rw [List.append_assoc, List.append_assoc]
    exact take_take_left hA
  have e4 : (A ++ (B ++ R).take 4 ++ B ++ R.drop 4).drop (a + 4) = B ++ R.drop 4 := by
    rw [List.append_assoc]
    exact drop_take_left (by rw [List.length_append, hl, hA])
  rw [e3, e4]
  simp

def flat4 (css : List (Cs 4)) : List Value := css.flatMap fun c => c.1
theorem flat4_len (css : List (Cs 4)) : (flat4 css).length = css.length * 4 := flatM_len (enc := fun c : Cs 4 => c.1) cs_len css
theorem flat4_ins (i : Nat) (c : Cs 4) (css : List (Cs 4)) : flat4 (insAt i c css) = flat4 (css.take i) ++ c.1 ++ flat4 (css.drop i) := by
  unfold flat4 insAt
  rw [List.flatMap_append, List.flatMap_cons]
  simp
theorem insAt_get {α : Type} {i : Nat} {x : α} {l : List α} (hi : i ≤ l.length) (j : Nat) : (insAt i x l)[j]? = if j < i then l[j]? else if j = i then some x else l[j - 1]? := by
  unfold insAt
  by_cases h1 : j < i
  · rw [if_pos h1, List.getElem?_append_left (by rw [List.length_take]; omega), List.getElem?_take, if_pos h1]
  · rw [if_neg h1, List.getElem?_append_right (by rw [List.length_take]; omega), List.length_take, Nat.min_eq_left hi]
    by_cases h2 : j = i
    · rw [if_pos h2, h2, Nat.sub_self]; rfl
    · rw [if_neg h2, show j - i = (j - 1 - i) + 1 by omega, List.getElem?_cons_succ, List.getElem?_drop]
      congr 1
      omega
/-- The row with one more region, wherever it stands. -/
theorem chg_ins {g n i : Nat} {w w' : World} {ys : List Ex} {y : Ex} {css : List (Cs 4)} {R : List Value} (c : Cs 4) (hi : i ≤ ys.length) (hl : css.length = ys.length)
    (hE : ∀ (j : Nat) (z : Ex) (d : Cs 4), ys[j]? = some z → css[j]? = some d → Fresh (g + 1) EEx w d.1 z) (hy : Fresh (g + 1) EEx w c.1 y) (hk : Kept (g + 1) w w')
    (hg : w'.heap[g]? = some (.cells (flat4 (css.take i) ++ c.1 ++ flat4 (css.drop i) ++ R).toArray 67 (0, 0))) (hR : (ys.length + 1) * 4 + R.length = n * 4) :
    ChgAt g 67 4 n EEx w' (insAt i y ys) := by
  have hf := flat4_ins i c css
  have hlen := insAt_len i c css (by omega)
  have hfl := flat4_len (insAt i c css)
  refine ⟨insAt i c css, _, by rw [hlen, insAt_len i y ys hi, hl], hg, ?_, ?_, fun j z d h1 h2 => ?_⟩
  · rw [← hf, List.size_toArray, List.length_append, hfl, hlen, hl]
    exact hR
  · rw [← hf, insAt_len i y ys hi]
    exact take_take_left (by rw [hfl, hlen, hl])
  · rw [insAt_get hi] at h1
    rw [insAt_get (by omega)] at h2
    by_cases e1 : j < i
    · rw [if_pos e1] at h1 h2
      exact (hE j z d h1 h2).kept hk
    · rw [if_neg e1] at h1 h2
      by_cases e2 : j = i
      · rw [if_pos e2] at h1 h2
        cases h1
        cases h2
        exact hy.kept hk
      · rw [if_neg e2] at h1 h2
        exact (hE (j - 1) z d h1 h2).kept hk
def InsV (w : World) (g n : Nat) (zs : List Ex) (e : Ending) (w' : World) : Prop :=
  e = .returned (.slice (some ⟨g, 0, none⟩) zs.length n) ∧ ChgAt g 67 4 n EEx w' zs ∧ (∀ B W, Below B W w → B ≤ g → Below B W w')

set_option maxRecDepth 100000 in
set_option maxHeartbeats 8000000 in
theorem insert_reg {w : World} (g n i : Nat) (ys : List Ex) (y : Ex) (c : Cs 4) (h1 : ∀ u ∈ c.1, u.oneCell' = true) (vb : Nat) (hvb : w.heap[vb]? = some (.cells c.1.toArray 67 (0, 0))) (hne : vb ≠ g) (hi : i ≤ ys.length) (hkn : ys.length < n) (hn : n ≤ 100000)
    (hchg : ChgAt g 67 4 n EEx w ys) (hy : Fresh (g + 1) EEx w c.1 y) :
    Calls Tryz.prog 37 #[.slice (some ⟨g, 0, none⟩) ys.length n, .int .i64 i, .slice (some ⟨vb, 0, none⟩) 1 1] w (InsV w g n (insAt i y ys)) := by
  obtain ⟨css, cur, hl, hg, hs, ht, hE⟩ := hchg
  obtain ⟨i0, hi0, hz0, hz1, hz2⟩ := info_parts' Tryz.infoE_reg
  obtain ⟨k, hk⟩ : ∃ k, ys.length = k := ⟨_, rfl⟩
  have hins := insAt_len i y ys hi
  have hA : (flat4 (css.take i)).length = i * 4 := by rw [flat4_len, List.length_take]; congr 1; omega
  have hB : (flat4 (css.drop i)).length = (k - i) * 4 := by rw [flat4_len, List.length_drop]; congr 1; omega
  obtain ⟨R, hR⟩ : ∃ R, cur.toList.drop (k * 4) = R := ⟨_, rfl⟩
  have hcur : cur.toList = flat4 (css.take i) ++ (flat4 (css.drop i) ++ R) := by
    rw [← hR, ← List.append_assoc, show flat4 (css.take i) ++ flat4 (css.drop i) = flat4 css by unfold flat4; rw [← List.flatMap_append, List.take_append_drop], show flat4 css = cur.toList.take (k * 4) by rw [← hk, ht]; rfl, List.take_append_drop]
  have hRl : (k + 1) * 4 + (R.drop 4).length = n * 4 ∧ 4 ≤ R.length := by
    have := congrArg List.length hR
    rw [List.length_drop, Array.length_toList, hs] at this
    rw [List.length_drop]
    have : (k + 1) * 4 ≤ n * 4 := Nat.mul_le_mul_right _ (by omega)
    omega
  have hnews : ∀ (W : World), W.heap[vb]? = some (.cells c.1.toArray 67 (0, 0)) → ∀ j u, c.1[j]? = some u → W.cell? ((⟨vb, 0, none⟩ : Addr).add j) = some u := fun W hW j u hu => by
    rw [Addr.add_lit, Nat.zero_add]
    exact cell_of hW (by simpa using hu)
  have hc4 : c.1.length = 4 := c.2
  rw [hk] at hi hkn hl hins ⊢
  by_cases hik : i = k
  · subst hik
    have hap := fun ty => run_append_room (P := Tryz.prog) w 25 ty 67 i0 Tryz.underlying25 hi0 g i n cur hg ⟨vb, 0, none⟩ 1 1 c.1 (by rw [hz1, hc4]) (hnews w hvb) h1 (by omega) (by rw [hz1, hc4, hs]; omega)
    have hd0 : flat4 (css.drop i) = [] := by rw [List.drop_eq_nil_of_le (by omega)]; rfl
    have htk : cur.toList.take (i * 4) = flat4 (css.take i) := by rw [hcur]; exact take_take_left hA
    have hdr : cur.toList.drop (i * 4 + 4) = R.drop 4 := by rw [← hR, List.drop_drop]
    simp only [hz1, hc4, htk, hdr] at hap
    obtain ⟨w2, hw2⟩ : ∃ W, w.setRow g (flat4 (css.take i) ++ c.1 ++ R.drop 4).toArray = W := ⟨_, rfl⟩
    rw [hw2] at hap
    have hres : InsV w g n (insAt i y ys) (.returned (.slice (some ⟨g, 0, none⟩) (i + 1) n)) w2 := by
      refine ⟨by rw [hins], ?_, fun B W hb hB => by rw [← hw2]; exact below_setRow hb hB _⟩
      have hk2 : Kept (g + 1) w w2 := by rw [← hw2]; exact ⟨by rw [setRow_size]; exact Nat.le_refl _, fun k h1 _ => setRow_other _ _ _ _ (by omega)⟩
      refine chg_ins c (by omega) (by omega) hE hy hk2 ?_ (by rw [hk]; exact hRl.1)
      rw [hd0, List.append_nil, ← hw2]
      exact setRow_heap _ g cur _ _ _ hg
    have HRES := Lib.hid hres
    clear hres hw2 hnews hcur hRl hd0 htk hdr hR ht hA hB hE hy hg hs hi0 hz0 hz1 hz2 hins hl
    go_enter Tryz.func37, Tryz.ntmps37
    go_wp2_with (at_builtin; refine wpList_append_ran _ rfl _ _ 25 25 rfl _ _ rfl rfl (hap _) ?_)
    go_ret
    exact HRES.out
  · have hlt : i < k := by omega
    have hxi : (i : Int) < (k : Int) := by omega
    have hov : ∀ lb cb, (callFunc 81 #[.slice (some ⟨vb, 0, none⟩) 1 1, .slice (some ⟨g, (i + 1) * 4, none⟩) lb cb]).run Tryz.prog w = .ok (.value (.bool false)) w := fun lb cb => by
      rw [run_callFunc_extern Tryz.func81 (by kernel_rfl) (by kernel_rfl) (by kernel_rfl) (e := Extern.SlicesOverlaps.overlaps #[25, 25] #[4]) (by kernel_rfl),
        Lib.run_overlaps_apart w 25 4 67 Tryz.underlying25 4 (fun w => by simp [Go.sizeOf, typeInfo, hi0, hz1]) ⟨vb, 0, none⟩ ⟨g, (i + 1) * 4, none⟩ 1 1 lb cb hne 67 67 4 (n * 4) (by simp [World.shape?, hvb, hc4]) (by simp [World.shape?, hg, hs]) (by omega) (frozen_of hvb) (frozen_of hvb)]
      rfl
    have hcl : cur.size = cur.toList.length := (Array.length_toList).symm
    have hsz : (i + 1) * 4 + (flat4 (css.drop i)).length ≤ cur.size := by rw [hB, hs]; omega
    have hg' : w.drew.heap[g]? = some (.cells cur 67 (0, 0)) := hg
    obtain ⟨C1, hC1⟩ : ∃ C, (cur.toList.take ((i + 1) * 4) ++ flat4 (css.drop i) ++ cur.toList.drop ((i + 1) * 4 + (flat4 (css.drop i)).length)) = C := ⟨_, rfl⟩
    have hC1l : C1.length = n * 4 := by
      rw [← hC1]
      simp only [List.length_append, List.length_take, List.length_drop, Array.length_toList, hs]
      rw [hs] at hsz
      omega
    have hcp1 : ∀ ty dc sc, (Builtin.copy_ #[25, 25] ty #[.slice (some ⟨g, (i + 1) * 4, none⟩) (k - i) dc, .slice (some ⟨g, i * 4, none⟩) (k + 1 - i) sc]).run Tryz.prog w.drew = .ok (goInt (Nat.min (k + 1 - i) (k - i))) (w.drew.setRow g C1.toArray) := fun ty dc sc => by
      rw [← hC1]
      exact run_copy_rows w.drew _ _ ty _ i0 g _ _ dc ⟨g, i * 4, none⟩ _ sc cur _ _ Tryz.underlying25 hi0 hg' (by rw [hz1, hB]; congr 1; simp only [Nat.min_def]; split <;> omega) (fun j v hj => by
        rw [Addr.add_lit]
        refine cell_of hg' ?_
        rw [← Array.getElem?_toList, hcur, List.getElem?_append_right (by rw [hA]; omega), hA, show i * 4 + j - i * 4 = j by omega, List.getElem?_append_left (List.getElem?_eq_some_iff.1 hj).1]
        exact hj) hsz (fun v hv => by
          unfold flat4 at hv
          obtain ⟨d, hd, hvd⟩ := List.mem_flatMap.1 hv
          obtain ⟨j, hj⟩ := List.getElem?_of_mem (List.mem_of_mem_drop hd)
          obtain ⟨z, hz⟩ : ∃ z, ys[j]? = some z := ⟨_, List.getElem?_eq_getElem (by have := (List.getElem?_eq_some_iff.1 hj).1; omega)⟩
          exact one_ex w d.1 z (hE j z d hz hj).here v hvd)
    have hfin : (C1.take (i * 4) ++ c.1 ++ C1.drop (i * 4 + c.1.length)) = flat4 (css.take i) ++ c.1 ++ flat4 (css.drop i) ++ R.drop 4 := by
      rw [← hC1, hcur]
      have := two_copies (A := flat4 (css.take i)) (B := flat4 (css.drop i)) (R := R) (c := c.1) hA hc4 hRl.2
      rw [show (i + 1) * 4 = i * 4 + 4 by omega]
      exact this
    have hcp2 : ∀ (W : World), W.heap[g]? = some (.cells C1.toArray 67 (0, 0)) → W.heap[vb]? = some (.cells c.1.toArray 67 (0, 0)) → ∀ ty dc, (Builtin.copy_ #[25, 25] ty #[.slice (some ⟨g, i * 4, none⟩) (k + 1 - i) dc, .slice (some ⟨vb, 0, none⟩) 1 1]).run Tryz.prog W = .ok (goInt (Nat.min 1 (k + 1 - i))) (W.setRow g (flat4 (css.take i) ++ c.1 ++ flat4 (css.drop i) ++ R.drop 4).toArray) := fun W h1W h2W ty dc => by
      rw [← hfin]
      have := run_copy_rows (P := Tryz.prog) W 25 25 ty 67 i0 g (i * 4) (k + 1 - i) dc ⟨vb, 0, none⟩ 1 1 C1.toArray 67 c.1 Tryz.underlying25 hi0 h1W (by rw [hz1, hc4]; simp only [Nat.min_def]; split <;> omega) (hnews W h2W) (by rw [hc4, List.size_toArray, hC1l]; omega) h1
      simpa using this
    have hf1 : (w.drew.setRow g C1.toArray).heap[g]? = some (.cells C1.toArray 67 (0, 0)) := setRow_heap _ g cur _ _ _ hg'
    have hf2 : (w.drew.setRow g C1.toArray).heap[vb]? = some (.cells c.1.toArray 67 (0, 0)) := (setRow_other _ g vb _ hne).trans hvb
    have hres : ∀ W' : World, W' = ((w.drew.setRow g C1.toArray).setRow g (flat4 (css.take i) ++ c.1 ++ flat4 (css.drop i) ++ R.drop 4).toArray) → InsV w g n (insAt i y ys) (.returned (.slice (some ⟨g, 0, none⟩) (k + 1) n)) W' := fun W' hW' => by
      subst hW'
      refine ⟨by rw [hins], ?_, fun B W hb hB => below_setRow (below_setRow hb.drew hB _) hB _⟩
      refine chg_ins c (by omega) (by omega) hE hy ?_ (setRow_heap _ g _ _ _ _ hf1) (by rw [hk]; exact hRl.1)
      exact ⟨by rw [setRow_size, setRow_size]; exact Nat.le_refl _, fun k h1 _ => (setRow_other _ _ _ _ (by omega)).trans (setRow_other _ _ _ _ (by omega))⟩
    have HRES := Lib.hid hres
    have mixed : Tryz.prog.follows .mixedOrders = true := by kernel_rfl
    have hw1 : IntKind.i64.wrap ((i : Int) + 1) = (i : Int) + 1 := by rw [IntKind.wrap_i64]; omega
    have hb1 : (0 : Int) ≤ (i : Int) + 1 := by omega
    have hb5 : (i : Int) + 1 ≤ (k : Int) + 1 := by omega
    have htn : ((i : Int) + 1).toNat = i + 1 := by omega
    have hb2 : ¬ (n = i + 1) := by omega
    have hb3 : (i : Int) ≤ (k : Int) + 1 := by omega
    have hb4 : ¬ (n = i) := by omega
    clear hres hcur hRl hR ht hA hB hE hy hs hi0 hz0 hz1 hz2 hins hl hnews hcl hsz hC1 hC1l hfin hg'
    go_enter Tryz.func37, Tryz.ntmps37
    go_wp2_with fail
    go_region_law_o (refine step_copy_ran rfl _ _ 25 25 rfl _ _ (by simp [Act.eval, Act.put]) (by simp [Act.eval, Act.put]) (hcp1 _ _ _) ?_)
    go_wp2_with (at_builtin; refine wpList_copy_ran _ rfl _ _ 25 25 rfl _ _ rfl rfl (hcp2 _ hf1 hf2 _ _) ?_)
    go_ret
    exact HRES.out _ (by simp)
end Go.Proofs.YtfcnihmfmbmmjaaGreat
