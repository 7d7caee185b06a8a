/-
  WALKS over the reference of corpus: SortRegions.
-/
import Derived.Test.YtfcnihmfmbmmjaaGreatQxC
import Derived.Test.YtfcnihmfmbmmjaaGreatQmR
import Derived.StillTailTactics
import Derived.RegionTactic
namespace Go.Proofs.YtfcnihmfmbmmjaaGreat
open Go.RowKit Go.Shelf Go.Lib
set_option linter.unusedVariables false
set_option linter.unusedSimpArgs false
attribute [local go_sem ↓] Go.wp_at_zero Go.wp_at_succ

def zero4 : List Value := [.string ⟨#[]⟩, .int .i64 0, .int .i64 0, .slice none 0 0]
theorem zero4_len : zero4.length = 4 := rfl
theorem sliceR_from (A : Option Addr) (n cap k : Nat) (hk : k ≤ n) (w : World) : (Instr.slice 25 (.slice A n cap) (some (.int .i64 (k : Int))) none none).run Tryz.prog w = .ok (sliced A k n cap 4) w := by
  rw [run_slice_l w 25 _ _ _ (by kernel_rfl) .i64 k (by omega) (by omega)]
  have hz1 : (sizeOf (Tryz.prog.elem 25)).run Tryz.prog w = .ok 4 w := by kernel_rfl
  rw [hz1]
  simp [Result.andThen]
theorem wpList_store_at {P : Program} {ops : Array Oper} {rest : List Oper} {o : Oper} {a : Act} {w : World} {Q : Exit → Act → World → Prop} (hgd : o.guard = none) (ty : TypeId) (x y : Operand) (ho : o.op = .store ty x y)
    (g k : Nat) (cells : Array Value) (hx : a.eval x = .pointer (some ⟨g, k, none⟩)) (hy : a.eval y = .agg cells)
    (t : TypeId) (old : Array Value) (hg : w.heap[g]? = some (.cells old t (0, 0))) (hi : (P.info? ty).map (·.size) = some cells.size)
    (hfit : k + cells.size ≤ old.size) (h1 : ∀ v ∈ cells.toList, v.oneCell' = true)
    (h : ∀ w', w' = w.setRow g (old.toList.take k ++ cells.toList ++ old.toList.drop (k + cells.size)).toArray → wpList P ops Q rest (a.put o.dst undef) w') : wpList P ops Q (o :: rest) a w :=
  wpList_plain hgd fun _ hK => by
    have hst := run_storeCells_at P g k t cells.toList 0 old w hg (by simpa using hfit) h1
    have hsv : (storeVar ty ⟨g, k, none⟩ (.agg cells)).run P w = .ok () (w.setRow g (old.toList.take k ++ cells.toList ++ old.toList.drop (k + cells.size)).toArray) := by
      cases hq : P.info? ty with
      | none => simp [hq] at hi
      | some i =>
        have hs : cells.size = i.size := by simp [hq] at hi; omega
        simp only [Nat.add_zero, Array.length_toList] at hst
        simp [storeVar, sizeOf, typeInfo, hq, Value.cells, hs, hst]
    unfold Oper.wp execOp
    simp only [ho, hx, hy, Instr.storeAt, Instr.sureAddr, Sem.run_bind, Sem.run_pure, Result.andThen_ok, hsv]
    exact hK _ _ (h _ rfl)
/-- append of one zero region to a row of the call's own: the row's block is not the box's. -/
theorem wpList_pushR {w : World} {ops : Array Oper} {rest : List Oper} {o : Oper} {a : Act} {Q : Exit → Act → World → Prop} (hgd : o.guard = none) (s x : Operand)
    (ho : o.op = .call { callee := .builtin .append, args := #[s, x], argTypes := #[25, 25] })
    (base : Nat) (v : Value) (n : Nat) (xs : List Value) (hs : a.eval s = v) (hx : a.eval x = .slice (some ⟨w.heap.size, 0, none⟩) 1 1)
    (hown : w.ownsRow base 67 4 v n xs) (h0 : n = 0 → v = .slice none 0 0) (hn : n ≤ 100000) (hbase : base ≤ w.heap.size)
    (bx : Nat) (cx : Array Value) (hbx : w.heap[bx]? = some (.cells cx 67 (0, 0))) (hcx : cx.size = 4) (hne : v.ownBlock ≠ some bx)
    (h : ∀ g cap cur w', Hid (base ≤ g ∧ g ≠ bx ∧ w'.heap[g]? = some (.cells cur 67 (0, 0)) ∧ n + 1 ≤ cap ∧ cap ≤ maxLen ∧ cur.size = cap * 4 ∧ cur.toList.take ((n + 1) * 4) = xs ++ zero4) → Hid (∀ B W, Below B W w → B ≤ base → Below B W w') → Hid (∀ k, k < w.heap.size → v.ownBlock ≠ some k → w'.heap[k]? = w.heap[k]?) → wpList Tryz.prog ops Q rest (a.put o.dst (.slice (some ⟨g, 0, none⟩) (n + 1) cap)) w') :
    wpList Tryz.prog ops Q (o :: rest) a (w.alloc (.cells #[.string ⟨#[]⟩, .int .i64 0, .int .i64 0, .slice none 0 0] 67)) := by
  obtain ⟨i0, hi, hz0, hz1, hz2⟩ := info_parts' Tryz.infoE_reg
  have hlow := own_low hown
  have hbs := (Array.getElem?_eq_some_iff.1 hbx).1
  obtain ⟨b2, hb1, hb2, hd, hown2⟩ : ∃ b2, base ≤ b2 ∧ b2 ≤ w.heap.size + 1 ∧ (bx < b2 ∨ 0 < n) ∧ (w.alloc (.cells #[.string ⟨#[]⟩, .int .i64 0, .int .i64 0, .slice none 0 0] 67)).ownsRow b2 67 4 v n xs := by
    rcases Nat.eq_zero_or_pos n with e | e
    · have hv := h0 e
      have hx : xs = [] := List.eq_nil_of_length_eq_zero (by rw [hown.1, e])
      subst hx
      rw [hv, e]
      exact ⟨w.heap.size + 1, by omega, Nat.le_refl _, .inl (by omega), World.ownsRow_nil _ _ _ _⟩
    · exact ⟨base, Nat.le_refl _, by omega, .inr e, hown.alloc _⟩
  refine wpList_append_own _ hgd s x 25 ho b2 67 i0 _ 4 56 Tryz.underlying25 hi hz0 hz1 hz2 rfl (by decide) v n _ hs hown2 _ 1 1 zero4 hx rfl (news_at w zero4 67) (by simp [zero4, Value.oneCell']) (by unfold maxLen; omega) (by omega) (by simp; omega) ?_
  intro v' w' h1 h2 _
  rcases h1.2 with ⟨_, h0⟩ | ⟨g, cap, cur, rfl, hbg, hg, hcap, hmax, hcs, htk⟩
  · omega
  have hkeep : ∀ k, k < w.heap.size → v.ownBlock ≠ some k → w'.heap[k]? = w.heap[k]? := fun k hk hne => by
    rw [h2.block k (by simp; omega) (fun e => hne e.symm)]
    exact heap_alloc_old w _ hk
  refine h g cap cur w' (Lib.hid ⟨by omega, ?_, hg, hcap, hmax, hcs, htk⟩) (Lib.hid fun B W hb hB => ?_) (Lib.hid hkeep)
  · rcases hd with hd | hd
    · omega
    · intro e0
      rw [e0] at hg
      have e := hkeep bx hbs hne
      rw [hg, hbx] at e
      injection e with e
      injection e with e
      rw [e, hcx] at hcs
      omega
  · exact (hb.alloc (Nat.le_trans hB hbase) _).grown h2 (by simp; omega) (fun k e => Nat.le_trans hB (hlow k e).1)
/-- The row that is sorted: of the call's own; its elements lie in the old memory. -/
def Srt3 (M k : Nat) (v3 : Value) (w wr : World) (ys : List Ex) : Prop := ∃ css : List (Cs 4), css.length = k ∧ (k = 0 → v3 = .slice none 0 0) ∧ wr.ownsRow M 67 4 v3 k (flat4 css) ∧ ∀ (j : Nat) (y : Ex) (c : Cs 4), ys[j]? = some y → css[j]? = some c → EEx w c.1 y
theorem own_rows3 {M k : Nat} {v3 : Value} {w wr : World} {ys : List Ex} {css : List (Cs 4)} (hl : css.length = k) (hy : ys.length = k) (ho : wr.ownsRow M 67 4 v3 k (flat4 css)) (hE : ∀ (j : Nat) (y : Ex) (c : Cs 4), ys[j]? = some y → css[j]? = some c → EEx w c.1 y) (hb : Below w.heap.size w wr) : Rows 4 EEx wr v3 ys := by
  rw [← hl] at ho
  obtain ⟨A, cap, hv, hc, hr⟩ := rows_of_own (enc := fun c : Cs 4 => c.1) cs_len ho
  rw [hl, ← hy] at hv hc
  rw [hl, ← hy] at hr
  refine ⟨A, cap, hv, hc, fun h0 => ?_⟩
  obtain ⟨b, off, hA, hb', hj⟩ := hr h0
  refine ⟨b, off, hA, hb', fun j y hy' => ?_⟩
  have hjl : j < css.length := by rw [hl, ← hy]; exact (List.getElem?_eq_some_iff.1 hy').1
  obtain ⟨cs, h1, h2, h3⟩ := hj j css[j] (List.getElem?_eq_getElem hjl)
  exact ⟨cs, h1, by rw [h2]; exact stays_ex w wr _ _ hb (hE j y _ hy' (List.getElem?_eq_getElem hjl)), h3⟩
set_option maxRecDepth 100000 in
theorem copy_facts {w : World} {k kk g cp : Nat} {ys : List Ex} {css : List (Cs 4)} {cur : Array Value} (hy : ys.length = k) (hl : css.length = k) (hkk : kk ≤ k)
    (hE : ∀ (j : Nat) (y : Ex) (c : Cs 4), ys[j]? = some y → css[j]? = some c → EEx w c.1 y) (hcap : k + 1 ≤ cp) (hcs : cur.size = cp * 4) (htk : cur.toList.take ((k + 1) * 4) = flat4 css ++ zero4) :
    ∃ (o : Nat) (C1 R : List Value),
      (∀ W : World, (Instr.slice 25 (.slice (some ⟨g, 0, none⟩) (k + 1) cp) (some (.int .i64 ((kk : Int) + 1))) none none).run Tryz.prog W = .ok (.slice (some ⟨g, o, none⟩) (k - kk) (cp - (kk + 1))) W) ∧
      (∀ W : World, (Instr.slice 25 (.slice (some ⟨g, 0, none⟩) (k + 1) cp) (some (.int .i64 (kk : Int))) none none).run Tryz.prog W = .ok (.slice (some ⟨g, kk * 4, none⟩) (k + 1 - kk) (cp - kk)) W) ∧
      (∀ (W : World) ty, W.heap[g]? = some (.cells cur 67 (0, 0)) → (Builtin.copy_ #[25, 25] ty #[.slice (some ⟨g, o, none⟩) (k - kk) (cp - (kk + 1)), .slice (some ⟨g, kk * 4, none⟩) (k + 1 - kk) (cp - kk)]).run Tryz.prog W = .ok (goInt (Nat.min (k + 1 - kk) (k - kk))) (W.setRow g C1.toArray)) ∧
      C1.length = cp * 4 ∧ (∀ c : Cs 4, C1.take (kk * 4) ++ c.1 ++ C1.drop (kk * 4 + 4) = flat4 (css.take kk) ++ c.1 ++ flat4 (css.drop kk) ++ R) ∧ (k + 1) * 4 + R.length = cp * 4 := by
  obtain ⟨i0, hi0, hz0, hz1, hz2⟩ := info_parts' Tryz.infoE_reg
  have hA : (flat4 (css.take kk)).length = kk * 4 := by rw [flat4_len, List.length_take]; congr 1; omega
  have hB : (flat4 (css.drop kk)).length = (k - kk) * 4 := by rw [flat4_len, List.length_drop]; congr 1; omega
  obtain ⟨R, hR⟩ : ∃ R, cur.toList.drop ((k + 1) * 4) = R := ⟨_, rfl⟩
  have hsplit : flat4 (css.take kk) ++ flat4 (css.drop kk) = flat4 css := by unfold flat4; rw [← List.flatMap_append, List.take_append_drop]
  have hcur : cur.toList = flat4 (css.take kk) ++ (flat4 (css.drop kk) ++ (zero4 ++ R)) := by
    rw [← List.append_assoc, hsplit, ← List.append_assoc, ← htk, ← hR, List.take_append_drop]
  have hRl : (k + 1) * 4 + R.length = cp * 4 := by
    have h1 := congrArg List.length hR
    rw [List.length_drop, Array.length_toList, hcs] at h1
    have h2 : (k + 1) * 4 ≤ cp * 4 := Nat.mul_le_mul_right _ hcap
    omega
  obtain ⟨o, ho, ho1, ho2⟩ : ∃ o, sliced (some ⟨g, 0, none⟩) (kk + 1) (k + 1) cp 4 = .slice (some ⟨g, o, none⟩) (k - kk) (cp - (kk + 1)) ∧ (kk < k → o = kk * 4 + 4) ∧ o + (k - kk) * 4 ≤ cp * 4 := by
    unfold sliced
    rw [show k + 1 - (kk + 1) = k - kk by omega]
    by_cases h : cp = kk + 1
    · exact ⟨0, by rw [if_pos h], fun h' => absurd h' (by omega), by omega⟩
    · exact ⟨(kk + 1) * 4, by rw [if_neg h, Option.map_some, add_plain, Nat.zero_add], fun _ => by omega, by omega⟩
  have hC1 : cur.toList.take o ++ flat4 (css.drop kk) ++ cur.toList.drop (o + (flat4 (css.drop kk)).length) = (flat4 (css.take kk) ++ (flat4 (css.drop kk) ++ (zero4 ++ R))).take (kk * 4 + 4) ++ flat4 (css.drop kk) ++ (flat4 (css.take kk) ++ (flat4 (css.drop kk) ++ (zero4 ++ R))).drop (kk * 4 + 4 + (flat4 (css.drop kk)).length) := by
    rw [← hcur]
    by_cases h : kk < k
    · rw [ho1 h]
    · have h0 : flat4 (css.drop kk) = [] := List.eq_nil_of_length_eq_zero (by rw [hB]; omega)
      simp [h0]
  have h4 := zero4_len
  refine ⟨o, cur.toList.take o ++ flat4 (css.drop kk) ++ cur.toList.drop (o + (flat4 (css.drop kk)).length), R, fun W => ?_, fun W => ?_, fun W ty hW => ?_, ?_, fun c => ?_, hRl⟩
  rotate_left 2
  · exact run_copy_rows W _ _ ty _ i0 g o _ _ ⟨g, kk * 4, none⟩ _ _ cur _ (flat4 (css.drop kk)) Tryz.underlying25 hi0 hW (by rw [hz1, hB]; congr 1; simp only [Nat.min_def]; split <;> omega) (fun j v hj => by
      rw [Addr.add_lit]
      refine cell_of hW ?_
      rw [← Array.getElem?_toList, hcur, List.getElem?_append_right (by rw [hA]; omega), hA, show kk * 4 + j - kk * 4 = j by omega, List.getElem?_append_left (List.getElem?_eq_some_iff.1 hj).1]
      exact hj) (by rw [hB, hcs]; exact ho2) (fun v hv => by
      unfold flat4 at hv
      obtain ⟨d, hd, hvd⟩ := List.mem_flatMap.1 hv
      obtain ⟨j, hj⟩ := List.getElem?_of_mem (List.mem_of_mem_drop hd)
      obtain ⟨z, hz⟩ : ∃ z, ys[j]? = some z := ⟨_, List.getElem?_eq_getElem (by have := (List.getElem?_eq_some_iff.1 hj).1; omega)⟩
      exact one_ex w d.1 z (hE j z d hz hj) v hvd)
  · have hl := (Array.length_toList : cur.toList.length = cur.size)
    rw [List.length_append, List.length_append, List.length_take, List.length_drop, hB, hl, hcs]
    omega
  · rw [hC1]
    have := two_copies (A := flat4 (css.take kk)) (B := flat4 (css.drop kk)) (R := zero4 ++ R) (c := c.1) hA c.2 (by rw [List.length_append, h4]; omega)
    rw [c.2] at this
    exact this
  · have := sliceR_from (some ⟨g, 0, none⟩) (k + 1) cp (kk + 1) (by omega) W
    rw [Int.natCast_add, ho] at this
    exact this
  · have := sliceR_from (some ⟨g, 0, none⟩) (k + 1) cp kk (by omega) W
    unfold sliced at this
    rw [if_neg (by omega), Option.map_some, add_plain, Nat.zero_add] at this
    exact this
set_option maxRecDepth 100000 in
theorem srt_ins {w w3 : World} {M k kk g cp : Nat} {ys : List Ex} {x : Ex} {css : List (Cs 4)} (c : Cs 4) (R : List Value) (hy : ys.length = k) (hl : css.length = k) (hkk : kk ≤ k)
    (hE : ∀ (j : Nat) (y : Ex) (d : Cs 4), ys[j]? = some y → css[j]? = some d → EEx w d.1 y) (hx : EEx w c.1 x) (hM : M ≤ g)
    (hg : w3.heap[g]? = some (.cells (flat4 (css.take kk) ++ c.1 ++ flat4 (css.drop kk) ++ R).toArray 67 (0, 0))) (hcap : k + 1 ≤ cp) (hmax : cp ≤ maxLen) (hR : (k + 1) * 4 + R.length = cp * 4)
    (hlo : ∀ (j : Nat) (y : Ex), j < kk → ys[j]? = some y → cmpR y x ≤ 0) (hhi : ∀ (j : Nat) (y : Ex), kk ≤ j → ys[j]? = some y → 0 < cmpR y x) :
    Srt3 M (k + 1) (.slice (some ⟨g, 0, none⟩) (k + 1) cp) w w3 (insR x ys) := by
  have hf := flat4_ins kk c css
  have hlen := insAt_len kk c css (by omega)
  have hfl := flat4_len (insAt kk c css)
  rw [hlen, hl] at hfl
  refine ⟨insAt kk c css, by rw [hlen, hl], fun h => absurd h (by omega), ⟨hfl, .inr ⟨g, cp, _, rfl, hM, hg, hcap, hmax, ?_, ?_⟩⟩, fun j z d h1 h2 => ?_⟩
  · rw [← hf, List.size_toArray, List.length_append, hfl]
    exact hR
  · rw [← hf]
    exact take_take_left hfl
  · rw [insR_at (k := kk) (by omega) hlo hhi, insAt_get (by omega)] at h1
    rw [insAt_get (by omega)] at h2
    by_cases e1 : j < kk
    · rw [if_pos e1] at h1 h2
      exact hE j z d h1 h2
    · rw [if_neg e1] at h1 h2
      by_cases e2 : j = kk
      · rw [if_pos e2] at h1 h2
        cases h1
        cases h2
        exact hx
      · rw [if_neg e2] at h1 h2
        exact hE (j - 1) z d h1 h2

set_option maxRecDepth 100000 in
set_option maxHeartbeats 8000000 in
theorem refSort_any {w : World} {v : Value} {l : List Ex} (hv : Rows 4 EEx w v l) (hl : l.length ≤ 10000) (hk : ∀ x ∈ l, x.ps.length ≤ maxLen) :
    Calls Tryz.prog 17 #[v] w (SrtV w (sortR l)) := by
  obtain ⟨A, cap, rfl, hc⟩ := hv.form
  obtain ⟨n, hn⟩ : ∃ n, l.length = n := ⟨_, rfl⟩
  have HV := Lib.hid hv
  rw [hn] at hc hl HV ⊢
  obtain ⟨M, hM⟩ : ∃ M, w.heap.size = M := ⟨_, rfl⟩
  have HN := Lib.hid hn
  have HM := Lib.hid hM
  have HKK := Lib.hid hk
  clear hn hv hM hk
  go_enter Tryz.func17, Tryz.ntmps17
  go_wp2_with fail
  go_loopw [3, 9] (fun v3 i wr => ∃ k : Nat, k ≤ n ∧ i = .int .i64 k ∧ Hid (Srt3 M k v3 w wr (sortR (l.take k))) ∧ Hid (Below M w wr)) (fun _ i _ => n - (Go.RowKit.intOf i).toNat)
  case atStart => exact ⟨0, Nat.zero_le _, rfl, Lib.hid ⟨[], rfl, fun _ => rfl, World.ownsRow_nil _ _ _ _, fun j y c h => by simp [sortR] at h⟩, Lib.hid (by rw [← HM.out]; exact Below.refl _ _)⟩
  case round =>
    obtain ⟨k, hk, rfl, hs, hb⟩ := hrel
    obtain ⟨css, hcl, h0, hown, hel⟩ := hs.out
    obtain ⟨A3, c3, rfl, hc3⟩ := own_form hown
    have hb0 : Below w.heap.size w wr := by rw [HM.out]; exact hb.out
    have hlen : (sortR (l.take k)).length = k := sortR_len l k (by rw [HN.out]; exact hk)
    by_cases hlt : k < n
    · obtain ⟨x, hx⟩ : ∃ x, l[k]? = some x := ⟨_, List.getElem?_eq_getElem (by rw [HN.out]; omega)⟩
      obtain ⟨bk, off, rfl, hbl, hj⟩ := at_ex HV.out (by rw [HN.out]; omega)
      obtain ⟨u, ru, o0, o1, o2, o3⟩ := hj k x hx
      have hex : EEx w [.string ⟨x.name.toArray⟩, .int .i64 x.b, .int .i64 x.e, u] x := ⟨u, rfl, ru⟩
      have hcm0 := fun (y : Ex) (v : Value) (W : World) (h : Below w.heap.size w W) (hv : Rows 2 EPair W v y.ps) (hy : y ∈ l) => refCmpR_any y x v u hv (ru.below stays_pair h) (HKK.out y hy) (HKK.out x (List.mem_of_getElem? hx))
      have u0 := keepX o0 hb0
      have u1 := keepX o1 hb0
      have u2 := keepX o2 hb0
      have u3 := keepX o3 hb0
      obtain ⟨Au, pu, rfl, -⟩ := ru.form
      obtain ⟨N1, hN1⟩ : ∃ N, wr.heap.size = N := ⟨_, rfl⟩
      obtain ⟨P, hP⟩ : ∃ s : ByteArray, (⟨x.name.toArray⟩ : ByteArray) = s := ⟨_, rfl⟩
      obtain ⟨nu, hnu⟩ : ∃ n, x.ps.length = n := ⟨_, rfl⟩
      obtain ⟨xb, hxb⟩ : ∃ z, x.b = z := ⟨_, rfl⟩
      obtain ⟨xe, hxe⟩ : ∃ z, x.e = z := ⟨_, rfl⟩
      rw [hP] at u0
      rw [hxb] at u1
      rw [hxe] at u2
      rw [hnu] at u3
      rw [hP, hxb, hxe, hnu] at hex
      simp only [hP, hxb, hxe, hnu] at hcm0
      obtain ⟨X1, hX1⟩ : ∃ X1, wr.alloc (.cells #[.string P, .int .i64 xb, .int .i64 xe, .slice Au nu pu] 67) = X1 := ⟨_, rfl⟩
      have hbX1 : Below wr.heap.size wr X1 := by rw [← hX1]; exact below_box wr _
      have hX1s : X1.heap.size = N1 + 1 := by rw [← hX1, alloc_sz, hN1]
      have q1 : X1.heap[N1]? = some (.cells #[.string P, .int .i64 xb, .int .i64 xe, .slice Au nu pu] 67 (0, 0)) := by rw [← hX1, ← hN1]; exact block_new wr _
      have hMN : M ≤ N1 := by rw [← hN1, ← HM.out]; exact hb0.size
      have hbwX : ∀ W, Below X1.heap.size X1 W → Below M w W := fun W h => (hb.out.trans (hbX1.mono (by omega))).trans (h.mono (by omega))
      have hbwX0 : ∀ W, Below X1.heap.size X1 W → Below w.heap.size w W := fun W h => by rw [HM.out]; exact hbwX W h
      have hown1 : ∀ W, Below X1.heap.size X1 W → W.ownsRow M 67 4 (.slice A3 k c3) k (flat4 css) := fun W h => own_after hown (hbX1.trans (h.mono (by omega)))
      have HOW := Lib.hid hown1
      have HRW := Lib.hid (fun W (h : Below X1.heap.size X1 W) => own_rows3 hcl hlen (hown1 W h) hel (hbwX0 W h))
      have HQB := Lib.hid (fun W (h : Below X1.heap.size X1 W) => block_below q1 h (by omega))
      have HBX := Lib.hid hbwX
      have HCM0 := Lib.hid (fun (y : Ex) (v : Value) (W : World) (h : Below X1.heap.size X1 W) (hv : Rows 2 EPair W v y.ps) (hy : y ∈ l) => hcm0 y v W (hbwX0 W h) hv hy)
      have HMX := Lib.hid (show M ≤ X1.heap.size ∧ N1 < X1.heap.size by omega)
      have HNE : Hid ((Value.slice A3 k c3).ownBlock ≠ some N1) := Lib.hid (fun e => by have := (own_low hown N1 e).2; omega)
      have HX1 := Lib.hid hX1
      have HN1 := Lib.hid hN1
      have H0 := Lib.hid h0
      have HCL := Lib.hid hcl
      have HEX := Lib.hid hex
      have HYS := Lib.hid (sortR_take hx)
      have HSO := Lib.hid (sortR_sorted l k)
      have HMEM := Lib.hid (fun (y : Ex) (h : y ∈ sortR (l.take k)) => sortR_mem k h)
      obtain ⟨ys, hys⟩ : ∃ ys, sortR (l.take k) = ys := ⟨_, rfl⟩
      rw [hys] at hlen hel HRW HYS HSO HMEM
      have HLEN := Lib.hid hlen
      have HEL := Lib.hid hel
      clear hown hel hs hb hb0 hlen hbl hj hx o0 o1 o2 o3 ru hex hcm0 hN1 hP hnu hxb hxe hX1 hbX1 hX1s q1 hMN hbwX hbwX0 hown1 h0 hcl hys
      go_wp2_with fail
      rw [HX1.out, HN1.out]
      clear u0 u1 u2 u3
      go_loopw [6] (fun v6 wi => ∃ kk : Nat, kk ≤ k ∧ v6 = .int .i64 kk ∧ Hid (∀ (j : Nat) (y : Ex), kk ≤ j → ys[j]? = some y → 0 < cmpR y x) ∧ Hid (Below X1.heap.size X1 wi)) (fun v6 _ => (Go.RowKit.intOf v6).toNat)
      case atStart => exact ⟨k, Nat.le_refl _, rfl, Lib.hid (fun j y h hy => by have := (List.getElem?_eq_some_iff.1 hy).1; rw [HLEN.out] at this; omega), Lib.hid (Below.refl _ _)⟩
      case round =>
        obtain ⟨kk, hkk, rfl, hhi, hbi⟩ := hrel
        rcases Nat.eq_zero_or_pos kk with hk0 | hk0
        · have kpos : ¬ (0 : Int) < (kk : Int) := by omega
          have HLO : Hid (∀ (j : Nat) (y : Ex), j < kk → ys[j]? = some y → cmpR y x ≤ 0) := Lib.hid (fun j y h => absurd h (by omega))
          have kposN : ¬ 0 < kk := by omega
          clear hk0
          try go_wp2_with fail
          go_quiet (fail)
          obtain ⟨wt, hwt⟩ : ∃ W, wr.drewN nq = W := ⟨_, rfl⟩
          have HBT : Hid (Below X1.heap.size X1 wt) := Lib.hid (hwt ▸ below_drewN hbi.out nq)
          rw [hwt]
          clear hwt hbi kpos kposN
          go_wp2_with (at_builtin; refine wpList_pushR rfl (.tmp 29) (.tmp 31) rfl M _ k (flat4 css) rfl rfl (HOW.out wt HBT.out) H0.out (by omega) (by have := HBT.out.size; have := HMX.out; omega) N1 _ (HQB.out wt HBT.out) rfl HNE.out ?_)
          intro g cp cur w1 hG hB1 hK1
          obtain ⟨hMg, hgN, hg1, hcap, hmax, hcs, htk⟩ := hG.out
          obtain ⟨o, C1, R, hs1, hs2, hcp, hC1l, hfin, hRl⟩ := copy_facts (g := g) (kk := kk) HLEN.out HCL.out hkk HEL.out hcap hcs htk
          have hbw1 : Below M w w1 := hB1.out M w (HBX.out wt HBT.out) (Nat.le_refl _)
          have q1 : w1.heap[N1]? = some (.cells #[.string P, .int .i64 xb, .int .i64 xe, .slice Au nu pu] 67 (0, 0)) := (hK1.out N1 (Nat.lt_of_lt_of_le HMX.out.2 HBT.out.size) HNE.out).trans (HQB.out wt HBT.out)
          have q2 : (w1.drew.setRow g C1.toArray).heap[N1]? = some (.cells #[.string P, .int .i64 xb, .int .i64 xe, .slice Au nu pu] 67 (0, 0)) := (setRow_other _ g N1 _ (fun e => hgN e.symm)).trans q1
          have g2 : (w1.drew.setRow g C1.toArray).heap[g]? = some (.cells C1.toArray 67 (0, 0)) := setRow_heap _ g cur _ _ _ hg1
          obtain ⟨w2, hw2⟩ : ∃ W, w1.drew.setRow g C1.toArray = W := ⟨_, rfl⟩
          rw [hw2] at q2 g2
          have hbw2 : Below M w w2 := hw2 ▸ below_setRow hbw1.drew hMg _
          have hres : ∀ W : World, W = w2.setRow g (C1.toArray.toList.take (kk * 4) ++ (#[.string P, .int .i64 xb, .int .i64 xe, .slice Au nu pu] : Array Value).toList ++ C1.toArray.toList.drop (kk * 4 + 4)).toArray → Srt3 M (k + 1) (.slice (some ⟨g, 0, none⟩) (k + 1) cp) w W (sortR (l.take (k + 1))) ∧ Below M w W := fun W hW => by
            have hf := hfin ⟨[.string P, .int .i64 xb, .int .i64 xe, .slice Au nu pu], rfl⟩
            have hf2 : C1.toArray.toList.take (kk * 4) ++ (#[.string P, .int .i64 xb, .int .i64 xe, .slice Au nu pu] : Array Value).toList ++ C1.toArray.toList.drop (kk * 4 + 4) = flat4 (css.take kk) ++ [.string P, .int .i64 xb, .int .i64 xe, .slice Au nu pu] ++ flat4 (css.drop kk) ++ R := hf
            rw [hf2] at hW
            subst hW
            rw [HYS.out]
            exact ⟨srt_ins ⟨[.string P, .int .i64 xb, .int .i64 xe, .slice Au nu pu], rfl⟩ R HLEN.out HCL.out hkk HEL.out HEX.out hMg (setRow_heap _ g _ _ _ _ g2) hcap hmax hRl HLO.out hhi.out, below_setRow hbw2 hMg _⟩
          have HRES := Lib.hid hres
          have HG1 := Lib.hid hg1
          have HG2 := Lib.hid g2
          have HW2 := Lib.hid hw2
          have HCP := Lib.hid hcp
          have HFT : Hid (kk * 4 + 4 ≤ C1.toArray.size) := Lib.hid (by rw [List.size_toArray, hC1l]; omega)
          have HQ2 := Lib.hid q2
          clear hres hg1 g2 hw2 hcp hC1l hfin hRl hMg hgN hcap hmax hcs htk hbw1 hbw2 q1 q2 hG hB1 hK1
          go_wp2_with fail
          have hwr : IntKind.i64.wrap ((kk : Int) + 1) = (kk : Int) + 1 := by rw [IntKind.wrap_i64]; omega
          go_still_tail 7, (by kernel_rfl)
          clear hs1 hs2 hwr
          change wpList _ _ _ _ _ w1.drew
          refine wpList_copy_ran _ rfl (.tmp 36) (.tmp 39) 25 25 rfl _ _ rfl rfl (HCP.out w1.drew _ HG1.out) ?_
          rw [HW2.out]
          have d0 : w2.cell? ⟨N1, 0, none⟩ = some (.string P) := cell_of HQ2.out rfl
          have d1 : w2.cell? ⟨N1, 1, none⟩ = some (.int .i64 xb) := cell_of HQ2.out rfl
          have d2 : w2.cell? ⟨N1, 2, none⟩ = some (.int .i64 xe) := cell_of HQ2.out rfl
          have d3 : w2.cell? ⟨N1, 3, none⟩ = some (.slice Au nu pu) := cell_of HQ2.out rfl
          have hki : (kk : Int) < (k : Int) + 1 := by omega
          have hki2 : (kk : Int) < ((k + 1 : Nat) : Int) := by omega
          have hk0' : (0 : Int) ≤ (kk : Int) := by omega
          go_wp2_with (refine wpList_store_at rfl 67 (.tmp 44) (.tmp 43) rfl g (kk * 4) #[.string P, .int .i64 xb, .int .i64 xe, .slice Au nu pu] (by first | rfl | simp [Act.eval, Act.put]) rfl 67 _ HG2.out (by kernel_rfl) HFT.out (by simp [Value.oneCell']) ?_)
          have hr := HRES.out _ rfl
          simp only [List.append_assoc, List.cons_append, List.nil_append] at hr
          exact ⟨⟨k + 1, by omega, by go_num, Lib.hid hr.1, Lib.hid hr.2⟩, by simp only [Go.RowKit.intOf]; omega⟩
        · obtain ⟨q, hq⟩ : ∃ m, kk = m + 1 := ⟨kk - 1, by omega⟩
          obtain ⟨y, hy⟩ : ∃ y, ys[q]? = some y := ⟨_, List.getElem?_eq_getElem (by rw [HLEN.out]; omega)⟩
          obtain ⟨bg, og, hA3, hbl2, hj2⟩ := at_ex (HRW.out wr hbi.out) (by rw [HLEN.out]; omega)
          subst hA3
          obtain ⟨v, rv, e0, e1, e2, e3⟩ := hj2 q y hy
          have hcm := fun W (h : Below wr.heap.size wr W) => HCM0.out y v W (hbi.out.trans (h.mono hbi.out.size)) (rv.below stays_pair h) (HMEM.out y (List.mem_of_getElem? hy))
          obtain ⟨Ay, py, rfl, -⟩ := rv.form
          obtain ⟨ny, hny⟩ : ∃ n, y.ps.length = n := ⟨_, rfl⟩
          obtain ⟨Q, hQ⟩ : ∃ s : ByteArray, (⟨y.name.toArray⟩ : ByteArray) = s := ⟨_, rfl⟩
          obtain ⟨yb, hyb⟩ : ∃ z, y.b = z := ⟨_, rfl⟩
          obtain ⟨ye, hye⟩ : ∃ z, y.e = z := ⟨_, rfl⟩
          obtain ⟨zc, hzc⟩ : ∃ z, cmpR y x = z := ⟨_, rfl⟩
          rw [hQ] at e0
          rw [hyb] at e1
          rw [hye] at e2
          rw [hny] at e3
          simp only [hQ, hny, hyb, hye, hzc] at hcm
          have hq1 := HQB.out wr hbi.out
          have g0 : wr.cell? ⟨N1, 0, none⟩ = some (.string P) := cell_of hq1 rfl
          have g1 : wr.cell? ⟨N1, 1, none⟩ = some (.int .i64 xb) := cell_of hq1 rfl
          have g2 : wr.cell? ⟨N1, 2, none⟩ = some (.int .i64 xe) := cell_of hq1 rfl
          have g3 : wr.cell? ⟨N1, 3, none⟩ = some (.slice Au nu pu) := cell_of hq1 rfl
          have HSS := Lib.hid (fun W (h : Below wr.heap.size wr W) => show W.cell? ⟨bg, og + q * 4, none⟩ = some (.string Q) ∧ W.cell? ⟨bg, og + q * 4 + 1, none⟩ = some (.int .i64 yb) ∧ W.cell? ⟨bg, og + q * 4 + 2, none⟩ = some (.int .i64 ye) ∧ W.cell? ⟨bg, og + q * 4 + 3, none⟩ = some (.slice Ay ny py) ∧ W.cell? ⟨N1, 0, none⟩ = some (.string P) ∧ W.cell? ⟨N1, 1, none⟩ = some (.int .i64 xb) ∧ W.cell? ⟨N1, 2, none⟩ = some (.int .i64 xe) ∧ W.cell? ⟨N1, 3, none⟩ = some (.slice Au nu pu) from ⟨keepX e0 h, keepX e1 h, keepX e2 h, keepX e3 h, keepX g0 h, keepX g1 h, keepX g2 h, keepX g3 h⟩)
          have HCM := Lib.hid hcm
          have kpos : (0 : Int) < (kk : Int) := by omega
          have hm1 : IntKind.i64.wrap ((kk : Int) - 1) = (q : Int) := by rw [IntKind.wrap_i64]; omega
          have hmw : IntKind.i64.wrap (q : Int) = (q : Int) := by rw [IntKind.wrap_i64]; omega
          have hm0 : (0 : Int) ≤ (q : Int) := by omega
          have hmn : (q : Int) < (k : Int) := by omega
          have hm2 : (kk : Int) - 1 = (q : Int) := by omega
          have HQK := Lib.hid hq
          have HY := Lib.hid hy
          have HZC := Lib.hid hzc
          clear hj2 hbl2 hcm hq1 hy hQ hny hzc hyb hye rv hq
          try go_wp2_with fail
          go_region_held3 (fun w' => w'.cell? ⟨bg, og + q * 4, none⟩ = some (.string Q) ∧ w'.cell? ⟨bg, og + q * 4 + 1, none⟩ = some (.int .i64 yb) ∧ w'.cell? ⟨bg, og + q * 4 + 2, none⟩ = some (.int .i64 ye) ∧ w'.cell? ⟨bg, og + q * 4 + 3, none⟩ = some (.slice Ay ny py) ∧ w'.cell? ⟨N1, 0, none⟩ = some (.string P) ∧ w'.cell? ⟨N1, 1, none⟩ = some (.int .i64 xb) ∧ w'.cell? ⟨N1, 2, none⟩ = some (.int .i64 xe) ∧ w'.cell? ⟨N1, 3, none⟩ = some (.slice Au nu pu))
            (first
              | go_keep
              | (exact HSS.out _ ((Below.refl _ wr).drew.trans hb4))
              | fail)
            ((first
              | (go_at_call 38; (with_reducible refine (HCM.out _ (Below.refl _ wr).drew).mono ?_); rintro e wt ⟨rfl, hb4⟩)
              | fail))
          have HBT : Hid (Below X1.heap.size X1 wt) := Lib.hid (hbi.out.trans (((Below.refl _ wr).drew.trans hb4).mono hbi.out.size))
          clear hb4 e0 e1 e2 e3 g0 g1 g2 g3 HSS HCM
          by_cases hz0 : 0 < zc
          · have HHI : Hid (∀ (j : Nat) (z : Ex), q ≤ j → ys[j]? = some z → 0 < cmpR z x) := Lib.hid (fun j z h hz => by
              by_cases e : j = q
              · subst e
                rw [HY.out] at hz
                cases hz
                rw [HZC.out]
                exact hz0
              · exact hhi.out j z (by have := HQK.out; omega) hz)
            go_wp2_with fail
            exact ⟨⟨q, by have := HQK.out; omega, by first | rfl | go_num, HHI, HBT⟩, by have := HQK.out; simp only [Go.RowKit.intOf]; omega⟩
          · have HLO : Hid (∀ (j : Nat) (y : Ex), j < kk → ys[j]? = some y → cmpR y x ≤ 0) := Lib.hid (fun j z h hz => sorted_high HSO.out x j q z y (by have := HQK.out; omega) hz HY.out (by rw [HZC.out]; omega))
            clear hm1 hmw hm0 hmn hm2 kpos hbi
            go_wp2_with (at_builtin; refine wpList_pushR rfl (.tmp 29) (.tmp 31) rfl M _ k (flat4 css) rfl rfl (HOW.out wt HBT.out) H0.out (by omega) (by have := HBT.out.size; have := HMX.out; omega) N1 _ (HQB.out wt HBT.out) rfl HNE.out ?_)
            intro g cp cur w1 hG hB1 hK1
            obtain ⟨hMg, hgN, hg1, hcap, hmax, hcs, htk⟩ := hG.out
            obtain ⟨o, C1, R, hs1, hs2, hcp, hC1l, hfin, hRl⟩ := copy_facts (g := g) (kk := kk) HLEN.out HCL.out hkk HEL.out hcap hcs htk
            have hbw1 : Below M w w1 := hB1.out M w (HBX.out wt HBT.out) (Nat.le_refl _)
            have q1 : w1.heap[N1]? = some (.cells #[.string P, .int .i64 xb, .int .i64 xe, .slice Au nu pu] 67 (0, 0)) := (hK1.out N1 (Nat.lt_of_lt_of_le HMX.out.2 HBT.out.size) HNE.out).trans (HQB.out wt HBT.out)
            have q2 : (w1.drew.setRow g C1.toArray).heap[N1]? = some (.cells #[.string P, .int .i64 xb, .int .i64 xe, .slice Au nu pu] 67 (0, 0)) := (setRow_other _ g N1 _ (fun e => hgN e.symm)).trans q1
            have g2 : (w1.drew.setRow g C1.toArray).heap[g]? = some (.cells C1.toArray 67 (0, 0)) := setRow_heap _ g cur _ _ _ hg1
            obtain ⟨w2, hw2⟩ : ∃ W, w1.drew.setRow g C1.toArray = W := ⟨_, rfl⟩
            rw [hw2] at q2 g2
            have hbw2 : Below M w w2 := hw2 ▸ below_setRow hbw1.drew hMg _
            have hres : ∀ W : World, W = w2.setRow g (C1.toArray.toList.take (kk * 4) ++ (#[.string P, .int .i64 xb, .int .i64 xe, .slice Au nu pu] : Array Value).toList ++ C1.toArray.toList.drop (kk * 4 + 4)).toArray → Srt3 M (k + 1) (.slice (some ⟨g, 0, none⟩) (k + 1) cp) w W (sortR (l.take (k + 1))) ∧ Below M w W := fun W hW => by
              have hf := hfin ⟨[.string P, .int .i64 xb, .int .i64 xe, .slice Au nu pu], rfl⟩
              have hf2 : C1.toArray.toList.take (kk * 4) ++ (#[.string P, .int .i64 xb, .int .i64 xe, .slice Au nu pu] : Array Value).toList ++ C1.toArray.toList.drop (kk * 4 + 4) = flat4 (css.take kk) ++ [.string P, .int .i64 xb, .int .i64 xe, .slice Au nu pu] ++ flat4 (css.drop kk) ++ R := hf
              rw [hf2] at hW
              subst hW
              rw [HYS.out]
              exact ⟨srt_ins ⟨[.string P, .int .i64 xb, .int .i64 xe, .slice Au nu pu], rfl⟩ R HLEN.out HCL.out hkk HEL.out HEX.out hMg (setRow_heap _ g _ _ _ _ g2) hcap hmax hRl HLO.out hhi.out, below_setRow hbw2 hMg _⟩
            have HRES := Lib.hid hres
            have HG1 := Lib.hid hg1
            have HG2 := Lib.hid g2
            have HW2 := Lib.hid hw2
            have HCP := Lib.hid hcp
            have HFT : Hid (kk * 4 + 4 ≤ C1.toArray.size) := Lib.hid (by rw [List.size_toArray, hC1l]; omega)
            have HQ2 := Lib.hid q2
            clear hres hg1 g2 hw2 hcp hC1l hfin hRl hMg hgN hcap hmax hcs htk hbw1 hbw2 q1 q2 hG hB1 hK1
            go_wp2_with fail
            have hwr : IntKind.i64.wrap ((kk : Int) + 1) = (kk : Int) + 1 := by rw [IntKind.wrap_i64]; omega
            go_still_tail 7, (by kernel_rfl)
            clear hs1 hs2 hwr
            change wpList _ _ _ _ _ w1.drew
            refine wpList_copy_ran _ rfl (.tmp 36) (.tmp 39) 25 25 rfl _ _ rfl rfl (HCP.out w1.drew _ HG1.out) ?_
            rw [HW2.out]
            have d0 : w2.cell? ⟨N1, 0, none⟩ = some (.string P) := cell_of HQ2.out rfl
            have d1 : w2.cell? ⟨N1, 1, none⟩ = some (.int .i64 xb) := cell_of HQ2.out rfl
            have d2 : w2.cell? ⟨N1, 2, none⟩ = some (.int .i64 xe) := cell_of HQ2.out rfl
            have d3 : w2.cell? ⟨N1, 3, none⟩ = some (.slice Au nu pu) := cell_of HQ2.out rfl
            have hki : (kk : Int) < (k : Int) + 1 := by omega
            have hki2 : (kk : Int) < ((k + 1 : Nat) : Int) := by omega
            have hk0' : (0 : Int) ≤ (kk : Int) := by omega
            go_wp2_with (refine wpList_store_at rfl 67 (.tmp 44) (.tmp 43) rfl g (kk * 4) #[.string P, .int .i64 xb, .int .i64 xe, .slice Au nu pu] (by first | rfl | simp [Act.eval, Act.put]) rfl 67 _ HG2.out (by kernel_rfl) HFT.out (by simp [Value.oneCell']) ?_)
            have hr := HRES.out _ rfl
            simp only [List.append_assoc, List.cons_append, List.nil_append] at hr
            exact ⟨⟨k + 1, by omega, by go_num, Lib.hid hr.1, Lib.hid hr.2⟩, by simp only [Go.RowKit.intOf]; omega⟩
    · obtain rfl : k = n := by omega
      have htk : l.take k = l := List.take_of_length_le (by rw [HN.out]; exact Nat.le_refl _)
      rw [htk] at hlen hel
      have hrow := own_rows3 hcl hlen hown hel hb0
      have hfin : SrtV w (sortR l) (.returned (.slice A3 k c3)) wr := ⟨A3, c3, by rw [hlen], by rw [hlen]; exact hrow, hb0⟩
      have HF := Lib.hid hfin
      clear hfin hrow hlen htk hs hb hown hel hb0
      go_wp2_with fail
      go_ret
      exact HF.out
end Go.Proofs.YtfcnihmfmbmmjaaGreat
