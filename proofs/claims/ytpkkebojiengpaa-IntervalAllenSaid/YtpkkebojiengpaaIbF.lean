/-
  WALKS over package interval: slices.Compact at spans of the call's own.
-/
import Derived.Test.YtpkkebojiengpaaIbE
namespace Go.Proofs.Ytpkkebojiengpaa
open Go.RowKit Go.Shelf Go.Lib
set_option linter.unusedVariables false
set_option linter.unusedSimpArgs false

theorem run_clear_rows {P : Program} (w : World) (t e ty : TypeId) (z : Value) (ht : P.underlying t = some (.slice e)) (hv : ∀ w, (zeroValue e).run P w = .ok z w) (b o n c : Nat) (hn : 0 < n) (zs : List Value) (hz : (Builtin.zeroCells z.cells n).toList = zs)
    (hc : ∀ j, j < zs.length → (w.cell? ⟨b, o + j, none⟩).isSome = true) (hf : ∀ j, j < zs.length → w.frozen? ⟨b, o + j, none⟩ = false) (h1 : ∀ v ∈ zs, v.oneCell' = true) :
    (Builtin.clear_ #[t] ty #[.slice (some ⟨b, o, none⟩) n c]).run P w = .ok (.tuple #[]) (w.setCells b o zs) := by
  have hst := run_storeCells_cells (P := P) b o zs 0 w (by simpa using hc) (by simpa using hf) h1
  simp only [Nat.add_zero] at hst
  obtain ⟨m, rfl⟩ : ∃ m, n = m + 1 := ⟨n - 1, by omega⟩
  simp [Builtin.clear_, run_underlying ht, hv, hz, hst]
theorem setCells_heap {T : TypeId} {f : Nat × Nat} (g : Nat) : ∀ (vs : List Value) (o : Nat) (w : World) (cur : Array Value), w.heap[g]? = some (.cells cur T f) → ∃ cur2, (w.setCells g o vs).heap[g]? = some (.cells cur2 T f) ∧ cur2.size = cur.size ∧ ∀ p, p < o → cur2[p]? = cur[p]?
  | [], o, w, cur, h => ⟨cur, h, rfl, fun _ _ => rfl⟩
  | v :: r, o, w, cur, h => by
    obtain ⟨c2, h1, h2, h3⟩ := setCells_heap (T := T) (f := f) g r (o + 1) (w.setCell ⟨g, o, none⟩ v) _ (set_of h v)
    refine ⟨c2, h1, by rw [h2]; simp, fun p hp => ?_⟩
    rw [h3 p (by omega), Array.getElem?_setIfInBounds]
    rw [if_neg (by omega)]
theorem setCells_grown (g : Nat) : ∀ (vs : List Value) (o : Nat) (w : World), w.grownBy (w.setCells g o vs) (some g)
  | [], o, w => World.grownBy.refl w _
  | v :: r, o, w => grown_trans (grown_set w g o v) (setCells_grown g r (o + 1) _)
theorem zero_one {zs : Array Value} {n : Nat} {v : Value} (h : ∀ q, q < zs.size → (zs[q]!).oneCell' = true) (hv : v ∈ (Builtin.zeroCells zs n).toList) : v.oneCell' = true := by
  simp only [Builtin.zeroCells, Array.toList_map, Array.toList_range, List.mem_map, List.mem_range] at hv
  obtain ⟨a, ha, rfl⟩ := hv
  refine h _ (Nat.mod_lt _ ?_)
  rcases Nat.eq_zero_or_pos zs.size with e | e
  · rw [e] at ha; omega
  · exact e
/-- clear over the rest of a block of spans. -/
theorem clear_sp {w : World} {g i n cap : Nat} {cur : Array Value} (h : w.heap[g]? = some (.cells cur 31 (0, 0))) (hs : cur.size = cap * 2) (hn : n ≤ cap) (hi : i < n) (ty : TypeId) :
    ∃ W2 cur2, (Builtin.clear_ #[22] ty #[.slice (some ⟨g, i * 2, none⟩) (n - i) (cap - i)]).run Try.prog w = .ok (.tuple #[]) W2 ∧ W2.heap[g]? = some (.cells cur2 31 (0, 0)) ∧ cur2.size = cap * 2 ∧ (∀ p, p < i * 2 → cur2[p]? = cur[p]?) ∧ w.grownBy W2 (some g) := by
  have hzl : (Builtin.zeroCells (Value.agg #[.int .i64 0, .int .i64 0]).cells (n - i)).toList.length = (n - i) * 2 := by
    rw [Array.length_toList, size_zeroCells]
    rfl
  obtain ⟨cur2, h1, h2, h3⟩ := setCells_heap g (Builtin.zeroCells (Value.agg #[.int .i64 0, .int .i64 0]).cells (n - i)).toList (i * 2) w cur h
  refine ⟨_, cur2, run_clear_rows w 22 31 ty (.agg #[.int .i64 0, .int .i64 0]) Try.underlying22 (fun w => by kernel_rfl) g (i * 2) (n - i) (cap - i) (by omega) _ rfl (fun p hp => ?_) (fun p _ => frozen_of h) (fun v hv => ?_), h1, by rw [h2, hs], h3, setCells_grown g _ _ w⟩
  · rw [hzl] at hp
    rw [cell_of h (Array.getElem?_eq_getElem (by omega))]
    rfl
  · exact zero_one (zs := #[.int .i64 0, .int .i64 0]) (by decide) hv
/-- What the row holds between two rounds: i elements kept out of the first j; from the i-th on as it was. -/
structure CmpI (ks : List Sp) (cap : Nat) (cur : Array Value) (i j : Nat) : Prop where
  size : cur.size = cap * 2
  len : i = (ddup (ks.take j)).length
  low : ∀ p, p < i * 2 → cur[p]? = ((ddup (ks.take j)).flatMap spV)[p]?
  high : ∀ p, i * 2 ≤ p → p < ks.length * 2 → cur[p]? = (ks.flatMap spV)[p]?
theorem CmpI.skip {ks : List Sp} {cap : Nat} {cur : Array Value} {i j : Nat} {x : Sp} (h : CmpI ks cap cur i j) (hj : 0 < j) (hx : ks[j]? = some x) (hp : ks[j - 1]? = some x) : CmpI ks cap cur i (j + 1) := by
  have e : ddup (ks.take (j + 1)) = ddup (ks.take j) := by rw [ddup_take hx, if_pos ⟨hj, hp⟩, List.append_nil]
  exact ⟨h.size, by rw [e]; exact h.len, by rw [e]; exact h.low, h.high⟩
theorem set2 (cur : Array Value) (q : Nat) (a b : Value) (hq : q + 1 < cur.size) (p : Nat) : ((cur.setIfInBounds q a).setIfInBounds (q + 1) b)[p]? = if p = q then some a else if p = q + 1 then some b else cur[p]? := by
  simp only [Array.getElem?_setIfInBounds, Array.size_setIfInBounds]
  by_cases h0 : p = q
  · subst h0; simp; omega
  · by_cases h1 : p = q + 1
    · subst h1; simp; omega
    · simp [h0, h1, Ne.symm h0, Ne.symm h1]
theorem CmpI.keep {ks : List Sp} {cap : Nat} {cur : Array Value} {i j : Nat} {x y : Sp} (h : CmpI ks cap cur i j) (hij : i < j) (hx : ks[j]? = some x) (hp : ks[j - 1]? = some y) (hne : y ≠ x) (hn : ks.length ≤ cap) :
    CmpI ks cap ((cur.setIfInBounds (i * 2) (.int .i64 x.1)).setIfInBounds (i * 2 + 1) (.int .i64 x.2)) (i + 1) (j + 1) := by
  have hjl := (List.getElem?_eq_some_iff.1 hx).1
  have e : ddup (ks.take (j + 1)) = ddup (ks.take j) ++ [x] := by rw [ddup_take hx, if_neg (fun ⟨_, e⟩ => hne (by rw [hp] at e; injection e))]
  obtain ⟨h1, h2, h3, h4⟩ := h
  refine ⟨by simp [h1], by rw [e, List.length_append, ← h2]; rfl, fun p hp => ?_, fun p hp1 hp2 => ?_⟩
  · rw [set2 cur (i * 2) _ _ (by rw [h1]; omega), e, List.flatMap_append]
    have hfl : ((ddup (ks.take j)).flatMap spV).length = i * 2 := by rw [flatM_len spV_len, ← h2]
    by_cases hpi : p < i * 2
    · rw [if_neg (by omega), if_neg (by omega), h3 p hpi, List.getElem?_append_left (by rw [hfl]; exact hpi)]
    · rw [List.getElem?_append_right (by rw [hfl]; omega), hfl]
      rcases (by omega : p = i * 2 ∨ p = i * 2 + 1) with rfl | rfl
      · rw [if_pos rfl, Nat.sub_self]; rfl
      · rw [if_neg (by omega), if_pos rfl, show i * 2 + 1 - i * 2 = 1 by omega]; rfl
  · rw [set2 cur (i * 2) _ _ (by rw [h1]; omega), if_neg (by omega), if_neg (by omega)]
    exact h4 p (by omega) hp2
/-- What Compact answers. -/
def CmpV (w : World) (base : Nat) (v : Value) (ks : List Sp) (e : Ending) (w' : World) : Prop :=
  (∃ v', e = .returned v' ∧ w'.ownsRow base 31 2 v' (ddup ks).length ((ddup ks).flatMap spV) ∧ (v'.ownBlock = v.ownBlock)) ∧ w.grownBy w' v.ownBlock
theorem cell_sp {W : World} {g : Nat} {cur : Array Value} {T : TypeId} {ks : List Sp} {j : Nat} {x : Sp} (h : W.heap[g]? = some (.cells cur T (0, 0))) (hx : ks[j]? = some x) (hc : ∀ p, j * 2 ≤ p → p < ks.length * 2 → cur[p]? = (ks.flatMap spV)[p]?) :
    W.cell? ⟨g, j * 2, none⟩ = some (.int .i64 x.1) ∧ W.cell? ⟨g, j * 2 + 1, none⟩ = some (.int .i64 x.2) := by
  have hj := (List.getElem?_eq_some_iff.1 hx).1
  have f0 := flatM_get (enc := spV) (sz := 2) spV_len ks j x 0 hx (by omega)
  have f1 := flatM_get (enc := spV) (sz := 2) spV_len ks j x 1 hx (by omega)
  rw [Nat.add_zero] at f0
  exact ⟨cell_of h ((hc _ (by omega) (by omega)).trans f0), cell_of h ((hc _ (by omega) (by omega)).trans f1)⟩

set_option maxRecDepth 100000 in
set_option maxHeartbeats 8000000 in
theorem compactSp_any {w : World} {base : Nat} {v : Value} {ks : List Sp} (hown : w.ownsRow base 31 2 v ks.length (ks.flatMap spV)) (hl : ks.length ≤ 1000000) :
    Calls Try.prog 48 #[v] w (CmpV w base v ks) := by
  obtain ⟨n, hn⟩ : ∃ n, ks.length = n := ⟨_, rfl⟩
  have hsame : ddup ks = ks → CmpV w base v ks (.returned v) w := fun e => ⟨⟨v, rfl, by rw [e]; exact hown, rfl⟩, World.grownBy.refl w _⟩
  have hnone : ks.length < 2 → ddup ks = ks := fun h => ddup_same fun j x y h0 hx hy => by
    have := (List.getElem?_eq_some_iff.1 hx).1
    omega
  obtain ⟨sp, cap0, hv⟩ : ∃ sp cap, v = .slice sp n cap := by
    rcases hown.2 with ⟨rfl, h0⟩ | ⟨g, cap, cur0, hv, _⟩
    · exact ⟨none, 0, by rw [← hn, h0]⟩
    · exact ⟨_, cap, by rw [← hn]; exact hv⟩
  subst hv
  by_cases h2 : n < 2
  · have HS := Lib.hid (hsame (hnone (by omega)))
    clear hsame hnone hown
    go_enter Try.func48, Try.ntmps48
    go_wp2_with fail
    go_ret
    exact HS.out
  · rcases hown.2 with ⟨hv, h0⟩ | ⟨g, cap, cur0, hv, hbg, hg, hnc, hcm, hcs, htk⟩
    · omega
    · simp only [Value.slice.injEq] at hv
      obtain ⟨rfl, -, rfl⟩ := hv
      have hcur : ∀ p, p < ks.length * 2 → cur0[p]? = (ks.flatMap spV)[p]? := fun p hp => by
        rw [← htk, List.getElem?_take, if_pos (by omega)]
        simp
      have hstart : ∀ k x, 0 < k → ks[k]? = some x → ks[k - 1]? = some x → (∀ (j : Nat) (x y : Sp), 0 < j → j < k → ks[j]? = some x → ks[j - 1]? = some y → y ≠ x) → CmpI ks cap0 cur0 k (k + 1) := fun k x hk hx hp hall => by
        have hkl := (List.getElem?_eq_some_iff.1 hx).1
        have e : ddup (ks.take k) = ks.take k := ddup_same fun j a b h0 ha hb => by
          have hjk : j < k := by have := (List.getElem?_eq_some_iff.1 ha).1; rw [List.length_take] at this; omega
          rw [List.getElem?_take, if_pos hjk] at ha
          rw [List.getElem?_take, if_pos (by omega)] at hb
          exact hall j a b h0 hjk ha hb
        have e2 : ddup (ks.take (k + 1)) = ks.take k := by rw [ddup_take hx, if_pos ⟨hk, hp⟩, List.append_nil, e]
        refine ⟨hcs, by rw [e2, List.length_take]; omega, fun p hp => ?_, fun p _ hp => hcur p hp⟩
        rw [e2, hcur p (by omega)]
        have hsplit : ks.flatMap spV = (ks.take k).flatMap spV ++ (ks.drop k).flatMap spV := by rw [← List.flatMap_append, List.take_append_drop]
        rw [hsplit, List.getElem?_append_left (by rw [flatM_len spV_len, List.length_take]; omega)]
      rw [hn] at hnc hl
      have HSM := Lib.hid hsame
      have HCUR := Lib.hid hcur
      have HST := Lib.hid hstart
      have HN := Lib.hid hn
      have HG := Lib.hid hg
      have HBS := Lib.hid hbg
      have HCM := Lib.hid hcm
      have h2i : ¬ (n : Int) < 2 := by omega
      have h2d : decide ((n : Int) < 2) = false := by simp; omega
      clear hsame hcur hstart hn hg hbg hcm hcs htk hown hnone
      go_enter Try.func48, Try.ntmps48
      go_wp2_with fail
      go_loopw [3] (fun a wr => ∃ k q : Nat, a = .int .i64 k ∧ 1 ≤ k ∧ k ≤ n ∧ Hid (wr = w.drewN q) ∧ Hid (∀ (j : Nat) (x y : Sp), 0 < j → j < k → ks[j]? = some x → ks[j - 1]? = some y → y ≠ x)) (fun a _ => n - (Go.RowKit.intOf a).toNat)
      case atStart => exact ⟨1, 0, rfl, Nat.le_refl _, by omega, Lib.hid rfl, Lib.hid (fun j x y h0 h1 => by omega)⟩
      case round =>
        obtain ⟨k, q, rfl, hk1, hkn, HW, HA⟩ := hrel
        have hgr : wr.heap[g]? = some (.cells cur0 31 (0, 0)) := by rw [HW.out]; exact HG.out
        have HGR := Lib.hid hgr
        clear hgr
        by_cases hlt : k < n
        · obtain ⟨p, hpk⟩ : ∃ p, p + 1 = k := ⟨k - 1, by omega⟩
          obtain ⟨x, hx⟩ : ∃ x, ks[k]? = some x := ⟨_, List.getElem?_eq_getElem (by rw [HN.out]; omega)⟩
          obtain ⟨y, hy⟩ : ∃ x, ks[k - 1]? = some x := ⟨_, List.getElem?_eq_getElem (by rw [HN.out]; omega)⟩
          obtain ⟨c0, c1⟩ := cell_sp HGR.out hx (fun t _ ht => HCUR.out t ht)
          obtain ⟨d0, d1⟩ := cell_sp HGR.out hy (fun t _ ht => HCUR.out t ht)
          rw [show k - 1 = p by omega] at d0 d1
          have HX := Lib.hid hx
          have HY := Lib.hid hy
          obtain ⟨x1, x2⟩ := x
          obtain ⟨y1, y2⟩ := y
          simp only at c0 c1 d0 d1
          have hp1 : (k : Int) - 1 = (p : Int) := by omega
          have hlti : (k : Int) < (n : Int) := by omega
          have hpn : (p : Int) < (n : Int) := by omega
          have hwp : IntKind.i64.wrap (p : Int) = (p : Int) := by rw [IntKind.wrap_i64]; omega
          clear hx hy
          by_cases hdup : (y1, y2) = (x1, x2)
          · cases hdup
            have HI := Lib.hid (HST.out k _ (by omega) HX.out HY.out HA.out)
            clear HA
            go_wp2_with fail
            go_quiet (fail)
            go_wp2_with fail
            have hW2 : Hid (wr.drewN nq = w.drewN (q + nq)) := Lib.hid (by rw [HW.out, World.drewN_drewN])
            obtain ⟨W1, hW1⟩ : ∃ W1, wr.drewN nq = W1 := ⟨_, rfl⟩
            have hg1 : W1.heap[g]? = some (.cells cur0 31 (0, 0)) := by rw [← hW1]; exact HGR.out
            have hgr1 : w.grownBy W1 (some g) := by rw [← hW1, hW2.out]; exact ⟨rfl, rfl, rfl, Nat.le_refl _, fun _ _ _ => rfl⟩
            obtain ⟨n2, hn2⟩ : ∃ t, n - k = t := ⟨_, rfl⟩
            obtain ⟨c2, hc2⟩ : ∃ t, cap0 - k = t := ⟨_, rfl⟩
            rw [hW1, hn2, hc2]
            have HG1 := Lib.hid hg1
            have HGR1 := Lib.hid hgr1
            have hkn2 : k + n2 = n := by omega
            have hkc2 : k + c2 = cap0 := by omega
            clear hg1 hgr1 hW1 hW2 HW HGR HX HY c0 c1 d0 d1 hp1 hwp hpn hlti hn2 hc2 hpk HSM HST HCUR
            go_loopw [3, 5] (fun a b wr => ∃ (i m : Nat) (cur : Array Value), a = .int .i64 i ∧ b = .int .i64 m ∧ k ≤ i ∧ i < k + m ∧ 1 ≤ m ∧ m ≤ n2 ∧ Hid (wr.heap[g]? = some (.cells cur 31 (0, 0))) ∧ Hid (CmpI ks cap0 cur i (k + m)) ∧ Hid (w.grownBy wr (some g))) (fun _ b _ => n2 - (Go.RowKit.intOf b).toNat)
            case atStart => exact ⟨k, 1, cur0, rfl, rfl, Nat.le_refl _, by omega, Nat.le_refl _, by omega, HG1, HI, HGR1⟩
            case round =>
              clear HI HG1 HGR1
              obtain ⟨i, m, cur, rfl, rfl, hki, him, hm1, hmn, HW, HI, HGR⟩ := hrel
              by_cases hlt2 : m < n2
              · obtain ⟨p, hpm⟩ : ∃ p, p + 1 = m := ⟨m - 1, by omega⟩
                obtain ⟨x, hx⟩ : ∃ x, ks[k + m]? = some x := ⟨_, List.getElem?_eq_getElem (by rw [HN.out]; omega)⟩
                obtain ⟨y, hy⟩ : ∃ x, ks[k + m - 1]? = some x := ⟨_, List.getElem?_eq_getElem (by rw [HN.out]; omega)⟩
                have hcx := cell_sp HW.out hx (fun t h1 h2 => HI.out.high t (by omega) h2)
                have hcy := cell_sp HW.out hy (fun t h1 h2 => HI.out.high t (by omega) h2)
                rw [show (k + m) * 2 = k * 2 + m * 2 by omega] at hcx
                rw [show (k + m - 1) * 2 = k * 2 + p * 2 by omega] at hcy
                obtain ⟨c0, c1⟩ := hcx
                obtain ⟨d0, d1⟩ := hcy
                have HX := Lib.hid hx
                have HY := Lib.hid hy
                obtain ⟨x1, x2⟩ := x
                obtain ⟨y1, y2⟩ := y
                simp only at c0 c1 d0 d1
                have hp1 : (m : Int) - 1 = (p : Int) := by omega
                have hlti : (m : Int) < (n2 : Int) := by omega
                have hpn : (p : Int) < (n2 : Int) := by omega
                have hwp : IntKind.i64.wrap (p : Int) = (p : Int) := by rw [IntKind.wrap_i64]; omega
                clear hx hy
                by_cases hdup : (y1, y2) = (x1, x2)
                · cases hdup
                  have HSK := Lib.hid (HI.out.skip (by omega) HX.out HY.out)
                  clear HX HY
                  go_wp2_with fail
                  go_quiet (fail)
                  go_wp2_with fail
                  exact ⟨⟨i, m + 1, cur, rfl, by go_num, hki, by omega, by omega, by omega, HW, HSK, Lib.hid (grown_trans HGR.out ⟨rfl, rfl, rfl, Nat.le_refl _, fun _ _ _ => rfl⟩)⟩, by simp only [Go.RowKit.intOf]; omega⟩
                · have hnp : ¬ (x1 = y1 ∧ x2 = y2) := fun e => hdup (by rw [e.1, e.2])
                  have HKP := Lib.hid (HI.out.keep him HX.out HY.out hdup (by rw [HN.out]; exact hnc))
                  have hsz := HI.out.size
                  obtain ⟨u0, hu0⟩ : ∃ u, cur[i * 2]? = some u := ⟨_, Array.getElem?_eq_getElem (by omega)⟩
                  obtain ⟨u1, hu1⟩ : ∃ u, cur[i * 2 + 1]? = some u := ⟨_, Array.getElem?_eq_getElem (by omega)⟩
                  have HU := Lib.hid (And.intro hu0 hu1)
                  have hi1 : (i : Int) < (n : Int) := by omega
                  clear hdup HX HY hu0 hu1 hsz
                  by_cases e1 : x1 = y1
                  · have q1 : ¬ x2 = y2 := fun e => hnp ⟨e1, e⟩
                    have q2 : (x2 == y2) = false := beq_eq_false_iff_ne.2 q1
                    subst e1
                    clear hnp
                    go_wp2_with fail
                    go_quiet (fail)
                    obtain ⟨W, hW⟩ : ∃ W, wr.drewN nq = W := ⟨_, rfl⟩
                    have hg3 : W.heap[g]? = some (.cells cur 31 (0, 0)) := by rw [← hW]; exact HW.out
                    have c0' : W.cell? ⟨g, k * 2 + m * 2, none⟩ = some (.int .i64 x1) := by rw [← hW]; exact c0
                    have c1' : W.cell? ⟨g, k * 2 + m * 2 + 1, none⟩ = some (.int .i64 x2) := by rw [← hW]; exact c1
                    have k0' := cell_of hg3 HU.out.1
                    have k1' := cell_of hg3 HU.out.2
                    have f0 : W.frozen? ⟨g, i * 2, none⟩ = false := frozen_of hg3
                    have f1 : W.frozen? ⟨g, i * 2 + 1, none⟩ = false := frozen_of hg3
                    have HG3 := Lib.hid hg3
                    have HGR3 : Hid (w.grownBy W (some g)) := Lib.hid (by rw [← hW]; exact grown_trans HGR.out ⟨rfl, rfl, rfl, Nat.le_refl _, fun _ _ _ => rfl⟩)
                    rw [hW]
                    clear hg3 hW c0 c1 d0 d1
                    go_wp2_with fail
                    exact ⟨⟨i + 1, m + 1, _, by go_num, by go_num, by omega, by omega, by omega, by omega, Lib.hid (set_of (set_of HG3.out _) _), HKP, Lib.hid (grown_trans (grown_trans HGR3.out (grown_set _ g _ _)) (grown_set _ g _ _))⟩, by simp only [Go.RowKit.intOf]; omega⟩
                  · have q2 : (x1 == y1) = false := beq_eq_false_iff_ne.2 e1
                    clear hnp
                    go_wp2_with fail
                    go_quiet (fail)
                    obtain ⟨W, hW⟩ : ∃ W, wr.drewN nq = W := ⟨_, rfl⟩
                    have hg3 : W.heap[g]? = some (.cells cur 31 (0, 0)) := by rw [← hW]; exact HW.out
                    have c0' : W.cell? ⟨g, k * 2 + m * 2, none⟩ = some (.int .i64 x1) := by rw [← hW]; exact c0
                    have c1' : W.cell? ⟨g, k * 2 + m * 2 + 1, none⟩ = some (.int .i64 x2) := by rw [← hW]; exact c1
                    have k0' := cell_of hg3 HU.out.1
                    have k1' := cell_of hg3 HU.out.2
                    have f0 : W.frozen? ⟨g, i * 2, none⟩ = false := frozen_of hg3
                    have f1 : W.frozen? ⟨g, i * 2 + 1, none⟩ = false := frozen_of hg3
                    have HG3 := Lib.hid hg3
                    have HGR3 : Hid (w.grownBy W (some g)) := Lib.hid (by rw [← hW]; exact grown_trans HGR.out ⟨rfl, rfl, rfl, Nat.le_refl _, fun _ _ _ => rfl⟩)
                    rw [hW]
                    clear hg3 hW c0 c1 d0 d1
                    go_wp2_with fail
                    exact ⟨⟨i + 1, m + 1, _, by go_num, by go_num, by omega, by omega, by omega, by omega, Lib.hid (set_of (set_of HG3.out _) _), HKP, Lib.hid (grown_trans (grown_trans HGR3.out (grown_set _ g _ _)) (grown_set _ g _ _))⟩, by simp only [Go.RowKit.intOf]; omega⟩
              · obtain rfl : m = n2 := by omega
                have hlen : i = (ddup ks).length := by
                  have := HI.out.len
                  rw [List.take_of_length_le (by rw [HN.out]; omega)] at this
                  exact this
                obtain ⟨W2, cur2, hcl, hw2, hs2, hp2, hgr2⟩ := clear_sp (g := g) (i := i) (n := n) (cap := cap0) HW.out HI.out.size hnc (by omega) 0
                have hcl : ∀ ty, (Builtin.clear_ #[22] ty #[.slice (some ⟨g, i * 2, none⟩) (n - i) (cap0 - i)]).run Try.prog wr = .ok (.tuple #[]) W2 := fun ty => hcl
                have hown2 : W2.ownsRow base 31 2 (.slice (some ⟨g, 0, none⟩) i cap0) (ddup ks).length ((ddup ks).flatMap spV) := by
                  rw [← hlen]
                  refine ⟨by rw [flatM_len spV_len, ← hlen], .inr ⟨g, cap0, cur2, rfl, HBS.out, hw2, by omega, HCM.out, hs2, ?_⟩⟩
                  have hd := HI.out.low
                  rw [List.take_of_length_le (by rw [HN.out]; omega)] at hd
                  refine List.ext_getElem? fun p => ?_
                  by_cases hp : p < i * 2
                  · rw [List.getElem?_take, if_pos hp, ← hd p hp, ← hp2 p hp]
                    simp
                  · rw [List.getElem?_eq_none (by rw [List.length_take]; omega), List.getElem?_eq_none (by rw [flatM_len spV_len, ← hlen]; omega)]
                have HO2 := Lib.hid hown2
                have HGR2 := Lib.hid (grown_trans HGR.out hgr2)
                have hin : (i : Int) ≤ (n : Int) := by omega
                have hnc' : (n : Int) ≤ (cap0 : Int) := by omega
                clear hown2 hgr2 hw2 hs2 hp2 hlen HW HI HGR
                go_wp2_with fail
                go_ret
                exact ⟨⟨_, rfl, HO2.out, rfl⟩, HGR2.out⟩
          · have hnp : ¬ (x1 = y1 ∧ x2 = y2) := fun e => hdup (by rw [e.1, e.2])
            have HNP := Lib.hid hdup
            clear hdup
            have HA2 : Hid (∀ (j : Nat) (a b : Sp), 0 < j → j < k + 1 → ks[j]? = some a → ks[j - 1]? = some b → b ≠ a) := Lib.hid fun j a b h0 h1 ha hb => by
              by_cases e : j = k
              · subst e
                rw [HX.out] at ha
                rw [HY.out] at hb
                cases ha
                cases hb
                exact HNP.out
              · exact HA.out j a b h0 (by omega) ha hb
            clear HA HX HY
            by_cases e1 : x1 = y1
            · have q1 : ¬ x2 = y2 := fun e => hnp ⟨e1, e⟩
              have q2 : (x2 == y2) = false := beq_eq_false_iff_ne.2 q1
              subst e1
              clear hnp HNP
              go_wp2_with fail
              go_quiet (fail)
              go_wp2_with fail
              exact ⟨⟨k + 1, _, by go_num, by omega, by omega, Lib.hid (by rw [HW.out, World.drewN_drewN]), HA2⟩, by simp only [Go.RowKit.intOf]; omega⟩
            · have q2 : (x1 == y1) = false := beq_eq_false_iff_ne.2 e1
              clear hnp HNP
              go_wp2_with fail
              go_quiet (fail)
              go_wp2_with fail
              exact ⟨⟨k + 1, _, by go_num, by omega, by omega, Lib.hid (by rw [HW.out, World.drewN_drewN]), HA2⟩, by simp only [Go.RowKit.intOf]; omega⟩
        · obtain rfl : k = n := by omega
          have HS := Lib.hid (HSM.out (ddup_same fun j x y h0 hx hy => HA.out j x y h0 (by rw [← HN.out]; exact (List.getElem?_eq_some_iff.1 hx).1) hx hy))
          clear HA
          go_wp2_with fail
          go_ret
          obtain ⟨⟨v', e1, e2, e3⟩, e4⟩ := HS.out
          rw [HW.out]
          cases e1
          exact ⟨⟨_, rfl, own_below e2 fun _ _ => rfl, e3⟩, ⟨rfl, rfl, rfl, Nat.le_refl _, fun _ _ _ => rfl⟩⟩
end Go.Proofs.Ytpkkebojiengpaa
