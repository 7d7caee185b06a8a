/-
  WALKS over package corpus: slices.DeleteFunc at regions of the call's own: the walk.
-/
import Derived.Test.YtmjmidgfdjcbfaaGreatDoorQdB
namespace Go.Proofs.YtmjmidgfdjcbfaaGreatDoor
open Go.RowKit Go.Shelf Go.Lib
set_option linter.unusedVariables false

theorem run_clear_rows {P : Program} (w : World) (t e ty : TypeId) (z : Value) (ht : P.underlying t = some (.slice e)) (hv : ∀ w, (zeroValue e).run P w = .ok z w) (b o n c : Nat) (hn : 0 < n) (zs : List Value) (hz : (Builtin.zeroCells z.cells n).toList = zs)
    (hc : ∀ j, j < zs.length → (w.cell? ⟨b, o + j, none⟩).isSome = true) (hf : ∀ j, j < zs.length → w.frozen? ⟨b, o + j, none⟩ = false) (h1 : ∀ v ∈ zs, v.oneCell' = true) :
    (Builtin.clear_ #[t] ty #[.slice (some ⟨b, o, none⟩) n c]).run P w = .ok (.tuple #[]) (w.setCells b o zs) := by
  have hst := run_storeCells_cells (P := P) b o zs 0 w (by simpa using hc) (by simpa using hf) h1
  simp only [Nat.add_zero] at hst
  obtain ⟨m, rfl⟩ : ∃ m, n = m + 1 := ⟨n - 1, by omega⟩
  simp [Builtin.clear_, run_underlying ht, hv, hz, hst]
theorem setCells_heap {T : TypeId} {f : Nat × Nat} (g : Nat) : ∀ (vs : List Value) (o : Nat) (w : World) (cur : Array Value), w.heap[g]? = some (.cells cur T f) → ∃ cur2, (w.setCells g o vs).heap[g]? = some (.cells cur2 T f) ∧ cur2.size = cur.size ∧ ∀ p, p < o → cur2[p]? = cur[p]?
  | [], o, w, cur, h => ⟨cur, h, rfl, fun _ _ => rfl⟩
  | v :: r, o, w, cur, h => by
    obtain ⟨c2, h1, h2, h3⟩ := setCells_heap (T := T) (f := f) g r (o + 1) (w.setCell ⟨g, o, none⟩ v) _ (set_of h v)
    refine ⟨c2, h1, by rw [h2]; simp, fun p hp => ?_⟩
    rw [h3 p (by omega), Array.getElem?_setIfInBounds]
    rw [if_neg (by omega)]
theorem setCells_grown (g : Nat) : ∀ (vs : List Value) (o : Nat) (w : World), w.grownBy (w.setCells g o vs) (some g)
  | [], o, w => World.grownBy.refl w _
  | v :: r, o, w => grown_trans (grown_set w g o v) (setCells_grown g r (o + 1) _)
theorem zero_one {zs : Array Value} {n : Nat} {v : Value} (h : ∀ q, q < zs.size → (zs[q]!).oneCell' = true) (hv : v ∈ (Builtin.zeroCells zs n).toList) : v.oneCell' = true := by
  simp only [Builtin.zeroCells, Array.toList_map, Array.toList_range, List.mem_map, List.mem_range] at hv
  obtain ⟨a, ha, rfl⟩ := hv
  refine h _ (Nat.mod_lt _ ?_)
  rcases Nat.eq_zero_or_pos zs.size with e | e
  · rw [e] at ha; omega
  · exact e
/-- What DeleteFunc answers. -/
def DelV (w : World) (base : Nat) (v : Value) (os : List Og) (rb : Int) (e : Ending) (w' : World) : Prop :=
  (∃ v', e = .returned v' ∧ w'.ownsRow base 101 4 v' (os.filter (keepO rb)).length ((os.filter (keepO rb)).flatMap encO) ∧ (v'.ownBlock = v.ownBlock)) ∧ w.grownBy w' v.ownBlock

set_option maxRecDepth 100000 in
set_option maxHeartbeats 8000000 in
theorem deleteFunc_any {w : World} {base : Nat} {v : Value} {os : List Og} (hown : w.ownsRow base 101 4 v os.length (os.flatMap encO)) (hn : os.length ≤ 1000000) (rb : Int) (B : Nat) (hB : B < w.heap.size) (hne : v.ownBlock ≠ some B) (hc : w.cell? ⟨B, 1, none⟩ = some (.int .i64 rb)) :
    Calls Tryz.prog 59 #[v, .func (.func 60) #[] #[.pointer (some ⟨B, 0, none⟩)]] w (DelV w base v os rb) := by
  have hrow : Rows 4 EOg w v os := rows_of_own encO_len hown
  have hif := indexFunc_reg stays_og hrow (by unfold maxLen; omega) 60 #[.pointer (some ⟨B, 0, none⟩)] (enters_of Tryz.func60 (by kernel_rfl) rfl) (fun o => !keepO rb o) (by
    intro W o u0 u1 u2 u3 hW _ hE
    have hE : [u0, u1, u2, u3] = encO o := hE
    have := region1_any o rb B W (Nat.lt_of_lt_of_le hB hW.size) ((hW.cell hB).trans hc)
    rw [← hE] at this
    exact this)
  obtain ⟨n, hnn⟩ : ∃ n, os.length = n := ⟨_, rfl⟩
  rcases findZ_spec (fun o => !keepO rb o) os with ⟨hm, hall⟩ | ⟨k0, o0, hk0, hp0, hj0, hm⟩
  · -- nothing is struck
    rw [hm] at hif
    have hf : os.filter (keepO rb) = os := List.filter_eq_self.2 fun o ho => by have := hall o ho; simpa using this
    have HOWN := Lib.hid hown
    have HF := Lib.hid hf
    have HIF := Lib.hid hif
    clear hif hall hm hf hrow hown hc hne
    go_enter Tryz.func59, Tryz.ntmps59
    go_wp2_with fail
    refine HIF.out.mono ?_
    rintro e w1 ⟨rfl, hb1⟩
    have HB1 := Lib.hid hb1
    clear hb1
    go_wp2_with fail
    go_ret
    refine ⟨⟨_, rfl, ?_, rfl⟩, grown_below HB1.out _⟩
    rw [HF.out]
    exact own_after HOWN.out HB1.out
  · rw [hm] at hif
    have hk0l := (List.getElem?_eq_some_iff.1 hk0).1
    rcases hown.2 with ⟨rfl, h0⟩ | ⟨g, cap, cur0, hv, hbg, hg, hnc, hcm, hcs, htk⟩
    · omega
    · subst hv
      have hi0 : DelI os rb cap cur0 k0 (k0 + 1) := by
        have hft : (os.take k0).filter (keepO rb) = os.take k0 := List.filter_eq_self.2 fun o ho => by
          obtain ⟨j, hj, rfl⟩ := List.mem_take_iff_getElem.1 ho
          have := hj0 j _ (by omega) (List.getElem?_eq_getElem (by omega))
          simpa using this
        have hft2 : (os.take (k0 + 1)).filter (keepO rb) = os.take k0 := by
          rw [List.take_add_one, hk0, List.filter_append, hft]
          have : keepO rb o0 = false := by simpa using hp0
          simp [this]
        have hcur : ∀ p, p < os.length * 4 → cur0[p]? = (os.flatMap encO)[p]? := fun p hp => by
          rw [← htk, List.getElem?_take, if_pos (by omega)]
          simp
        refine ⟨hcs, by rw [hft2, List.length_take]; omega, fun p hp => ?_, fun p hp1 hp2 => hcur p hp2⟩
        rw [hft2, hcur p (by omega)]
        have hsplit : os.flatMap encO = (os.take k0).flatMap encO ++ (os.drop k0).flatMap encO := by rw [← List.flatMap_append, List.take_append_drop]
        rw [hsplit, List.getElem?_append_left (by rw [flatM_len encO_len, List.length_take]; omega)]
      have hgl := (Array.getElem?_eq_some_iff.1 hg).1
      have hBg : B ≠ g := fun e => hne (by rw [e]; rfl)
      rw [hnn] at hn hk0l hnc hif ⊢
      have HNN := Lib.hid hnn
      have HG := Lib.hid hg
      have HIF := Lib.hid hif
      have HI0 := Lib.hid hi0
      have HC := Lib.hid hc
      have HBW := Lib.hid hB
      have HBG := Lib.hid hBg
      have HGL := Lib.hid hgl
      have hbg' := hbg
      have HBS := Lib.hid hbg
      have HCM := Lib.hid hcm
      have hne1 : ((k0 : Int) == -1) = false := beq_eq_false_iff_ne.2 (by omega)
      clear hif hi0 hrow hown hc hne hB hg hgl hBg hcs htk hm hj0 hp0 hk0 hnn hbg hbg'
      go_enter Tryz.func59, Tryz.ntmps59
      go_wp2_with fail
      refine HIF.out.mono ?_
      rintro e w1 ⟨rfl, hb1⟩
      have HB1 := Lib.hid hb1
      clear hb1
      go_wp2_with fail
      go_loopw [5, 6] (fun a b wr => ∃ (i j : Nat) (cur : Array Value), a = .int .i64 i ∧ b = .int .i64 j ∧ j ≤ n ∧ k0 < j ∧ i < j ∧ Hid (wr.heap[g]? = some (.cells cur 101 (0, 0))) ∧ Hid (DelI os rb cap cur i j) ∧ Hid (w.grownBy wr (some g))) (fun _ b _ => n - (Go.RowKit.intOf b).toNat)
      case atStart => exact ⟨k0, k0 + 1, cur0, rfl, by go_num, by omega, by omega, by omega, Lib.hid (block_below HG.out HB1.out HGL.out), HI0, Lib.hid (grown_below HB1.out _)⟩
      case round =>
        obtain ⟨i, j, cur, rfl, rfl, hjn, hkj, hij, HW, HD, HGR⟩ := hrel
        by_cases hlt : j < n
        · obtain ⟨o, ho⟩ : ∃ o, os[j]? = some o := ⟨_, List.getElem?_eq_getElem (by rw [HNN.out]; exact hlt)⟩
          have hcj : ∀ t u, t < 4 → (encO o)[t]? = some u → wr.cell? ⟨g, j * 4 + t, none⟩ = some u := fun t u ht hu => by
            refine cell_of HW.out ?_
            rw [HD.out.2.2.2 (j * 4 + t) (by omega) (by rw [HNN.out]; omega), flatM_get encO_len os j o t ho ht]
            exact hu
          have c0 := hcj 0 _ (by omega) rfl
          have c1 := hcj 1 _ (by omega) rfl
          have c2 := hcj 2 _ (by omega) rfl
          have c3 := hcj 3 _ (by omega) rfl
          rw [Nat.add_zero] at c0
          have hBr : B < wr.heap.size := Nat.lt_of_lt_of_le HBW.out HGR.out.size
          have hcr : wr.cell? ⟨B, 1, none⟩ = some (.int .i64 rb) := (World.cell?_of_block (HGR.out.block B HBW.out (fun e => HBG.out (by injection e)))).trans HC.out
          have hcall : ∀ X, Below wr.heap.size wr X → _ := fun X h => region1_any o rb B X (Nat.lt_of_lt_of_le hBr h.size) ((h.cell hBr).trans hcr)
          have hok : ∀ t, t < 4 → ∃ u, cur[i * 4 + t]? = some u := fun t ht => by
            have := HD.out.1
            have hcc : n ≤ cap := hnc
            exact ⟨_, Array.getElem?_eq_getElem (by rw [this]; omega)⟩
          have hskip := fun hk => HD.out.skip ho hk
          have hkeep := fun hk => HD.out.keep ho hk (by rw [HNN.out]; exact hnc)
          obtain ⟨z, hz⟩ : ∃ z, keepO rb o = z := ⟨_, rfl⟩
          rw [hz] at hskip hkeep
          simp only [hz] at hcall
          unfold encO at hcall
          obtain ⟨P, hP⟩ : ∃ s : ByteArray, (⟨o.x.name.toArray⟩ : ByteArray) = s := ⟨_, rfl⟩
          obtain ⟨ob, hob⟩ : ∃ s, o.x.b = s := ⟨_, rfl⟩
          obtain ⟨oe, hoe⟩ : ∃ s, o.x.e = s := ⟨_, rfl⟩
          obtain ⟨oA, hoA⟩ : ∃ s, o.A = s := ⟨_, rfl⟩
          obtain ⟨ol, hol⟩ : ∃ s, o.l = s := ⟨_, rfl⟩
          obtain ⟨oc, hoc⟩ : ∃ s, o.cp = s := ⟨_, rfl⟩
          rw [hP, hob, hoe, hoA, hol, hoc] at hkeep
          simp only [hP, hob, hoe, hoA, hol, hoc] at hcall c0 c1 c2 c3
          obtain ⟨X, hX⟩ : ∃ X, wr.alloc (.cells #[.string P, .int .i64 ob, .int .i64 oe, .slice oA ol oc] 101) = X := ⟨_, rfl⟩
          have hbX : Below wr.heap.size wr X := by rw [← hX]; exact below_box wr _
          obtain ⟨N0, hN0⟩ : ∃ N0, wr.heap.size = N0 := ⟨_, rfl⟩
          have e1 : X.heap[N0]? = some (.cells #[.string P, .int .i64 ob, .int .i64 oe, .slice oA ol oc] 101 (0, 0)) := by rw [← hX, ← hN0]; exact block_new wr _
          have hgX : X.heap[g]? = some (.cells cur 101 (0, 0)) := block_below HW.out hbX (Array.getElem?_eq_some_iff.1 HW.out).1
          have g0 := cell_of (i := 0) e1 rfl
          have g1 := cell_of (i := 1) e1 rfl
          have g2 := cell_of (i := 2) e1 rfl
          have g3 := cell_of (i := 3) e1 rfl
          have HCALL := Lib.hid (hcall X hbX)
          have HX := Lib.hid hX
          have HN0 := Lib.hid hN0
          have HGX := Lib.hid hgX
          have HE1 := Lib.hid e1
          have HGRX := Lib.hid (grown_trans HGR.out (grown_below hbX _))
          have HSK := Lib.hid hskip
          have HKP := Lib.hid hkeep
          have HOK := Lib.hid hok
          have hlt1 : (j : Int) < (n : Int) := by omega
          have hi1 : (i : Int) < (n : Int) := by omega
          clear hcj hcall hcr hBr hskip hkeep hok hz hP hob hoe hoA hol hoc hX hbX hN0 e1 hgX ho HW HD HGR
          cases z with
          | false =>
            have HSK2 := Lib.hid (HSK.out rfl)
            clear HSK HKP HOK
            go_wp2_with fail
            rw [HX.out, HN0.out]
            clear c0 c1 c2 c3
            go_wp2_with fail
            refine HCALL.out.mono ?_
            rintro e w2 ⟨rfl, hb2⟩
            have HB2 := Lib.hid hb2
            clear hb2 g0 g1 g2 g3
            go_wp2_with fail
            exact ⟨⟨i, j + 1, cur, rfl, by go_num, by omega, by omega, by omega, Lib.hid (block_below HGX.out HB2.out (Array.getElem?_eq_some_iff.1 HGX.out).1), HSK2, Lib.hid (grown_trans HGRX.out (grown_below HB2.out _))⟩, by simp only [Go.RowKit.intOf]; omega⟩
          | true =>
            have HKP2 := Lib.hid (HKP.out rfl)
            clear HSK HKP
            go_wp2_with fail
            rw [HX.out, HN0.out]
            clear c0 c1 c2 c3
            go_wp2_with fail
            refine HCALL.out.mono ?_
            rintro e w2 ⟨rfl, hb2⟩
            have HB2 := Lib.hid hb2
            clear hb2 g0 g1 g2 g3
            have e2 := block_below HE1.out HB2.out (Array.getElem?_eq_some_iff.1 HE1.out).1
            have hg2 := block_below HGX.out HB2.out (Array.getElem?_eq_some_iff.1 HGX.out).1
            obtain ⟨u0, hu0⟩ := HOK.out 0 (by omega)
            obtain ⟨u1, hu1⟩ := HOK.out 1 (by omega)
            obtain ⟨u2, hu2⟩ := HOK.out 2 (by omega)
            obtain ⟨u3, hu3⟩ := HOK.out 3 (by omega)
            have g0 := cell_of (i := 0) e2 rfl
            have g1 := cell_of (i := 1) e2 rfl
            have g2 := cell_of (i := 2) e2 rfl
            have g3 := cell_of (i := 3) e2 rfl
            have k0' := cell_of hg2 hu0
            have k1 := cell_of hg2 hu1
            have k2 := cell_of hg2 hu2
            have k3 := cell_of hg2 hu3
            rw [Nat.add_zero] at k0'
            have f0 : w2.frozen? ⟨g, i * 4, none⟩ = false := frozen_of hg2
            have f1 : w2.frozen? ⟨g, i * 4 + 1, none⟩ = false := frozen_of hg2
            have f2 : w2.frozen? ⟨g, i * 4 + 2, none⟩ = false := frozen_of hg2
            have f3 : w2.frozen? ⟨g, i * 4 + 3, none⟩ = false := frozen_of hg2
            have HG2 := Lib.hid hg2
            clear e2 hg2 hu0 hu1 hu2 hu3
            go_wp2_with fail
            refine ⟨⟨i + 1, j + 1, _, by go_num, by go_num, by omega, by omega, by omega, Lib.hid (set_of (set_of (set_of (set_of HG2.out _) _) _) _), HKP2, Lib.hid ?_⟩, by simp only [Go.RowKit.intOf]; omega⟩
            exact grown_trans (grown_trans (grown_trans (grown_trans (grown_trans HGRX.out (grown_below HB2.out _)) (grown_set _ g _ _)) (grown_set _ g _ _)) (grown_set _ g _ _)) (grown_set _ g _ _)
        · obtain rfl : j = n := by omega
          have hsz := HD.out.1
          have hcl : ∀ ty, (Builtin.clear_ #[32] ty #[.slice (some ⟨g, i * 4, none⟩) (j - i) (cap - i)]).run Tryz.prog wr = .ok (.tuple #[]) (wr.setCells g (i * 4) (Builtin.zeroCells (Value.agg #[.string ⟨#[]⟩, .int .i64 0, .int .i64 0, .slice none 0 0]).cells (j - i)).toList) := fun ty => by
            have hzl : (Builtin.zeroCells (Value.agg #[.string ⟨#[]⟩, .int .i64 0, .int .i64 0, .slice none 0 0]).cells (j - i)).toList.length = (j - i) * 4 := by
              rw [Array.length_toList, size_zeroCells]
              rfl
            refine run_clear_rows wr 32 101 ty (.agg #[.string ⟨#[]⟩, .int .i64 0, .int .i64 0, .slice none 0 0]) Tryz.underlying32 (fun w => by kernel_rfl) g (i * 4) (j - i) (cap - i) (by omega) _ rfl (fun p hp => ?_) (fun p _ => frozen_of HW.out) (fun v hv => ?_)
            · rw [hzl] at hp
              rw [cell_of HW.out (Array.getElem?_eq_getElem (by omega))]
              rfl
            · exact zero_one (zs := #[.string ⟨#[]⟩, .int .i64 0, .int .i64 0, .slice none 0 0]) (by decide) hv
          have hlen : i = (os.filter (keepO rb)).length := by
            have := HD.out.2.1
            rw [List.take_of_length_le (by rw [HNN.out]; exact Nat.le_refl _)] at this
            exact this
          obtain ⟨cur2, hw2, hs2, hp2⟩ := setCells_heap g (Builtin.zeroCells (Value.agg #[.string ⟨#[]⟩, .int .i64 0, .int .i64 0, .slice none 0 0]).cells (j - i)).toList (i * 4) wr cur HW.out
          have hgr2 := grown_trans HGR.out (setCells_grown g (Builtin.zeroCells (Value.agg #[.string ⟨#[]⟩, .int .i64 0, .int .i64 0, .slice none 0 0]).cells (j - i)).toList (i * 4) wr)
          obtain ⟨W2, hW2⟩ : ∃ W2, wr.setCells g (i * 4) (Builtin.zeroCells (Value.agg #[.string ⟨#[]⟩, .int .i64 0, .int .i64 0, .slice none 0 0]).cells (j - i)).toList = W2 := ⟨_, rfl⟩
          rw [hW2] at hcl hw2 hgr2
          have hown2 : W2.ownsRow base 101 4 (.slice (some ⟨g, 0, none⟩) i cap) (os.filter (keepO rb)).length ((os.filter (keepO rb)).flatMap encO) := by
            rw [← hlen]
            refine ⟨by rw [flatM_len encO_len, ← hlen], .inr ⟨g, cap, cur2, rfl, HBS.out, hw2, by omega, HCM.out, by rw [hs2, hsz], ?_⟩⟩
            have hd := HD.out.2.2.1
            rw [List.take_of_length_le (by rw [HNN.out]; exact Nat.le_refl _)] at hd
            refine List.ext_getElem? fun p => ?_
            by_cases hp : p < i * 4
            · rw [List.getElem?_take, if_pos hp, ← hd p hp, ← hp2 p hp]
              simp
            · rw [List.getElem?_eq_none (by rw [List.length_take]; omega), List.getElem?_eq_none (by rw [flatM_len encO_len, ← hlen]; omega)]
          have HO2 := Lib.hid hown2
          have HG2 := Lib.hid hgr2
          have hic : (i : Int) ≤ (j : Int) := by omega
          have hjc : (j : Int) ≤ (cap : Int) := by omega
          clear hown2 hgr2 hw2 hs2 hp2 hlen hsz hW2 HW HD HGR
          go_wp2_with fail
          go_ret
          exact ⟨⟨_, rfl, HO2.out, rfl⟩, HG2.out⟩
end Go.Proofs.YtmjmidgfdjcbfaaGreatDoor
