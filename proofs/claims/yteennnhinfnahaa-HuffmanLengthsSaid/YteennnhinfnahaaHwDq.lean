/-
  WALKS over the reference of package huffman: Lengths.
-/
import Derived.Test.YteennnhinfnahaaHwLq
import Derived.Deep.RegionHeld3
import Derived.Deep.CutRange
import Derived.BigRegion
namespace Go.Proofs.Yteennnhinfnahaa
open Go.RowKit Go.Shelf Go.Lib
set_option linter.unusedVariables false
set_option linter.unusedSimpArgs false

theorem infoIntL : (Try.prog.info? 3).map (fun i => (i.zero, i.size, i.bytes)) = some (some (.int .i64 0), 1, 8) := by kernel_rfl
theorem make_intL (n : Nat) (hn : n ≤ 100000) (W : World) : (Instr.makeSlice 22 (.int .i64 n) (.int .i64 n)).run Try.prog W = .ok (.slice (some ⟨W.heap.size, 0, none⟩) n n) (W.alloc (.cells (intRow (List.replicate n 0)) 3)) := by
  obtain ⟨i1, hi1, hy0, hy1, hy2⟩ := info_parts' infoIntL
  have := run_make (P := Try.prog) W 22 3 i1 _ Try.underlying22 hi1 hy0 .i64 .i64 n n (by omega) (by omega) (by rw [hy2]; omega) (by omega)
  rw [Int.toNat_natCast, hy1, Nat.mul_one] at this
  rw [← made_int]
  exact this
/-- 1 for each of the first symbols that is present. -/
def onesL (cs : List Int) (k : Nat) : List Int := (List.range cs.length).map fun j => if j < k ∧ 0 < cs.getD j 0 then 1 else 0
theorem onesL_len (cs : List Int) (k : Nat) : (onesL cs k).length = cs.length := by simp [onesL]
theorem onesL_at {cs : List Int} {k j : Nat} (h : j < cs.length) : (onesL cs k)[j]? = some (if j < k ∧ 0 < cs.getD j 0 then 1 else 0) := by
  unfold onesL
  rw [List.getElem?_map, List.getElem?_range h]
  rfl
theorem onesL_zero (cs : List Int) : onesL cs 0 = List.replicate cs.length 0 := by
  refine List.ext_getElem? fun j => ?_
  rcases Nat.lt_or_ge j cs.length with h | h
  · rw [onesL_at h, if_neg (by omega), List.getElem?_replicate, if_pos h]
  · rw [List.getElem?_eq_none (by rw [onesL_len]; exact h), List.getElem?_eq_none (by rw [List.length_replicate]; exact h)]
theorem onesL_no {cs : List Int} {s : Nat} (h : cs[s]? = some 0) : onesL cs (s + 1) = onesL cs s := by
  refine List.ext_getElem? fun j => ?_
  rcases Nat.lt_or_ge j cs.length with hj | hj
  · rw [onesL_at hj, onesL_at hj]
    by_cases e : j = s
    · subst e
      have : cs.getD j 0 = 0 := by rw [List.getD_eq_getElem?_getD, h]; rfl
      rw [this, if_neg (by omega), if_neg (by omega)]
    · congr 2
      apply propext
      constructor <;> (intro h; exact ⟨by omega, h.2⟩)
  · rw [List.getElem?_eq_none (by rw [onesL_len]; exact hj), List.getElem?_eq_none (by rw [onesL_len]; exact hj)]
theorem onesL_yes {cs : List Int} {s : Nat} {c : Int} (h : cs[s]? = some c) (hc : 0 < c) : (onesL cs s).set s 1 = onesL cs (s + 1) := by
  have hs := (List.getElem?_eq_some_iff.1 h).1
  refine List.ext_getElem? fun j => ?_
  rw [List.getElem?_set, onesL_len]
  rcases Nat.lt_or_ge j cs.length with hj | hj
  · rw [onesL_at hj, onesL_at hj]
    by_cases e : s = j
    · subst e
      have : cs.getD s 0 = c := by rw [List.getD_eq_getElem?_getD, h]; rfl
      rw [if_pos rfl, if_pos hs, this, if_pos ⟨by omega, hc⟩]
    · rw [if_neg e]
      congr 2
      apply propext
      constructor <;> (intro h; exact ⟨by omega, h.2⟩)
  · rw [List.getElem?_eq_none (by rw [onesL_len]; exact hj), List.getElem?_eq_none (by rw [onesL_len]; exact hj)]
    by_cases e : s = j
    · omega
    · rw [if_neg e]
theorem occ_new {n s : Nat} (h : s < n) : (intRow (List.replicate n (0 : Int))).setIfInBounds s (.int .i64 1) = intRow ((occR n (.leaf s)).map fun (j : Nat) => (j : Int)) := by
  rw [intRow_set, ← occR_leaf h, List.map_set, List.map_replicate]
  rfl
theorem lt_of_cellL {w : World} {a : Addr} {v : Value} (h : w.cell? a = some v) : a.block < w.heap.size := by
  rcases Nat.lt_or_ge a.block w.heap.size with hlt | hge
  · exact hlt
  · unfold World.cell? at h
    rw [Array.getElem?_eq_none hge] at h
    cases h
theorem SeesT.below {w w' : World} {v : Value} {xs : List ItH} (h : SeesT w v xs) (hb : Below w.heap.size w w') : SeesT w' v xs := h.keep fun p ⟨u, hu⟩ => hb.cell (lt_of_cellL hu)
theorem SeesT.grown {w w' : World} {v : Value} {xs : List ItH} (h : SeesT w v xs) (hg : w.grownBy w' none) : SeesT w' v xs :=
  h.below ⟨hg.os, hg.tape, hg.output, hg.size, fun k hk => hg.block k hk (fun e => by cases e)⟩
theorem seesT_new (w : World) (x : ItH) : SeesT (w.alloc (.cells #[.int .i64 x.wt, .bool x.lf, .slice (some ⟨x.b, 0, none⟩) x.n x.n] 52)) (.slice (some ⟨w.heap.size, 0, none⟩) 1 1) [x] := by
  refine .inr ⟨_, 1, rfl, fun j u hu => ?_⟩
  rw [List.flatMap_cons, List.flatMap_nil, List.append_nil] at hu
  exact news_at w (itVR x) 52 j u hu
/-- A leaf goes to its place. -/
theorem leaf_put {c : Nat → Nat} {S : List Nat} {P : List IP} {k s : Nat} {x : ItH} (ht : P.map Prod.snd = sortA (PT.wt c) (leavesP S)) (hg : ∀ p ∈ P, p.1.wt = p.2.wt c) (hk : k ≤ P.length) (h1 : ∀ y ∈ (P.map Prod.fst).take k, y.wt ≤ c s) (h2 : ∀ y ∈ (P.map Prod.fst).drop k, c s < y.wt) :
    (P.take k ++ (x, PT.leaf s) :: P.drop k).map Prod.snd = sortA (PT.wt c) (leavesP (S ++ [s])) := by
  have e1 : leavesP (S ++ [s]) = leavesP S ++ [PT.leaf s] := by simp [leavesP]
  rw [e1, sortA_snoc, ← ht]
  have e2 := insA_at (PT.wt c) (PT.leaf s) (P.map Prod.snd) k (by rw [List.length_map]; exact hk) (fun y hy => by
    rw [← List.map_take] at hy
    obtain ⟨p, hp, rfl⟩ := List.mem_map.1 hy
    rw [← hg p (List.mem_of_mem_take hp)]
    exact h1 _ (by rw [← List.map_take]; exact List.mem_map_of_mem hp)) (fun y hy => by
    rw [List.getElem?_map] at hy
    cases hpk : P[k]? with
    | none => rw [hpk] at hy; cases hy
    | some p =>
      rw [hpk] at hy
      simp only [Option.map_some, Option.some.injEq] at hy
      obtain ⟨hkl, hpe⟩ := List.getElem?_eq_some_iff.1 hpk
      have hpm : p ∈ P.drop k := by rw [List.drop_eq_getElem_cons hkl, ← hpe]; exact List.mem_cons_self ..
      rw [← hy, ← hg p (List.mem_of_getElem? hpk)]
      exact h2 _ (by rw [← List.map_drop]; exact List.mem_map_of_mem hpm))
  rw [e2, List.map_append, List.map_cons, List.map_take, List.map_drop]
/-- Behind the items that weigh no more. -/
theorem asc_items {c : Nat → Nat} {P : List IP} (h : AscW (PT.wt c) (P.map Prod.snd)) (hg : ∀ p ∈ P, p.1.wt = p.2.wt c) : AscW ItH.wt (P.map Prod.fst) := by
  unfold AscW at h ⊢
  rw [List.pairwise_map] at h ⊢
  refine h.imp_of_mem ?_
  intro a b ha hb hab
  rw [hg a ha, hg b hb]
  exact hab
theorem asc_low {F : List ItH} (h : AscW ItH.wt F) {j cn : Nat} {x : ItH} (hx : F[j]? = some x) (hle : x.wt ≤ cn) : ∀ y ∈ F.take (j + 1), y.wt ≤ cn := by
  intro y hy
  obtain ⟨i, hi, rfl⟩ := List.mem_iff_getElem.1 hy
  have hil : i < j + 1 := by rw [List.length_take] at hi; omega
  rw [List.getElem_take]
  obtain ⟨hj, hjx⟩ := List.getElem?_eq_some_iff.1 hx
  rcases Nat.lt_or_ge i j with h1 | h1
  · have h2 := List.pairwise_iff_getElem.1 h i j (by omega) hj h1
    rw [hjx] at h2
    omega
  · have : i = j := by omega
    subst this
    rw [hjx]
    exact hle
/-- Between two symbols of the reference's Lengths. -/
structure LvAt (w : World) (cs : List Int) (D s : Nat) (P : List IP) (lv : Value) (wr : World) : Prop where
  bl : Below w.heap.size w wr
  lg : wr.heap[D]? = some (.cells (intRow (onesL cs s)) 3 (0, 0))
  lo : wr.ownsRow w.heap.size 52 3 lv (P.map Prod.fst).length ((P.map Prod.fst).flatMap itVR)
  gd : ∀ p ∈ P, GoodP (cN cs) cs.length D wr p
  tr : P.map Prod.snd = sortA (PT.wt (cN cs)) (leavesP (preS (cs.take s) 0))
theorem own_baseH {w : World} {b1 b2 : Nat} {e : TypeId} {size n : Nat} {v : Value} {xs : List Value} (h : w.ownsRow b2 e size v n xs) (hb : b1 ≤ b2) : w.ownsRow b1 e size v n xs := by
  obtain ⟨h1, h2⟩ := h
  refine ⟨h1, ?_⟩
  rcases h2 with h2 | ⟨g, cap, cur, hv, hg, r⟩
  · exact .inl h2
  · exact .inr ⟨g, cap, cur, hv, Nat.le_trans hb hg, r⟩
theorem lv_put {w wr wa : World} {cs : List Int} {D O n s cn k : Nat} {P : List IP} {lv v3 : Value} (HL : LvAt w cs D s P lv wr) (hZ : Below wr.heap.size wr wa) (hD : w.heap.size = D) (hDw : D < wr.heap.size) (hOD : O ≠ D)
    (hO : wr.heap[O]? = some (.cells (intRow ((occR n (.leaf s)).map fun (j : Nat) => (j : Int))) 3 (0, 0))) (hn : cs.length = n) (hcx : cs[s]? = some (cn : Int)) (hc : (0 : Int) < (cn : Int))
    (hown : wa.ownsRow wr.heap.size 52 3 v3 ((P.map Prod.fst).take k ++ [(⟨cn, true, O, n⟩ : ItH)] ++ (P.map Prod.fst).drop k).length (((P.map Prod.fst).take k ++ [(⟨cn, true, O, n⟩ : ItH)] ++ (P.map Prod.fst).drop k).flatMap itVR))
    (htr : (P.take k ++ ((⟨cn, true, O, n⟩ : ItH), PT.leaf s) :: P.drop k).map Prod.snd = sortA (PT.wt (cN cs)) (leavesP (preS (cs.take s) 0 ++ [s]))) :
    LvAt w cs D (s + 1) (P.take k ++ ((⟨cn, true, O, n⟩ : ItH), PT.leaf s) :: P.drop k) v3 (wa.setCell ⟨D, s, none⟩ (.int .i64 1)) := by
  have hlg := (hZ.block D hDw).trans HL.lg
  have hne : ∀ k, k ≠ D → (wa.setCell ⟨D, s, none⟩ (.int .i64 1)).heap[k]? = wa.heap[k]? := fun k hk => Below.heap_setCell _ _ _ _ hk
  have e0 : (P.take k ++ ((⟨cn, true, O, n⟩ : ItH), PT.leaf s) :: P.drop k).map Prod.fst = (P.map Prod.fst).take k ++ [⟨cn, true, O, n⟩] ++ (P.map Prod.fst).drop k := by
    rw [List.map_append, List.map_cons, List.map_take, List.map_drop, List.append_assoc]
    rfl
  refine ⟨(HL.bl.trans (hZ.mono HL.bl.size)).setCell (p := ⟨D, s, none⟩) (Nat.le_of_eq hD) _, ?_, ?_, ?_, ?_⟩
  · rw [← onesL_yes hcx hc, ← intRow_set]
    exact Lib.heap_setCell_same hlg _
  · rw [e0]
    exact own_baseH (ownsRow_setCell_below hown (a := ⟨D, s, none⟩) hDw _) HL.bl.size
  · intro p hp
    rw [hn]
    rcases List.mem_append.1 hp with hp | hp
    · have := HL.gd p (List.mem_of_mem_take hp)
      rw [hn] at this
      exact this.keep fun k hk hkD _ => (hne k hkD).trans (hZ.block k hk)
    · rcases List.mem_cons.1 hp with rfl | hp
      · refine ⟨?_, rfl, hOD, (hne O hOD).trans ((hZ.block O (Array.getElem?_eq_some_iff.1 hO).1).trans hO)⟩
        show cn = cN cs s
        unfold cN
        rw [List.getD_eq_getElem?_getD, hcx]
        rfl
      · have := HL.gd p (List.mem_of_mem_drop hp)
        rw [hn] at this
        exact this.keep fun k hk hkD _ => (hne k hkD).trans (hZ.block k hk)
  · rw [preS_step hcx, if_pos hc]
    exact htr
theorem ones_huf {cs : List Int} {l : Nat} (h1 : 1 ≤ l) (hp : (preS cs 0).length < 2) : onesL cs cs.length = hufLs cs l := by
  refine List.ext_getElem? fun j => ?_
  rcases Nat.lt_or_ge j cs.length with hj | hj
  · rw [onesL_at hj, hufLs_at hj]
    by_cases hm : j ∈ preS cs 0
    · have hc := pre_iff.1 hm
      have hl1 : (preS cs 0).length = 1 := by
        have := List.length_pos_of_mem hm
        omega
      rw [huf_one (preS_nodup cs 0) h1 hl1 hm, if_pos ⟨hj, by unfold cN at hc; omega⟩]
      rfl
    · have hk : (preS cs 0).length ≤ 2 ^ l := by
        have := Nat.pow_le_pow_right (n := 2) (by omega) h1
        omega
      rw [huf_out (preS_nodup cs 0) h1 hk hm, if_neg (fun h => hm (pre_iff.2 (by unfold cN; omega)))]
      rfl
  · rw [List.getElem?_eq_none (by rw [onesL_len]; exact hj), List.getElem?_eq_none (by rw [hufLs_len]; exact hj)]
set_option maxRecDepth 100000 in
set_option maxHeartbeats 4000000 in
theorem refLengths_any {w : World} {v : Value} {cs : List Int} (hv : Rows 1 EInt w v cs) (hlen : cs.length ≤ maxLen) (lim : Int) (hl0 : -9223372036854775808 ≤ lim) (hl1 : lim ≤ 9223372036854775807) :
    Calls Try.prog 6 #[v, .int .i64 lim] w (LenV w cs lim) := by
  have HCK := Lib.hid (refCheck_any hv hlen lim hl0 hl1)
  obtain ⟨A, cap, rfl, hc⟩ := hv.form
  obtain ⟨n, hn⟩ : ∃ n, cs.length = n := ⟨_, rfl⟩
  have HV := Lib.hid (fun W (hb : Below w.heap.size w W) => hv.below stays_int hb)
  by_cases hz : chkH cs lim = 0
  · obtain ⟨l, rfl, h1, h2, h3, h4, h5⟩ := chk_zero hz
    rw [hz] at HCK
    rw [hn] at HCK HV h3 ⊢
    have HN := Lib.hid hn
    have H4 := Lib.hid h4
    have H5 := Lib.hid h5
    have hmk := make_intL n (by omega) w
    clear hv hlen hl0 hl1 hc hn h4 h5
    go_enter Try.func6, Try.ntmps6
    go_wp2_with fail
    refine HCK.out.mono ?_
    rintro e w1 ⟨rfl, rfl⟩
    go_wp2_with fail
    obtain ⟨D, hD⟩ : ∃ D, w1.heap.size = D := ⟨_, rfl⟩
    have HST0 : Hid (LvAt w1 cs D 0 [] (.slice none 0 0) (w1.alloc (.cells (intRow (List.replicate n 0)) 3))) := Lib.hid ⟨below_box _ _, by rw [onesL_zero, HN.out, ← hD]; exact block_new w1 _, World.ownsRow_nil _ _ _ _, fun p hp => (by cases hp), by simp [leavesP, preS, sortA]⟩
    have HDD := Lib.hid hD
    obtain ⟨w2, hw2⟩ : ∃ X, w1.alloc (.cells (intRow (List.replicate n 0)) 3) = X := ⟨_, rfl⟩
    rw [hw2] at HST0 ⊢
    clear hD hw2 hmk
    go_loopw [8, 33] (fun lv0 iv wr => ∃ (lv : Value) (s : Nat) (P : List IP), lv = lv0 ∧ s ≤ n ∧ iv = .int .i64 s ∧ Hid (LvAt w1 cs D s P lv wr)) (fun _ iv _ => n - (Go.RowKit.intOf iv).toNat)
    case atStart => exact ⟨_, 0, [], rfl, Nat.zero_le _, rfl, HST0⟩
    case round =>
      clear HST0
      obtain ⟨lv, s, P, rfl, hs, rfl, HL⟩ := hrel
      by_cases hlt : s < n
      · have hlti : (s : Int) < (n : Int) := by omega
        obtain ⟨c, hcx⟩ : ∃ c, cs[s]? = some c := ⟨_, List.getElem?_eq_getElem (by rw [HN.out]; exact hlt)⟩
        obtain ⟨bb, o, rfl, -, hj⟩ := at_int (HV.out wr HL.out.bl) (by rw [HN.out]; omega)
        have u0 := hj s c hcx
        have hcb := H4.out c (List.mem_of_getElem? hcx)
        have hstep := preS_step hcx
        by_cases hc0 : c = 0
        · subst hc0
          have HNX : Hid (LvAt w1 cs D (s + 1) P lv wr) := Lib.hid ⟨HL.out.bl, by rw [onesL_no hcx]; exact HL.out.lg, HL.out.lo, HL.out.gd, by rw [hstep, if_neg (by omega)]; exact HL.out.tr⟩
          clear hj hcx hstep HL
          go_wp2_with fail
          exact ⟨⟨_, s + 1, P, rfl, by omega, by go_num, HNX⟩, by simp only [Go.RowKit.intOf]; omega⟩
        · have hc1 : 0 < c := by omega
          have b1 : (c == 0) = false := by simp; omega
          have hmk := make_intL n (by omega) wr
          have HCX := Lib.hid hcx
          have HSTP := Lib.hid hstep
          obtain ⟨cn, rfl⟩ : ∃ k : Nat, c = k := ⟨c.toNat, by omega⟩
          have hDl : D < wr.heap.size := (Array.getElem?_eq_some_iff.1 HL.out.lg).1
          obtain ⟨Al, cl, hvl, hcl⟩ := (own_rowsT HL.out.lo).form
          obtain ⟨m, hm⟩ : ∃ m, (P.map Prod.fst).length = m := ⟨_, rfl⟩
          rw [hm] at hvl hcl
          subst hvl
          have hb1 := below_box wr (.cells (intRow (List.replicate n 0)) 3)
          have hb2 := below_box (wr.alloc (.cells (intRow (List.replicate n 0)) 3)) (.cells #[.int .i64 (cn : Int), .bool true, .slice (some ⟨wr.heap.size, 0, none⟩) n n] 52)
          have hb12 : Below wr.heap.size wr ((wr.alloc (.cells (intRow (List.replicate n 0)) 3)).alloc (.cells #[.int .i64 (cn : Int), .bool true, .slice (some ⟨wr.heap.size, 0, none⟩) n n] 52)) := hb1.trans (hb2.mono (by simp))
          have hO : ((wr.alloc (.cells (intRow (List.replicate n 0)) 3)).alloc (.cells #[.int .i64 (cn : Int), .bool true, .slice (some ⟨wr.heap.size, 0, none⟩) n n] 52)).heap[wr.heap.size]? = some (.cells (intRow (List.replicate n 0)) 3 (0, 0)) := (hb2.block wr.heap.size (by simp)).trans (block_new wr _)
          have f0 := frozen_of (i := s) hO
          have g0 : ((wr.alloc (.cells (intRow (List.replicate n 0)) 3)).alloc (.cells #[.int .i64 (cn : Int), .bool true, .slice (some ⟨wr.heap.size, 0, none⟩) n n] 52)).cell? ⟨wr.heap.size, s, none⟩ = some (.int .i64 0) := by
            have h := intRow_get (l := List.replicate n (0 : Int)) (i := s) (by rw [List.length_replicate]; exact hlt)
            have h2 := cell_of hO h
            rw [h2, List.getD_eq_getElem?_getD, List.getElem?_replicate, if_pos hlt]
            rfl
          clear hj hcx hstep
          go_wp2_with fail
          rw [occ_new hlt]
          have hx1 := below_box wr (.cells (intRow ((occR n (.leaf s)).map fun (j : Nat) => (j : Int))) 3)
          have hx2 := below_box (wr.alloc (.cells (intRow ((occR n (.leaf s)).map fun (j : Nat) => (j : Int))) 3)) (.cells #[.int .i64 (cn : Int), .bool true, .slice (some ⟨wr.heap.size, 0, none⟩) n n] 52)
          have hO3 := (hx2.block wr.heap.size (by simp)).trans (block_new wr (.cells (intRow ((occR n (.leaf s)).map fun (j : Nat) => (j : Int))) 3))
          have hX3 := block_new (wr.alloc (.cells (intRow ((occR n (.leaf s)).map fun (j : Nat) => (j : Int))) 3)) (.cells #[.int .i64 (cn : Int), .bool true, .slice (some ⟨wr.heap.size, 0, none⟩) n n] 52)
          have hb3 := hx1.trans (hx2.mono (by simp))
          obtain ⟨w3, hw3⟩ : ∃ X, (wr.alloc (.cells (intRow ((occR n (.leaf s)).map fun (j : Nat) => (j : Int))) 3)).alloc (.cells #[.int .i64 (cn : Int), .bool true, .slice (some ⟨wr.heap.size, 0, none⟩) n n] 52) = X := ⟨_, rfl⟩
          rw [alloc_sz] at hX3
          rw [hw3] at hO3 hX3 hb3
          rw [hw3]
          obtain ⟨O, hOO⟩ : ∃ O, wr.heap.size = O := ⟨_, rfl⟩
          have HL3 : Hid (LvAt w1 cs D s P (.slice Al m cl) w3) := Lib.hid ⟨HL.out.bl.trans (hb3.mono HL.out.bl.size), (hb3.block D hDl).trans HL.out.lg, own_below HL.out.lo fun k e => hb3.block k (own_low HL.out.lo k e).2, fun p hp => (HL.out.gd p hp).keep fun k hk _ _ => hb3.block k hk, HL.out.tr⟩
          have HB3 := Lib.hid hb3
          rw [hOO] at hO3 hX3
          have HO3 := Lib.hid hO3
          have HX3 := Lib.hid hX3
          have HDl := Lib.hid (show D < O by rw [← hOO]; exact hDl)
          have hasc : AscW ItH.wt (P.map Prod.fst) := asc_items (by rw [HL.out.tr]; exact sortA_asc _ _) (fun p hp => (HL.out.gd p hp).wt)
          have HASC := Lib.hid hasc
          have HM := Lib.hid hm
          have HF := Lib.hid (own_rowsT HL3.out.lo)
          have hm100 : m ≤ 99999 := by
            rw [← hm, List.length_map, ← List.length_map (f := Prod.snd), HL.out.tr, (sortA_perm _ _).length_eq]
            unfold leavesP
            rw [List.length_map]
            have := preS_take_le cs s
            omega
          clear hx1 hx2 hO3 hX3 hb3 hb1 hb2 hb12 hO f0 g0 hDl hasc hm hmk hw3 HL u0
          rw [hOO]
          clear hOO
          go_loopw [12] (fun kv wx => wx = w3 ∧ ∃ k : Nat, k ≤ m ∧ kv = .int .i64 k ∧ Hid (∀ y ∈ (P.map Prod.fst).drop k, cn < y.wt)) (fun kv _ => (Go.RowKit.intOf kv).toNat)
          case atStart => exact ⟨rfl, m, Nat.le_refl _, rfl, Lib.hid (fun y hy => by rw [List.drop_eq_nil_of_le (by rw [HM.out]; exact Nat.le_refl _)] at hy; cases hy)⟩
          case round =>
            obtain ⟨rfl, k, hk, rfl, HK⟩ := hrel
            by_cases hk0 : k = 0
            · have HLO : Hid (∀ y ∈ (P.map Prod.fst).take k, y.wt ≤ cn) := Lib.hid (fun y hy => by rw [hk0] at hy; simp at hy)
              have hkn : ¬ (0 : Int) < (k : Int) := by omega
              clear hk0
              have hkP : k ≤ P.length := by rw [← List.length_map (f := Prod.fst), HM.out]; exact hk
              have HTO := Lib.hid (fun W (h : Below wr.heap.size wr W) => (seesT_to HL3.out.lo hk HM.out.symm).below h)
              have hfrm := seesT_from HL3.out.lo hk HM.out.symm
              obtain ⟨A', n', c', hu⟩ : ∃ A' n' c', sliced Al k m cl 3 = .slice A' n' c' := ⟨_, _, _, rfl⟩
              rw [hu] at hfrm
              have hs1 := fun W' => slice_toT Al m cl k hk hcl W'
              have hs2 := fun W' => slice_fromT Al m cl k hk hcl W'
              simp only [hu] at hs2
              have HFR := Lib.hid (fun W (h : Below wr.heap.size wr W) => hfrm.below h)
              have HXC := Lib.hid (fun W (h : Below wr.heap.size wr W) => (h.block (O + 1) (Array.getElem?_eq_some_iff.1 HX3.out).1).trans HX3.out)
              have hx0 : wr.drew.cell? ⟨O + 1, 0, none⟩ = some (.int .i64 (cn : Int)) := cell_of (show wr.drew.heap[O + 1]? = _ from HX3.out) rfl
              have hx1 : wr.drew.cell? ⟨O + 1, 1, none⟩ = some (.bool true) := cell_of (show wr.drew.heap[O + 1]? = _ from HX3.out) rfl
              have hx2 : wr.drew.cell? ⟨O + 1, 2, none⟩ = some (.slice (some ⟨O, 0, none⟩) n n) := cell_of (show wr.drew.heap[O + 1]? = _ from HX3.out) rfl
              have HDW := Lib.hid (show D < wr.heap.size from Nat.lt_trans HDl.out (Nat.lt_of_succ_lt (Array.getElem?_eq_some_iff.1 HX3.out).1))
              have HLP := Lib.hid (leaf_put (x := ⟨cn, true, O, n⟩) (s := s) HL3.out.tr (fun p hp => (HL3.out.gd p hp).wt) hkP (by rw [show cN cs s = cn by unfold cN; rw [List.getD_eq_getElem?_getD, HCX.out]; rfl]; exact HLO.out) (by rw [show cN cs s = cn by unfold cN; rw [List.getD_eq_getElem?_getD, HCX.out]; rfl]; exact HK.out))
              clear hfrm hu hkP
              go_wp2_with fail
              refine wp_region_any (by kernel_rfl) ?_
              change wpAny _ _ _ _ _ _ _ (World.drew _)
              refine wpAny_take (i := 0) (oi := ?oi1) (v := ?v1) ?hi1 (by kernel_rfl) (by kernel_rfl) (by kernel_rfl) ?hq1 ?hy1 ?hr1
              case hi1 => (simp only [List.getElem?_toArray, List.getElem?_cons_zero]; rfl)
              case hq1 => exact fun _ _ _ h => h
              case hy1 => exact Or.inl ⟨by rfl, by intro w; (first | (go_simp; done) | (go_simp; with_reducible rfl))⟩
              try simp only [Act.put, List.setIfInBounds_toArray, List.set_cons_zero, List.set_cons_succ]
              refine wpAny_take (i := 1) (oi := ?oi2) (v := ?v2) ?hi2 (by kernel_rfl) (by kernel_rfl) (by kernel_rfl) ?hq2 ?hy2 ?hr2
              case hi2 => (simp only [List.getElem?_toArray, List.getElem?_cons_succ, List.getElem?_cons_zero]; rfl)
              case hq2 => exact fun _ _ _ h => h
              case hy2 => exact Or.inl ⟨by rfl, by intro w; (first | (go_simp; done) | (go_simp; with_reducible rfl))⟩
              try simp only [Act.put, List.setIfInBounds_toArray, List.set_cons_zero, List.set_cons_succ]
              refine wpAny_take (i := 2) (oi := ?oi3) (v := ?v3) ?hi3 (by kernel_rfl) (by kernel_rfl) (by kernel_rfl) ?hq3 ?hy3 ?hr3
              case hi3 => (simp only [List.getElem?_toArray, List.getElem?_cons_succ, List.getElem?_cons_zero]; rfl)
              case hq3 => exact fun _ _ _ h => h
              case hy3 => exact Or.inl ⟨by rfl, by intro w; (first | (go_simp; done) | (go_simp; with_reducible rfl))⟩
              try simp only [Act.put, List.setIfInBounds_toArray, List.set_cons_zero, List.set_cons_succ]
              refine wpAny_take (i := 7) (oi := ?oi4) (v := ?v4) ?hi4 (by kernel_rfl) (by kernel_rfl) (by kernel_rfl) ?hq4 ?hy4 ?hr4
              case hi4 => (simp only [List.getElem?_toArray, List.getElem?_cons_succ, List.getElem?_cons_zero]; rfl)
              case hq4 => exact fun _ _ _ h => h
              case hy4 => exact Or.inl ⟨by rfl, by intro w; (first | (go_simp; done) | (go_simp; with_reducible rfl))⟩
              try simp only [Act.put, List.setIfInBounds_toArray, List.set_cons_zero, List.set_cons_succ]
              refine wpAny_take (i := 8) (oi := ?oi5) (v := ?v5) ?hi5 (by kernel_rfl) (by kernel_rfl) (by kernel_rfl) ?hq5 ?hy5 ?hr5
              case hi5 => (simp only [List.getElem?_toArray, List.getElem?_cons_succ, List.getElem?_cons_zero]; rfl)
              case hq5 => exact fun _ _ _ h => h
              case hy5 => exact Or.inl ⟨by rfl, by intro w; (first | (go_simp; done) | (go_simp; with_reducible rfl))⟩
              try simp only [Act.put, List.setIfInBounds_toArray, List.set_cons_zero, List.set_cons_succ]
              refine wpAny_take (i := 9) (oi := ?oi6) (v := ?v6) ?hi6 (by kernel_rfl) (by kernel_rfl) (by kernel_rfl) ?hq6 ?hy6 ?hr6
              case hi6 => (simp only [List.getElem?_toArray, List.getElem?_cons_succ, List.getElem?_cons_zero]; rfl)
              case hq6 => exact fun _ _ _ h => h
              case hy6 => exact Or.inl ⟨by rfl, by intro w; (first | (go_simp; done) | (go_simp; with_reducible rfl))⟩
              try simp only [Act.put, List.setIfInBounds_toArray, List.set_cons_zero, List.set_cons_succ]
              refine wpAny_ready (rs := [3, 4]) (by kernel_rfl) (by simp) ?_
              refine AllReady.cons (o := ?oo7) ?hi7 (fun K hK => ?hs7) ?hm7
              case hi7 => (simp only [List.getElem?_toArray, List.getElem?_cons_succ, List.getElem?_cons_zero]; rfl)
              · refine step_append_T rfl (.const (.slice none 0 0)) (.tmp 67) rfl wr.heap.size _ [] rfl (World.ownsRow_nil _ _ _ _) _ ((P.map Prod.fst).take k) rfl (HTO.out _ (by first | exact (Below.refl _ _).drew | exact (Below.refl _ _).drew.alloc (Nat.le_refl _) _)) (by rw [List.length_take, List.length_nil]; omega) (by first | exact Nat.le_refl _ | simp) ?_
                intro v1 wa1 hown1 hg1 _
                rw [List.nil_append] at hown1
                have HO1 := Lib.hid hown1
                have HZ1 : Hid (Below wr.heap.size wr wa1) := Lib.hid (by first | exact (Below.refl _ _).drew.grown hg1 (Nat.le_refl _) (fun k e => by cases e) | exact ((Below.refl _ _).drew.alloc (Nat.le_refl _) _).grown hg1 (by simp) (fun k e => by cases e))
                have HG1 := Lib.hid hg1
                have ha0 : wa1.cell? ⟨O + 1, 0, none⟩ = some (.int .i64 (cn : Int)) := cell_of (HXC.out wa1 HZ1.out) rfl
                have ha1 : wa1.cell? ⟨O + 1, 1, none⟩ = some (.bool true) := cell_of (HXC.out wa1 HZ1.out) rfl
                have ha2 : wa1.cell? ⟨O + 1, 2, none⟩ = some (.slice (some ⟨O, 0, none⟩) n n) := cell_of (HXC.out wa1 HZ1.out) rfl
                clear hown1 hg1
                refine hK _ _ ?_; clear hK K
                try simp only [Act.put, List.setIfInBounds_toArray, List.set_cons_zero, List.set_cons_succ]
                refine wpAny_ready (rs := [4]) (by kernel_rfl) (by simp) ?_
                refine AllReady.cons (o := ?oo8) ?hi8 (fun K hK => ?hs8) ?hm8
                case hi8 => (simp only [List.getElem?_toArray, List.getElem?_cons_succ, List.getElem?_cons_zero]; rfl)
                · go_simp
                  refine hK _ _ ?_; clear hK K
                  try simp only [Act.put, List.setIfInBounds_toArray, List.set_cons_zero, List.set_cons_succ]
                  refine wpAny_ready (rs := [5]) (by kernel_rfl) (by simp) ?_
                  refine AllReady.cons (o := ?oo9) ?hi9 (fun K hK => ?hs9) ?hm9
                  case hi9 => (simp only [List.getElem?_toArray, List.getElem?_cons_succ, List.getElem?_cons_zero]; rfl)
                  · go_simp
                    refine hK _ _ ?_; clear hK K
                    try simp only [Act.put, List.setIfInBounds_toArray, List.set_cons_zero, List.set_cons_succ]
                    refine wpAny_ready (rs := [6]) (by kernel_rfl) (by simp) ?_
                    refine AllReady.cons (o := ?oo10) ?hi10 (fun K hK => ?hs10) ?hm10
                    case hi10 => (simp only [List.getElem?_toArray, List.getElem?_cons_succ, List.getElem?_cons_zero]; rfl)
                    · refine step_append_T rfl (.tmp 68) (.tmp 70) rfl wr.heap.size _ ((P.map Prod.fst).take k) rfl (by first | exact HO1.out | exact HO1.out.alloc _) _ [⟨cn, true, O, n⟩] rfl (by first | exact seesT_new _ ⟨cn, true, O, n⟩ | exact (seesT_new wr.drew ⟨cn, true, O, n⟩).grown HG1.out) (by rw [List.length_take, List.length_singleton]; omega) (by have := HZ1.out.size; first | exact this | (simp; omega)) ?_
                      intro v2 wa2 hown2 hg2 _
                      have HO2 := Lib.hid hown2
                      have HZ2 : Hid (Below wr.heap.size wr wa2) := Lib.hid (by first | exact HZ1.out.grown hg2 HZ1.out.size (fun c ec => (own_low HO1.out c ec).1) | exact (HZ1.out.alloc HZ1.out.size _).grown hg2 (by have := HZ1.out.size; simp; omega) (fun c ec => (own_low HO1.out c ec).1))
                      clear hown2 hg2
                      refine hK _ _ ?_; clear hK K
                      try simp only [Act.put, List.setIfInBounds_toArray, List.set_cons_zero, List.set_cons_succ]
                      refine wpAny_ready (rs := [10]) (by kernel_rfl) (by simp) ?_
                      refine AllReady.cons (o := ?oo11) ?hi11 (fun K hK => ?hs11) ?hm11
                      case hi11 => (simp only [List.getElem?_toArray, List.getElem?_cons_succ, List.getElem?_cons_zero]; rfl)
                      · refine step_append_T rfl (.tmp 71) (.tmp 74) rfl wr.heap.size _ ((P.map Prod.fst).take k ++ [⟨cn, true, O, n⟩]) rfl (by exact HO2.out) _ ((P.map Prod.fst).drop k) rfl (by exact HFR.out _ HZ2.out) (by rw [List.length_append, List.length_take, List.length_singleton, List.length_drop]; have := HM.out; omega) HZ2.out.size ?_
                        intro v3 wa3 hown3 hg3 _
                        have HO3a := Lib.hid hown3
                        have HZ3 : Hid (Below wr.heap.size wr wa3) := Lib.hid (HZ2.out.grown hg3 HZ2.out.size (fun c ec => (own_low HO2.out c ec).1))
                        have HLG := Lib.hid ((HZ3.out.block D HDW.out).trans HL3.out.lg)
                        have hd0 : wa3.cell? ⟨D, s, none⟩ = some (.int .i64 0) := cell_of HLG.out (by
                          have h := intRow_get (l := onesL cs s) (i := s) (by rw [onesL_len, HN.out]; exact hlt)
                          rw [h, List.getD_eq_getElem?_getD, onesL_at (by rw [HN.out]; exact hlt), if_neg (by omega)]
                          rfl)
                        have hd1 : wa3.frozen? ⟨D, s, none⟩ = false := frozen_of HLG.out
                        clear hown3 hg3
                        refine hK _ _ ?_; clear hK K
                        try simp only [Act.put, List.setIfInBounds_toArray, List.set_cons_zero, List.set_cons_succ]
                        refine wpAny_take (i := 11) (oi := ?oi12) (v := ?v12) ?hi12 (by kernel_rfl) (by kernel_rfl) (by kernel_rfl) ?hq12 ?hy12 ?hr12
                        case hi12 => (simp only [List.getElem?_toArray, List.getElem?_cons_succ, List.getElem?_cons_zero]; rfl)
                        case hq12 => exact fun _ _ _ h => h
                        case hy12 => exact Or.inl ⟨by rfl, by intro w; (first | (go_simp; done) | (go_simp; with_reducible rfl))⟩
                        try simp only [Act.put, List.setIfInBounds_toArray, List.set_cons_zero, List.set_cons_succ]
                        refine wpAny_done (by kernel_rfl) ?_ _
                        have HNX : Hid (LvAt w1 cs D (s + 1) (P.take k ++ ((⟨cn, true, O, n⟩ : ItH), PT.leaf s) :: P.drop k) v3 (wa3.setCell ⟨w1.heap.size, s, none⟩ (.int .i64 1))) := Lib.hid (by
                          rw [HDD.out]
                          exact lv_put HL3.out HZ3.out HDD.out HDW.out (Nat.ne_of_gt HDl.out) HO3.out HN.out HCX.out (by omega) HO3a.out HLP.out)
                        rw [← HDD.out] at hd0 hd1
                        go_wp2_with fail
                        exact ⟨⟨_, s + 1, _, rfl, by omega, by go_num, HNX⟩, by simp only [Go.RowKit.intOf]; omega⟩
                      exact AllReady.nil
                    exact AllReady.nil
                  exact AllReady.nil
                exact AllReady.nil
              refine AllReady.cons (o := ?oo13) ?hi13 (fun K hK => ?hs13) ?hm13
              case hi13 => (simp only [List.getElem?_toArray, List.getElem?_cons_succ, List.getElem?_cons_zero]; rfl)
              · go_simp
                refine hK _ _ ?_; clear hK K
                try simp only [Act.put, List.setIfInBounds_toArray, List.set_cons_zero, List.set_cons_succ]
                refine wpAny_ready (rs := [3, 5]) (by kernel_rfl) (by simp) ?_
                refine AllReady.cons (o := ?oo14) ?hi14 (fun K hK => ?hs14) ?hm14
                case hi14 => (simp only [List.getElem?_toArray, List.getElem?_cons_succ, List.getElem?_cons_zero]; rfl)
                · refine step_append_T rfl (.const (.slice none 0 0)) (.tmp 67) rfl wr.heap.size _ [] rfl (World.ownsRow_nil _ _ _ _) _ ((P.map Prod.fst).take k) rfl (HTO.out _ (by first | exact (Below.refl _ _).drew | exact (Below.refl _ _).drew.alloc (Nat.le_refl _) _)) (by rw [List.length_take, List.length_nil]; omega) (by first | exact Nat.le_refl _ | simp) ?_
                  intro v1 wa1 hown1 hg1 _
                  rw [List.nil_append] at hown1
                  have HO1 := Lib.hid hown1
                  have HZ1 : Hid (Below wr.heap.size wr wa1) := Lib.hid (by first | exact (Below.refl _ _).drew.grown hg1 (Nat.le_refl _) (fun k e => by cases e) | exact ((Below.refl _ _).drew.alloc (Nat.le_refl _) _).grown hg1 (by simp) (fun k e => by cases e))
                  have HG1 := Lib.hid hg1
                  have ha0 : wa1.cell? ⟨O + 1, 0, none⟩ = some (.int .i64 (cn : Int)) := cell_of (HXC.out wa1 HZ1.out) rfl
                  have ha1 : wa1.cell? ⟨O + 1, 1, none⟩ = some (.bool true) := cell_of (HXC.out wa1 HZ1.out) rfl
                  have ha2 : wa1.cell? ⟨O + 1, 2, none⟩ = some (.slice (some ⟨O, 0, none⟩) n n) := cell_of (HXC.out wa1 HZ1.out) rfl
                  clear hown1 hg1
                  refine hK _ _ ?_; clear hK K
                  try simp only [Act.put, List.setIfInBounds_toArray, List.set_cons_zero, List.set_cons_succ]
                  refine wpAny_ready (rs := [5]) (by kernel_rfl) (by simp) ?_
                  refine AllReady.cons (o := ?oo15) ?hi15 (fun K hK => ?hs15) ?hm15
                  case hi15 => (simp only [List.getElem?_toArray, List.getElem?_cons_succ, List.getElem?_cons_zero]; rfl)
                  · go_simp
                    refine hK _ _ ?_; clear hK K
                    try simp only [Act.put, List.setIfInBounds_toArray, List.set_cons_zero, List.set_cons_succ]
                    refine wpAny_ready (rs := [6]) (by kernel_rfl) (by simp) ?_
                    refine AllReady.cons (o := ?oo16) ?hi16 (fun K hK => ?hs16) ?hm16
                    case hi16 => (simp only [List.getElem?_toArray, List.getElem?_cons_succ, List.getElem?_cons_zero]; rfl)
                    · refine step_append_T rfl (.tmp 68) (.tmp 70) rfl wr.heap.size _ ((P.map Prod.fst).take k) rfl (by first | exact HO1.out | exact HO1.out.alloc _) _ [⟨cn, true, O, n⟩] rfl (by first | exact seesT_new _ ⟨cn, true, O, n⟩ | exact (seesT_new wr.drew ⟨cn, true, O, n⟩).grown HG1.out) (by rw [List.length_take, List.length_singleton]; omega) (by have := HZ1.out.size; first | exact this | (simp; omega)) ?_
                      intro v2 wa2 hown2 hg2 _
                      have HO2 := Lib.hid hown2
                      have HZ2 : Hid (Below wr.heap.size wr wa2) := Lib.hid (by first | exact HZ1.out.grown hg2 HZ1.out.size (fun c ec => (own_low HO1.out c ec).1) | exact (HZ1.out.alloc HZ1.out.size _).grown hg2 (by have := HZ1.out.size; simp; omega) (fun c ec => (own_low HO1.out c ec).1))
                      clear hown2 hg2
                      refine hK _ _ ?_; clear hK K
                      try simp only [Act.put, List.setIfInBounds_toArray, List.set_cons_zero, List.set_cons_succ]
                      refine wpAny_ready (rs := [10]) (by kernel_rfl) (by simp) ?_
                      refine AllReady.cons (o := ?oo17) ?hi17 (fun K hK => ?hs17) ?hm17
                      case hi17 => (simp only [List.getElem?_toArray, List.getElem?_cons_succ, List.getElem?_cons_zero]; rfl)
                      · refine step_append_T rfl (.tmp 71) (.tmp 74) rfl wr.heap.size _ ((P.map Prod.fst).take k ++ [⟨cn, true, O, n⟩]) rfl (by exact HO2.out) _ ((P.map Prod.fst).drop k) rfl (by exact HFR.out _ HZ2.out) (by rw [List.length_append, List.length_take, List.length_singleton, List.length_drop]; have := HM.out; omega) HZ2.out.size ?_
                        intro v3 wa3 hown3 hg3 _
                        have HO3a := Lib.hid hown3
                        have HZ3 : Hid (Below wr.heap.size wr wa3) := Lib.hid (HZ2.out.grown hg3 HZ2.out.size (fun c ec => (own_low HO2.out c ec).1))
                        have HLG := Lib.hid ((HZ3.out.block D HDW.out).trans HL3.out.lg)
                        have hd0 : wa3.cell? ⟨D, s, none⟩ = some (.int .i64 0) := cell_of HLG.out (by
                          have h := intRow_get (l := onesL cs s) (i := s) (by rw [onesL_len, HN.out]; exact hlt)
                          rw [h, List.getD_eq_getElem?_getD, onesL_at (by rw [HN.out]; exact hlt), if_neg (by omega)]
                          rfl)
                        have hd1 : wa3.frozen? ⟨D, s, none⟩ = false := frozen_of HLG.out
                        clear hown3 hg3
                        refine hK _ _ ?_; clear hK K
                        try simp only [Act.put, List.setIfInBounds_toArray, List.set_cons_zero, List.set_cons_succ]
                        refine wpAny_take (i := 11) (oi := ?oi18) (v := ?v18) ?hi18 (by kernel_rfl) (by kernel_rfl) (by kernel_rfl) ?hq18 ?hy18 ?hr18
                        case hi18 => (simp only [List.getElem?_toArray, List.getElem?_cons_succ, List.getElem?_cons_zero]; rfl)
                        case hq18 => exact fun _ _ _ h => h
                        case hy18 => exact Or.inl ⟨by rfl, by intro w; (first | (go_simp; done) | (go_simp; with_reducible rfl))⟩
                        try simp only [Act.put, List.setIfInBounds_toArray, List.set_cons_zero, List.set_cons_succ]
                        refine wpAny_done (by kernel_rfl) ?_ _
                        have HNX : Hid (LvAt w1 cs D (s + 1) (P.take k ++ ((⟨cn, true, O, n⟩ : ItH), PT.leaf s) :: P.drop k) v3 (wa3.setCell ⟨w1.heap.size, s, none⟩ (.int .i64 1))) := Lib.hid (by
                          rw [HDD.out]
                          exact lv_put HL3.out HZ3.out HDD.out HDW.out (Nat.ne_of_gt HDl.out) HO3.out HN.out HCX.out (by omega) HO3a.out HLP.out)
                        rw [← HDD.out] at hd0 hd1
                        go_wp2_with fail
                        exact ⟨⟨_, s + 1, _, rfl, by omega, by go_num, HNX⟩, by simp only [Go.RowKit.intOf]; omega⟩
                      exact AllReady.nil
                    exact AllReady.nil
                  exact AllReady.nil
                refine AllReady.cons (o := ?oo19) ?hi19 (fun K hK => ?hs19) ?hm19
                case hi19 => (simp only [List.getElem?_toArray, List.getElem?_cons_succ, List.getElem?_cons_zero]; rfl)
                · go_simp
                  refine hK _ _ ?_; clear hK K
                  try simp only [Act.put, List.setIfInBounds_toArray, List.set_cons_zero, List.set_cons_succ]
                  refine wpAny_ready (rs := [3]) (by kernel_rfl) (by simp) ?_
                  refine AllReady.cons (o := ?oo20) ?hi20 (fun K hK => ?hs20) ?hm20
                  case hi20 => (simp only [List.getElem?_toArray, List.getElem?_cons_succ, List.getElem?_cons_zero]; rfl)
                  · refine step_append_T rfl (.const (.slice none 0 0)) (.tmp 67) rfl wr.heap.size _ [] rfl (World.ownsRow_nil _ _ _ _) _ ((P.map Prod.fst).take k) rfl (HTO.out _ (by first | exact (Below.refl _ _).drew | exact (Below.refl _ _).drew.alloc (Nat.le_refl _) _)) (by rw [List.length_take, List.length_nil]; omega) (by first | exact Nat.le_refl _ | simp) ?_
                    intro v1 wa1 hown1 hg1 _
                    rw [List.nil_append] at hown1
                    have HO1 := Lib.hid hown1
                    have HZ1 : Hid (Below wr.heap.size wr wa1) := Lib.hid (by first | exact (Below.refl _ _).drew.grown hg1 (Nat.le_refl _) (fun k e => by cases e) | exact ((Below.refl _ _).drew.alloc (Nat.le_refl _) _).grown hg1 (by simp) (fun k e => by cases e))
                    have HG1 := Lib.hid hg1
                    have ha0 : wa1.cell? ⟨O + 1, 0, none⟩ = some (.int .i64 (cn : Int)) := cell_of (HXC.out wa1 HZ1.out) rfl
                    have ha1 : wa1.cell? ⟨O + 1, 1, none⟩ = some (.bool true) := cell_of (HXC.out wa1 HZ1.out) rfl
                    have ha2 : wa1.cell? ⟨O + 1, 2, none⟩ = some (.slice (some ⟨O, 0, none⟩) n n) := cell_of (HXC.out wa1 HZ1.out) rfl
                    clear hown1 hg1
                    refine hK _ _ ?_; clear hK K
                    try simp only [Act.put, List.setIfInBounds_toArray, List.set_cons_zero, List.set_cons_succ]
                    refine wpAny_ready (rs := [6]) (by kernel_rfl) (by simp) ?_
                    refine AllReady.cons (o := ?oo21) ?hi21 (fun K hK => ?hs21) ?hm21
                    case hi21 => (simp only [List.getElem?_toArray, List.getElem?_cons_succ, List.getElem?_cons_zero]; rfl)
                    · refine step_append_T rfl (.tmp 68) (.tmp 70) rfl wr.heap.size _ ((P.map Prod.fst).take k) rfl (by first | exact HO1.out | exact HO1.out.alloc _) _ [⟨cn, true, O, n⟩] rfl (by first | exact seesT_new _ ⟨cn, true, O, n⟩ | exact (seesT_new wr.drew ⟨cn, true, O, n⟩).grown HG1.out) (by rw [List.length_take, List.length_singleton]; omega) (by have := HZ1.out.size; first | exact this | (simp; omega)) ?_
                      intro v2 wa2 hown2 hg2 _
                      have HO2 := Lib.hid hown2
                      have HZ2 : Hid (Below wr.heap.size wr wa2) := Lib.hid (by first | exact HZ1.out.grown hg2 HZ1.out.size (fun c ec => (own_low HO1.out c ec).1) | exact (HZ1.out.alloc HZ1.out.size _).grown hg2 (by have := HZ1.out.size; simp; omega) (fun c ec => (own_low HO1.out c ec).1))
                      clear hown2 hg2
                      refine hK _ _ ?_; clear hK K
                      try simp only [Act.put, List.setIfInBounds_toArray, List.set_cons_zero, List.set_cons_succ]
                      refine wpAny_ready (rs := [10]) (by kernel_rfl) (by simp) ?_
                      refine AllReady.cons (o := ?oo22) ?hi22 (fun K hK => ?hs22) ?hm22
                      case hi22 => (simp only [List.getElem?_toArray, List.getElem?_cons_succ, List.getElem?_cons_zero]; rfl)
                      · refine step_append_T rfl (.tmp 71) (.tmp 74) rfl wr.heap.size _ ((P.map Prod.fst).take k ++ [⟨cn, true, O, n⟩]) rfl (by exact HO2.out) _ ((P.map Prod.fst).drop k) rfl (by exact HFR.out _ HZ2.out) (by rw [List.length_append, List.length_take, List.length_singleton, List.length_drop]; have := HM.out; omega) HZ2.out.size ?_
                        intro v3 wa3 hown3 hg3 _
                        have HO3a := Lib.hid hown3
                        have HZ3 : Hid (Below wr.heap.size wr wa3) := Lib.hid (HZ2.out.grown hg3 HZ2.out.size (fun c ec => (own_low HO2.out c ec).1))
                        have HLG := Lib.hid ((HZ3.out.block D HDW.out).trans HL3.out.lg)
                        have hd0 : wa3.cell? ⟨D, s, none⟩ = some (.int .i64 0) := cell_of HLG.out (by
                          have h := intRow_get (l := onesL cs s) (i := s) (by rw [onesL_len, HN.out]; exact hlt)
                          rw [h, List.getD_eq_getElem?_getD, onesL_at (by rw [HN.out]; exact hlt), if_neg (by omega)]
                          rfl)
                        have hd1 : wa3.frozen? ⟨D, s, none⟩ = false := frozen_of HLG.out
                        clear hown3 hg3
                        refine hK _ _ ?_; clear hK K
                        try simp only [Act.put, List.setIfInBounds_toArray, List.set_cons_zero, List.set_cons_succ]
                        refine wpAny_take (i := 11) (oi := ?oi23) (v := ?v23) ?hi23 (by kernel_rfl) (by kernel_rfl) (by kernel_rfl) ?hq23 ?hy23 ?hr23
                        case hi23 => (simp only [List.getElem?_toArray, List.getElem?_cons_succ, List.getElem?_cons_zero]; rfl)
                        case hq23 => exact fun _ _ _ h => h
                        case hy23 => exact Or.inl ⟨by rfl, by intro w; (first | (go_simp; done) | (go_simp; with_reducible rfl))⟩
                        try simp only [Act.put, List.setIfInBounds_toArray, List.set_cons_zero, List.set_cons_succ]
                        refine wpAny_done (by kernel_rfl) ?_ _
                        have HNX : Hid (LvAt w1 cs D (s + 1) (P.take k ++ ((⟨cn, true, O, n⟩ : ItH), PT.leaf s) :: P.drop k) v3 (wa3.setCell ⟨w1.heap.size, s, none⟩ (.int .i64 1))) := Lib.hid (by
                          rw [HDD.out]
                          exact lv_put HL3.out HZ3.out HDD.out HDW.out (Nat.ne_of_gt HDl.out) HO3.out HN.out HCX.out (by omega) HO3a.out HLP.out)
                        rw [← HDD.out] at hd0 hd1
                        go_wp2_with fail
                        exact ⟨⟨_, s + 1, _, rfl, by omega, by go_num, HNX⟩, by simp only [Go.RowKit.intOf]; omega⟩
                      exact AllReady.nil
                    exact AllReady.nil
                  exact AllReady.nil
                exact AllReady.nil
              exact AllReady.nil
            · obtain ⟨j, hjk⟩ : ∃ j, k = j + 1 := ⟨k - 1, by omega⟩
              have hkp : (0 : Int) < (k : Int) := by omega
              obtain ⟨x, hx⟩ : ∃ x, (P.map Prod.fst)[j]? = some x := ⟨_, List.getElem?_eq_getElem (by rw [HM.out]; omega)⟩
              obtain ⟨b2, o2, rfl, -, hj2⟩ := at_itR HF.out (by rw [HM.out]; omega)
              obtain ⟨q0, q1, q2⟩ := hj2 j x hx
              have j1 : (k : Int) - 1 = (j : Int) := by omega
              by_cases hgt : cn < x.wt
              · have bd2 : decide ((x.wt : Int) > (cn : Int)) = true := decide_eq_true (by omega)
                have HNX : Hid (∀ y ∈ (P.map Prod.fst).drop j, cn < y.wt) := Lib.hid (fun y hy => by
                  obtain ⟨hjl, hjx⟩ := List.getElem?_eq_some_iff.1 hx
                  rw [List.drop_eq_getElem_cons hjl, List.mem_cons] at hy
                  rcases hy with rfl | hy
                  · rw [hjx]; exact hgt
                  · exact HK.out y (by rw [hjk]; exact hy))
                have hjm : j ≤ m := by omega
                have hjk2 : j < k := by omega
                clear hj2 hx HK hjk hk0
                go_wp2_with fail
                exact ⟨⟨trivial, j, hjm, rfl, HNX⟩, by simp only [Go.RowKit.intOf]; omega⟩
              · have bd2 : decide ((x.wt : Int) > (cn : Int)) = false := decide_eq_false (by omega)
                have HLO : Hid (∀ y ∈ (P.map Prod.fst).take k, y.wt ≤ cn) := Lib.hid (by rw [hjk]; exact asc_low HASC.out hx (by omega))
                clear hj2 hx hjk hk0
                have hkP : k ≤ P.length := by rw [← List.length_map (f := Prod.fst), HM.out]; exact hk
                have HTO := Lib.hid (fun W (h : Below wr.heap.size wr W) => (seesT_to HL3.out.lo hk HM.out.symm).below h)
                have hfrm := seesT_from HL3.out.lo hk HM.out.symm
                obtain ⟨A', n', c', hu⟩ : ∃ A' n' c', sliced (some ⟨b2, o2, none⟩) k m cl 3 = .slice A' n' c' := ⟨_, _, _, rfl⟩
                rw [hu] at hfrm
                have hs1 := fun W' => slice_toT (some ⟨b2, o2, none⟩) m cl k hk hcl W'
                have hs2 := fun W' => slice_fromT (some ⟨b2, o2, none⟩) m cl k hk hcl W'
                simp only [hu] at hs2
                have HFR := Lib.hid (fun W (h : Below wr.heap.size wr W) => hfrm.below h)
                have HXC := Lib.hid (fun W (h : Below wr.heap.size wr W) => (h.block (O + 1) (Array.getElem?_eq_some_iff.1 HX3.out).1).trans HX3.out)
                have hx0 : wr.drew.cell? ⟨O + 1, 0, none⟩ = some (.int .i64 (cn : Int)) := cell_of (show wr.drew.heap[O + 1]? = _ from HX3.out) rfl
                have hx1 : wr.drew.cell? ⟨O + 1, 1, none⟩ = some (.bool true) := cell_of (show wr.drew.heap[O + 1]? = _ from HX3.out) rfl
                have hx2 : wr.drew.cell? ⟨O + 1, 2, none⟩ = some (.slice (some ⟨O, 0, none⟩) n n) := cell_of (show wr.drew.heap[O + 1]? = _ from HX3.out) rfl
                have HDW := Lib.hid (show D < wr.heap.size from Nat.lt_trans HDl.out (Nat.lt_of_succ_lt (Array.getElem?_eq_some_iff.1 HX3.out).1))
                have HLP := Lib.hid (leaf_put (x := ⟨cn, true, O, n⟩) (s := s) HL3.out.tr (fun p hp => (HL3.out.gd p hp).wt) hkP (by rw [show cN cs s = cn by unfold cN; rw [List.getD_eq_getElem?_getD, HCX.out]; rfl]; exact HLO.out) (by rw [show cN cs s = cn by unfold cN; rw [List.getD_eq_getElem?_getD, HCX.out]; rfl]; exact HK.out))
                clear hfrm hu hkP
                go_wp2_with fail
                refine wp_region_any (by kernel_rfl) ?_
                change wpAny _ _ _ _ _ _ _ (World.drew _)
                refine wpAny_take (i := 0) (oi := ?oi1001) (v := ?v1001) ?hi1001 (by kernel_rfl) (by kernel_rfl) (by kernel_rfl) ?hq1001 ?hy1001 ?hr1001
                case hi1001 => (simp only [List.getElem?_toArray, List.getElem?_cons_zero]; rfl)
                case hq1001 => exact fun _ _ _ h => h
                case hy1001 => exact Or.inl ⟨by rfl, by intro w; (first | (go_simp; done) | (go_simp; with_reducible rfl))⟩
                try simp only [Act.put, List.setIfInBounds_toArray, List.set_cons_zero, List.set_cons_succ]
                refine wpAny_take (i := 1) (oi := ?oi1002) (v := ?v1002) ?hi1002 (by kernel_rfl) (by kernel_rfl) (by kernel_rfl) ?hq1002 ?hy1002 ?hr1002
                case hi1002 => (simp only [List.getElem?_toArray, List.getElem?_cons_succ, List.getElem?_cons_zero]; rfl)
                case hq1002 => exact fun _ _ _ h => h
                case hy1002 => exact Or.inl ⟨by rfl, by intro w; (first | (go_simp; done) | (go_simp; with_reducible rfl))⟩
                try simp only [Act.put, List.setIfInBounds_toArray, List.set_cons_zero, List.set_cons_succ]
                refine wpAny_take (i := 2) (oi := ?oi1003) (v := ?v1003) ?hi1003 (by kernel_rfl) (by kernel_rfl) (by kernel_rfl) ?hq1003 ?hy1003 ?hr1003
                case hi1003 => (simp only [List.getElem?_toArray, List.getElem?_cons_succ, List.getElem?_cons_zero]; rfl)
                case hq1003 => exact fun _ _ _ h => h
                case hy1003 => exact Or.inl ⟨by rfl, by intro w; (first | (go_simp; done) | (go_simp; with_reducible rfl))⟩
                try simp only [Act.put, List.setIfInBounds_toArray, List.set_cons_zero, List.set_cons_succ]
                refine wpAny_take (i := 7) (oi := ?oi1004) (v := ?v1004) ?hi1004 (by kernel_rfl) (by kernel_rfl) (by kernel_rfl) ?hq1004 ?hy1004 ?hr1004
                case hi1004 => (simp only [List.getElem?_toArray, List.getElem?_cons_succ, List.getElem?_cons_zero]; rfl)
                case hq1004 => exact fun _ _ _ h => h
                case hy1004 => exact Or.inl ⟨by rfl, by intro w; (first | (go_simp; done) | (go_simp; with_reducible rfl))⟩
                try simp only [Act.put, List.setIfInBounds_toArray, List.set_cons_zero, List.set_cons_succ]
                refine wpAny_take (i := 8) (oi := ?oi1005) (v := ?v1005) ?hi1005 (by kernel_rfl) (by kernel_rfl) (by kernel_rfl) ?hq1005 ?hy1005 ?hr1005
                case hi1005 => (simp only [List.getElem?_toArray, List.getElem?_cons_succ, List.getElem?_cons_zero]; rfl)
                case hq1005 => exact fun _ _ _ h => h
                case hy1005 => exact Or.inl ⟨by rfl, by intro w; (first | (go_simp; done) | (go_simp; with_reducible rfl))⟩
                try simp only [Act.put, List.setIfInBounds_toArray, List.set_cons_zero, List.set_cons_succ]
                refine wpAny_take (i := 9) (oi := ?oi1006) (v := ?v1006) ?hi1006 (by kernel_rfl) (by kernel_rfl) (by kernel_rfl) ?hq1006 ?hy1006 ?hr1006
                case hi1006 => (simp only [List.getElem?_toArray, List.getElem?_cons_succ, List.getElem?_cons_zero]; rfl)
                case hq1006 => exact fun _ _ _ h => h
                case hy1006 => exact Or.inl ⟨by rfl, by intro w; (first | (go_simp; done) | (go_simp; with_reducible rfl))⟩
                try simp only [Act.put, List.setIfInBounds_toArray, List.set_cons_zero, List.set_cons_succ]
                refine wpAny_ready (rs := [3, 4]) (by kernel_rfl) (by simp) ?_
                refine AllReady.cons (o := ?oo1007) ?hi1007 (fun K hK => ?hs1007) ?hm1007
                case hi1007 => (simp only [List.getElem?_toArray, List.getElem?_cons_succ, List.getElem?_cons_zero]; rfl)
                · refine step_append_T rfl (.const (.slice none 0 0)) (.tmp 67) rfl wr.heap.size _ [] rfl (World.ownsRow_nil _ _ _ _) _ ((P.map Prod.fst).take k) rfl (HTO.out _ (by first | exact (Below.refl _ _).drew | exact (Below.refl _ _).drew.alloc (Nat.le_refl _) _)) (by rw [List.length_take, List.length_nil]; omega) (by first | exact Nat.le_refl _ | simp) ?_
                  intro v1 wa1 hown1 hg1 _
                  rw [List.nil_append] at hown1
                  have HO1 := Lib.hid hown1
                  have HZ1 : Hid (Below wr.heap.size wr wa1) := Lib.hid (by first | exact (Below.refl _ _).drew.grown hg1 (Nat.le_refl _) (fun k e => by cases e) | exact ((Below.refl _ _).drew.alloc (Nat.le_refl _) _).grown hg1 (by simp) (fun k e => by cases e))
                  have HG1 := Lib.hid hg1
                  have ha0 : wa1.cell? ⟨O + 1, 0, none⟩ = some (.int .i64 (cn : Int)) := cell_of (HXC.out wa1 HZ1.out) rfl
                  have ha1 : wa1.cell? ⟨O + 1, 1, none⟩ = some (.bool true) := cell_of (HXC.out wa1 HZ1.out) rfl
                  have ha2 : wa1.cell? ⟨O + 1, 2, none⟩ = some (.slice (some ⟨O, 0, none⟩) n n) := cell_of (HXC.out wa1 HZ1.out) rfl
                  clear hown1 hg1
                  refine hK _ _ ?_; clear hK K
                  try simp only [Act.put, List.setIfInBounds_toArray, List.set_cons_zero, List.set_cons_succ]
                  refine wpAny_ready (rs := [4]) (by kernel_rfl) (by simp) ?_
                  refine AllReady.cons (o := ?oo1008) ?hi1008 (fun K hK => ?hs1008) ?hm1008
                  case hi1008 => (simp only [List.getElem?_toArray, List.getElem?_cons_succ, List.getElem?_cons_zero]; rfl)
                  · go_simp
                    refine hK _ _ ?_; clear hK K
                    try simp only [Act.put, List.setIfInBounds_toArray, List.set_cons_zero, List.set_cons_succ]
                    refine wpAny_ready (rs := [5]) (by kernel_rfl) (by simp) ?_
                    refine AllReady.cons (o := ?oo1009) ?hi1009 (fun K hK => ?hs1009) ?hm1009
                    case hi1009 => (simp only [List.getElem?_toArray, List.getElem?_cons_succ, List.getElem?_cons_zero]; rfl)
                    · go_simp
                      refine hK _ _ ?_; clear hK K
                      try simp only [Act.put, List.setIfInBounds_toArray, List.set_cons_zero, List.set_cons_succ]
                      refine wpAny_ready (rs := [6]) (by kernel_rfl) (by simp) ?_
                      refine AllReady.cons (o := ?oo1010) ?hi1010 (fun K hK => ?hs1010) ?hm1010
                      case hi1010 => (simp only [List.getElem?_toArray, List.getElem?_cons_succ, List.getElem?_cons_zero]; rfl)
                      · refine step_append_T rfl (.tmp 68) (.tmp 70) rfl wr.heap.size _ ((P.map Prod.fst).take k) rfl (by first | exact HO1.out | exact HO1.out.alloc _) _ [⟨cn, true, O, n⟩] rfl (by first | exact seesT_new _ ⟨cn, true, O, n⟩ | exact (seesT_new wr.drew ⟨cn, true, O, n⟩).grown HG1.out) (by rw [List.length_take, List.length_singleton]; omega) (by have := HZ1.out.size; first | exact this | (simp; omega)) ?_
                        intro v2 wa2 hown2 hg2 _
                        have HO2 := Lib.hid hown2
                        have HZ2 : Hid (Below wr.heap.size wr wa2) := Lib.hid (by first | exact HZ1.out.grown hg2 HZ1.out.size (fun c ec => (own_low HO1.out c ec).1) | exact (HZ1.out.alloc HZ1.out.size _).grown hg2 (by have := HZ1.out.size; simp; omega) (fun c ec => (own_low HO1.out c ec).1))
                        clear hown2 hg2
                        refine hK _ _ ?_; clear hK K
                        try simp only [Act.put, List.setIfInBounds_toArray, List.set_cons_zero, List.set_cons_succ]
                        refine wpAny_ready (rs := [10]) (by kernel_rfl) (by simp) ?_
                        refine AllReady.cons (o := ?oo1011) ?hi1011 (fun K hK => ?hs1011) ?hm1011
                        case hi1011 => (simp only [List.getElem?_toArray, List.getElem?_cons_succ, List.getElem?_cons_zero]; rfl)
                        · refine step_append_T rfl (.tmp 71) (.tmp 74) rfl wr.heap.size _ ((P.map Prod.fst).take k ++ [⟨cn, true, O, n⟩]) rfl (by exact HO2.out) _ ((P.map Prod.fst).drop k) rfl (by exact HFR.out _ HZ2.out) (by rw [List.length_append, List.length_take, List.length_singleton, List.length_drop]; have := HM.out; omega) HZ2.out.size ?_
                          intro v3 wa3 hown3 hg3 _
                          have HO3a := Lib.hid hown3
                          have HZ3 : Hid (Below wr.heap.size wr wa3) := Lib.hid (HZ2.out.grown hg3 HZ2.out.size (fun c ec => (own_low HO2.out c ec).1))
                          have HLG := Lib.hid ((HZ3.out.block D HDW.out).trans HL3.out.lg)
                          have hd0 : wa3.cell? ⟨D, s, none⟩ = some (.int .i64 0) := cell_of HLG.out (by
                            have h := intRow_get (l := onesL cs s) (i := s) (by rw [onesL_len, HN.out]; exact hlt)
                            rw [h, List.getD_eq_getElem?_getD, onesL_at (by rw [HN.out]; exact hlt), if_neg (by omega)]
                            rfl)
                          have hd1 : wa3.frozen? ⟨D, s, none⟩ = false := frozen_of HLG.out
                          clear hown3 hg3
                          refine hK _ _ ?_; clear hK K
                          try simp only [Act.put, List.setIfInBounds_toArray, List.set_cons_zero, List.set_cons_succ]
                          refine wpAny_take (i := 11) (oi := ?oi1012) (v := ?v1012) ?hi1012 (by kernel_rfl) (by kernel_rfl) (by kernel_rfl) ?hq1012 ?hy1012 ?hr1012
                          case hi1012 => (simp only [List.getElem?_toArray, List.getElem?_cons_succ, List.getElem?_cons_zero]; rfl)
                          case hq1012 => exact fun _ _ _ h => h
                          case hy1012 => exact Or.inl ⟨by rfl, by intro w; (first | (go_simp; done) | (go_simp; with_reducible rfl))⟩
                          try simp only [Act.put, List.setIfInBounds_toArray, List.set_cons_zero, List.set_cons_succ]
                          refine wpAny_done (by kernel_rfl) ?_ _
                          have HNX : Hid (LvAt w1 cs D (s + 1) (P.take k ++ ((⟨cn, true, O, n⟩ : ItH), PT.leaf s) :: P.drop k) v3 (wa3.setCell ⟨w1.heap.size, s, none⟩ (.int .i64 1))) := Lib.hid (by
                            rw [HDD.out]
                            exact lv_put HL3.out HZ3.out HDD.out HDW.out (Nat.ne_of_gt HDl.out) HO3.out HN.out HCX.out (by omega) HO3a.out HLP.out)
                          rw [← HDD.out] at hd0 hd1
                          go_wp2_with fail
                          exact ⟨⟨_, s + 1, _, rfl, by omega, by go_num, HNX⟩, by simp only [Go.RowKit.intOf]; omega⟩
                        exact AllReady.nil
                      exact AllReady.nil
                    exact AllReady.nil
                  exact AllReady.nil
                refine AllReady.cons (o := ?oo1013) ?hi1013 (fun K hK => ?hs1013) ?hm1013
                case hi1013 => (simp only [List.getElem?_toArray, List.getElem?_cons_succ, List.getElem?_cons_zero]; rfl)
                · go_simp
                  refine hK _ _ ?_; clear hK K
                  try simp only [Act.put, List.setIfInBounds_toArray, List.set_cons_zero, List.set_cons_succ]
                  refine wpAny_ready (rs := [3, 5]) (by kernel_rfl) (by simp) ?_
                  refine AllReady.cons (o := ?oo1014) ?hi1014 (fun K hK => ?hs1014) ?hm1014
                  case hi1014 => (simp only [List.getElem?_toArray, List.getElem?_cons_succ, List.getElem?_cons_zero]; rfl)
                  · refine step_append_T rfl (.const (.slice none 0 0)) (.tmp 67) rfl wr.heap.size _ [] rfl (World.ownsRow_nil _ _ _ _) _ ((P.map Prod.fst).take k) rfl (HTO.out _ (by first | exact (Below.refl _ _).drew | exact (Below.refl _ _).drew.alloc (Nat.le_refl _) _)) (by rw [List.length_take, List.length_nil]; omega) (by first | exact Nat.le_refl _ | simp) ?_
                    intro v1 wa1 hown1 hg1 _
                    rw [List.nil_append] at hown1
                    have HO1 := Lib.hid hown1
                    have HZ1 : Hid (Below wr.heap.size wr wa1) := Lib.hid (by first | exact (Below.refl _ _).drew.grown hg1 (Nat.le_refl _) (fun k e => by cases e) | exact ((Below.refl _ _).drew.alloc (Nat.le_refl _) _).grown hg1 (by simp) (fun k e => by cases e))
                    have HG1 := Lib.hid hg1
                    have ha0 : wa1.cell? ⟨O + 1, 0, none⟩ = some (.int .i64 (cn : Int)) := cell_of (HXC.out wa1 HZ1.out) rfl
                    have ha1 : wa1.cell? ⟨O + 1, 1, none⟩ = some (.bool true) := cell_of (HXC.out wa1 HZ1.out) rfl
                    have ha2 : wa1.cell? ⟨O + 1, 2, none⟩ = some (.slice (some ⟨O, 0, none⟩) n n) := cell_of (HXC.out wa1 HZ1.out) rfl
                    clear hown1 hg1
                    refine hK _ _ ?_; clear hK K
                    try simp only [Act.put, List.setIfInBounds_toArray, List.set_cons_zero, List.set_cons_succ]
                    refine wpAny_ready (rs := [5]) (by kernel_rfl) (by simp) ?_
                    refine AllReady.cons (o := ?oo1015) ?hi1015 (fun K hK => ?hs1015) ?hm1015
                    case hi1015 => (simp only [List.getElem?_toArray, List.getElem?_cons_succ, List.getElem?_cons_zero]; rfl)
                    · go_simp
                      refine hK _ _ ?_; clear hK K
                      try simp only [Act.put, List.setIfInBounds_toArray, List.set_cons_zero, List.set_cons_succ]
                      refine wpAny_ready (rs := [6]) (by kernel_rfl) (by simp) ?_
                      refine AllReady.cons (o := ?oo1016) ?hi1016 (fun K hK => ?hs1016) ?hm1016
                      case hi1016 => (simp only [List.getElem?_toArray, List.getElem?_cons_succ, List.getElem?_cons_zero]; rfl)
                      · refine step_append_T rfl (.tmp 68) (.tmp 70) rfl wr.heap.size _ ((P.map Prod.fst).take k) rfl (by first | exact HO1.out | exact HO1.out.alloc _) _ [⟨cn, true, O, n⟩] rfl (by first | exact seesT_new _ ⟨cn, true, O, n⟩ | exact (seesT_new wr.drew ⟨cn, true, O, n⟩).grown HG1.out) (by rw [List.length_take, List.length_singleton]; omega) (by have := HZ1.out.size; first | exact this | (simp; omega)) ?_
                        intro v2 wa2 hown2 hg2 _
                        have HO2 := Lib.hid hown2
                        have HZ2 : Hid (Below wr.heap.size wr wa2) := Lib.hid (by first | exact HZ1.out.grown hg2 HZ1.out.size (fun c ec => (own_low HO1.out c ec).1) | exact (HZ1.out.alloc HZ1.out.size _).grown hg2 (by have := HZ1.out.size; simp; omega) (fun c ec => (own_low HO1.out c ec).1))
                        clear hown2 hg2
                        refine hK _ _ ?_; clear hK K
                        try simp only [Act.put, List.setIfInBounds_toArray, List.set_cons_zero, List.set_cons_succ]
                        refine wpAny_ready (rs := [10]) (by kernel_rfl) (by simp) ?_
                        refine AllReady.cons (o := ?oo1017) ?hi1017 (fun K hK => ?hs1017) ?hm1017
                        case hi1017 => (simp only [List.getElem?_toArray, List.getElem?_cons_succ, List.getElem?_cons_zero]; rfl)
                        · refine step_append_T rfl (.tmp 71) (.tmp 74) rfl wr.heap.size _ ((P.map Prod.fst).take k ++ [⟨cn, true, O, n⟩]) rfl (by exact HO2.out) _ ((P.map Prod.fst).drop k) rfl (by exact HFR.out _ HZ2.out) (by rw [List.length_append, List.length_take, List.length_singleton, List.length_drop]; have := HM.out; omega) HZ2.out.size ?_
                          intro v3 wa3 hown3 hg3 _
                          have HO3a := Lib.hid hown3
                          have HZ3 : Hid (Below wr.heap.size wr wa3) := Lib.hid (HZ2.out.grown hg3 HZ2.out.size (fun c ec => (own_low HO2.out c ec).1))
                          have HLG := Lib.hid ((HZ3.out.block D HDW.out).trans HL3.out.lg)
                          have hd0 : wa3.cell? ⟨D, s, none⟩ = some (.int .i64 0) := cell_of HLG.out (by
                            have h := intRow_get (l := onesL cs s) (i := s) (by rw [onesL_len, HN.out]; exact hlt)
                            rw [h, List.getD_eq_getElem?_getD, onesL_at (by rw [HN.out]; exact hlt), if_neg (by omega)]
                            rfl)
                          have hd1 : wa3.frozen? ⟨D, s, none⟩ = false := frozen_of HLG.out
                          clear hown3 hg3
                          refine hK _ _ ?_; clear hK K
                          try simp only [Act.put, List.setIfInBounds_toArray, List.set_cons_zero, List.set_cons_succ]
                          refine wpAny_take (i := 11) (oi := ?oi1018) (v := ?v1018) ?hi1018 (by kernel_rfl) (by kernel_rfl) (by kernel_rfl) ?hq1018 ?hy1018 ?hr1018
                          case hi1018 => (simp only [List.getElem?_toArray, List.getElem?_cons_succ, List.getElem?_cons_zero]; rfl)
                          case hq1018 => exact fun _ _ _ h => h
                          case hy1018 => exact Or.inl ⟨by rfl, by intro w; (first | (go_simp; done) | (go_simp; with_reducible rfl))⟩
                          try simp only [Act.put, List.setIfInBounds_toArray, List.set_cons_zero, List.set_cons_succ]
                          refine wpAny_done (by kernel_rfl) ?_ _
                          have HNX : Hid (LvAt w1 cs D (s + 1) (P.take k ++ ((⟨cn, true, O, n⟩ : ItH), PT.leaf s) :: P.drop k) v3 (wa3.setCell ⟨w1.heap.size, s, none⟩ (.int .i64 1))) := Lib.hid (by
                            rw [HDD.out]
                            exact lv_put HL3.out HZ3.out HDD.out HDW.out (Nat.ne_of_gt HDl.out) HO3.out HN.out HCX.out (by omega) HO3a.out HLP.out)
                          rw [← HDD.out] at hd0 hd1
                          go_wp2_with fail
                          exact ⟨⟨_, s + 1, _, rfl, by omega, by go_num, HNX⟩, by simp only [Go.RowKit.intOf]; omega⟩
                        exact AllReady.nil
                      exact AllReady.nil
                    exact AllReady.nil
                  refine AllReady.cons (o := ?oo1019) ?hi1019 (fun K hK => ?hs1019) ?hm1019
                  case hi1019 => (simp only [List.getElem?_toArray, List.getElem?_cons_succ, List.getElem?_cons_zero]; rfl)
                  · go_simp
                    refine hK _ _ ?_; clear hK K
                    try simp only [Act.put, List.setIfInBounds_toArray, List.set_cons_zero, List.set_cons_succ]
                    refine wpAny_ready (rs := [3]) (by kernel_rfl) (by simp) ?_
                    refine AllReady.cons (o := ?oo1020) ?hi1020 (fun K hK => ?hs1020) ?hm1020
                    case hi1020 => (simp only [List.getElem?_toArray, List.getElem?_cons_succ, List.getElem?_cons_zero]; rfl)
                    · refine step_append_T rfl (.const (.slice none 0 0)) (.tmp 67) rfl wr.heap.size _ [] rfl (World.ownsRow_nil _ _ _ _) _ ((P.map Prod.fst).take k) rfl (HTO.out _ (by first | exact (Below.refl _ _).drew | exact (Below.refl _ _).drew.alloc (Nat.le_refl _) _)) (by rw [List.length_take, List.length_nil]; omega) (by first | exact Nat.le_refl _ | simp) ?_
                      intro v1 wa1 hown1 hg1 _
                      rw [List.nil_append] at hown1
                      have HO1 := Lib.hid hown1
                      have HZ1 : Hid (Below wr.heap.size wr wa1) := Lib.hid (by first | exact (Below.refl _ _).drew.grown hg1 (Nat.le_refl _) (fun k e => by cases e) | exact ((Below.refl _ _).drew.alloc (Nat.le_refl _) _).grown hg1 (by simp) (fun k e => by cases e))
                      have HG1 := Lib.hid hg1
                      have ha0 : wa1.cell? ⟨O + 1, 0, none⟩ = some (.int .i64 (cn : Int)) := cell_of (HXC.out wa1 HZ1.out) rfl
                      have ha1 : wa1.cell? ⟨O + 1, 1, none⟩ = some (.bool true) := cell_of (HXC.out wa1 HZ1.out) rfl
                      have ha2 : wa1.cell? ⟨O + 1, 2, none⟩ = some (.slice (some ⟨O, 0, none⟩) n n) := cell_of (HXC.out wa1 HZ1.out) rfl
                      clear hown1 hg1
                      refine hK _ _ ?_; clear hK K
                      try simp only [Act.put, List.setIfInBounds_toArray, List.set_cons_zero, List.set_cons_succ]
                      refine wpAny_ready (rs := [6]) (by kernel_rfl) (by simp) ?_
                      refine AllReady.cons (o := ?oo1021) ?hi1021 (fun K hK => ?hs1021) ?hm1021
                      case hi1021 => (simp only [List.getElem?_toArray, List.getElem?_cons_succ, List.getElem?_cons_zero]; rfl)
                      · refine step_append_T rfl (.tmp 68) (.tmp 70) rfl wr.heap.size _ ((P.map Prod.fst).take k) rfl (by first | exact HO1.out | exact HO1.out.alloc _) _ [⟨cn, true, O, n⟩] rfl (by first | exact seesT_new _ ⟨cn, true, O, n⟩ | exact (seesT_new wr.drew ⟨cn, true, O, n⟩).grown HG1.out) (by rw [List.length_take, List.length_singleton]; omega) (by have := HZ1.out.size; first | exact this | (simp; omega)) ?_
                        intro v2 wa2 hown2 hg2 _
                        have HO2 := Lib.hid hown2
                        have HZ2 : Hid (Below wr.heap.size wr wa2) := Lib.hid (by first | exact HZ1.out.grown hg2 HZ1.out.size (fun c ec => (own_low HO1.out c ec).1) | exact (HZ1.out.alloc HZ1.out.size _).grown hg2 (by have := HZ1.out.size; simp; omega) (fun c ec => (own_low HO1.out c ec).1))
                        clear hown2 hg2
                        refine hK _ _ ?_; clear hK K
                        try simp only [Act.put, List.setIfInBounds_toArray, List.set_cons_zero, List.set_cons_succ]
                        refine wpAny_ready (rs := [10]) (by kernel_rfl) (by simp) ?_
                        refine AllReady.cons (o := ?oo1022) ?hi1022 (fun K hK => ?hs1022) ?hm1022
                        case hi1022 => (simp only [List.getElem?_toArray, List.getElem?_cons_succ, List.getElem?_cons_zero]; rfl)
                        · refine step_append_T rfl (.tmp 71) (.tmp 74) rfl wr.heap.size _ ((P.map Prod.fst).take k ++ [⟨cn, true, O, n⟩]) rfl (by exact HO2.out) _ ((P.map Prod.fst).drop k) rfl (by exact HFR.out _ HZ2.out) (by rw [List.length_append, List.length_take, List.length_singleton, List.length_drop]; have := HM.out; omega) HZ2.out.size ?_
                          intro v3 wa3 hown3 hg3 _
                          have HO3a := Lib.hid hown3
                          have HZ3 : Hid (Below wr.heap.size wr wa3) := Lib.hid (HZ2.out.grown hg3 HZ2.out.size (fun c ec => (own_low HO2.out c ec).1))
                          have HLG := Lib.hid ((HZ3.out.block D HDW.out).trans HL3.out.lg)
                          have hd0 : wa3.cell? ⟨D, s, none⟩ = some (.int .i64 0) := cell_of HLG.out (by
                            have h := intRow_get (l := onesL cs s) (i := s) (by rw [onesL_len, HN.out]; exact hlt)
                            rw [h, List.getD_eq_getElem?_getD, onesL_at (by rw [HN.out]; exact hlt), if_neg (by omega)]
                            rfl)
                          have hd1 : wa3.frozen? ⟨D, s, none⟩ = false := frozen_of HLG.out
                          clear hown3 hg3
                          refine hK _ _ ?_; clear hK K
                          try simp only [Act.put, List.setIfInBounds_toArray, List.set_cons_zero, List.set_cons_succ]
                          refine wpAny_take (i := 11) (oi := ?oi1023) (v := ?v1023) ?hi1023 (by kernel_rfl) (by kernel_rfl) (by kernel_rfl) ?hq1023 ?hy1023 ?hr1023
                          case hi1023 => (simp only [List.getElem?_toArray, List.getElem?_cons_succ, List.getElem?_cons_zero]; rfl)
                          case hq1023 => exact fun _ _ _ h => h
                          case hy1023 => exact Or.inl ⟨by rfl, by intro w; (first | (go_simp; done) | (go_simp; with_reducible rfl))⟩
                          try simp only [Act.put, List.setIfInBounds_toArray, List.set_cons_zero, List.set_cons_succ]
                          refine wpAny_done (by kernel_rfl) ?_ _
                          have HNX : Hid (LvAt w1 cs D (s + 1) (P.take k ++ ((⟨cn, true, O, n⟩ : ItH), PT.leaf s) :: P.drop k) v3 (wa3.setCell ⟨w1.heap.size, s, none⟩ (.int .i64 1))) := Lib.hid (by
                            rw [HDD.out]
                            exact lv_put HL3.out HZ3.out HDD.out HDW.out (Nat.ne_of_gt HDl.out) HO3.out HN.out HCX.out (by omega) HO3a.out HLP.out)
                          rw [← HDD.out] at hd0 hd1
                          go_wp2_with fail
                          exact ⟨⟨_, s + 1, _, rfl, by omega, by go_num, HNX⟩, by simp only [Go.RowKit.intOf]; omega⟩
                        exact AllReady.nil
                      exact AllReady.nil
                    exact AllReady.nil
                  exact AllReady.nil
                exact AllReady.nil
      · have hlti : ¬ (s : Int) < (n : Int) := by omega
        obtain ⟨Al, cl, hvl, hcl⟩ := (own_rowsT HL.out.lo).form
        obtain ⟨m, hm⟩ : ∃ m, (P.map Prod.fst).length = m := ⟨_, rfl⟩
        rw [hm] at hvl hcl
        subst hvl
        have hsn : s = cs.length := by rw [HN.out]; omega
        have htk : cs.take s = cs := List.take_of_length_le (Nat.le_of_eq hsn.symm)
        have hpl : (preS cs 0).length = m := by
          rw [← hm, List.length_map, ← List.length_map (f := Prod.snd), HL.out.tr, (sortA_perm _ _).length_eq, htk]
          unfold leavesP
          rw [List.length_map]
        by_cases hm2 : m < 2
        · have hm2i : (m : Int) < 2 := by omega
          have HE : Hid (LenV w1 cs (l : Int) (.returned (.tuple #[.slice (some ⟨w1.heap.size, 0, none⟩) n n, .int .i64 0])) wr) := Lib.hid ⟨HL.out.bl, .inr ⟨hz, _, rfl, by
            have h := HL.out.lg
            rw [← HDD.out, hsn, ones_huf h1 (by omega)] at h
            rw [Int.toNat_natCast]
            exact rows_int (by rw [hufLs_len, HN.out]) (Nat.le_refl _) h⟩⟩
          clear HL hpl htk
          go_wp2_with fail
          go_ret2
          exact HE.out
        · have hm2i : ¬ (m : Int) < 2 := by omega
          have HPK : Hid (PkAt w1 cs D 1 (onesL cs cs.length) P P (.slice Al m cl) (.slice Al m cl) wr) := Lib.hid ⟨HL.out.bl, by rw [← hsn]; exact HL.out.lg, own_rowsT HL.out.lo, own_rowsT HL.out.lo, HL.out.gd, HL.out.gd, by rw [HL.out.tr, htk, srt_leaves], by rw [HL.out.tr, htk, lev_one, srt_leaves]⟩
          have hmn : m ≤ n := by rw [← hpl, preS_len, ← HN.out]; exact presN_le cs
          have hcut := huf_enough (cN cs) (preS cs 0) h1 (by rw [preS_len]; exact H5.out)
          have HCUT := Lib.hid hcut
          have HPL := Lib.hid hpl
          have HM := Lib.hid hm
          have hmk := fun W => make_intL n (by omega) W
          clear HL hpl htk hm hsn hcut
          go_wp2_with fail
          clear hlti hlt hs
          go_loopw [13, 14] (fun pv0 iv wr => ∃ (pv : Value) (i : Nat) (Q : List IP), pv = pv0 ∧ 1 ≤ i ∧ i ≤ l ∧ iv = .int .i64 i ∧ Hid (PkAt w1 cs D i (onesL cs cs.length) P Q (.slice Al m cl) pv wr)) (fun _ iv _ => l - (Go.RowKit.intOf iv).toNat)
          case atStart => exact ⟨_, 1, P, rfl, Nat.le_refl _, h1, rfl, HPK⟩
          case round =>
            clear HPK
            obtain ⟨pv, i, Q, rfl, hi1, hil, rfl, HP⟩ := hrel
            obtain ⟨w3, rfl⟩ : ∃ x, x = wr := ⟨_, rfl⟩
            obtain ⟨Ap, cp, hvp, hcp⟩ := HP.out.ls.form
            obtain ⟨q, hq⟩ : ∃ q, (Q.map Prod.fst).length = q := ⟨_, rfl⟩
            have hq2 : q ≤ 2 * m := by
              have h := lev_len (cN cs) (preS cs 0) i
              rw [← HP.out.tr, HPL.out, List.length_map] at h
              rw [← hq, List.length_map]
              exact h
            rw [hq] at hvp hcp
            subst hvp
            have HQ := Lib.hid hq
            have HWB := Lib.hid (show w1.heap.size ≤ w3.heap.size from HP.out.bl.size)
            have HPW := Lib.hid (fun W (hb : Below w3.heap.size w3 W) => HP.out.below HP.out.bl.size hb)
            clear hq
            by_cases hlt2 : i < l
            · have hlti2 : (i : Int) < (l : Int) := by omega
              go_wp2_with fail
              go_loopw [15, 16] (fun b0 k0 wr => ∃ (bv : Value) (k K : Nat) (R : List IP), bv = b0 ∧ k0 = .int .i64 (K : Nat) ∧ Hid (2 * k = K) ∧ K ≤ q ∧ Hid (KpAt w3 cs D R bv wr) ∧ Hid (R.map Prod.snd = (pairs (Q.map Prod.snd)).take k)) (fun _ iv _ => q + 2 - (Go.RowKit.intOf iv).toNat)
              case atStart => exact ⟨_, 0, 0, [], rfl, rfl, Lib.hid rfl, Nat.zero_le _, Lib.hid ⟨Below.refl _ _, World.ownsRow_nil _ _ _ _, fun p hp => by cases hp⟩, Lib.hid rfl⟩
              case round =>
                obtain ⟨bv, k, K, R, rfl, rfl, HKK, hKq, HK, HTR⟩ := hrel
                obtain ⟨w5, rfl⟩ : ∃ x, x = wr := ⟨_, rfl⟩
                obtain ⟨K1, hK1⟩ : ∃ K1, K + 1 = K1 := ⟨_, rfl⟩
                have a1 : (K : Int) + 1 = (K1 : Int) := by omega
                have a2 : IntKind.i64.wrap (K1 : Int) = (K1 : Int) := by rw [IntKind.wrap_i64]; omega
                by_cases hlt3 : K1 < q
                · have a3 : (K1 : Int) < (q : Int) := by omega
                  have a4 : (K : Int) < (q : Int) := by omega
                  obtain ⟨X, hX⟩ : ∃ X, Q[K]? = some X := ⟨_, List.getElem?_eq_getElem (by have := HQ.out; rw [List.length_map] at this; omega)⟩
                  obtain ⟨Y, hY⟩ : ∃ Y, Q[K1]? = some Y := ⟨_, List.getElem?_eq_getElem (by have := HQ.out; rw [List.length_map] at this; omega)⟩
                  have hPW5 := HPW.out w5 HK.out.bl
                  obtain ⟨b, o, rfl, hbl, hj⟩ := at_itR hPW5.ls (by rw [HQ.out]; omega)
                  obtain ⟨x0, x1, x2⟩ := hj K X.1 (by rw [List.getElem?_map, hX]; rfl)
                  obtain ⟨y0, y1, y2⟩ := hj K1 Y.1 (by rw [List.getElem?_map, hY]; rfl)
                  have hXm : X.2 ∈ lev (cN cs) (leavesP (preS cs 0)) i := by rw [← HP.out.tr]; exact List.mem_map_of_mem (List.mem_of_getElem? hX)
                  have hYm : Y.2 ∈ lev (cN cs) (leavesP (preS cs 0)) i := by rw [← HP.out.tr]; exact List.mem_map_of_mem (List.mem_of_getElem? hY)
                  have hgX := hPW5.gq X (List.mem_of_getElem? hX)
                  have hgY := hPW5.gq Y (List.mem_of_getElem? hY)
                  have hsX := lev_small H4.out (by omega) hXm
                  have hsY := lev_small H4.out (by omega) hYm
                  have hXw := hgX.wt
                  have hYw := hgY.wt
                  obtain ⟨xw, hxw⟩ : ∃ z, X.1.wt = z := ⟨_, rfl⟩
                  obtain ⟨yw, hyw⟩ : ∃ z, Y.1.wt = z := ⟨_, rfl⟩
                  obtain ⟨wt, hwt⟩ : ∃ z, xw + yw = z := ⟨_, rfl⟩
                  rw [hxw] at x0 hXw
                  rw [hyw] at y0 hYw
                  have a5 : (xw : Int) + (yw : Int) = (wt : Int) := by omega
                  have a6 : IntKind.i64.wrap (wt : Int) = (wt : Int) := by rw [IntKind.wrap_i64]; omega
                  have HWT := Lib.hid (show wt = (PT.node X.2 Y.2).wt (cN cs) by show wt = X.2.wt (cN cs) + Y.2.wt (cN cs); omega)
                  have HSO := Lib.hid (fun s => And.intro (hsX.2 s) (hsY.2 s))
                  have HXQ := Lib.hid hX
                  have HYQ := Lib.hid hY
                  have HK1 := Lib.hid hK1
                  have HKS := Lib.hid (show b < w5.heap.size from hbl)
                  have hne0 := World.new_ne w5
                  clear hXm hYm hgX hgY hsX hsY hXw hYw hxw hyw hwt hX hY hj hPW5 hbl x1 x2 y1 y2 hK1
                  go_upto_region 28 with fail
                  go_cut [17] from 97 to 112 (fun p17 wx => ∃ O B : Nat, p17 = .pointer (some ⟨B, 0, none⟩) ∧ Hid (NewIt w5 n wt O B wx))
                  case first =>
                    go_region_held3 (fun W' => W'.cell? ⟨b, o + K * 3, none⟩ = some (.int .i64 (xw : Nat)) ∧ W'.cell? ⟨b, o + K1 * 3, none⟩ = some (.int .i64 (yw : Nat)))
                      (first
                        | go_keep
                        | fail)
                      (fail)
                    all_goals go_wp2_with fail
                    all_goals go_meet
                    all_goals (first | exact ⟨_, _, rfl, Lib.hid (newIt_a w5 n wt)⟩ | exact ⟨_, _, rfl, Lib.hid (newIt_b w5 n wt)⟩)
                  case rest =>
                    obtain ⟨O, B, rfl, HNI⟩ := hcut
                    obtain ⟨w6, rfl⟩ : ∃ x, x = wc := ⟨_, rfl⟩
                    clear x0 y0 hne0 a5 a6
                    have HPC := Lib.hid (fun (W : World) (hb : Below w3.heap.size w3 W) (s : Nat) (hs : s < n) => show (W.cell? ⟨b, o + K * 3 + 2, none⟩ = some (.slice (some ⟨X.1.b, 0, none⟩) n n) ∧ W.cell? ⟨b, o + K1 * 3 + 2, none⟩ = some (.slice (some ⟨Y.1.b, 0, none⟩) n n)) ∧ (W.cell? ⟨X.1.b, s, none⟩ = some (.int .i64 (X.2.occ s : Nat)) ∧ W.cell? ⟨Y.1.b, s, none⟩ = some (.int .i64 (Y.2.occ s : Nat))) from by
                      have hP := HPW.out W hb
                      obtain ⟨b', o', he, -, hj⟩ := at_itR hP.ls (by rw [HQ.out]; omega)
                      cases he
                      have hx := hj K X.1 (by rw [List.getElem?_map, HXQ.out]; rfl)
                      have hy := hj K1 Y.1 (by rw [List.getElem?_map, HYQ.out]; rfl)
                      have gx := hP.gq X (List.mem_of_getElem? HXQ.out)
                      have gy := hP.gq Y (List.mem_of_getElem? HYQ.out)
                      rw [HN.out] at gx gy
                      have e1 := hx.2.2
                      have e2 := hy.2.2
                      rw [gx.ln] at e1
                      rw [gy.ln] at e2
                      exact ⟨⟨e1, e2⟩, gx.cell hs, gy.cell hs⟩)
                    have HST5 : Hid (w6.heap[O]? = some (.cells (intRow (sumO n X.2 Y.2 0)) 3 (0, 0)) ∧ w6.grownBy w6 (some O)) := Lib.hid ⟨by rw [sumO_zero]; exact HNI.out.o, World.grownBy.refl _ _⟩
                    have HB36 := Lib.hid (show Below w3.heap.size w3 w6 from HK.out.bl.trans (HNI.out.bl.mono HK.out.bl.size))
                    have HO3 := Lib.hid (show w3.heap.size ≤ O from Nat.le_trans HK.out.bl.size HNI.out.lo)
                    go_wp2_with fail
                    go_loopw [115] (fun s0 wr => ∃ s9 : Nat, s9 ≤ n ∧ s0 = .int .i64 (s9 : Nat) ∧ Hid (wr.heap[O]? = some (.cells (intRow (sumO n X.2 Y.2 s9)) 3 (0, 0)) ∧ w6.grownBy wr (some O))) (fun s0 _ => n - (Go.RowKit.intOf s0).toNat)
                    case atStart => exact ⟨0, Nat.zero_le _, rfl, HST5⟩
                    case round =>
                      clear HST5
                      obtain ⟨s9, hs9, rfl, HOC⟩ := hrel
                      have HBW := Lib.hid (show Below w3.heap.size w3 wr from HB36.out.grown HOC.out.2 HB36.out.size (fun k e => by cases e; exact HO3.out))
                      by_cases hlt5 : s9 < n
                      · have hlti5 : (s9 : Int) < (n : Int) := by omega
                        obtain ⟨⟨e1, e2⟩, e3, e4⟩ := HPC.out wr.drew HBW.out.drew s9 hlt5
                        have hso := HSO.out s9
                        obtain ⟨ox, hox⟩ : ∃ z, X.2.occ s9 = z := ⟨_, rfl⟩
                        obtain ⟨oy, hoy⟩ : ∃ z, Y.2.occ s9 = z := ⟨_, rfl⟩
                        have hst := sumO_step X.2 Y.2 hlt5
                        rw [hox, hoy] at hst
                        rw [hox] at e3 hso
                        rw [hoy] at e4 hso
                        obtain ⟨oz, hoz⟩ : ∃ z, ox + oy = z := ⟨_, rfl⟩
                        rw [hoz] at hst
                        have c5 : (ox : Int) + (oy : Int) = (oz : Int) := by omega
                        have c6 : IntKind.i64.wrap (oz : Int) = (oz : Int) := by rw [IntKind.wrap_i64]; omega
                        have hBO : B ≠ O := HNI.out.ne
                        have hbB : wr.heap[B]? = some (.cells #[.int .i64 (wt : Nat), .bool false, .slice (some ⟨O, 0, none⟩) n n] 52 (0, 0)) := (HOC.out.2.block B (Array.getElem?_eq_some_iff.1 HNI.out.b).1 (fun e => hBO (by injection e))).trans HNI.out.b
                        have e5 : wr.drew.cell? ⟨B, 2, none⟩ = some (.slice (some ⟨O, 0, none⟩) n n) := cell_of (show wr.drew.heap[B]? = _ from hbB) rfl
                        have e6 : wr.drew.cell? ⟨O, s9, none⟩ = some (.int .i64 0) := cell_of (show wr.drew.heap[O]? = _ from HOC.out.1) (by
                          have h := intRow_get (l := sumO n X.2 Y.2 s9) (i := s9) (by rw [sumO_len]; exact hlt5)
                          rw [h, List.getD_eq_getElem?_getD, sumO_at _ _ _ hlt5, if_neg (by omega)]
                          rfl)
                        have e7 : wr.drew.frozen? ⟨O, s9, none⟩ = false := frozen_of (show wr.drew.heap[O]? = _ from HOC.out.1)
                        have a1' : (K : Int) + 1 = (K1 : Int) := a1
                        have HNX : Hid ((wr.drew.setCell ⟨O, s9, none⟩ (.int .i64 (oz : Nat))).heap[O]? = some (.cells (intRow (sumO n X.2 Y.2 (s9 + 1))) 3 (0, 0)) ∧ w6.grownBy (wr.drew.setCell ⟨O, s9, none⟩ (.int .i64 (oz : Nat))) (some O)) := Lib.hid ⟨by
                          rw [← hst, ← intRow_set]
                          exact Lib.heap_setCell_same (show wr.drew.heap[O]? = _ from HOC.out.1) _, grown_set1 (grown_trans HOC.out.2 (grown_below (Below.refl _ wr).drew _))⟩
                        clear hso hox hoy hst hoz hbB HOC
                        go_wp2_with fail
                        go_still_tail 22, (by kernel_rfl)
                        change wpList _ _ _ _ _ wr.drew
                        go_wp2_with fail
                        exact ⟨⟨s9 + 1, by omega, by go_num, HNX⟩, by simp only [Go.RowKit.intOf]; omega⟩
                      · obtain rfl : s9 = n := by omega
                        have hlti5 : ¬ (s9 : Int) < (s9 : Int) := by omega
                        have hbO := HOC.out.1
                        rw [sumO_all] at hbO
                        have hBO : B ≠ O := HNI.out.ne
                        have hbB : wr.heap[B]? = some (.cells #[.int .i64 (wt : Nat), .bool false, .slice (some ⟨O, 0, none⟩) s9 s9] 52 (0, 0)) := (HOC.out.2.block B (Array.getElem?_eq_some_iff.1 HNI.out.b).1 (fun e => hBO (by injection e))).trans HNI.out.b
                        have g0 : wr.cell? ⟨B, 0, none⟩ = some (.int .i64 (wt : Nat)) := cell_of hbB rfl
                        have g1 : wr.cell? ⟨B, 1, none⟩ = some (.bool false) := cell_of hbB rfl
                        have g2 : wr.cell? ⟨B, 2, none⟩ = some (.slice (some ⟨O, 0, none⟩) s9 s9) := cell_of hbB rfl
                        have hY : wr.ownsRow w3.heap.size 52 3 bv (R.map Prod.fst).length ((R.map Prod.fst).flatMap itVR) := by
                          have h6 : w6.ownsRow w3.heap.size 52 3 bv (R.map Prod.fst).length ((R.map Prod.fst).flatMap itVR) := own_below HK.out.own fun k e => HNI.out.bl.block k (own_low HK.out.own k e).2
                          refine own_below h6 fun k e => HOC.out.2.block k (own_low h6 k e).2 fun e' => ?_
                          have h8 := (own_low HK.out.own k e).2
                          have h9 := HNI.out.lo
                          have : k = O := by injection e'
                          omega
                        have HYO := Lib.hid hY
                        have HOC2 := Lib.hid (And.intro hbO HOC.out.2)
                        obtain ⟨bA, bn, bc, hbv⟩ : ∃ A n c, bv = .slice A n c := by
                          obtain ⟨A', c', h, -⟩ := own_form hY
                          exact ⟨_, _, _, h⟩
                        subst hbv
                        have hRl : (R.map Prod.fst).length ≤ 1000000 := by
                          have h := congrArg List.length HTR.out
                          rw [List.length_map, List.length_take, pairs_len, List.length_map] at h
                          have h2 := HQ.out
                          rw [List.length_map] at h2
                          rw [List.length_map]
                          omega
                        have HRL := Lib.hid hRl
                        have HWZ := Lib.hid (show w3.heap.size ≤ wr.heap.size from HBW.out.size)
                        have HDL := Lib.hid (show D < w5.heap.size from Nat.lt_of_lt_of_le (Array.getElem?_eq_some_iff.1 HP.out.lg).1 HK.out.bl.size)
                        clear hbO hbB hY hRl HOC
                        go_wp2_with (at_builtin; refine wpList_pushT rfl (.tmp 141) (.tmp 143) rfl w3.heap.size _ (R.map Prod.fst) ⟨wt, false, O, s9⟩ rfl rfl HYO.out HRL.out HWZ.out ?_)
                        intro v8 w8 HO8 HG8 _
                        have HNK : Hid (KpAt w3 cs D (R ++ [((⟨wt, false, O, s9⟩ : ItH), PT.node X.2 Y.2)]) v8 w8) := Lib.hid (HK.out.push HNI.out HOC2.out.2 HN.out HDL.out HOC2.out.1 HWT.out (own_snocT (by rw [List.length_map]; exact HO8.out)) HG8.out HYO.out)
                        have HNT : Hid ((R ++ [((⟨wt, false, O, s9⟩ : ItH), PT.node X.2 Y.2)]).map Prod.snd = (pairs (Q.map Prod.snd)).take (k + 1)) := Lib.hid (by
                          have e1 := HKK.out
                          have e2 := HK1.out
                          rw [List.map_append, HTR.out, pairs_step (a := X.2) (b := Y.2) (by rw [List.getElem?_map, e1, HXQ.out]; rfl) (by rw [List.getElem?_map, e1, e2, HYQ.out]; rfl)]
                          rfl)
                        have HNK2 : Hid (2 * (k + 1) = K + 2) := Lib.hid (by have := HKK.out; omega)
                        have hKn : K + 2 ≤ q := by have := HK1.out; omega
                        have b1 : IntKind.i64.wrap ((K : Int) + 2) = (K : Int) + 2 := by rw [IntKind.wrap_i64]; omega
                        clear HO8 HG8 HYO HOC2 HNI g0 g1 g2 HK
                        go_wp2_with fail
                        exact ⟨⟨_, k + 1, K + 2, _, rfl, by go_num, HNK2, hKn, HNK, HNT⟩, by simp only [Go.RowKit.intOf]; omega⟩
                · have a3 : ¬ (K1 : Int) < (q : Int) := by omega
                  have hall : (pairs (Q.map Prod.snd)).take k = pairs (Q.map Prod.snd) := by
                    refine List.take_of_length_le ?_
                    rw [pairs_len, List.length_map]
                    have h2 := HQ.out
                    rw [List.length_map] at h2
                    have := HKK.out
                    omega
                  have hP5 := HPW.out w5 HK.out.bl
                  have hrr := own_rowsT HK.out.own
                  have hpm : (P.map Prod.fst).length = m := HM.out
                  obtain ⟨bl, ol, hAl, -, -⟩ := at_itR hP5.lf (by rw [hpm]; omega)
                  have hRl : (R.map Prod.fst).length ≤ 100000 := by
                    have h := congrArg List.length HTR.out
                    rw [List.length_map, List.length_take, pairs_len, List.length_map] at h
                    have h2 := HQ.out
                    rw [List.length_map] at h2
                    rw [List.length_map]
                    omega
                  have HMG := Lib.hid (refMerge_any hP5.lf hrr (.inr ⟨⟨bl, ol, none⟩, m, cl, by rw [hAl]⟩) (by rw [hpm]; omega) hRl)
                  obtain ⟨Z, hZ1, hZ2, hZ3⟩ := merge_pairs (cN cs) (P := P) (Q := R) (fun p hp => (hP5.gp p hp).wt) (fun p hp => (HK.out.gr p hp).wt)
                  rw [← hZ1] at HMG
                  have HZT := Lib.hid (show Z.map Prod.snd = lev (cN cs) (leavesP (preS cs 0)) (i + 1) by rw [hZ2, HTR.out, hall, HP.out.tp, HP.out.tr, ← lev_merge])
                  have HZG := Lib.hid (show ∀ z ∈ Z, GoodP (cN cs) cs.length D w5 z from fun z hz => (hZ3 z hz).elim (fun h => hP5.gp z h) (fun h => HK.out.gr z h))
                  have HP5 := Lib.hid hP5
                  clear hall hP5 hrr hpm hAl hRl hZ1 hZ2 hZ3
                  go_wp2_with fail
                  refine HMG.out.mono ?_
                  rintro e w8 ⟨v8, rfl, ho8, hb8⟩
                  have HNX : Hid (PkAt w1 cs D (i + 1) (onesL cs cs.length) P Z (.slice Al m cl) v8 w8) := Lib.hid (by
                    have h5 := HP5.out.below (show w1.heap.size ≤ w5.heap.size from HP5.out.bl.size) hb8
                    exact ⟨h5.bl, h5.lg, h5.lf, own_rowsT ho8, h5.gp, fun p hp => goodP_below (HZG.out p hp) hb8, h5.tp, HZT.out⟩)
                  clear ho8 hb8 HMG HP5 HZG HZT HK HTR
                  go_wp2_with fail
                  exact ⟨⟨_, i + 1, Z, rfl, by omega, by omega, by go_num, HNX⟩, by simp only [Go.RowKit.intOf]; omega⟩
            · have hlti2 : ¬ (i : Int) < (l : Int) := by omega
              obtain rfl : i = l := by omega
              obtain ⟨c2, hc2⟩ : ∃ c2, 2 * m - 2 = c2 := ⟨_, rfl⟩
              have hcq : c2 ≤ q := by
                have h := HCUT.out
                have h2 := HQ.out
                rw [← HP.out.tr, HPL.out, List.length_map] at h
                rw [List.length_map] at h2
                have h3 := cut_max m
                unfold cutK at h
                omega
              obtain ⟨m2, hm22⟩ : ∃ m2, 2 * m = m2 := ⟨_, rfl⟩
              have b1 : 2 * (m : Int) = (m2 : Int) := by omega
              have b2 : IntKind.i64.wrap (m2 : Int) = (m2 : Int) := by rw [IntKind.wrap_i64]; omega
              have b3 : (m2 : Int) - 2 = (c2 : Int) := by omega
              have b4 : IntKind.i64.wrap (c2 : Int) = (c2 : Int) := by rw [IntKind.wrap_i64]; omega
              have hsl := fun W => slice_toT Ap q cp c2 hcq hcp W
              obtain ⟨b, o, hAp, hbl, hj⟩ := at_itR HP.out.ls (by rw [HQ.out]; omega)
              subst hAp
              have HJJ := Lib.hid hj
              have HBL := Lib.hid hbl
              have hbD : b ≠ D := by
                obtain ⟨x, hx⟩ : ∃ x, (Q.map Prod.fst)[0]? = some x := ⟨_, List.getElem?_eq_getElem (by rw [HQ.out]; omega)⟩
                exact bool_ne HP.out.lg (hj 0 x hx).2.1
              have HBD := Lib.hid hbD
              have HC2 := Lib.hid (show c2 = 2 * (preS cs 0).length - 2 by rw [HPL.out]; exact hc2.symm)
              have hm2b : 2 ≤ (preS cs 0).length := by rw [HPL.out]; omega
              have HM2 := Lib.hid hm2b
              have HONE := Lib.hid (show (onesL cs cs.length).length = n by rw [onesL_len, HN.out])
              have HST6 : Hid (w3.heap[D]? = some (.cells (intRow (mixL (hufL (cN cs) (preS cs 0) i) n 0 (onesL cs cs.length))) 3 (0, 0)) ∧ w3.grownBy w3 (some D)) := Lib.hid ⟨by rw [mixL_zero _ HONE.out]; exact HP.out.lg, World.grownBy.refl _ _⟩
              clear hc2 hm22 hj hbl hbD hm2b hmk
              go_wp2_with fail
              go_loopw [150] (fun s0 wr => ∃ s9 : Nat, s9 ≤ n ∧ s0 = .int .i64 (s9 : Nat) ∧ Hid (wr.heap[D]? = some (.cells (intRow (mixL (hufL (cN cs) (preS cs 0) i) n s9 (onesL cs cs.length))) 3 (0, 0)) ∧ w3.grownBy wr (some D))) (fun s0 _ => n - (Go.RowKit.intOf s0).toNat)
              case atStart => exact ⟨0, Nat.zero_le _, rfl, HST6⟩
              case round =>
                clear HST6
                obtain ⟨s9, hs9, rfl, HL⟩ := hrel
                by_cases hlt6 : s9 < n
                · have hlti6 : (s9 : Int) < (n : Int) := by omega
                  obtain ⟨mx, hmx⟩ : ∃ z, mixL (hufL (cN cs) (preS cs 0) i) n s9 (onesL cs cs.length) = z := ⟨_, rfl⟩
                  have hml : mx.length = n := by rw [← hmx, mixL_len]
                  have hD1 := HL.out.1
                  rw [hmx, ← HDD.out] at hD1
                  have g0 : wr.cell? ⟨w1.heap.size, s9, none⟩ = some (.int .i64 (mx.getD s9 0)) := cell_of hD1 (intRow_get (by rw [hml]; exact hlt6))
                  have g1 : wr.frozen? ⟨w1.heap.size, s9, none⟩ = false := frozen_of hD1
                  obtain ⟨w5, hw5⟩ : ∃ x, wr.setCell ⟨w1.heap.size, s9, none⟩ (.int .i64 0) = x := ⟨_, rfl⟩
                  have HST7 : Hid (w5.heap[D]? = some (.cells (intRow (mx.set s9 ((occL s9 ((Q.map Prod.snd).take 0) : Nat) : Int))) 3 (0, 0)) ∧ w3.grownBy w5 (some D)) := Lib.hid ⟨by
                    rw [← HDD.out, ← hw5, show ((occL s9 ((Q.map Prod.snd).take 0) : Nat) : Int) = 0 from rfl, ← intRow_set]
                    exact Lib.heap_setCell_same hD1 _, by rw [← hw5, HDD.out]; exact grown_set1 HL.out.2⟩
                  have HMX := Lib.hid hmx
                  have HML := Lib.hid hml
                  have HW5 := Lib.hid hw5
                  clear hmx hml hD1 hw5 HL
                  go_wp2_with fail
                  rw [HW5.out]
                  clear g0 g1
                  go_loopw [163] (fun k0 wr => ∃ k : Nat, k ≤ c2 ∧ k0 = .int .i64 (k : Nat) ∧ Hid (wr.heap[D]? = some (.cells (intRow (mx.set s9 ((occL s9 ((Q.map Prod.snd).take k) : Nat) : Int))) 3 (0, 0)) ∧ w3.grownBy wr (some D))) (fun k0 _ => c2 - (Go.RowKit.intOf k0).toNat)
                  case atStart => exact ⟨0, Nat.zero_le _, rfl, HST7⟩
                  case round =>
                    clear HST7
                    obtain ⟨k, hk, rfl, HL7⟩ := hrel
                    by_cases hlt7 : k < c2
                    · have hlti7 : (k : Int) < (c2 : Int) := by omega
                      obtain ⟨X, hX⟩ : ∃ X, Q[k]? = some X := ⟨_, List.getElem?_eq_getElem (by have := HQ.out; rw [List.length_map] at this; omega)⟩
                      have hgX := HP.out.gq X (List.mem_of_getElem? hX)
                      rw [HN.out] at hgX
                      have hkp : ∀ B, B < w3.heap.size → B ≠ D → wr.heap[B]? = w3.heap[B]? := fun B h1 h2 => HL7.out.2.block B h1 (fun e => h2 (by injection e))
                      obtain ⟨x0, x1, x2⟩ := HJJ.out k X.1 (by rw [List.getElem?_map, hX]; rfl)
                      have hbk := hkp b HBL.out HBD.out
                      have y0 := (World.cell?_of_block (w := w3) (w' := wr) (a := ⟨b, o + k * 3, none⟩) hbk).trans x0
                      have y1 := (World.cell?_of_block (w := w3) (w' := wr) (a := ⟨b, o + k * 3 + 1, none⟩) hbk).trans x1
                      have y2 := (World.cell?_of_block (w := w3) (w' := wr) (a := ⟨b, o + k * 3 + 2, none⟩) hbk).trans x2
                      rw [hgX.ln] at y2
                      have hoX := (Array.getElem?_eq_some_iff.1 hgX.oc).1
                      have y3 : wr.cell? ⟨X.1.b, s9, none⟩ = some (.int .i64 (X.2.occ s9 : Nat)) := (World.cell?_of_block (w := w3) (w' := wr) (a := ⟨X.1.b, s9, none⟩) (hkp X.1.b hoX hgX.ne)).trans (hgX.cell hlt6)
                      have hXm : X.2 ∈ lev (cN cs) (leavesP (preS cs 0)) i := by rw [← HP.out.tr]; exact List.mem_map_of_mem (List.mem_of_getElem? hX)
                      have hsX := (lev_small H4.out (by omega) hXm).2 s9
                      have hocc := occL_step s9 (l := Q.map Prod.snd) (k := k) (T := X.2) (by rw [List.getElem?_map, hX]; rfl)
                      have hbnd : occL s9 ((Q.map Prod.snd).take k) ≤ 32768 * k := by
                        have hall : ∀ t ∈ (Q.map Prod.snd).take k, t.occ s9 ≤ 32768 := fun t ht => (lev_small H4.out (by omega) (by rw [← HP.out.tr]; exact List.mem_of_mem_take ht)).2 s9
                        have hgen : ∀ L : List PT, (∀ t ∈ L, t.occ s9 ≤ 32768) → occL s9 L ≤ 32768 * L.length := by
                          intro L
                          induction L with
                          | nil => intro _; simp [occL]
                          | cons t L ih =>
                            intro h
                            have h1 := h t (List.mem_cons_self ..)
                            have h2 := ih fun u hu => h u (List.mem_cons_of_mem _ hu)
                            have h3 : occL s9 (t :: L) = t.occ s9 + occL s9 L := by simp [occL]
                            rw [h3, List.length_cons]
                            omega
                        have h1 := hgen _ hall
                        have h2 : ((Q.map Prod.snd).take k).length ≤ k := by rw [List.length_take]; omega
                        have h3 : 32768 * ((Q.map Prod.snd).take k).length ≤ 32768 * k := Nat.mul_le_mul_left _ h2
                        omega
                      obtain ⟨ox, hox⟩ : ∃ z, X.2.occ s9 = z := ⟨_, rfl⟩
                      obtain ⟨ov, hov⟩ : ∃ z, occL s9 ((Q.map Prod.snd).take k) = z := ⟨_, rfl⟩
                      obtain ⟨oz, hoz⟩ : ∃ z, ov + ox = z := ⟨_, rfl⟩
                      have hD7 := HL7.out.1
                      have hG7 := HL7.out.2
                      rw [hov] at hD7 hbnd hocc
                      rw [hox] at y3 hsX hocc
                      rw [hoz] at hocc
                      have c5 : (ov : Int) + (ox : Int) = (oz : Int) := by omega
                      have c6 : IntKind.i64.wrap (oz : Int) = (oz : Int) := by rw [IntKind.wrap_i64]; omega
                      obtain ⟨xw, hxw⟩ : ∃ z, X.1.wt = z := ⟨_, rfl⟩
                      obtain ⟨xl, hxl⟩ : ∃ z, X.1.lf = z := ⟨_, rfl⟩
                      obtain ⟨xb, hxb⟩ : ∃ z, X.1.b = z := ⟨_, rfl⟩
                      rw [hxw] at y0
                      rw [hxl] at y1
                      rw [hxb] at y2 y3
                      have hbb := below_box wr (.cells #[.int .i64 (xw : Nat), .bool xl, .slice (some ⟨xb, 0, none⟩) n n] 52)
                      have hbB := block_new wr (.cells #[.int .i64 (xw : Nat), .bool xl, .slice (some ⟨xb, 0, none⟩) n n] 52)
                      have hDl : D < wr.heap.size := (Array.getElem?_eq_some_iff.1 hD7).1
                      have hxbl : xb < wr.heap.size := lt_of_cellL y3
                      obtain ⟨W7, hW7⟩ : ∃ x, wr.alloc (.cells #[.int .i64 (xw : Nat), .bool xl, .slice (some ⟨xb, 0, none⟩) n n] 52) = x := ⟨_, rfl⟩
                      rw [hW7] at hbb hbB
                      have hD8 : W7.drew.heap[w1.heap.size]? = some (.cells (intRow (mx.set s9 ((ov : Nat) : Int))) 3 (0, 0)) := by rw [HDD.out]; exact (hbb.block D hDl).trans hD7
                      have z0 : W7.drew.cell? ⟨w1.heap.size, s9, none⟩ = some (.int .i64 (ov : Nat)) := cell_of hD8 (by
                        have h := intRow_get (l := mx.set s9 ((ov : Nat) : Int)) (i := s9) (by rw [List.length_set, HML.out]; exact hlt6)
                        rw [h, List.getD_eq_getElem?_getD, List.getElem?_set_self (by rw [HML.out]; exact hlt6)]
                        rfl)
                      have z1 : W7.drew.frozen? ⟨w1.heap.size, s9, none⟩ = false := frozen_of hD8
                      have z2 : W7.drew.cell? ⟨wr.heap.size, 2, none⟩ = some (.slice (some ⟨xb, 0, none⟩) n n) := cell_of (show W7.drew.heap[wr.heap.size]? = _ from hbB) rfl
                      have z3 : W7.drew.cell? ⟨xb, s9, none⟩ = some (.int .i64 (ox : Nat)) := (hbb.cell (p := ⟨xb, s9, none⟩) hxbl).trans y3
                      have HNX : Hid ((W7.drew.setCell ⟨w1.heap.size, s9, none⟩ (.int .i64 (oz : Nat))).heap[D]? = some (.cells (intRow (mx.set s9 ((occL s9 ((Q.map Prod.snd).take (k + 1)) : Nat) : Int))) 3 (0, 0)) ∧ w3.grownBy (W7.drew.setCell ⟨w1.heap.size, s9, none⟩ (.int .i64 (oz : Nat))) (some D)) := Lib.hid ⟨by
                        rw [hocc, ← HDD.out]
                        have h := Lib.heap_setCell_same (i := s9) hD8 (.int .i64 (oz : Nat))
                        rw [intRow_set, List.set_set] at h
                        exact h, by rw [HDD.out]; exact grown_set1 (grown_trans hG7 (grown_below hbb.drew _))⟩
                      have HW7 := Lib.hid hW7
                      clear hX hgX hkp x0 x1 x2 hbk hoX hXm hsX hocc hbnd hox hov hoz hD7 hG7 hxw hxl hxb hbb hbB hDl hxbl hW7 hD8 HL7
                      go_wp2_with fail
                      rw [HW7.out]
                      go_still_tail 11, (by kernel_rfl)
                      change wpList _ _ _ _ _ W7.drew
                      go_wp2_with fail
                      exact ⟨⟨k + 1, by omega, by go_num, HNX⟩, by simp only [Go.RowKit.intOf]; omega⟩
                    · obtain rfl : k = c2 := by omega
                      have hlti7 : ¬ (k : Int) < (k : Int) := by omega
                      have HNX : Hid (wr.heap[D]? = some (.cells (intRow (mixL (hufL (cN cs) (preS cs 0) i) n (s9 + 1) (onesL cs cs.length))) 3 (0, 0)) ∧ w3.grownBy wr (some D)) := Lib.hid ⟨by
                        have h := HL7.out.1
                        rw [HC2.out, HP.out.tr, sum_hufL _ _ _ _ HM2.out, ← HMX.out, mixL_step _ _ hlt6] at h
                        exact h, HL7.out.2⟩
                      clear HL7
                      go_wp2_with fail
                      exact ⟨⟨s9 + 1, by omega, by go_num, HNX⟩, by simp only [Go.RowKit.intOf]; omega⟩
                · obtain rfl : s9 = n := by omega
                  have hlti6 : ¬ (s9 : Int) < (s9 : Int) := by omega
                  have HE : Hid (LenV w1 cs (i : Int) (.returned (.tuple #[.slice (some ⟨w1.heap.size, 0, none⟩) s9 s9, .int .i64 0])) wr) := Lib.hid ⟨HP.out.bl.grown HL.out.2 HP.out.bl.size (fun k e => by cases e; exact Nat.le_of_eq HDD.out), .inr ⟨hz, _, rfl, by
                    have h := HL.out.1
                    rw [mixL_all, ← HDD.out] at h
                    have h2 : wr.heap[w1.heap.size]? = some (.cells (intRow (hufLs cs i)) 3 (0, 0)) := by
                      unfold hufLs
                      rw [HN.out]
                      exact h
                    rw [Int.toNat_natCast]
                    exact rows_int (by rw [hufLs_len, HN.out]) (Nat.le_refl _) h2⟩⟩
                  clear HL
                  go_wp2_with fail
                  go_ret2
                  exact HE.out
  · have HE : Hid (LenV w cs lim (.returned (.tuple #[.slice none 0 0, .int .i64 (chkH cs lim)])) w) := Lib.hid ⟨Below.refl _ _, .inl ⟨hz, rfl⟩⟩
    obtain ⟨r, hr⟩ : ∃ r, chkH cs lim = r := ⟨_, rfl⟩
    rw [hr] at HCK HE hz
    have hne : (r != 0) = true := by simpa using hz
    clear hv hz hr hl0 hl1 hlen hc HV hn
    go_enter Try.func6, Try.ntmps6
    go_wp2_with fail
    refine HCK.out.mono ?_
    rintro e w1 ⟨rfl, rfl⟩
    go_wp2_with fail
    go_ret2
    exact HE.out
end Go.Proofs.Yteennnhinfnahaa
