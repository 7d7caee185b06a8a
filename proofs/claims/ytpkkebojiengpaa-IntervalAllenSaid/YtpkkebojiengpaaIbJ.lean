/-
  WALKS over package interval: riseOf.
-/
import Derived.Test.YtpkkebojiengpaaIbI
namespace Go.Proofs.Ytpkkebojiengpaa
open Go.RowKit Go.Shelf Go.Lib
set_option linter.unusedVariables false
set_option linter.unusedSimpArgs false

/-- The points that are made so far. -/
def fillL (pt : Sp → Sp) (l : List Sp) (i : Nat) : List Sp := (List.range l.length).map fun j => if j < i then pt (l.getD j (0, 0)) else (0, 0)
theorem fillL_len (pt : Sp → Sp) (l : List Sp) (i : Nat) : (fillL pt l i).length = l.length := by simp [fillL]
theorem fillL_zero (pt : Sp → Sp) (l : List Sp) : fillL pt l 0 = List.replicate l.length (0, 0) := by
  apply List.ext_getElem?
  intro j
  unfold fillL
  by_cases h : j < l.length
  · rw [List.getElem?_map, List.getElem?_range h, List.getElem?_replicate, if_pos h]; simp
  · rw [List.getElem?_eq_none (by simp; omega), List.getElem?_eq_none (by simp; omega)]
theorem fillL_all (pt : Sp → Sp) (l : List Sp) : fillL pt l l.length = l.map pt := by
  apply List.ext_getElem?
  intro j
  unfold fillL
  by_cases h : j < l.length
  · rw [List.getElem?_map, List.getElem?_range h, List.getElem?_map, List.getElem?_eq_getElem h]; simp [h]
  · rw [List.getElem?_eq_none (by simp; omega), List.getElem?_eq_none (by simp; omega)]
theorem fillL_step {pt : Sp → Sp} {l : List Sp} {i : Nat} {x : Sp} (h : l[i]? = some x) : fillL pt l (i + 1) = (fillL pt l i).set i (pt x) := by
  obtain ⟨hi, hxe⟩ := List.getElem?_eq_some_iff.1 h
  apply List.ext_getElem?
  intro j
  rw [List.getElem?_set]
  by_cases hj : j < l.length
  · unfold fillL
    rw [List.getElem?_map, List.getElem?_range hj, List.getElem?_map, List.getElem?_range hj]
    by_cases e : i = j
    · subst e
      simp [h, hi, hxe]
    · rw [if_neg e]
      simp only [Option.map_some, Option.some.injEq]
      by_cases c : j < i
      · rw [if_pos c, if_pos (by omega)]
      · rw [if_neg c, if_neg (by omega)]
  · rw [List.getElem?_eq_none (by rw [fillL_len]; omega)]
    by_cases e : i = j
    · omega
    · rw [if_neg e, List.getElem?_eq_none (by rw [fillL_len]; omega)]
theorem own_block {W : World} {N n : Nat} {T : TypeId} {l : List Sp} (hn : l.length = n) (hm : n ≤ maxLen) (h : W.heap[N]? = some (.cells (spRow l) T (0, 0))) : W.ownsRow N T 2 (.slice (some ⟨N, 0, none⟩) n n) n (l.flatMap spV) :=
  ⟨by rw [flatM_len spV_len, hn], .inr ⟨N, n, spRow l, rfl, Nat.le_refl _, h, Nat.le_refl _, hm, by rw [spRow_size, hn], by unfold spRow; rw [List.take_of_length_le (by rw [← hn]; simp [flatM_len spV_len])]⟩⟩
theorem block_own {W : World} {base N n : Nat} {T : TypeId} {l : List Sp} (hn : l.length = n) (h : W.ownsRow base T 2 (.slice (some ⟨N, 0, none⟩) n n) n (l.flatMap spV)) : W.heap[N]? = some (.cells (spRow l) T (0, 0)) := by
  rcases h.2 with ⟨hv, _⟩ | ⟨g', cap', cur, hv, hb, hh, hc, hm, hs, ht⟩
  · cases hv
  · cases hv
    rw [hh]
    congr 2
    unfold spRow
    rw [← ht, List.take_of_length_le (by simp [hs])]
/-- What riseOf answers. -/
def RiseV (w : World) (N0 n : Nat) (pts : List Sp) (e : Ending) (w' : World) : Prop :=
  ∃ N ts, e = .returned (.slice (some ⟨N, 0, none⟩) n n) ∧ N0 ≤ N ∧ w'.heap[N]? = some (.cells (spRow (riseL ts)) 57 (0, 0)) ∧ ts.Perm pts ∧ ts.Pairwise (fun a b => a.1 ≤ b.1) ∧ Below N0 w w'

set_option maxRecDepth 100000 in
set_option maxHeartbeats 8000000 in
theorem riseOf_any {w : World} {v : Value} {l : List Sp} (hv : Rows 2 ESp w v l) (hl : l.length ≤ 4096) (fn : FuncId) (pt : Sp → Sp) (eg : ∀ args w, (callFunc fn args).run Try.prog w = .ok (.enter fn args) w)
    (hp : ∀ (W : World) (x : Sp), Calls Try.prog fn #[.agg #[.int .i64 x.1, .int .i64 x.2]] W (PtV W (pt x))) (hge : ∀ x ∈ l, -1 ≤ (pt x).2) :
    Calls Try.prog 33 #[v, .func (.func fn) #[] #[]] w (RiseV w w.heap.size l.length (l.map pt)) := by
  have HV := Lib.hid (fun W (h : Below w.heap.size w W) => hv.below stays_sp h)
  obtain ⟨A, cap, rfl, hc⟩ := hv.form
  obtain ⟨n, hn⟩ : ∃ n, l.length = n := ⟨_, rfl⟩
  obtain ⟨i1, hi1, hy0, hy1, hy2⟩ := info_parts' Try.infoPt
  have hmk : ∀ W : World, (Instr.makeSlice 48 (.int .i64 n) (.int .i64 n)).run Try.prog W = .ok (.slice (some ⟨W.heap.size, 0, none⟩) n n) (W.alloc (.cells (spRow (fillL pt l 0)) 57)) := fun W => by
    have := run_make (P := Try.prog) W 48 57 i1 _ Try.underlying48 hi1 hy0 .i64 .i64 n n (by omega) (by omega) (by rw [hy2]; omega) (by omega)
    rw [Int.toNat_natCast, hy1] at this
    rw [fillL_zero, hn, ← made_sp]
    exact this
  rw [hn] at hc HV hl ⊢
  have HN := Lib.hid hn
  have HP := Lib.hid hp
  have HGE := Lib.hid hge
  obtain ⟨N, hN⟩ : ∃ N, w.heap.size = N := ⟨_, rfl⟩
  obtain ⟨W0, hW0⟩ : ∃ W0, w.alloc (.cells (spRow (fillL pt l 0)) 57) = W0 := ⟨_, rfl⟩
  have hb0 : W0.heap[N]? = some (.cells (spRow (fillL pt l 0)) 57 (0, 0)) := by rw [← hW0, ← hN]; exact block_new _ _
  have hbw : Below N w W0 := by rw [← hW0, ← hN]; exact below_box _ _
  rw [hN] at HV ⊢
  have HN0 := Lib.hid hN
  have HW0 := Lib.hid hW0
  have HB0 := Lib.hid hb0
  have HBW := Lib.hid hbw
  clear hv hn hp hge hN hW0 hb0 hbw hi1 hy0 hy1 hy2
  go_enter Try.func33, Try.ntmps33
  go_wp2_with fail
  rw [HW0.out, HN0.out]
  go_loopw [6, 14] (fun _ kv wr => ∃ i : Nat, i ≤ n ∧ kv = .int .i64 i ∧ Hid (wr.heap[N]? = some (.cells (spRow (fillL pt l i)) 57 (0, 0))) ∧ Hid (Below N w wr)) (fun _ kv _ => n - (Go.RowKit.intOf kv).toNat)
  case atStart => exact ⟨0, Nat.zero_le _, rfl, HB0, HBW⟩
  case round =>
    clear HB0 HBW hmk
    obtain ⟨i, hi, rfl, HB, HBL⟩ := hrel
    by_cases hlt : i < n
    · obtain ⟨x, hx⟩ : ∃ x, l[i]? = some x := ⟨_, List.getElem?_eq_getElem (by rw [HN.out]; exact hlt)⟩
      obtain ⟨bk, off, rfl, hbl, hj⟩ := at_sp (HV.out wr HBL.out) (by rw [HN.out]; omega)
      obtain ⟨c0, c1⟩ := hj i x hx
      have hst := fillL_step (pt := pt) hx
      have hcall := fun W => HP.out W x
      obtain ⟨p, hpp⟩ : ∃ p, pt x = p := ⟨_, rfl⟩
      rw [hpp] at hst hcall
      unfold PtV at hcall
      obtain ⟨x1, x2⟩ := x
      obtain ⟨p1, p2⟩ := p
      simp only at c0 c1 hcall
      obtain ⟨X, hX⟩ : ∃ X, wr.alloc (.cells #[.int .i64 x1, .int .i64 x2] 31) = X := ⟨_, rfl⟩
      obtain ⟨Nx, hNx⟩ : ∃ N0, wr.heap.size = N0 := ⟨_, rfl⟩
      have hbX : Below Nx wr X := by rw [← hX, ← hNx]; exact below_box wr _
      have e1 : X.heap[Nx]? = some (.cells #[.int .i64 x1, .int .i64 x2] 31 (0, 0)) := by rw [← hX, ← hNx]; exact block_new wr _
      have hNNx : N < Nx := by rw [← hNx]; exact (Array.getElem?_eq_some_iff.1 HB.out).1
      have hgX : X.heap[N]? = some (.cells (spRow (fillL pt l i)) 57 (0, 0)) := block_below HB.out hbX hNNx
      have hXs : X.heap.size = Nx + 1 := by rw [← hX, alloc_sz, hNx]
      have g0 := cell_of (i := 0) e1 rfl
      have g1 := cell_of (i := 1) e1 rfl
      have HCALL := Lib.hid (hcall X)
      have HX := Lib.hid hX
      have HNX := Lib.hid hNx
      have HGX := Lib.hid hgX
      have HBX := Lib.hid (HBL.out.trans (hbX.mono (Nat.le_of_lt hNNx)))
      have HST := Lib.hid hst
      have HXS := Lib.hid hXs
      have hlt1 : (i : Int) < (n : Int) := by omega
      have hin : i < (fillL pt l i).length := by rw [fillL_len, HN.out]; exact hlt
      have HIN := Lib.hid hin
      clear hcall hX hNx hbX e1 hgX hst hpp hx hj hbl hXs hin HB HBL
      go_upto_region 5 with fail
      rw [HX.out, HNX.out]
      clear c0 c1
      obtain ⟨u0, hu0⟩ : ∃ u, (spRow (fillL pt l i))[i * 2]? = some u := ⟨_, Array.getElem?_eq_getElem (by rw [spRow_size]; have := HIN.out; omega)⟩
      obtain ⟨u1, hu1⟩ : ∃ u, (spRow (fillL pt l i))[i * 2 + 1]? = some u := ⟨_, Array.getElem?_eq_getElem (by rw [spRow_size]; have := HIN.out; omega)⟩
      have HU := Lib.hid (And.intro hu0 hu1)
      clear hu0 hu1
      go_wp2_with (go_at_fn fn; refine HCALL.out.mono ?_; rintro e w2 ⟨rfl, hb2⟩; have hb2' := block_below HGX.out hb2 (by rw [HXS.out]; omega); have k0 := cell_of hb2' HU.out.1; have k1 := cell_of hb2' HU.out.2; have f0 : w2.frozen? ⟨N, i * 2, none⟩ = false := frozen_of hb2'; have f1 : w2.frozen? ⟨N, i * 2 + 1, none⟩ = false := frozen_of hb2'; have HB2 := Lib.hid hb2'; have HBE := Lib.hid (HBX.out.trans (hb2.mono (by rw [HXS.out]; omega))); clear hb2 hb2' g0 g1)
      refine ⟨⟨i + 1, by omega, by go_num, Lib.hid ?_, Lib.hid ?_⟩, by simp only [Go.RowKit.intOf]; omega⟩
      · rw [set_of (set_of HB2.out _) _, HST.out, ← spRow_set2 HIN.out]
      · exact (HBE.out.setCell (p := ⟨N, i * 2, none⟩) (Nat.le_refl _) _).setCell (p := ⟨N, i * 2 + 1, none⟩) (Nat.le_refl _) _
    · obtain rfl : i = n := by omega
      have hfl : fillL pt l i = l.map pt := by rw [← HN.out]; exact fillL_all pt l
      have hb := HB.out
      rw [hfl] at hb
      have HS := Lib.hid (sortPt_any (ks := l.map pt) (by rw [List.length_map, HN.out]) (by omega) (own_block (by rw [List.length_map, HN.out]) (by unfold maxLen; omega) hb))
      have HNL := Lib.hid ((Array.getElem?_eq_some_iff.1 hb).1)
      have hwN : Hid (N ≤ w.heap.size) := Lib.hid (by rw [HN0.out]; exact Nat.le_refl _)
      clear hb hfl HB
      go_wp2_with fail
      refine HS.out.mono ?_
      rintro e w2 ⟨rfl, ⟨ts, hpm, hso, hown⟩, hgr⟩
      have hlen : ts.length = i := by rw [hpm.length_eq, List.length_map, HN.out]
      have hge : ∀ x ∈ ts, -1 ≤ x.2 := fun x hx => by
        obtain ⟨y, hy, rfl⟩ := List.mem_map.1 (hpm.mem_iff.1 hx)
        exact HGE.out y hy
      have hb1 : w2.heap[N]? = some (.cells (spRow (riseU ts 1)) 57 (0, 0)) := by rw [riseU_one hge]; exact block_own hlen hown
      have HB1 := Lib.hid hb1
      have HBL2 := Lib.hid (HBL.out.trans (below_of_grown hgr (Nat.le_of_lt HNL.out) (fun k hk => by cases hk; exact Nat.le_refl _)))
      have HLN := Lib.hid hlen
      have HPM := Lib.hid (And.intro hpm hso)
      clear hb1 hgr hlen hown hpm hso hge HS
      go_wp2_with fail
      go_loopw [8] (fun kv wr => ∃ k : Nat, 1 ≤ k ∧ (k ≤ i ∨ k = 1) ∧ kv = .int .i64 k ∧ Hid (wr.heap[N]? = some (.cells (spRow (riseU ts k)) 57 (0, 0))) ∧ Hid (Below N w wr)) (fun kv _ => i - (Go.RowKit.intOf kv).toNat)
      case atStart => exact ⟨1, Nat.le_refl _, .inr rfl, rfl, HB1, HBL2⟩
      case round =>
        clear HB1 HBL2
        obtain ⟨k, hk1, hki, rfl, HB, HBL⟩ := hrel
        by_cases hlt : k < i
        · obtain ⟨p, hpk⟩ : ∃ p, p + 1 = k := ⟨k - 1, by omega⟩
          obtain ⟨x, hx⟩ : ∃ x, ts[k]? = some x := ⟨_, List.getElem?_eq_getElem (by rw [HLN.out]; omega)⟩
          obtain ⟨y, hy⟩ : ∃ x, ts[p]? = some x := ⟨_, List.getElem?_eq_getElem (by rw [HLN.out]; omega)⟩
          have r1 := riseU_get (i := k) hx
          have r2 := riseU_get (i := k) hy
          rw [if_neg (by omega)] at r1
          rw [if_pos (by omega), hpk] at r2
          have hst := riseU_step (by omega) hx
          obtain ⟨x1, x2⟩ := x
          obtain ⟨hi0, hhi⟩ : ∃ z, hiF (ts.take k) = z := ⟨_, rfl⟩
          rw [hhi] at r2 hst
          simp only at r1 r2 hst
          obtain ⟨m1, hm1⟩ : ∃ z, max x2 hi0 = z := ⟨_, rfl⟩
          rw [hm1] at hst
          have c1 := cell_of HB.out (spRow_get r1).2
          have d1 := cell_of HB.out (spRow_get r2).2
          simp only at c1 d1
          have f1 : wr.frozen? ⟨N, k * 2 + 1, none⟩ = false := frozen_of HB.out
          have hp1 : (k : Int) - 1 = (p : Int) := by omega
          have hlti : (k : Int) < (i : Int) := by omega
          have hpn : (p : Int) < (i : Int) := by omega
          have hwp : IntKind.i64.wrap (p : Int) = (p : Int) := by rw [IntKind.wrap_i64]; omega
          have hset := spRow_set1 (y := (x1, m1)) r1 (c := 1) (by omega) (.int .i64 m1) rfl
          have HSET := Lib.hid (And.intro hset hst)
          clear hset hst r1 r2 hx hy hhi
          go_wp2_with fail
          go_still_tail 16, (by kernel_rfl)
          change wpList _ _ _ _ _ wr.drew
          obtain ⟨V, hV⟩ : ∃ V, wr.drew = V := ⟨_, rfl⟩
          have hb3 : V.heap[N]? = some (.cells (spRow (riseU ts k)) 57 (0, 0)) := by rw [← hV]; exact HB.out
          have c1' : V.cell? ⟨N, k * 2 + 1, none⟩ = some (.int .i64 x2) := by rw [← hV]; exact c1
          have f1' : V.frozen? ⟨N, k * 2 + 1, none⟩ = false := frozen_of hb3
          have HB3 := Lib.hid hb3
          have HBL3 : Hid (Below N w V) := Lib.hid (by rw [← hV]; exact HBL.out.drew)
          rw [hV]
          clear hb3 hV c1 d1 f1 HB HBL
          go_wp2_with fail
          refine ⟨⟨k + 1, by omega, .inl (by omega), by go_num, Lib.hid ?_, Lib.hid ?_⟩, by simp only [Go.RowKit.intOf]; omega⟩
          · rw [set_of HB3.out _, HSET.out.1, ← HSET.out.2]
          · exact HBL3.out.setCell (p := ⟨N, k * 2 + 1, none⟩) (Nat.le_refl _) _
        · have hrl : riseL ts = riseU ts k ∨ ts = [] := by
            rcases hki with h | h
            · exact .inl (by unfold riseL; rw [HLN.out, show i = k by omega])
            · by_cases e : i = 0
              · exact .inr (List.length_eq_zero_iff.1 (by rw [HLN.out, e]))
              · exact .inl (by unfold riseL; rw [HLN.out, show i = k by omega])
          have hb : wr.heap[N]? = some (.cells (spRow (riseL ts)) 57 (0, 0)) := by
            rcases hrl with e | e
            · rw [e]; exact HB.out
            · rw [HB.out, e]; rfl
          have HF := Lib.hid hb
          have hge : ¬ (k : Int) < (i : Int) := by omega
          have hged : decide ((k : Int) < (i : Int)) = false := by simp; omega
          clear hb hrl HB hki
          go_wp2_with fail
          go_ret
          exact ⟨N, ts, rfl, Nat.le_refl _, HF.out, HPM.out.1, HPM.out.2, HBL.out⟩
end Go.Proofs.Ytpkkebojiengpaa
