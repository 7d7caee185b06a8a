/-
  WALK over the reference of lexicon: Build.
-/
import Derived.Test.YteennnhinfnahaaLzR
import Derived.Test.YteennnhinfnahaaLzL
import Derived.Test.YteennnhinfnahaaLxF
namespace Go.Proofs.Yteennnhinfnahaa
open Go.RowKit Go.Shelf Go.Lib Go.Sort Go.Maps
set_option linter.unusedVariables false
set_option linter.unusedSimpArgs false

theorem refB_results {tmps : Array Value} {W : World} {B : Nat} {A1 A2 : Option Addr} {n1 c1 n2 c2 : Nat} {v3 v4 : Value} (h2 : tmps[2]? = some (.pointer (some ⟨B, 0, none⟩))) (h3 : tmps[3]? = some v3) (h4 : tmps[4]? = some v4) (hB : W.heap[B]? = some (.cells #[.slice A1 n1 c1, .slice A2 n2 c2] 33 (0, 0))) :
    (results Try.f23 tmps).run Try.prog W = .ok (.tuple #[.agg #[.slice A1 n1 c1, .slice A2 n2 c2], v3, v4]) W := by
  have q1 := cell_of (i := 0) hB rfl
  have q2 := cell_of (i := 1) hB rfl
  simp [results, Try.f23, go_sem, h2, h3, h4, q1, q2]
/-- The reference's lexicon while it is built. -/
structure RSt (w wr : World) (N : Nat) (vW vC : Value) (ws : List Wd) (cs : List Nat) : Prop where
  below : Below w.heap.size w wr
  res : wr.heap[N]? = some (.cells #[.slice none 0 0, .slice none 0 0] 33 (0, 0))
  box : wr.heap[N + 1]? = some (.cells #[vW, vC] 33 (0, 0))
  ow : wr.ownsRow (N + 2) 9 1 vW ws.length (sv ws)
  oc : wr.ownsRow (N + 2) 3 1 vC cs.length (iv cs)
theorem RSt.size {w wr : World} {N : Nat} {vW vC : Value} {ws : List Wd} {cs : List Nat} (h : RSt w wr N vW vC ws cs) : N + 2 ≤ wr.heap.size := (Array.getElem?_eq_some_iff.1 h.box).1
theorem RSt.keep {w wr W : World} {N : Nat} {vW vC : Value} {ws : List Wd} {cs : List Nat} (h : RSt w wr N vW vC ws cs) (hb : Below wr.heap.size wr W) : RSt w W N vW vC ws cs := by
  have hs := h.size
  exact ⟨h.below.trans (hb.mono h.below.size), block_below h.res hb (by omega), block_below h.box hb (by omega), own_below' (N := N) h.ow hb, own_below' (N := N) h.oc hb⟩
theorem own_store {w : World} {base n B i : Nat} {T : TypeId} {v u : Value} {F : List Value} (h : w.ownsRow base T 1 v n F) (hB : B < base) : (w.setCell ⟨B, i, none⟩ u).ownsRow base T 1 v n F :=
  own_below h fun k hk => Below.heap_setCell _ _ _ k (by have := (own_low h k hk).1; show k ≠ B; omega)
theorem RSt.storeW {w wr : World} {N : Nat} {vW vC v3 : Value} {ws ws2 : List Wd} {cs : List Nat} (h : RSt w wr N vW vC ws cs) (hN : w.heap.size = N) (ho : wr.ownsRow (N + 2) 9 1 v3 ws2.length (sv ws2)) : RSt w (wr.setCell ⟨N + 1, 0, none⟩ v3) N v3 vC ws2 cs :=
  ⟨h.below.trans ⟨rfl, rfl, rfl, by simp [World.setCell], fun k hk => Below.heap_setCell _ _ _ k (by show k ≠ N + 1; omega)⟩, block_other _ h.res (by omega), by have := set_of h.box (i := 0) v3; exact this, own_store ho (by omega), own_store h.oc (by omega)⟩
theorem RSt.storeC {w wr : World} {N : Nat} {vW vC v3 : Value} {ws : List Wd} {cs cs2 : List Nat} (h : RSt w wr N vW vC ws cs) (hN : w.heap.size = N) (ho : wr.ownsRow (N + 2) 3 1 v3 cs2.length (iv cs2)) : RSt w (wr.setCell ⟨N + 1, 1, none⟩ v3) N vW v3 ws cs2 :=
  ⟨h.below.trans ⟨rfl, rfl, rfl, by simp [World.setCell], fun k hk => Below.heap_setCell _ _ _ k (by show k ≠ N + 1; omega)⟩, block_other _ h.res (by omega), by have := set_of h.box (i := 1) v3; exact this, own_store h.ow (by omega), own_store ho (by omega)⟩
theorem RSt.inc {w wr : World} {N g n cap : Nat} {vW : Value} {ws : List Wd} {cs : List Nat} (h : RSt w wr N vW (.slice (some ⟨g, 0, none⟩) n cap) ws cs) (hN : w.heap.size = N) (hn : cs.length = n) {i : Nat} (hi : i < n) (d : Nat) : RSt w (wr.setCell ⟨g, i, none⟩ (.int .i64 (d : Int))) N vW (.slice (some ⟨g, 0, none⟩) n cap) ws (cs.set i d) := by
  have hg : N + 2 ≤ g := (own_low h.oc g rfl).1
  have hoc := h.oc
  rw [hn] at hoc
  have e : (iv cs).set i (.int .i64 (d : Int)) = iv (cs.set i d) := by simp [iv, List.map_set]
  refine ⟨h.below.trans ⟨rfl, rfl, rfl, by simp [World.setCell], fun k hk => Below.heap_setCell _ _ _ k (by show k ≠ g; omega)⟩, block_other _ h.res (by omega), block_other _ h.box (by omega), ?_, ?_⟩
  · refine own_below h.ow fun k hk => Below.heap_setCell _ _ _ k ?_
    show k ≠ g
    intro ek
    subst ek
    rcases h.ow.2 with ⟨hv, _⟩ | ⟨g', cap', cur, hv, _, hh, _⟩
    · rw [hv] at hk; simp [Value.ownBlock] at hk
    · rw [hv] at hk
      simp only [Value.ownBlock, Option.some.injEq] at hk
      subst hk
      rcases hoc.2 with ⟨hv2, _⟩ | ⟨g2, cap2, cur2, hv2, _, hh2, _⟩
      · cases hv2
      · cases hv2
        rw [hh] at hh2
        injection hh2 with hh2
        injection hh2 with _ ht _
        exact absurd ht (by decide)
  · rw [List.length_set, hn, ← e]
    exact own_setV hoc hi _
theorem lex_take {vs : List Wd} {k : Nat} {x : Wd} (h : vs[k]? = some x) : lexW (vs.take (k + 1)) = addW (lexW (vs.take k)) x := by
  rw [List.take_add_one, h]
  exact lexW_snoc _ _
theorem take_snoc {vs : List Wd} {k : Nat} {x : Wd} (h : vs[k]? = some x) : vs.take (k + 1) = vs.take k ++ [x] := by rw [List.take_add_one, h]; rfl
theorem fnd_there {ws : List Wd} (hs : Asc ws) (v : Wd) : ws[fnd ws v]? = some v ↔ v ∈ ws := (fnd_mem hs).symm
theorem own_base {w : World} {b1 b2 : Nat} {e : TypeId} {size n : Nat} {v : Value} {xs : List Value} (h : w.ownsRow b2 e size v n xs) (hb : b1 ≤ b2) : w.ownsRow b1 e size v n xs := by
  rcases h.2 with hn | ⟨g, cap, cur, hv, hg, rest⟩
  · exact ⟨h.1, .inl hn⟩
  · exact ⟨h.1, .inr ⟨g, cap, cur, hv, Nat.le_trans hb hg, rest⟩⟩
theorem put_len {ws : List Wd} {x : Wd} {m k : Nat} (hm : ws.length = m) (hk : fnd ws x = k) (hkm : k ≤ m) : 0 + k + 1 + (m - k) = (putW ws x).length := by
  unfold putW
  rw [hk, List.length_append, List.length_cons, List.length_take, List.length_drop, hm]
  omega
theorem put_sv {ws : List Wd} {x : Wd} {k : Nat} {T : ByteArray} (hk : fnd ws x = k) (hT : (⟨x.toArray⟩ : ByteArray) = T) : [] ++ (sv ws).take k ++ [.string T] ++ (sv ws).drop k = sv (putW ws x) := by
  unfold putW
  rw [hk, ← hT, sv_take, sv_drop]
  simp [sv]
theorem mid_len {cs : List Nat} {m k y : Nat} (hm : cs.length = m) (hkm : k ≤ m) : (cs.take k ++ y :: cs.drop k).length = m + 1 := by
  rw [List.length_append, List.length_cons, List.length_take, List.length_drop, hm]
  omega
theorem put_iv (cs : List Nat) (k : Nat) : [] ++ (iv cs).take k ++ [.int .i64 0] ++ (iv cs).drop k = iv (cs.take k ++ 0 :: cs.drop k) := by
  rw [iv_take, iv_drop]
  simp [iv]
theorem mid_at (cs : List Nat) {k y : Nat} (hk : k ≤ cs.length) : (cs.take k ++ y :: cs.drop k)[k]? = some y := by
  rw [List.getElem?_append_right (by rw [List.length_take]; omega), List.length_take, Nat.min_eq_left hk, Nat.sub_self]
  rfl
theorem mid_set (cs : List Nat) {k : Nat} (hk : k ≤ cs.length) (y z : Nat) : (cs.take k ++ y :: cs.drop k).set k z = cs.take k ++ z :: cs.drop k := by
  have hl : (cs.take k).length = k := by rw [List.length_take]; omega
  rw [List.set_append, hl, if_neg (Nat.lt_irrefl k), Nat.sub_self]
  rfl
/-- What the reference's Build answers. -/
def RefBV (w : World) (vs : List Wd) (e : Ending) (w' : World) : Prop :=
  Below w.heap.size w w' ∧ ((buildE vs ≠ 0 ∧ e = .returned (.tuple #[.agg #[.slice none 0 0, .slice none 0 0], .slice none 0 0, .int .i64 (buildE vs)])) ∨
    (buildE vs = 0 ∧ ∃ vW vC vl, e = .returned (.tuple #[.agg #[vW, vC], vl, .int .i64 0]) ∧ Rows 1 EStr w' vW (lexW vs) ∧ Rows 1 EInt w' vC (intsN (cntW vs (lexW vs))) ∧ Rows 1 EInt w' vl (intsN (numW vs))))
theorem refB_bad {w W : World} {vs : List Wd} {z : Int} (hb : Below w.heap.size w W) (hz : buildE vs = z) (h0 : z ≠ 0) : RefBV w vs (.returned (.tuple #[.agg #[.slice none 0 0, .slice none 0 0], .slice none 0 0, .int .i64 z])) W :=
  ⟨hb, .inl ⟨by rw [hz]; exact h0, by rw [hz]⟩⟩

set_option maxRecDepth 100000 in
set_option maxHeartbeats 16000000 in
theorem refBuild_any {w : World} {v : Value} {vs : List Wd} (hv : Rows 1 EStr w v vs) (hlen : vs.length ≤ maxLen) (hsz : ∀ x ∈ vs, x.length ≤ maxLen) : Calls Try.prog 23 #[v] w (RefBV w vs) := by
  have HV := Lib.hid (fun W (hb : Below w.heap.size w W) => hv.below stays_str hb)
  obtain ⟨A, cap, rfl, hc⟩ := hv.form
  obtain ⟨n, hcn⟩ : ∃ n, vs.length = n := ⟨_, rfl⟩
  rw [hcn] at hlen HV ⊢
  unfold maxLen at hlen
  have HSZ := Lib.hid hsz
  have HCN := Lib.hid hcn
  obtain ⟨N, hN⟩ : ∃ N, w.heap.size = N := ⟨_, rfl⟩
  obtain ⟨W0, hW0⟩ : ∃ W0, w.alloc (.cells #[.slice none 0 0, .slice none 0 0] 33) = W0 := ⟨_, rfl⟩
  have hW0b : W0.heap[N]? = some (.cells #[.slice none 0 0, .slice none 0 0] 33 (0, 0)) := by rw [← hW0, ← hN]; exact block_new _ _
  have hW0l : Below w.heap.size w W0 := by rw [← hW0]; exact below_box _ _
  have hW0s : W0.heap.size = N + 1 := by rw [← hW0, ← hN]; simp
  have p0 : W0.cell? ⟨N, 0, none⟩ = some (.slice none 0 0) := cell_of hW0b rfl
  have p1 : W0.cell? ⟨N, 1, none⟩ = some (.slice none 0 0) := cell_of hW0b rfl
  have q0 : W0.frozen? ⟨N, 0, none⟩ = false := frozen_of hW0b
  have q1 : W0.frozen? ⟨N, 1, none⟩ = false := frozen_of hW0b
  have HW0 := Lib.hid hW0
  have HN := Lib.hid hN
  have HW0B := Lib.hid (And.intro hW0b (And.intro hW0l hW0s))
  by_cases hbig : 4096 < n
  · have hI : (4096 : Int) < (n : Int) := by omega
    have hE : buildE vs = 2 := by unfold buildE; rw [if_pos (by omega)]
    have HE := Lib.hid hE
    clear hE hv hsz hcn hN hW0 hW0b hW0l hW0s
    go_enter Try.func23, Try.ntmps23
    go_upto_region 1 with fail
    rw [HW0.out, HN.out]
    go_wp2_with fail
    refine bodyPost_ret (refB_results rfl rfl rfl (by have := set_of (set_of HW0B.out.1 (i := 0) (.slice none 0 0)) (i := 1) (.slice none 0 0); exact this)) rfl ?_
    exact refB_bad ((HW0B.out.2.1.setCell (p := ⟨N, 0, none⟩) (by rw [HN.out]; exact Nat.le_refl _) _).setCell (p := ⟨N, 1, none⟩) (by rw [HN.out]; exact Nat.le_refl _) _) HE.out (by decide)
  · have hI : ¬ (4096 : Int) < (n : Int) := by omega
    have hE0 : buildE vs = if errL vs ≠ 0 then errL vs else if 1024 < (lexW vs).length then 2 else 0 := by unfold buildE; rw [if_neg (by omega)]
    have HE0 := Lib.hid hE0
    obtain ⟨W1, hW1⟩ : ∃ W1, W0.alloc (.cells #[.slice none 0 0, .slice none 0 0] 33) = W1 := ⟨_, rfl⟩
    have HST0 := Lib.hid (show RSt w W1 N (.slice none 0 0) (.slice none 0 0) (lexW (vs.take 0)) (cntW (vs.take 0) (lexW (vs.take 0))) by
      have hbx := below_box W0 (.cells #[.slice none 0 0, .slice none 0 0] 33)
      have hn2 := block_new W0 (.cells #[.slice none 0 0, .slice none 0 0] 33)
      rw [hW1] at hbx hn2
      rw [hW0s] at hn2
      exact ⟨hW0l.trans (hbx.mono (by rw [hW0s, hN]; omega)), block_below hW0b hbx (by omega), hn2, World.ownsRow_nil _ _ _ _, World.ownsRow_nil _ _ _ _⟩)
    have HW1 := Lib.hid hW1
    obtain ⟨i0, hi, hz0, hz1, hz2⟩ := info_parts' Try.infoStr2
    obtain ⟨j0, hj, hy0, hy1, hy2⟩ := info_parts' Try.infoInt2
    clear hE0 hv hsz hcn hN hW0 hW0b hW0l hW0s hW1 p0 p1 q0 q1
    go_enter Try.func23, Try.ntmps23
    go_upto_region 1 with fail
    rw [HW0.out, HN.out]
    go_wp2_with fail
    rw [HW0B.out.2.2, HW1.out]
    go_loopg [22] n (fun gg sv' wr => ∃ s : Nat, sv' = .int .i64 s ∧ s ≤ n ∧ n - s ≤ gg ∧ Hid ((∃ vW vC, RSt w wr N vW vC (lexW (vs.take s)) (cntW (vs.take s) (lexW (vs.take s)))) ∧ ∀ x ∈ vs.take s, chkW x = 0))
    case atStart => exact ⟨0, rfl, Nat.zero_le _, Nat.le_refl _, Lib.hid ⟨⟨_, _, HST0.out⟩, fun x hx => by simp at hx⟩⟩
    case round =>
      clear HST0 HW0 HW1 HW0B
      obtain ⟨s, rfl, hsn, hgs, HR⟩ := hrel
      obtain ⟨⟨vW, vC, hst⟩, hall⟩ := HR.out
      have HST := Lib.hid hst
      have HALL := Lib.hid hall
      clear HR hst hall
      by_cases hlt : s < n
      · have hlti : (s : Int) < (n : Int) := by omega
        obtain ⟨x, hx⟩ : ∃ x, vs[s]? = some x := ⟨_, List.getElem?_eq_getElem (by rw [HCN.out]; exact hlt)⟩
        obtain ⟨b1, o1, rfl, -, hj1⟩ := at_str (HV.out wr HST.out.below) (by rw [HCN.out]; omega)
        have u0 := hj1 s x hx
        have HX := Lib.hid hx
        obtain ⟨T, hT⟩ : ∃ T : ByteArray, (⟨x.toArray⟩ : ByteArray) = T := ⟨_, rfl⟩
        have hTs : T.size = x.length := by rw [← hT]; rfl
        have HT' := Lib.hid hT
        have HTS := Lib.hid hTs
        rw [hT] at u0
        have r0 : wr.cell? ⟨N, 0, none⟩ = some (.slice none 0 0) := cell_of HST.out.res rfl
        have r1 : wr.cell? ⟨N, 1, none⟩ = some (.slice none 0 0) := cell_of HST.out.res rfl
        have f0 : wr.frozen? ⟨N, 0, none⟩ = false := frozen_of HST.out.res
        have f1 : wr.frozen? ⟨N, 1, none⟩ = false := frozen_of HST.out.res
        have HJ := Lib.hid (And.intro hlt hgs)
        clear hj1 hx hT hTs
        by_cases hlong : 120 < T.size
        · have hlongI : (120 : Int) < (T.size : Int) := by omega
          have hch : chkW x = 2 := by unfold chkW; rw [if_pos (by rw [← HTS.out]; exact hlong)]
          have HEE := Lib.hid (show buildE vs = 2 by
            have e := errL_take vs s x HALL.out HX.out (by rw [hch]; decide)
            rw [hch] at e
            rw [HE0.out, e, if_pos (by decide)])
          clear hch
          go_wp2_with fail
          refine bodyPost_ret (refB_results rfl rfl rfl (by have := set_of (set_of HST.out.res (i := 0) (.slice none 0 0)) (i := 1) (.slice none 0 0); exact this)) rfl ?_
          exact refB_bad ((HST.out.below.setCell (p := ⟨N, 0, none⟩) (by rw [HN.out]; exact Nat.le_refl _) _).setCell (p := ⟨N, 1, none⟩) (by rw [HN.out]; exact Nat.le_refl _) _) HEE.out (by decide)
        · have hlongI : ¬ (120 : Int) < (T.size : Int) := by omega
          have hval := Ru.refValid_any T (by omega) wr
          rw [show ((units T).all fun u => !badU u) = validW x by rw [← HT'.out]; rfl] at hval
          have HVAL := Lib.hid hval
          clear hval
          cases hvq : validW x with
          | false =>
            rw [hvq] at HVAL
            have hch : chkW x = 7 := by unfold chkW; rw [if_neg (by rw [← HTS.out]; exact hlong), hvq]; rfl
            have HEE := Lib.hid (show buildE vs = 7 by
              have e := errL_take vs s x HALL.out HX.out (by rw [hch]; decide)
              rw [hch] at e
              rw [HE0.out, e, if_pos (by decide)])
            clear hch hvq r0 r1 f0 f1
            go_wp2_with fail
            refine HVAL.out.mono ?_
            rintro e w3 ⟨rfl, hb⟩
            have HS3 := Lib.hid (HST.out.keep hb)
            have r0 : w3.cell? ⟨N, 0, none⟩ = some (.slice none 0 0) := cell_of HS3.out.res rfl
            have r1 : w3.cell? ⟨N, 1, none⟩ = some (.slice none 0 0) := cell_of HS3.out.res rfl
            have f0 : w3.frozen? ⟨N, 0, none⟩ = false := frozen_of HS3.out.res
            have f1 : w3.frozen? ⟨N, 1, none⟩ = false := frozen_of HS3.out.res
            clear hb HVAL u0
            go_wp2_with fail
            refine bodyPost_ret (refB_results rfl rfl rfl (by have := set_of (set_of HS3.out.res (i := 0) (.slice none 0 0)) (i := 1) (.slice none 0 0); exact this)) rfl ?_
            exact refB_bad ((HS3.out.below.setCell (p := ⟨N, 0, none⟩) (by rw [HN.out]; exact Nat.le_refl _) _).setCell (p := ⟨N, 1, none⟩) (by rw [HN.out]; exact Nat.le_refl _) _) HEE.out (by decide)
          | true =>
            rw [hvq] at HVAL
            have hch : chkW x = 0 := by unfold chkW; rw [if_neg (by rw [← HTS.out]; exact hlong), hvq]; rfl
            have HCH := Lib.hid hch
            clear hch hvq r0 r1 f0 f1
            go_wp2_with fail
            refine HVAL.out.mono ?_
            rintro e w3 ⟨rfl, hb⟩
            have HS3 := Lib.hid (HST.out.keep hb)
            have hlx : (lexW (vs.take s)).length ≤ 4096 := by have := lex_len (vs.take s); rw [List.length_take] at this; omega
            have HF := Lib.hid (refFind_any (w := w3) (vc := vC) (rows_sv HS3.out.ow) (by unfold maxLen; omega) x)
            obtain ⟨ws, hws⟩ : ∃ ws, lexW (vs.take s) = ws := ⟨_, rfl⟩
            obtain ⟨cs, hcs⟩ : ∃ cs, cntW (vs.take s) ws = cs := ⟨_, rfl⟩
            rw [hws] at HS3 HF hlx
            rw [hcs] at HS3
            have HWS := Lib.hid hws
            have HCS := Lib.hid hcs
            have hasc : Asc ws := by rw [← hws]; exact lex_asc _
            have hcl : cs.length = ws.length := by rw [← hcs]; simp [cntW]
            obtain ⟨A1, c1, hv1, hc1, hg1⟩ := own_form' HS3.out.ow
            obtain ⟨A2, c2, hv2, hc2, hg2⟩ := own_form' HS3.out.oc
            subst hv1 hv2
            obtain ⟨m, hm⟩ : ∃ m, ws.length = m := ⟨_, rfl⟩
            obtain ⟨k, hk⟩ : ∃ k, fnd ws x = k := ⟨_, rfl⟩
            have hkm : k ≤ m := by rw [← hk, ← hm]; exact fnd_le _ _
            unfold FindV at HF
            rw [hk, HT'.out] at HF
            rw [hcl, hm] at HS3 HF hc2 hg2
            rw [hm] at hc1 hlx
            have d0 : w3.cell? ⟨N + 1, 0, none⟩ = some (.slice A1 m c1) := cell_of HS3.out.box rfl
            have d1 : w3.cell? ⟨N + 1, 1, none⟩ = some (.slice A2 m c2) := cell_of HS3.out.box rfl
            have HM := Lib.hid hm
            have HK := Lib.hid hk
            have HCL := Lib.hid (show cs.length = m by rw [hcl, hm])
            have HASC := Lib.hid hasc
            have HG2 := Lib.hid hg2
            have HTH := Lib.hid (fnd_there hasc x)
            clear hb HVAL u0 HST hws hcs hasc hcl hm hk hg1 hg2
            go_wp2_with fail
            refine HF.out.mono ?_
            rintro e w4 ⟨rfl, hb4⟩
            have HS4 := Lib.hid (HS3.out.keep hb4)
            clear hb4 HS3 HF d0 d1
            by_cases hin : ws[k]? = some x
            · rw [decide_eq_true hin]
              have hkl : k < m := by rw [← HM.out]; exact (List.getElem?_eq_some_iff.1 hin).1
              have hmem : x ∈ ws := HTH.out.1 (by rw [HK.out]; exact hin)
              obtain ⟨c, hcx⟩ : ∃ c, cs[k]? = some c := ⟨_, List.getElem?_eq_getElem (by rw [HCL.out]; exact hkl)⟩
              obtain ⟨g, hA2, hgb, -⟩ := HG2.out (by omega)
              subst hA2
              have hoc := HS4.out.oc
              have kst : w4.cell? ⟨g, k, none⟩ = some (.int .i64 (c : Int)) := by
                rw [HCL.out] at hoc
                rw [hoc.cellAt k (by omega)]
                simp [iv, hcx]
              have fst : w4.frozen? ⟨g, k, none⟩ = false := by
                obtain ⟨_, _, e, _, hg⟩ := own_form' hoc
                cases e
                obtain ⟨g', e', _, cur, hh⟩ := hg (by rw [HCL.out]; omega)
                cases e'
                exact frozen_of hh
              have hcval : c = (vs.take s).count x := by
                have := hcx
                rw [← HCS.out] at this
                unfold cntW at this
                rw [List.getElem?_map, hin] at this
                simpa using this.symm
              have hcle : c ≤ s := by rw [hcval]; exact Nat.le_trans (count_le_len _ _) (by simp; omega)
              have hw1 : IntKind.i64.wrap ((c : Int) + 1) = ((c + 1 : Nat) : Int) := by rw [IntKind.wrap_i64]; omega
              have HNX := Lib.hid (show RSt w (w4.setCell ⟨g, k, none⟩ (.int .i64 ((c + 1 : Nat) : Int))) N (.slice A1 m c1) (.slice (some ⟨g, 0, none⟩) m c2) (lexW (vs.take (s + 1))) (cntW (vs.take (s + 1)) (lexW (vs.take (s + 1)))) by
                have h1 : lexW (vs.take (s + 1)) = ws := by rw [lex_take HX.out, HWS.out]; unfold addW; rw [if_pos hmem]
                rw [h1, take_snoc HX.out, cnt_old HASC.out hmem, HK.out, HCS.out, ← hcval]
                exact HS4.out.inc HN.out HCL.out hkl (c + 1))
              have HALL2 := Lib.hid (show ∀ y ∈ vs.take (s + 1), chkW y = 0 from fun y hy => by
                rw [take_snoc HX.out] at hy
                rcases List.mem_append.1 hy with e | e
                · exact HALL.out y e
                · simp at e; rw [e]; exact HCH.out)
              have d1 : w4.cell? ⟨N + 1, 1, none⟩ = some (.slice (some ⟨g, 0, none⟩) m c2) := cell_of HS4.out.box rfl
              have hkI : (k : Int) < (m : Int) := by omega
              obtain ⟨d, hd⟩ : ∃ d, d = c + 1 := ⟨_, rfl⟩
              rw [← hd] at hw1 HNX
              clear hin hmem hcx hoc hcval hcle hd HS4 hkl hlt hgs
              go_wp2_with fail
              go_roundg (n - (s + 1))
              case measure => have := HJ.out; omega
              case rel => exact ⟨s + 1, by go_num, by have := HJ.out; omega, Nat.le_refl _, Lib.hid ⟨⟨_, _, HNX.out⟩, HALL2.out⟩⟩
            · rw [decide_eq_false hin]
              have hnot : x ∉ ws := fun h => hin (by rw [← HK.out]; exact HTH.out.2 h)
              have HNOT := Lib.hid hnot
              have hs1 := sliceS_to A1 m c1 k hkm hc1
              have hs2 := sliceS_from A1 m c1 k hkm
              obtain ⟨vd, hvd⟩ : ∃ vd, sliced A1 k m c1 1 = vd := ⟨_, rfl⟩
              rw [hvd] at hs2
              have hse := (seesC_own HS4.out.ow).1
              have hsl : (sv ws).length = m := by rw [sv_len, HM.out]
              have HT := Lib.hid (fun W (h : Below w4.heap.size w4 W) => (sees_to hse hsl hkm).below h)
              have HD := Lib.hid (fun W (h : Below w4.heap.size w4 W) => (sees_from' hse hsl hkm).below h)
              rw [hvd] at HD
              have HTL := Lib.hid (show ((sv ws).take k).length = k by rw [List.length_take, hsl]; omega)
              have HDL := Lib.hid (show ((sv ws).drop k).length = m - k by rw [List.length_drop, hsl])
              have HT1 := Lib.hid (show ∀ u ∈ (sv ws).take k, u.oneCell' = true from fun u hu => sv_one ws u (List.mem_of_mem_take hu))
              have HD1 := Lib.hid (show ∀ u ∈ (sv ws).drop k, u.oneCell' = true from fun u hu => sv_one ws u (List.mem_of_mem_drop hu))
              have HBX := Lib.hid (fun W (h : Below w4.heap.size w4 W) => (show W.cell? ⟨N + 1, 0, none⟩ = some (.slice A1 m c1) ∧ W.frozen? ⟨N + 1, 0, none⟩ = false from ⟨cell_of (HS4.out.keep h).box rfl, frozen_of (HS4.out.keep h).box⟩))
              have HN4 := Lib.hid (show N + 2 ≤ w4.heap.size from HS4.out.size)
              have d0 := (HBX.out w4 (Below.refl _ _)).1
              have HMEM := Lib.hid (show ∀ y, y ∈ ws ↔ y ∈ vs.take s from fun y => by rw [← HWS.out]; exact lex_mem _ _)
              have HALL2 := Lib.hid (show ∀ y ∈ vs.take (s + 1), chkW y = 0 from fun y hy => by
                rw [take_snoc HX.out] at hy
                rcases List.mem_append.1 hy with e | e
                · exact HALL.out y e
                · simp at e; rw [e]; exact HCH.out)
              clear hin hnot hvd hse hsl hlt hgs HTH
              go_wp2_with fail
              refine wp_region_Z (z := 14) (S := (fun w' => w'.cell? ⟨N + 1, 0, none⟩ = some (Value.slice A1 m c1))) (by kernel_rfl) ?_ (fun hHeld => ?_)
              · (try dsimp only); exact (HBX.out _ (Below.refl _ _).drew).1
              refine wpAnyZ_take (i := 0) (oi := ?oi1) (v := ?v1) ?hi1 (by kernel_rfl) (by kernel_rfl) (by kernel_rfl) (by kernel_rfl) ?hq1 ?hy1 (by assumption) ?hr1
              case hi1 => (simp only [List.getElem?_toArray, List.getElem?_cons_zero]; rfl)
              case hq1 => exact fun _ _ _ h => h
              case hy1 => exact Or.inl ⟨by rfl, by intro whSw hSw'; (try dsimp only at hSw'); (first | (go_simp; done) | (go_simp; with_reducible rfl))⟩
              try simp only [Act.put, List.setIfInBounds_toArray, List.set_cons_zero, List.set_cons_succ]
              refine wpAnyZ_take (i := 1) (oi := ?oi2) (v := ?v2) ?hi2 (by kernel_rfl) (by kernel_rfl) (by kernel_rfl) (by kernel_rfl) ?hq2 ?hy2 (by assumption) ?hr2
              case hi2 => (simp only [List.getElem?_toArray, List.getElem?_cons_succ, List.getElem?_cons_zero]; rfl)
              case hq2 => exact fun _ _ _ h => h
              case hy2 => exact Or.inl ⟨by rfl, by intro whSw hSw'; (try dsimp only at hSw'); (first | (go_simp; done) | (go_simp; with_reducible rfl))⟩
              try simp only [Act.put, List.setIfInBounds_toArray, List.set_cons_zero, List.set_cons_succ]
              refine wpAnyZ_take (i := 2) (oi := ?oi3) (v := ?v3) ?hi3 (by kernel_rfl) (by kernel_rfl) (by kernel_rfl) (by kernel_rfl) ?hq3 ?hy3 (by assumption) ?hr3
              case hi3 => (simp only [List.getElem?_toArray, List.getElem?_cons_succ, List.getElem?_cons_zero]; rfl)
              case hq3 => exact fun _ _ _ h => h
              case hy3 => exact Or.inl ⟨by rfl, by intro whSw hSw'; (try dsimp only at hSw'); (first | (go_simp; done) | (go_simp; with_reducible rfl))⟩
              try simp only [Act.put, List.setIfInBounds_toArray, List.set_cons_zero, List.set_cons_succ]
              refine wpAnyZ_take (i := 3) (oi := ?oi4) (v := ?v4) ?hi4 (by kernel_rfl) (by kernel_rfl) (by kernel_rfl) (by kernel_rfl) ?hq4 ?hy4 (by assumption) ?hr4
              case hi4 => (simp only [List.getElem?_toArray, List.getElem?_cons_succ, List.getElem?_cons_zero]; rfl)
              case hq4 => exact fun _ _ _ h => h
              case hy4 => exact Or.inl ⟨by rfl, by intro whSw hSw'; (try dsimp only at hSw'); (first | (go_simp; done) | (go_simp; with_reducible rfl))⟩
              try simp only [Act.put, List.setIfInBounds_toArray, List.set_cons_zero, List.set_cons_succ]
              refine wpAnyZ_take (i := 5) (oi := ?oi5) (v := ?v5) ?hi5 (by kernel_rfl) (by kernel_rfl) (by kernel_rfl) (by kernel_rfl) ?hq5 ?hy5 (by assumption) ?hr5
              case hi5 => (simp only [List.getElem?_toArray, List.getElem?_cons_succ, List.getElem?_cons_zero]; rfl)
              case hq5 => exact fun _ _ _ h => h
              case hy5 => exact Or.inl ⟨by rfl, by intro whSw hSw'; (try dsimp only at hSw'); (first | (go_simp; done) | (go_simp; with_reducible rfl))⟩
              try simp only [Act.put, List.setIfInBounds_toArray, List.set_cons_zero, List.set_cons_succ]
              refine wpAnyZ_take (i := 8) (oi := ?oi6) (v := ?v6) ?hi6 (by kernel_rfl) (by kernel_rfl) (by kernel_rfl) (by kernel_rfl) ?hq6 ?hy6 (by assumption) ?hr6
              case hi6 => (simp only [List.getElem?_toArray, List.getElem?_cons_succ, List.getElem?_cons_zero]; rfl)
              case hq6 => exact fun _ _ _ h => h
              case hy6 => exact Or.inl ⟨by rfl, by intro whSw hSw'; (try dsimp only at hSw'); (first | (go_simp; done) | (go_simp; with_reducible rfl))⟩
              try simp only [Act.put, List.setIfInBounds_toArray, List.set_cons_zero, List.set_cons_succ]
              refine wpAnyZ_take (i := 9) (oi := ?oi7) (v := ?v7) ?hi7 (by kernel_rfl) (by kernel_rfl) (by kernel_rfl) (by kernel_rfl) ?hq7 ?hy7 (by assumption) ?hr7
              case hi7 => (simp only [List.getElem?_toArray, List.getElem?_cons_succ, List.getElem?_cons_zero]; rfl)
              case hq7 => exact fun _ _ _ h => h
              case hy7 => exact Or.inl ⟨by rfl, by intro whSw hSw'; (try dsimp only at hSw'); (first | (go_simp; done) | (go_simp; with_reducible rfl))⟩
              try simp only [Act.put, List.setIfInBounds_toArray, List.set_cons_zero, List.set_cons_succ]
              refine wpAnyZ_take (i := 10) (oi := ?oi8) (v := ?v8) ?hi8 (by kernel_rfl) (by kernel_rfl) (by kernel_rfl) (by kernel_rfl) ?hq8 ?hy8 (by assumption) ?hr8
              case hi8 => (simp only [List.getElem?_toArray, List.getElem?_cons_succ, List.getElem?_cons_zero]; rfl)
              case hq8 => exact fun _ _ _ h => h
              case hy8 => exact Or.inl ⟨by rfl, by intro whSw hSw'; (try dsimp only at hSw'); (first | (go_simp; done) | (go_simp; with_reducible rfl))⟩
              try simp only [Act.put, List.setIfInBounds_toArray, List.set_cons_zero, List.set_cons_succ]
              refine wpAnyZ_take (i := 11) (oi := ?oi9) (v := ?v9) ?hi9 (by kernel_rfl) (by kernel_rfl) (by kernel_rfl) (by kernel_rfl) ?hq9 ?hy9 (by assumption) ?hr9
              case hi9 => (simp only [List.getElem?_toArray, List.getElem?_cons_succ, List.getElem?_cons_zero]; rfl)
              case hq9 => exact fun _ _ _ h => h
              case hy9 => exact Or.inl ⟨by rfl, by intro whSw hSw'; (try dsimp only at hSw'); (first | (go_simp; done) | (go_simp; with_reducible rfl))⟩
              try simp only [Act.put, List.setIfInBounds_toArray, List.set_cons_zero, List.set_cons_succ]
              refine wpAnyZ_ready (rs := [4, 6]) (by kernel_rfl) (by simp) ?_
              refine AllReadyZ.cons (o := ?oo10) ?hi10 (fun K hK => ?hs10) ?hm10
              case hi10 => (simp only [List.getElem?_toArray, List.getElem?_cons_succ, List.getElem?_cons_zero]; rfl)
              · refine step_append_any rfl (.const (.slice none 0 0)) (.tmp 45) 29 rfl w4.heap.size 9 i0 _ 16 Try.underlying29 hi hz0 hz1 hz2 rfl _ 0 [] rfl (World.ownsRow_nil _ _ _ _) _ w4.heap.size ((sv ws).take k) rfl (by first | exact HT.out _ (Below.refl _ _).drew | exact HT.out _ ((Below.refl _ _).drew.alloc (Nat.le_refl _) _)) HT1.out (by rw [HTL.out]; unfold maxLen; omega) (by rw [HTL.out]; omega) (by first | exact Nat.le_refl _ | simp) ?_
                intro va1 wa1 hown1 hg1 _
                rw [HTL.out] at hown1
                have HO1 := Lib.hid hown1
                have HG1 := Lib.hid hg1
                have HZ1 : Hid (Below w4.heap.size w4 wa1) := Lib.hid (by first | exact (Below.refl _ _).drew.grown hg1 (Nat.le_refl _) (fun k e => nomatch (show (none : Option Nat) = some k from e)) | exact ((Below.refl _ _).drew.alloc (Nat.le_refl _) _).grown hg1 (by simp) (fun k e => nomatch (show (none : Option Nat) = some k from e)))
                clear hown1 hg1
                refine hK.out _ _ ?_ (fun hHeld => ?_)
                · (try dsimp only); first | exact (HBX.out _ HZ3.out).1 | exact (HBX.out _ HZ2.out).1 | exact (HBX.out _ HZ1.out).1 | exact (HBX.out _ (HZ1.out.alloc HZ1.out.size _)).1 | exact (HBX.out _ (Below.refl _ _).drew).1 | exact (HBX.out _ ((Below.refl _ _).drew.alloc (Nat.le_refl _) _)).1
                clear hK K
                try simp only [Act.put, List.setIfInBounds_toArray, List.set_cons_zero, List.set_cons_succ]
                refine wpAnyZ_ready (rs := [6]) (by kernel_rfl) (by simp) ?_
                refine AllReadyZ.cons (o := ?oo11) ?hi11 (fun K hK => ?hs11) ?hm11
                case hi11 => (simp only [List.getElem?_toArray, List.getElem?_cons_succ, List.getElem?_cons_zero]; rfl)
                · go_simp
                  refine hK.out _ _ ?_ (fun hHeld => ?_)
                  · (try dsimp only); first | exact (HBX.out _ HZ3.out).1 | exact (HBX.out _ HZ2.out).1 | exact (HBX.out _ HZ1.out).1 | exact (HBX.out _ (HZ1.out.alloc HZ1.out.size _)).1 | exact (HBX.out _ (Below.refl _ _).drew).1 | exact (HBX.out _ ((Below.refl _ _).drew.alloc (Nat.le_refl _) _)).1
                  clear hK K
                  try simp only [Act.put, List.setIfInBounds_toArray, List.set_cons_zero, List.set_cons_succ]
                  refine wpAnyZ_ready (rs := [7]) (by kernel_rfl) (by simp) ?_
                  refine AllReadyZ.cons (o := ?oo12) ?hi12 (fun K hK => ?hs12) ?hm12
                  case hi12 => (simp only [List.getElem?_toArray, List.getElem?_cons_succ, List.getElem?_cons_zero]; rfl)
                  · refine step_append_any rfl (.tmp 46) (.tmp 48) 29 rfl w4.heap.size 9 i0 _ 16 Try.underlying29 hi hz0 hz1 hz2 rfl _ (0 + k) _ rfl (by first | exact HO1.out | exact HO1.out.alloc _) _ _ [.string T] rfl (by first | exact sees_val _ _ _ | exact (sees_val w4 (.string T) 9).below ((Below.refl _ _).drew.grown HG1.out (Nat.le_refl _) (fun k e => nomatch (show (none : Option Nat) = some k from e))) | exact (sees_val w4.drew (.string T) 9).below ((Below.refl _ _).grown HG1.out (Nat.le_refl _) (fun k e => nomatch (show (none : Option Nat) = some k from e)))) (by simp [Value.oneCell']) (by show 0 + k + 1 ≤ _; unfold maxLen; omega) (by show (0 + k + 1) * 16 ≤ _; omega) (by have := HZ1.out.size; first | exact this | (simp; omega)) ?_
                    intro va2 wa2 hown2 hg2 _
                    have HO2 := Lib.hid hown2
                    have HZ2 : Hid (Below w4.heap.size w4 wa2) := Lib.hid (by first | exact HZ1.out.grown hg2 HZ1.out.size (fun k e => (own_low HO1.out k e).1) | exact (HZ1.out.alloc HZ1.out.size _).grown hg2 (by have := HZ1.out.size; simp; omega) (fun k e => (own_low HO1.out k e).1))
                    clear hown2 hg2
                    refine hK.out _ _ ?_ (fun hHeld => ?_)
                    · (try dsimp only); first | exact (HBX.out _ HZ3.out).1 | exact (HBX.out _ HZ2.out).1 | exact (HBX.out _ HZ1.out).1 | exact (HBX.out _ (HZ1.out.alloc HZ1.out.size _)).1 | exact (HBX.out _ (Below.refl _ _).drew).1 | exact (HBX.out _ ((Below.refl _ _).drew.alloc (Nat.le_refl _) _)).1
                    clear hK K
                    try simp only [Act.put, List.setIfInBounds_toArray, List.set_cons_zero, List.set_cons_succ]
                    refine wpAnyZ_ready (rs := [12]) (by kernel_rfl) (by simp) ?_
                    refine AllReadyZ.cons (o := ?oo13) ?hi13 (fun K hK => ?hs13) ?hm13
                    case hi13 => (simp only [List.getElem?_toArray, List.getElem?_cons_succ, List.getElem?_cons_zero]; rfl)
                    · refine step_append_any rfl (.tmp 49) (.tmp 53) 29 rfl w4.heap.size 9 i0 _ 16 Try.underlying29 hi hz0 hz1 hz2 rfl _ (0 + k + 1) _ rfl HO2.out _ w4.heap.size ((sv ws).drop k) rfl (HD.out _ HZ2.out) HD1.out (by rw [HDL.out]; unfold maxLen; omega) (by rw [HDL.out]; omega) HZ2.out.size ?_
                      intro va3 wa3 hown3 hg3 _
                      rw [HDL.out] at hown3
                      obtain ⟨MH, h9⟩ : ∃ y, 0 + k + 1 + (m - k) = y := ⟨_, rfl⟩
                      rw [h9] at hown3
                      obtain ⟨AH, cH, e9, -, -⟩ := own_form' hown3
                      subst e9
                      have H9H := Lib.hid h9
                      have HO3 := Lib.hid hown3
                      have HZ3 : Hid (Below w4.heap.size w4 wa3) := Lib.hid (HZ2.out.grown hg3 HZ2.out.size (fun k e => (own_low HO2.out k e).1))
                      have s3 := (HBX.out wa3 HZ3.out).1
                      have f3 := (HBX.out wa3 HZ3.out).2
                      clear hown3 hg3 h9
                      refine hK.out _ _ ?_ (fun hHeld => ?_)
                      · (try dsimp only); first | exact (HBX.out _ HZ3.out).1 | exact (HBX.out _ HZ2.out).1 | exact (HBX.out _ HZ1.out).1 | exact (HBX.out _ (HZ1.out.alloc HZ1.out.size _)).1 | exact (HBX.out _ (Below.refl _ _).drew).1 | exact (HBX.out _ ((Below.refl _ _).drew.alloc (Nat.le_refl _) _)).1
                      clear hK K
                      try simp only [Act.put, List.setIfInBounds_toArray, List.set_cons_zero, List.set_cons_succ]
                      refine wpAnyZ_take (i := 13) (oi := ?oi14) (v := ?v14) ?hi14 (by kernel_rfl) (by kernel_rfl) (by kernel_rfl) (by kernel_rfl) ?hq14 ?hy14 (by assumption) ?hr14
                      case hi14 => (simp only [List.getElem?_toArray, List.getElem?_cons_succ, List.getElem?_cons_zero]; rfl)
                      case hq14 => exact fun _ _ _ h => h
                      case hy14 => exact Or.inl ⟨by rfl, by intro whSw hSw'; (try dsimp only at hSw'); (first | (go_simp; done) | (go_simp; with_reducible rfl))⟩
                      try simp only [Act.put, List.setIfInBounds_toArray, List.set_cons_zero, List.set_cons_succ]
                      refine wpAnyZ_ready (rs := [14]) (by kernel_rfl) (by simp) ?_
                      refine AllReadyZ.last (o := ?oo15) ?hi15 (fun K hK => ?hs15)
                      case hi15 => (simp only [List.getElem?_toArray, List.getElem?_cons_succ, List.getElem?_cons_zero]; rfl)
                      · go_simp
                        refine hK.out _ _ ?_
                        clear hK K
                        try simp only [Act.put, List.setIfInBounds_toArray, List.set_cons_zero, List.set_cons_succ]
                        refine wpAnyZ_done (by kernel_rfl) ?_ _
                        obtain ⟨w5, hw5⟩ : ∃ w5, wa3.setCell ⟨N + 1, 0, none⟩ (.slice AH MH cH) = w5 := ⟨_, rfl⟩
                        have HS5 := Lib.hid (show RSt w w5 N (.slice AH MH cH) (.slice A2 m c2) (putW ws x) cs from by
                          rw [← hw5]
                          exact (HS4.out.keep HZ3.out).storeW HN.out (own_eq (own_base HO3.out HN4.out) (by rw [← H9H.out]; exact put_len HM.out HK.out hkm) (put_sv HK.out HT'.out)))
                        rw [hw5]
                        clear hw5 HO1 HO2 HO3 HG1 HZ1 HZ2 HZ3 s3 f3 hHeld HT HTL HT1 HD HDL HD1 HBX HS4 hs1 hs2 d0 HN4
                        have hs1 := sliceI_to A2 m c2 k hkm hc2
                        have hs2 := sliceI_from A2 m c2 k hkm
                        obtain ⟨vd, hvd⟩ : ∃ vd, sliced A2 k m c2 1 = vd := ⟨_, rfl⟩
                        rw [hvd] at hs2
                        have hse := (seesC_own HS5.out.oc).1
                        have hsl : (iv cs).length = m := by rw [iv_len, HCL.out]
                        have JT := Lib.hid (fun W (h : Below w5.heap.size w5 W) => (sees_to hse hsl hkm).below h)
                        have JD := Lib.hid (fun W (h : Below w5.heap.size w5 W) => (sees_from' hse hsl hkm).below h)
                        rw [hvd] at JD
                        have JTL := Lib.hid (show ((iv cs).take k).length = k by rw [List.length_take, hsl]; omega)
                        have JDL := Lib.hid (show ((iv cs).drop k).length = m - k by rw [List.length_drop, hsl])
                        have JT1 := Lib.hid (show ∀ u ∈ (iv cs).take k, u.oneCell' = true from fun u hu => iv_one cs u (List.mem_of_mem_take hu))
                        have JD1 := Lib.hid (show ∀ u ∈ (iv cs).drop k, u.oneCell' = true from fun u hu => iv_one cs u (List.mem_of_mem_drop hu))
                        have JBX := Lib.hid (fun W (h : Below w5.heap.size w5 W) => (show W.cell? ⟨N + 1, 1, none⟩ = some (.slice A2 m c2) ∧ W.frozen? ⟨N + 1, 1, none⟩ = false from ⟨cell_of (HS5.out.keep h).box rfl, frozen_of (HS5.out.keep h).box⟩))
                        have JN5 := Lib.hid (show N + 2 ≤ w5.heap.size from HS5.out.size)
                        have d1 := (JBX.out w5 (Below.refl _ _)).1
                        clear hvd hse hsl
                        go_wp2_with fail
                        refine wp_region_Z (z := 13) (S := (fun w' => w'.cell? ⟨N + 1, 1, none⟩ = some (Value.slice A2 m c2))) (by kernel_rfl) ?_ (fun hHeld => ?_)
                        · (try dsimp only); exact (JBX.out _ (Below.refl _ _).drew).1
                        refine wpAnyZ_take (i := 0) (oi := ?oi1001) (v := ?v1001) ?hi1001 (by kernel_rfl) (by kernel_rfl) (by kernel_rfl) (by kernel_rfl) ?hq1001 ?hy1001 (by assumption) ?hr1001
                        case hi1001 => (simp only [List.getElem?_toArray, List.getElem?_cons_zero]; rfl)
                        case hq1001 => exact fun _ _ _ h => h
                        case hy1001 => exact Or.inl ⟨by rfl, by intro whSw hSw'; (try dsimp only at hSw'); (first | (go_simp; done) | (go_simp; with_reducible rfl))⟩
                        try simp only [Act.put, List.setIfInBounds_toArray, List.set_cons_zero, List.set_cons_succ]
                        refine wpAnyZ_take (i := 1) (oi := ?oi1002) (v := ?v1002) ?hi1002 (by kernel_rfl) (by kernel_rfl) (by kernel_rfl) (by kernel_rfl) ?hq1002 ?hy1002 (by assumption) ?hr1002
                        case hi1002 => (simp only [List.getElem?_toArray, List.getElem?_cons_succ, List.getElem?_cons_zero]; rfl)
                        case hq1002 => exact fun _ _ _ h => h
                        case hy1002 => exact Or.inl ⟨by rfl, by intro whSw hSw'; (try dsimp only at hSw'); (first | (go_simp; done) | (go_simp; with_reducible rfl))⟩
                        try simp only [Act.put, List.setIfInBounds_toArray, List.set_cons_zero, List.set_cons_succ]
                        refine wpAnyZ_take (i := 2) (oi := ?oi1003) (v := ?v1003) ?hi1003 (by kernel_rfl) (by kernel_rfl) (by kernel_rfl) (by kernel_rfl) ?hq1003 ?hy1003 (by assumption) ?hr1003
                        case hi1003 => (simp only [List.getElem?_toArray, List.getElem?_cons_succ, List.getElem?_cons_zero]; rfl)
                        case hq1003 => exact fun _ _ _ h => h
                        case hy1003 => exact Or.inl ⟨by rfl, by intro whSw hSw'; (try dsimp only at hSw'); (first | (go_simp; done) | (go_simp; with_reducible rfl))⟩
                        try simp only [Act.put, List.setIfInBounds_toArray, List.set_cons_zero, List.set_cons_succ]
                        refine wpAnyZ_take (i := 3) (oi := ?oi1004) (v := ?v1004) ?hi1004 (by kernel_rfl) (by kernel_rfl) (by kernel_rfl) (by kernel_rfl) ?hq1004 ?hy1004 (by assumption) ?hr1004
                        case hi1004 => (simp only [List.getElem?_toArray, List.getElem?_cons_succ, List.getElem?_cons_zero]; rfl)
                        case hq1004 => exact fun _ _ _ h => h
                        case hy1004 => exact Or.inl ⟨by rfl, by intro whSw hSw'; (try dsimp only at hSw'); (first | (go_simp; done) | (go_simp; with_reducible rfl))⟩
                        try simp only [Act.put, List.setIfInBounds_toArray, List.set_cons_zero, List.set_cons_succ]
                        refine wpAnyZ_take (i := 7) (oi := ?oi1005) (v := ?v1005) ?hi1005 (by kernel_rfl) (by kernel_rfl) (by kernel_rfl) (by kernel_rfl) ?hq1005 ?hy1005 (by assumption) ?hr1005
                        case hi1005 => (simp only [List.getElem?_toArray, List.getElem?_cons_succ, List.getElem?_cons_zero]; rfl)
                        case hq1005 => exact fun _ _ _ h => h
                        case hy1005 => exact Or.inl ⟨by rfl, by intro whSw hSw'; (try dsimp only at hSw'); (first | (go_simp; done) | (go_simp; with_reducible rfl))⟩
                        try simp only [Act.put, List.setIfInBounds_toArray, List.set_cons_zero, List.set_cons_succ]
                        refine wpAnyZ_take (i := 8) (oi := ?oi1006) (v := ?v1006) ?hi1006 (by kernel_rfl) (by kernel_rfl) (by kernel_rfl) (by kernel_rfl) ?hq1006 ?hy1006 (by assumption) ?hr1006
                        case hi1006 => (simp only [List.getElem?_toArray, List.getElem?_cons_succ, List.getElem?_cons_zero]; rfl)
                        case hq1006 => exact fun _ _ _ h => h
                        case hy1006 => exact Or.inl ⟨by rfl, by intro whSw hSw'; (try dsimp only at hSw'); (first | (go_simp; done) | (go_simp; with_reducible rfl))⟩
                        try simp only [Act.put, List.setIfInBounds_toArray, List.set_cons_zero, List.set_cons_succ]
                        refine wpAnyZ_take (i := 9) (oi := ?oi1007) (v := ?v1007) ?hi1007 (by kernel_rfl) (by kernel_rfl) (by kernel_rfl) (by kernel_rfl) ?hq1007 ?hy1007 (by assumption) ?hr1007
                        case hi1007 => (simp only [List.getElem?_toArray, List.getElem?_cons_succ, List.getElem?_cons_zero]; rfl)
                        case hq1007 => exact fun _ _ _ h => h
                        case hy1007 => exact Or.inl ⟨by rfl, by intro whSw hSw'; (try dsimp only at hSw'); (first | (go_simp; done) | (go_simp; with_reducible rfl))⟩
                        try simp only [Act.put, List.setIfInBounds_toArray, List.set_cons_zero, List.set_cons_succ]
                        refine wpAnyZ_take (i := 10) (oi := ?oi1008) (v := ?v1008) ?hi1008 (by kernel_rfl) (by kernel_rfl) (by kernel_rfl) (by kernel_rfl) ?hq1008 ?hy1008 (by assumption) ?hr1008
                        case hi1008 => (simp only [List.getElem?_toArray, List.getElem?_cons_succ, List.getElem?_cons_zero]; rfl)
                        case hq1008 => exact fun _ _ _ h => h
                        case hy1008 => exact Or.inl ⟨by rfl, by intro whSw hSw'; (try dsimp only at hSw'); (first | (go_simp; done) | (go_simp; with_reducible rfl))⟩
                        try simp only [Act.put, List.setIfInBounds_toArray, List.set_cons_zero, List.set_cons_succ]
                        refine wpAnyZ_ready (rs := [4, 5]) (by kernel_rfl) (by simp) ?_
                        refine AllReadyZ.cons (o := ?oo1009) ?hi1009 (fun K hK => ?hs1009) ?hm1009
                        case hi1009 => (simp only [List.getElem?_toArray, List.getElem?_cons_succ, List.getElem?_cons_zero]; rfl)
                        · refine step_append_any rfl (.const (.slice none 0 0)) (.tmp 59) 22 rfl w5.heap.size 3 j0 _ 8 Try.underlying22 hj hy0 hy1 hy2 rfl _ 0 [] rfl (World.ownsRow_nil _ _ _ _) _ w5.heap.size ((iv cs).take k) rfl (by first | exact JT.out _ (Below.refl _ _).drew | exact JT.out _ ((Below.refl _ _).drew.alloc (Nat.le_refl _) _)) JT1.out (by rw [JTL.out]; unfold maxLen; omega) (by rw [JTL.out]; omega) (by first | exact Nat.le_refl _ | simp) ?_
                          intro vb1 wb1 hown1 hg1 _
                          rw [JTL.out] at hown1
                          have HO1 := Lib.hid hown1
                          have HG1 := Lib.hid hg1
                          have HZ1 : Hid (Below w5.heap.size w5 wb1) := Lib.hid (by first | exact (Below.refl _ _).drew.grown hg1 (Nat.le_refl _) (fun k e => nomatch (show (none : Option Nat) = some k from e)) | exact ((Below.refl _ _).drew.alloc (Nat.le_refl _) _).grown hg1 (by simp) (fun k e => nomatch (show (none : Option Nat) = some k from e)))
                          clear hown1 hg1
                          refine hK.out _ _ ?_ (fun hHeld => ?_)
                          · (try dsimp only); first | exact (JBX.out _ HZ3.out).1 | exact (JBX.out _ HZ2.out).1 | exact (JBX.out _ HZ1.out).1 | exact (JBX.out _ (HZ1.out.alloc HZ1.out.size _)).1 | exact (JBX.out _ (Below.refl _ _).drew).1 | exact (JBX.out _ ((Below.refl _ _).drew.alloc (Nat.le_refl _) _)).1
                          clear hK K
                          try simp only [Act.put, List.setIfInBounds_toArray, List.set_cons_zero, List.set_cons_succ]
                          refine wpAnyZ_ready (rs := [5]) (by kernel_rfl) (by simp) ?_
                          refine AllReadyZ.cons (o := ?oo1010) ?hi1010 (fun K hK => ?hs1010) ?hm1010
                          case hi1010 => (simp only [List.getElem?_toArray, List.getElem?_cons_succ, List.getElem?_cons_zero]; rfl)
                          · go_simp
                            refine hK.out _ _ ?_ (fun hHeld => ?_)
                            · (try dsimp only); first | exact (JBX.out _ HZ3.out).1 | exact (JBX.out _ HZ2.out).1 | exact (JBX.out _ HZ1.out).1 | exact (JBX.out _ (HZ1.out.alloc HZ1.out.size _)).1 | exact (JBX.out _ (Below.refl _ _).drew).1 | exact (JBX.out _ ((Below.refl _ _).drew.alloc (Nat.le_refl _) _)).1
                            clear hK K
                            try simp only [Act.put, List.setIfInBounds_toArray, List.set_cons_zero, List.set_cons_succ]
                            refine wpAnyZ_ready (rs := [6]) (by kernel_rfl) (by simp) ?_
                            refine AllReadyZ.cons (o := ?oo1011) ?hi1011 (fun K hK => ?hs1011) ?hm1011
                            case hi1011 => (simp only [List.getElem?_toArray, List.getElem?_cons_succ, List.getElem?_cons_zero]; rfl)
                            · refine step_append_any rfl (.tmp 60) (.tmp 61) 22 rfl w5.heap.size 3 j0 _ 8 Try.underlying22 hj hy0 hy1 hy2 rfl _ (0 + k) _ rfl (by first | exact HO1.out | exact HO1.out.alloc _) _ _ [.int .i64 0] rfl (by first | exact sees_val _ _ _ | exact (sees_val w5 (.int .i64 0) 3).below ((Below.refl _ _).drew.grown HG1.out (Nat.le_refl _) (fun k e => nomatch (show (none : Option Nat) = some k from e))) | exact (sees_val w5.drew (.int .i64 0) 3).below ((Below.refl _ _).grown HG1.out (Nat.le_refl _) (fun k e => nomatch (show (none : Option Nat) = some k from e)))) (by simp [Value.oneCell']) (by show 0 + k + 1 ≤ _; unfold maxLen; omega) (by show (0 + k + 1) * 8 ≤ _; omega) (by have := HZ1.out.size; first | exact this | (simp; omega)) ?_
                              intro vb2 wb2 hown2 hg2 _
                              have HO2 := Lib.hid hown2
                              have HZ2 : Hid (Below w5.heap.size w5 wb2) := Lib.hid (by first | exact HZ1.out.grown hg2 HZ1.out.size (fun k e => (own_low HO1.out k e).1) | exact (HZ1.out.alloc HZ1.out.size _).grown hg2 (by have := HZ1.out.size; simp; omega) (fun k e => (own_low HO1.out k e).1))
                              clear hown2 hg2
                              refine hK.out _ _ ?_ (fun hHeld => ?_)
                              · (try dsimp only); first | exact (JBX.out _ HZ3.out).1 | exact (JBX.out _ HZ2.out).1 | exact (JBX.out _ HZ1.out).1 | exact (JBX.out _ (HZ1.out.alloc HZ1.out.size _)).1 | exact (JBX.out _ (Below.refl _ _).drew).1 | exact (JBX.out _ ((Below.refl _ _).drew.alloc (Nat.le_refl _) _)).1
                              clear hK K
                              try simp only [Act.put, List.setIfInBounds_toArray, List.set_cons_zero, List.set_cons_succ]
                              refine wpAnyZ_ready (rs := [11]) (by kernel_rfl) (by simp) ?_
                              refine AllReadyZ.cons (o := ?oo1012) ?hi1012 (fun K hK => ?hs1012) ?hm1012
                              case hi1012 => (simp only [List.getElem?_toArray, List.getElem?_cons_succ, List.getElem?_cons_zero]; rfl)
                              · refine step_append_any rfl (.tmp 62) (.tmp 66) 22 rfl w5.heap.size 3 j0 _ 8 Try.underlying22 hj hy0 hy1 hy2 rfl _ (0 + k + 1) _ rfl HO2.out _ w5.heap.size ((iv cs).drop k) rfl (JD.out _ HZ2.out) JD1.out (by rw [JDL.out]; unfold maxLen; omega) (by rw [JDL.out]; omega) HZ2.out.size ?_
                                intro vb3 wb3 hown3 hg3 _
                                rw [JDL.out] at hown3
                                obtain ⟨MJ, h9⟩ : ∃ y, 0 + k + 1 + (m - k) = y := ⟨_, rfl⟩
                                rw [h9] at hown3
                                obtain ⟨AJ, cJ, e9, -, -⟩ := own_form' hown3
                                subst e9
                                have H9J := Lib.hid h9
                                have HO3 := Lib.hid hown3
                                have HZ3 : Hid (Below w5.heap.size w5 wb3) := Lib.hid (HZ2.out.grown hg3 HZ2.out.size (fun k e => (own_low HO2.out k e).1))
                                have s3 := (JBX.out wb3 HZ3.out).1
                                have f3 := (JBX.out wb3 HZ3.out).2
                                clear hown3 hg3 h9
                                refine hK.out _ _ ?_ (fun hHeld => ?_)
                                · (try dsimp only); first | exact (JBX.out _ HZ3.out).1 | exact (JBX.out _ HZ2.out).1 | exact (JBX.out _ HZ1.out).1 | exact (JBX.out _ (HZ1.out.alloc HZ1.out.size _)).1 | exact (JBX.out _ (Below.refl _ _).drew).1 | exact (JBX.out _ ((Below.refl _ _).drew.alloc (Nat.le_refl _) _)).1
                                clear hK K
                                try simp only [Act.put, List.setIfInBounds_toArray, List.set_cons_zero, List.set_cons_succ]
                                refine wpAnyZ_take (i := 12) (oi := ?oi1013) (v := ?v1013) ?hi1013 (by kernel_rfl) (by kernel_rfl) (by kernel_rfl) (by kernel_rfl) ?hq1013 ?hy1013 (by assumption) ?hr1013
                                case hi1013 => (simp only [List.getElem?_toArray, List.getElem?_cons_succ, List.getElem?_cons_zero]; rfl)
                                case hq1013 => exact fun _ _ _ h => h
                                case hy1013 => exact Or.inl ⟨by rfl, by intro whSw hSw'; (try dsimp only at hSw'); (first | (go_simp; done) | (go_simp; with_reducible rfl))⟩
                                try simp only [Act.put, List.setIfInBounds_toArray, List.set_cons_zero, List.set_cons_succ]
                                refine wpAnyZ_ready (rs := [13]) (by kernel_rfl) (by simp) ?_
                                refine AllReadyZ.last (o := ?oo1014) ?hi1014 (fun K hK => ?hs1014)
                                case hi1014 => (simp only [List.getElem?_toArray, List.getElem?_cons_succ, List.getElem?_cons_zero]; rfl)
                                · go_simp
                                  refine hK.out _ _ ?_
                                  clear hK K
                                  try simp only [Act.put, List.setIfInBounds_toArray, List.set_cons_zero, List.set_cons_succ]
                                  refine wpAnyZ_done (by kernel_rfl) ?_ _
                                  obtain ⟨w7, hw7⟩ : ∃ w7, wb3.setCell ⟨N + 1, 1, none⟩ (.slice AJ MJ cJ) = w7 := ⟨_, rfl⟩
                                  obtain ⟨cs2, hcs2⟩ : ∃ cs2, cs.take k ++ 0 :: cs.drop k = cs2 := ⟨_, rfl⟩
                                  obtain ⟨M, hM⟩ : ∃ M, m + 1 = M := ⟨_, rfl⟩
                                  have hl2 : cs2.length = M := by rw [← hcs2, ← hM]; exact mid_len HCL.out hkm
                                  have HS7 := Lib.hid (show RSt w w7 N (.slice AH MH cH) (.slice AJ MJ cJ) (putW ws x) cs2 from by
                                    rw [← hw7, ← hcs2]
                                    exact (HS5.out.keep HZ3.out).storeC HN.out (own_eq (own_base HO3.out JN5.out) (by rw [mid_len HCL.out hkm, ← H9J.out]; omega) (put_iv cs k)))
                                  rw [hw7]
                                  clear hw7 HO1 HO2 HO3 HG1 HZ1 HZ2 HZ3 s3 f3 hHeld JT JTL JT1 JD JDL JD1 JBX HS5 hs1 hs2 d1 JN5
                                  obtain ⟨A3, c3, hv3, hc3, hg3⟩ := own_form' HS7.out.oc
                                  rw [hl2] at hv3 hc3 hg3
                                  obtain ⟨g, hA3, hgb, cur, hcur⟩ := hg3 (by omega)
                                  subst hA3
                                  cases hv3
                                  obtain ⟨c, hc0⟩ : ∃ c : Nat, c = 0 := ⟨_, rfl⟩
                                  obtain ⟨d, hd⟩ : ∃ d, d = c + 1 := ⟨_, rfl⟩
                                  have kst : w7.cell? ⟨g, k, none⟩ = some (.int .i64 (c : Int)) := by
                                    have hoc := HS7.out.oc
                                    rw [hl2] at hoc
                                    rw [hoc.cellAt k (by omega), ← hcs2, hc0]
                                    unfold iv
                                    rw [List.getElem?_map, mid_at cs (by rw [HCL.out]; exact hkm)]
                                    rfl
                                  have fst : w7.frozen? ⟨g, k, none⟩ = false := frozen_of hcur
                                  have d1 : w7.cell? ⟨N + 1, 1, none⟩ = some (.slice (some ⟨g, 0, none⟩) MJ cJ) := cell_of HS7.out.box rfl
                                  have hw1 : IntKind.i64.wrap ((c : Int) + 1) = (d : Int) := by rw [IntKind.wrap_i64]; omega
                                  have hkI : (k : Int) < (MJ : Int) := by omega
                                  have HNX := Lib.hid (show RSt w (w7.setCell ⟨g, k, none⟩ (.int .i64 (d : Int))) N (.slice AH MH cH) (.slice (some ⟨g, 0, none⟩) MJ cJ) (lexW (vs.take (s + 1))) (cntW (vs.take (s + 1)) (lexW (vs.take (s + 1)))) by
                                    have h1 : lexW (vs.take (s + 1)) = putW ws x := by rw [lex_take HX.out, HWS.out]; unfold addW; rw [if_neg HNOT.out]
                                    have h2 : cntW (vs.take (s + 1)) (putW ws x) = cs.take k ++ 1 :: cs.drop k := by rw [take_snoc HX.out, cnt_new HMEM.out HNOT.out, HK.out, HCS.out]
                                    rw [h1, h2, hd, hc0, ← mid_set cs (by rw [HCL.out]; exact hkm) 0 1, hcs2]
                                    exact HS7.out.inc HN.out hl2 (by omega) 1)
                                  clear hcs2 hM hl2 hcur hgb hc0 hd HS7
                                  go_wp2_with fail
                                  go_roundg (n - (s + 1))
                                  case measure => have := HJ.out; omega
                                  case rel => exact ⟨s + 1, by go_num, by have := HJ.out; omega, Nat.le_refl _, Lib.hid ⟨⟨_, _, HNX.out⟩, HALL2.out⟩⟩
                              exact AllReadyZ.nil
                            exact AllReadyZ.nil
                          exact AllReadyZ.nil
                        refine AllReadyZ.cons (o := ?oo1015) ?hi1015 (fun K hK => ?hs1015) ?hm1015
                        case hi1015 => (simp only [List.getElem?_toArray, List.getElem?_cons_succ, List.getElem?_cons_zero]; rfl)
                        · go_simp
                          refine hK.out _ _ ?_ (fun hHeld => ?_)
                          · (try dsimp only); first | exact (JBX.out _ HZ3.out).1 | exact (JBX.out _ HZ2.out).1 | exact (JBX.out _ HZ1.out).1 | exact (JBX.out _ (HZ1.out.alloc HZ1.out.size _)).1 | exact (JBX.out _ (Below.refl _ _).drew).1 | exact (JBX.out _ ((Below.refl _ _).drew.alloc (Nat.le_refl _) _)).1
                          clear hK K
                          try simp only [Act.put, List.setIfInBounds_toArray, List.set_cons_zero, List.set_cons_succ]
                          refine wpAnyZ_ready (rs := [4]) (by kernel_rfl) (by simp) ?_
                          refine AllReadyZ.cons (o := ?oo1016) ?hi1016 (fun K hK => ?hs1016) ?hm1016
                          case hi1016 => (simp only [List.getElem?_toArray, List.getElem?_cons_succ, List.getElem?_cons_zero]; rfl)
                          · refine step_append_any rfl (.const (.slice none 0 0)) (.tmp 59) 22 rfl w5.heap.size 3 j0 _ 8 Try.underlying22 hj hy0 hy1 hy2 rfl _ 0 [] rfl (World.ownsRow_nil _ _ _ _) _ w5.heap.size ((iv cs).take k) rfl (by first | exact JT.out _ (Below.refl _ _).drew | exact JT.out _ ((Below.refl _ _).drew.alloc (Nat.le_refl _) _)) JT1.out (by rw [JTL.out]; unfold maxLen; omega) (by rw [JTL.out]; omega) (by first | exact Nat.le_refl _ | simp) ?_
                            intro vb1 wb1 hown1 hg1 _
                            rw [JTL.out] at hown1
                            have HO1 := Lib.hid hown1
                            have HG1 := Lib.hid hg1
                            have HZ1 : Hid (Below w5.heap.size w5 wb1) := Lib.hid (by first | exact (Below.refl _ _).drew.grown hg1 (Nat.le_refl _) (fun k e => nomatch (show (none : Option Nat) = some k from e)) | exact ((Below.refl _ _).drew.alloc (Nat.le_refl _) _).grown hg1 (by simp) (fun k e => nomatch (show (none : Option Nat) = some k from e)))
                            clear hown1 hg1
                            refine hK.out _ _ ?_ (fun hHeld => ?_)
                            · (try dsimp only); first | exact (JBX.out _ HZ3.out).1 | exact (JBX.out _ HZ2.out).1 | exact (JBX.out _ HZ1.out).1 | exact (JBX.out _ (HZ1.out.alloc HZ1.out.size _)).1 | exact (JBX.out _ (Below.refl _ _).drew).1 | exact (JBX.out _ ((Below.refl _ _).drew.alloc (Nat.le_refl _) _)).1
                            clear hK K
                            try simp only [Act.put, List.setIfInBounds_toArray, List.set_cons_zero, List.set_cons_succ]
                            refine wpAnyZ_ready (rs := [6]) (by kernel_rfl) (by simp) ?_
                            refine AllReadyZ.cons (o := ?oo1017) ?hi1017 (fun K hK => ?hs1017) ?hm1017
                            case hi1017 => (simp only [List.getElem?_toArray, List.getElem?_cons_succ, List.getElem?_cons_zero]; rfl)
                            · refine step_append_any rfl (.tmp 60) (.tmp 61) 22 rfl w5.heap.size 3 j0 _ 8 Try.underlying22 hj hy0 hy1 hy2 rfl _ (0 + k) _ rfl (by first | exact HO1.out | exact HO1.out.alloc _) _ _ [.int .i64 0] rfl (by first | exact sees_val _ _ _ | exact (sees_val w5 (.int .i64 0) 3).below ((Below.refl _ _).drew.grown HG1.out (Nat.le_refl _) (fun k e => nomatch (show (none : Option Nat) = some k from e))) | exact (sees_val w5.drew (.int .i64 0) 3).below ((Below.refl _ _).grown HG1.out (Nat.le_refl _) (fun k e => nomatch (show (none : Option Nat) = some k from e)))) (by simp [Value.oneCell']) (by show 0 + k + 1 ≤ _; unfold maxLen; omega) (by show (0 + k + 1) * 8 ≤ _; omega) (by have := HZ1.out.size; first | exact this | (simp; omega)) ?_
                              intro vb2 wb2 hown2 hg2 _
                              have HO2 := Lib.hid hown2
                              have HZ2 : Hid (Below w5.heap.size w5 wb2) := Lib.hid (by first | exact HZ1.out.grown hg2 HZ1.out.size (fun k e => (own_low HO1.out k e).1) | exact (HZ1.out.alloc HZ1.out.size _).grown hg2 (by have := HZ1.out.size; simp; omega) (fun k e => (own_low HO1.out k e).1))
                              clear hown2 hg2
                              refine hK.out _ _ ?_ (fun hHeld => ?_)
                              · (try dsimp only); first | exact (JBX.out _ HZ3.out).1 | exact (JBX.out _ HZ2.out).1 | exact (JBX.out _ HZ1.out).1 | exact (JBX.out _ (HZ1.out.alloc HZ1.out.size _)).1 | exact (JBX.out _ (Below.refl _ _).drew).1 | exact (JBX.out _ ((Below.refl _ _).drew.alloc (Nat.le_refl _) _)).1
                              clear hK K
                              try simp only [Act.put, List.setIfInBounds_toArray, List.set_cons_zero, List.set_cons_succ]
                              refine wpAnyZ_ready (rs := [11]) (by kernel_rfl) (by simp) ?_
                              refine AllReadyZ.cons (o := ?oo1018) ?hi1018 (fun K hK => ?hs1018) ?hm1018
                              case hi1018 => (simp only [List.getElem?_toArray, List.getElem?_cons_succ, List.getElem?_cons_zero]; rfl)
                              · refine step_append_any rfl (.tmp 62) (.tmp 66) 22 rfl w5.heap.size 3 j0 _ 8 Try.underlying22 hj hy0 hy1 hy2 rfl _ (0 + k + 1) _ rfl HO2.out _ w5.heap.size ((iv cs).drop k) rfl (JD.out _ HZ2.out) JD1.out (by rw [JDL.out]; unfold maxLen; omega) (by rw [JDL.out]; omega) HZ2.out.size ?_
                                intro vb3 wb3 hown3 hg3 _
                                rw [JDL.out] at hown3
                                obtain ⟨MJ, h9⟩ : ∃ y, 0 + k + 1 + (m - k) = y := ⟨_, rfl⟩
                                rw [h9] at hown3
                                obtain ⟨AJ, cJ, e9, -, -⟩ := own_form' hown3
                                subst e9
                                have H9J := Lib.hid h9
                                have HO3 := Lib.hid hown3
                                have HZ3 : Hid (Below w5.heap.size w5 wb3) := Lib.hid (HZ2.out.grown hg3 HZ2.out.size (fun k e => (own_low HO2.out k e).1))
                                have s3 := (JBX.out wb3 HZ3.out).1
                                have f3 := (JBX.out wb3 HZ3.out).2
                                clear hown3 hg3 h9
                                refine hK.out _ _ ?_ (fun hHeld => ?_)
                                · (try dsimp only); first | exact (JBX.out _ HZ3.out).1 | exact (JBX.out _ HZ2.out).1 | exact (JBX.out _ HZ1.out).1 | exact (JBX.out _ (HZ1.out.alloc HZ1.out.size _)).1 | exact (JBX.out _ (Below.refl _ _).drew).1 | exact (JBX.out _ ((Below.refl _ _).drew.alloc (Nat.le_refl _) _)).1
                                clear hK K
                                try simp only [Act.put, List.setIfInBounds_toArray, List.set_cons_zero, List.set_cons_succ]
                                refine wpAnyZ_take (i := 12) (oi := ?oi1019) (v := ?v1019) ?hi1019 (by kernel_rfl) (by kernel_rfl) (by kernel_rfl) (by kernel_rfl) ?hq1019 ?hy1019 (by assumption) ?hr1019
                                case hi1019 => (simp only [List.getElem?_toArray, List.getElem?_cons_succ, List.getElem?_cons_zero]; rfl)
                                case hq1019 => exact fun _ _ _ h => h
                                case hy1019 => exact Or.inl ⟨by rfl, by intro whSw hSw'; (try dsimp only at hSw'); (first | (go_simp; done) | (go_simp; with_reducible rfl))⟩
                                try simp only [Act.put, List.setIfInBounds_toArray, List.set_cons_zero, List.set_cons_succ]
                                refine wpAnyZ_ready (rs := [13]) (by kernel_rfl) (by simp) ?_
                                refine AllReadyZ.last (o := ?oo1020) ?hi1020 (fun K hK => ?hs1020)
                                case hi1020 => (simp only [List.getElem?_toArray, List.getElem?_cons_succ, List.getElem?_cons_zero]; rfl)
                                · go_simp
                                  refine hK.out _ _ ?_
                                  clear hK K
                                  try simp only [Act.put, List.setIfInBounds_toArray, List.set_cons_zero, List.set_cons_succ]
                                  refine wpAnyZ_done (by kernel_rfl) ?_ _
                                  obtain ⟨w7, hw7⟩ : ∃ w7, wb3.setCell ⟨N + 1, 1, none⟩ (.slice AJ MJ cJ) = w7 := ⟨_, rfl⟩
                                  obtain ⟨cs2, hcs2⟩ : ∃ cs2, cs.take k ++ 0 :: cs.drop k = cs2 := ⟨_, rfl⟩
                                  obtain ⟨M, hM⟩ : ∃ M, m + 1 = M := ⟨_, rfl⟩
                                  have hl2 : cs2.length = M := by rw [← hcs2, ← hM]; exact mid_len HCL.out hkm
                                  have HS7 := Lib.hid (show RSt w w7 N (.slice AH MH cH) (.slice AJ MJ cJ) (putW ws x) cs2 from by
                                    rw [← hw7, ← hcs2]
                                    exact (HS5.out.keep HZ3.out).storeC HN.out (own_eq (own_base HO3.out JN5.out) (by rw [mid_len HCL.out hkm, ← H9J.out]; omega) (put_iv cs k)))
                                  rw [hw7]
                                  clear hw7 HO1 HO2 HO3 HG1 HZ1 HZ2 HZ3 s3 f3 hHeld JT JTL JT1 JD JDL JD1 JBX HS5 hs1 hs2 d1 JN5
                                  obtain ⟨A3, c3, hv3, hc3, hg3⟩ := own_form' HS7.out.oc
                                  rw [hl2] at hv3 hc3 hg3
                                  obtain ⟨g, hA3, hgb, cur, hcur⟩ := hg3 (by omega)
                                  subst hA3
                                  cases hv3
                                  obtain ⟨c, hc0⟩ : ∃ c : Nat, c = 0 := ⟨_, rfl⟩
                                  obtain ⟨d, hd⟩ : ∃ d, d = c + 1 := ⟨_, rfl⟩
                                  have kst : w7.cell? ⟨g, k, none⟩ = some (.int .i64 (c : Int)) := by
                                    have hoc := HS7.out.oc
                                    rw [hl2] at hoc
                                    rw [hoc.cellAt k (by omega), ← hcs2, hc0]
                                    unfold iv
                                    rw [List.getElem?_map, mid_at cs (by rw [HCL.out]; exact hkm)]
                                    rfl
                                  have fst : w7.frozen? ⟨g, k, none⟩ = false := frozen_of hcur
                                  have d1 : w7.cell? ⟨N + 1, 1, none⟩ = some (.slice (some ⟨g, 0, none⟩) MJ cJ) := cell_of HS7.out.box rfl
                                  have hw1 : IntKind.i64.wrap ((c : Int) + 1) = (d : Int) := by rw [IntKind.wrap_i64]; omega
                                  have hkI : (k : Int) < (MJ : Int) := by omega
                                  have HNX := Lib.hid (show RSt w (w7.setCell ⟨g, k, none⟩ (.int .i64 (d : Int))) N (.slice AH MH cH) (.slice (some ⟨g, 0, none⟩) MJ cJ) (lexW (vs.take (s + 1))) (cntW (vs.take (s + 1)) (lexW (vs.take (s + 1)))) by
                                    have h1 : lexW (vs.take (s + 1)) = putW ws x := by rw [lex_take HX.out, HWS.out]; unfold addW; rw [if_neg HNOT.out]
                                    have h2 : cntW (vs.take (s + 1)) (putW ws x) = cs.take k ++ 1 :: cs.drop k := by rw [take_snoc HX.out, cnt_new HMEM.out HNOT.out, HK.out, HCS.out]
                                    rw [h1, h2, hd, hc0, ← mid_set cs (by rw [HCL.out]; exact hkm) 0 1, hcs2]
                                    exact HS7.out.inc HN.out hl2 (by omega) 1)
                                  clear hcs2 hM hl2 hcur hgb hc0 hd HS7
                                  go_wp2_with fail
                                  go_roundg (n - (s + 1))
                                  case measure => have := HJ.out; omega
                                  case rel => exact ⟨s + 1, by go_num, by have := HJ.out; omega, Nat.le_refl _, Lib.hid ⟨⟨_, _, HNX.out⟩, HALL2.out⟩⟩
                              exact AllReadyZ.nil
                            exact AllReadyZ.nil
                          exact AllReadyZ.nil
                        exact AllReadyZ.nil
                    exact AllReadyZ.nil
                  exact AllReadyZ.nil
                exact AllReadyZ.nil
              refine AllReadyZ.cons (o := ?oo16) ?hi16 (fun K hK => ?hs16) ?hm16
              case hi16 => (simp only [List.getElem?_toArray, List.getElem?_cons_succ, List.getElem?_cons_zero]; rfl)
              · go_simp
                refine hK.out _ _ ?_ (fun hHeld => ?_)
                · (try dsimp only); first | exact (HBX.out _ HZ3.out).1 | exact (HBX.out _ HZ2.out).1 | exact (HBX.out _ HZ1.out).1 | exact (HBX.out _ (HZ1.out.alloc HZ1.out.size _)).1 | exact (HBX.out _ (Below.refl _ _).drew).1 | exact (HBX.out _ ((Below.refl _ _).drew.alloc (Nat.le_refl _) _)).1
                clear hK K
                try simp only [Act.put, List.setIfInBounds_toArray, List.set_cons_zero, List.set_cons_succ]
                refine wpAnyZ_ready (rs := [4]) (by kernel_rfl) (by simp) ?_
                refine AllReadyZ.cons (o := ?oo17) ?hi17 (fun K hK => ?hs17) ?hm17
                case hi17 => (simp only [List.getElem?_toArray, List.getElem?_cons_succ, List.getElem?_cons_zero]; rfl)
                · refine step_append_any rfl (.const (.slice none 0 0)) (.tmp 45) 29 rfl w4.heap.size 9 i0 _ 16 Try.underlying29 hi hz0 hz1 hz2 rfl _ 0 [] rfl (World.ownsRow_nil _ _ _ _) _ w4.heap.size ((sv ws).take k) rfl (by first | exact HT.out _ (Below.refl _ _).drew | exact HT.out _ ((Below.refl _ _).drew.alloc (Nat.le_refl _) _)) HT1.out (by rw [HTL.out]; unfold maxLen; omega) (by rw [HTL.out]; omega) (by first | exact Nat.le_refl _ | simp) ?_
                  intro va1 wa1 hown1 hg1 _
                  rw [HTL.out] at hown1
                  have HO1 := Lib.hid hown1
                  have HG1 := Lib.hid hg1
                  have HZ1 : Hid (Below w4.heap.size w4 wa1) := Lib.hid (by first | exact (Below.refl _ _).drew.grown hg1 (Nat.le_refl _) (fun k e => nomatch (show (none : Option Nat) = some k from e)) | exact ((Below.refl _ _).drew.alloc (Nat.le_refl _) _).grown hg1 (by simp) (fun k e => nomatch (show (none : Option Nat) = some k from e)))
                  clear hown1 hg1
                  refine hK.out _ _ ?_ (fun hHeld => ?_)
                  · (try dsimp only); first | exact (HBX.out _ HZ3.out).1 | exact (HBX.out _ HZ2.out).1 | exact (HBX.out _ HZ1.out).1 | exact (HBX.out _ (HZ1.out.alloc HZ1.out.size _)).1 | exact (HBX.out _ (Below.refl _ _).drew).1 | exact (HBX.out _ ((Below.refl _ _).drew.alloc (Nat.le_refl _) _)).1
                  clear hK K
                  try simp only [Act.put, List.setIfInBounds_toArray, List.set_cons_zero, List.set_cons_succ]
                  refine wpAnyZ_ready (rs := [7]) (by kernel_rfl) (by simp) ?_
                  refine AllReadyZ.cons (o := ?oo18) ?hi18 (fun K hK => ?hs18) ?hm18
                  case hi18 => (simp only [List.getElem?_toArray, List.getElem?_cons_succ, List.getElem?_cons_zero]; rfl)
                  · refine step_append_any rfl (.tmp 46) (.tmp 48) 29 rfl w4.heap.size 9 i0 _ 16 Try.underlying29 hi hz0 hz1 hz2 rfl _ (0 + k) _ rfl (by first | exact HO1.out | exact HO1.out.alloc _) _ _ [.string T] rfl (by first | exact sees_val _ _ _ | exact (sees_val w4 (.string T) 9).below ((Below.refl _ _).drew.grown HG1.out (Nat.le_refl _) (fun k e => nomatch (show (none : Option Nat) = some k from e))) | exact (sees_val w4.drew (.string T) 9).below ((Below.refl _ _).grown HG1.out (Nat.le_refl _) (fun k e => nomatch (show (none : Option Nat) = some k from e)))) (by simp [Value.oneCell']) (by show 0 + k + 1 ≤ _; unfold maxLen; omega) (by show (0 + k + 1) * 16 ≤ _; omega) (by have := HZ1.out.size; first | exact this | (simp; omega)) ?_
                    intro va2 wa2 hown2 hg2 _
                    have HO2 := Lib.hid hown2
                    have HZ2 : Hid (Below w4.heap.size w4 wa2) := Lib.hid (by first | exact HZ1.out.grown hg2 HZ1.out.size (fun k e => (own_low HO1.out k e).1) | exact (HZ1.out.alloc HZ1.out.size _).grown hg2 (by have := HZ1.out.size; simp; omega) (fun k e => (own_low HO1.out k e).1))
                    clear hown2 hg2
                    refine hK.out _ _ ?_ (fun hHeld => ?_)
                    · (try dsimp only); first | exact (HBX.out _ HZ3.out).1 | exact (HBX.out _ HZ2.out).1 | exact (HBX.out _ HZ1.out).1 | exact (HBX.out _ (HZ1.out.alloc HZ1.out.size _)).1 | exact (HBX.out _ (Below.refl _ _).drew).1 | exact (HBX.out _ ((Below.refl _ _).drew.alloc (Nat.le_refl _) _)).1
                    clear hK K
                    try simp only [Act.put, List.setIfInBounds_toArray, List.set_cons_zero, List.set_cons_succ]
                    refine wpAnyZ_ready (rs := [12]) (by kernel_rfl) (by simp) ?_
                    refine AllReadyZ.cons (o := ?oo19) ?hi19 (fun K hK => ?hs19) ?hm19
                    case hi19 => (simp only [List.getElem?_toArray, List.getElem?_cons_succ, List.getElem?_cons_zero]; rfl)
                    · refine step_append_any rfl (.tmp 49) (.tmp 53) 29 rfl w4.heap.size 9 i0 _ 16 Try.underlying29 hi hz0 hz1 hz2 rfl _ (0 + k + 1) _ rfl HO2.out _ w4.heap.size ((sv ws).drop k) rfl (HD.out _ HZ2.out) HD1.out (by rw [HDL.out]; unfold maxLen; omega) (by rw [HDL.out]; omega) HZ2.out.size ?_
                      intro va3 wa3 hown3 hg3 _
                      rw [HDL.out] at hown3
                      obtain ⟨MH, h9⟩ : ∃ y, 0 + k + 1 + (m - k) = y := ⟨_, rfl⟩
                      rw [h9] at hown3
                      obtain ⟨AH, cH, e9, -, -⟩ := own_form' hown3
                      subst e9
                      have H9H := Lib.hid h9
                      have HO3 := Lib.hid hown3
                      have HZ3 : Hid (Below w4.heap.size w4 wa3) := Lib.hid (HZ2.out.grown hg3 HZ2.out.size (fun k e => (own_low HO2.out k e).1))
                      have s3 := (HBX.out wa3 HZ3.out).1
                      have f3 := (HBX.out wa3 HZ3.out).2
                      clear hown3 hg3 h9
                      refine hK.out _ _ ?_ (fun hHeld => ?_)
                      · (try dsimp only); first | exact (HBX.out _ HZ3.out).1 | exact (HBX.out _ HZ2.out).1 | exact (HBX.out _ HZ1.out).1 | exact (HBX.out _ (HZ1.out.alloc HZ1.out.size _)).1 | exact (HBX.out _ (Below.refl _ _).drew).1 | exact (HBX.out _ ((Below.refl _ _).drew.alloc (Nat.le_refl _) _)).1
                      clear hK K
                      try simp only [Act.put, List.setIfInBounds_toArray, List.set_cons_zero, List.set_cons_succ]
                      refine wpAnyZ_take (i := 13) (oi := ?oi20) (v := ?v20) ?hi20 (by kernel_rfl) (by kernel_rfl) (by kernel_rfl) (by kernel_rfl) ?hq20 ?hy20 (by assumption) ?hr20
                      case hi20 => (simp only [List.getElem?_toArray, List.getElem?_cons_succ, List.getElem?_cons_zero]; rfl)
                      case hq20 => exact fun _ _ _ h => h
                      case hy20 => exact Or.inl ⟨by rfl, by intro whSw hSw'; (try dsimp only at hSw'); (first | (go_simp; done) | (go_simp; with_reducible rfl))⟩
                      try simp only [Act.put, List.setIfInBounds_toArray, List.set_cons_zero, List.set_cons_succ]
                      refine wpAnyZ_ready (rs := [14]) (by kernel_rfl) (by simp) ?_
                      refine AllReadyZ.last (o := ?oo21) ?hi21 (fun K hK => ?hs21)
                      case hi21 => (simp only [List.getElem?_toArray, List.getElem?_cons_succ, List.getElem?_cons_zero]; rfl)
                      · go_simp
                        refine hK.out _ _ ?_
                        clear hK K
                        try simp only [Act.put, List.setIfInBounds_toArray, List.set_cons_zero, List.set_cons_succ]
                        refine wpAnyZ_done (by kernel_rfl) ?_ _
                        obtain ⟨w5, hw5⟩ : ∃ w5, wa3.setCell ⟨N + 1, 0, none⟩ (.slice AH MH cH) = w5 := ⟨_, rfl⟩
                        have HS5 := Lib.hid (show RSt w w5 N (.slice AH MH cH) (.slice A2 m c2) (putW ws x) cs from by
                          rw [← hw5]
                          exact (HS4.out.keep HZ3.out).storeW HN.out (own_eq (own_base HO3.out HN4.out) (by rw [← H9H.out]; exact put_len HM.out HK.out hkm) (put_sv HK.out HT'.out)))
                        rw [hw5]
                        clear hw5 HO1 HO2 HO3 HG1 HZ1 HZ2 HZ3 s3 f3 hHeld HT HTL HT1 HD HDL HD1 HBX HS4 hs1 hs2 d0 HN4
                        have hs1 := sliceI_to A2 m c2 k hkm hc2
                        have hs2 := sliceI_from A2 m c2 k hkm
                        obtain ⟨vd, hvd⟩ : ∃ vd, sliced A2 k m c2 1 = vd := ⟨_, rfl⟩
                        rw [hvd] at hs2
                        have hse := (seesC_own HS5.out.oc).1
                        have hsl : (iv cs).length = m := by rw [iv_len, HCL.out]
                        have JT := Lib.hid (fun W (h : Below w5.heap.size w5 W) => (sees_to hse hsl hkm).below h)
                        have JD := Lib.hid (fun W (h : Below w5.heap.size w5 W) => (sees_from' hse hsl hkm).below h)
                        rw [hvd] at JD
                        have JTL := Lib.hid (show ((iv cs).take k).length = k by rw [List.length_take, hsl]; omega)
                        have JDL := Lib.hid (show ((iv cs).drop k).length = m - k by rw [List.length_drop, hsl])
                        have JT1 := Lib.hid (show ∀ u ∈ (iv cs).take k, u.oneCell' = true from fun u hu => iv_one cs u (List.mem_of_mem_take hu))
                        have JD1 := Lib.hid (show ∀ u ∈ (iv cs).drop k, u.oneCell' = true from fun u hu => iv_one cs u (List.mem_of_mem_drop hu))
                        have JBX := Lib.hid (fun W (h : Below w5.heap.size w5 W) => (show W.cell? ⟨N + 1, 1, none⟩ = some (.slice A2 m c2) ∧ W.frozen? ⟨N + 1, 1, none⟩ = false from ⟨cell_of (HS5.out.keep h).box rfl, frozen_of (HS5.out.keep h).box⟩))
                        have JN5 := Lib.hid (show N + 2 ≤ w5.heap.size from HS5.out.size)
                        have d1 := (JBX.out w5 (Below.refl _ _)).1
                        clear hvd hse hsl
                        go_wp2_with fail
                        refine wp_region_Z (z := 13) (S := (fun w' => w'.cell? ⟨N + 1, 1, none⟩ = some (Value.slice A2 m c2))) (by kernel_rfl) ?_ (fun hHeld => ?_)
                        · (try dsimp only); exact (JBX.out _ (Below.refl _ _).drew).1
                        refine wpAnyZ_take (i := 0) (oi := ?oi2001) (v := ?v2001) ?hi2001 (by kernel_rfl) (by kernel_rfl) (by kernel_rfl) (by kernel_rfl) ?hq2001 ?hy2001 (by assumption) ?hr2001
                        case hi2001 => (simp only [List.getElem?_toArray, List.getElem?_cons_zero]; rfl)
                        case hq2001 => exact fun _ _ _ h => h
                        case hy2001 => exact Or.inl ⟨by rfl, by intro whSw hSw'; (try dsimp only at hSw'); (first | (go_simp; done) | (go_simp; with_reducible rfl))⟩
                        try simp only [Act.put, List.setIfInBounds_toArray, List.set_cons_zero, List.set_cons_succ]
                        refine wpAnyZ_take (i := 1) (oi := ?oi2002) (v := ?v2002) ?hi2002 (by kernel_rfl) (by kernel_rfl) (by kernel_rfl) (by kernel_rfl) ?hq2002 ?hy2002 (by assumption) ?hr2002
                        case hi2002 => (simp only [List.getElem?_toArray, List.getElem?_cons_succ, List.getElem?_cons_zero]; rfl)
                        case hq2002 => exact fun _ _ _ h => h
                        case hy2002 => exact Or.inl ⟨by rfl, by intro whSw hSw'; (try dsimp only at hSw'); (first | (go_simp; done) | (go_simp; with_reducible rfl))⟩
                        try simp only [Act.put, List.setIfInBounds_toArray, List.set_cons_zero, List.set_cons_succ]
                        refine wpAnyZ_take (i := 2) (oi := ?oi2003) (v := ?v2003) ?hi2003 (by kernel_rfl) (by kernel_rfl) (by kernel_rfl) (by kernel_rfl) ?hq2003 ?hy2003 (by assumption) ?hr2003
                        case hi2003 => (simp only [List.getElem?_toArray, List.getElem?_cons_succ, List.getElem?_cons_zero]; rfl)
                        case hq2003 => exact fun _ _ _ h => h
                        case hy2003 => exact Or.inl ⟨by rfl, by intro whSw hSw'; (try dsimp only at hSw'); (first | (go_simp; done) | (go_simp; with_reducible rfl))⟩
                        try simp only [Act.put, List.setIfInBounds_toArray, List.set_cons_zero, List.set_cons_succ]
                        refine wpAnyZ_take (i := 3) (oi := ?oi2004) (v := ?v2004) ?hi2004 (by kernel_rfl) (by kernel_rfl) (by kernel_rfl) (by kernel_rfl) ?hq2004 ?hy2004 (by assumption) ?hr2004
                        case hi2004 => (simp only [List.getElem?_toArray, List.getElem?_cons_succ, List.getElem?_cons_zero]; rfl)
                        case hq2004 => exact fun _ _ _ h => h
                        case hy2004 => exact Or.inl ⟨by rfl, by intro whSw hSw'; (try dsimp only at hSw'); (first | (go_simp; done) | (go_simp; with_reducible rfl))⟩
                        try simp only [Act.put, List.setIfInBounds_toArray, List.set_cons_zero, List.set_cons_succ]
                        refine wpAnyZ_take (i := 7) (oi := ?oi2005) (v := ?v2005) ?hi2005 (by kernel_rfl) (by kernel_rfl) (by kernel_rfl) (by kernel_rfl) ?hq2005 ?hy2005 (by assumption) ?hr2005
                        case hi2005 => (simp only [List.getElem?_toArray, List.getElem?_cons_succ, List.getElem?_cons_zero]; rfl)
                        case hq2005 => exact fun _ _ _ h => h
                        case hy2005 => exact Or.inl ⟨by rfl, by intro whSw hSw'; (try dsimp only at hSw'); (first | (go_simp; done) | (go_simp; with_reducible rfl))⟩
                        try simp only [Act.put, List.setIfInBounds_toArray, List.set_cons_zero, List.set_cons_succ]
                        refine wpAnyZ_take (i := 8) (oi := ?oi2006) (v := ?v2006) ?hi2006 (by kernel_rfl) (by kernel_rfl) (by kernel_rfl) (by kernel_rfl) ?hq2006 ?hy2006 (by assumption) ?hr2006
                        case hi2006 => (simp only [List.getElem?_toArray, List.getElem?_cons_succ, List.getElem?_cons_zero]; rfl)
                        case hq2006 => exact fun _ _ _ h => h
                        case hy2006 => exact Or.inl ⟨by rfl, by intro whSw hSw'; (try dsimp only at hSw'); (first | (go_simp; done) | (go_simp; with_reducible rfl))⟩
                        try simp only [Act.put, List.setIfInBounds_toArray, List.set_cons_zero, List.set_cons_succ]
                        refine wpAnyZ_take (i := 9) (oi := ?oi2007) (v := ?v2007) ?hi2007 (by kernel_rfl) (by kernel_rfl) (by kernel_rfl) (by kernel_rfl) ?hq2007 ?hy2007 (by assumption) ?hr2007
                        case hi2007 => (simp only [List.getElem?_toArray, List.getElem?_cons_succ, List.getElem?_cons_zero]; rfl)
                        case hq2007 => exact fun _ _ _ h => h
                        case hy2007 => exact Or.inl ⟨by rfl, by intro whSw hSw'; (try dsimp only at hSw'); (first | (go_simp; done) | (go_simp; with_reducible rfl))⟩
                        try simp only [Act.put, List.setIfInBounds_toArray, List.set_cons_zero, List.set_cons_succ]
                        refine wpAnyZ_take (i := 10) (oi := ?oi2008) (v := ?v2008) ?hi2008 (by kernel_rfl) (by kernel_rfl) (by kernel_rfl) (by kernel_rfl) ?hq2008 ?hy2008 (by assumption) ?hr2008
                        case hi2008 => (simp only [List.getElem?_toArray, List.getElem?_cons_succ, List.getElem?_cons_zero]; rfl)
                        case hq2008 => exact fun _ _ _ h => h
                        case hy2008 => exact Or.inl ⟨by rfl, by intro whSw hSw'; (try dsimp only at hSw'); (first | (go_simp; done) | (go_simp; with_reducible rfl))⟩
                        try simp only [Act.put, List.setIfInBounds_toArray, List.set_cons_zero, List.set_cons_succ]
                        refine wpAnyZ_ready (rs := [4, 5]) (by kernel_rfl) (by simp) ?_
                        refine AllReadyZ.cons (o := ?oo2009) ?hi2009 (fun K hK => ?hs2009) ?hm2009
                        case hi2009 => (simp only [List.getElem?_toArray, List.getElem?_cons_succ, List.getElem?_cons_zero]; rfl)
                        · refine step_append_any rfl (.const (.slice none 0 0)) (.tmp 59) 22 rfl w5.heap.size 3 j0 _ 8 Try.underlying22 hj hy0 hy1 hy2 rfl _ 0 [] rfl (World.ownsRow_nil _ _ _ _) _ w5.heap.size ((iv cs).take k) rfl (by first | exact JT.out _ (Below.refl _ _).drew | exact JT.out _ ((Below.refl _ _).drew.alloc (Nat.le_refl _) _)) JT1.out (by rw [JTL.out]; unfold maxLen; omega) (by rw [JTL.out]; omega) (by first | exact Nat.le_refl _ | simp) ?_
                          intro vb1 wb1 hown1 hg1 _
                          rw [JTL.out] at hown1
                          have HO1 := Lib.hid hown1
                          have HG1 := Lib.hid hg1
                          have HZ1 : Hid (Below w5.heap.size w5 wb1) := Lib.hid (by first | exact (Below.refl _ _).drew.grown hg1 (Nat.le_refl _) (fun k e => nomatch (show (none : Option Nat) = some k from e)) | exact ((Below.refl _ _).drew.alloc (Nat.le_refl _) _).grown hg1 (by simp) (fun k e => nomatch (show (none : Option Nat) = some k from e)))
                          clear hown1 hg1
                          refine hK.out _ _ ?_ (fun hHeld => ?_)
                          · (try dsimp only); first | exact (JBX.out _ HZ3.out).1 | exact (JBX.out _ HZ2.out).1 | exact (JBX.out _ HZ1.out).1 | exact (JBX.out _ (HZ1.out.alloc HZ1.out.size _)).1 | exact (JBX.out _ (Below.refl _ _).drew).1 | exact (JBX.out _ ((Below.refl _ _).drew.alloc (Nat.le_refl _) _)).1
                          clear hK K
                          try simp only [Act.put, List.setIfInBounds_toArray, List.set_cons_zero, List.set_cons_succ]
                          refine wpAnyZ_ready (rs := [5]) (by kernel_rfl) (by simp) ?_
                          refine AllReadyZ.cons (o := ?oo2010) ?hi2010 (fun K hK => ?hs2010) ?hm2010
                          case hi2010 => (simp only [List.getElem?_toArray, List.getElem?_cons_succ, List.getElem?_cons_zero]; rfl)
                          · go_simp
                            refine hK.out _ _ ?_ (fun hHeld => ?_)
                            · (try dsimp only); first | exact (JBX.out _ HZ3.out).1 | exact (JBX.out _ HZ2.out).1 | exact (JBX.out _ HZ1.out).1 | exact (JBX.out _ (HZ1.out.alloc HZ1.out.size _)).1 | exact (JBX.out _ (Below.refl _ _).drew).1 | exact (JBX.out _ ((Below.refl _ _).drew.alloc (Nat.le_refl _) _)).1
                            clear hK K
                            try simp only [Act.put, List.setIfInBounds_toArray, List.set_cons_zero, List.set_cons_succ]
                            refine wpAnyZ_ready (rs := [6]) (by kernel_rfl) (by simp) ?_
                            refine AllReadyZ.cons (o := ?oo2011) ?hi2011 (fun K hK => ?hs2011) ?hm2011
                            case hi2011 => (simp only [List.getElem?_toArray, List.getElem?_cons_succ, List.getElem?_cons_zero]; rfl)
                            · refine step_append_any rfl (.tmp 60) (.tmp 61) 22 rfl w5.heap.size 3 j0 _ 8 Try.underlying22 hj hy0 hy1 hy2 rfl _ (0 + k) _ rfl (by first | exact HO1.out | exact HO1.out.alloc _) _ _ [.int .i64 0] rfl (by first | exact sees_val _ _ _ | exact (sees_val w5 (.int .i64 0) 3).below ((Below.refl _ _).drew.grown HG1.out (Nat.le_refl _) (fun k e => nomatch (show (none : Option Nat) = some k from e))) | exact (sees_val w5.drew (.int .i64 0) 3).below ((Below.refl _ _).grown HG1.out (Nat.le_refl _) (fun k e => nomatch (show (none : Option Nat) = some k from e)))) (by simp [Value.oneCell']) (by show 0 + k + 1 ≤ _; unfold maxLen; omega) (by show (0 + k + 1) * 8 ≤ _; omega) (by have := HZ1.out.size; first | exact this | (simp; omega)) ?_
                              intro vb2 wb2 hown2 hg2 _
                              have HO2 := Lib.hid hown2
                              have HZ2 : Hid (Below w5.heap.size w5 wb2) := Lib.hid (by first | exact HZ1.out.grown hg2 HZ1.out.size (fun k e => (own_low HO1.out k e).1) | exact (HZ1.out.alloc HZ1.out.size _).grown hg2 (by have := HZ1.out.size; simp; omega) (fun k e => (own_low HO1.out k e).1))
                              clear hown2 hg2
                              refine hK.out _ _ ?_ (fun hHeld => ?_)
                              · (try dsimp only); first | exact (JBX.out _ HZ3.out).1 | exact (JBX.out _ HZ2.out).1 | exact (JBX.out _ HZ1.out).1 | exact (JBX.out _ (HZ1.out.alloc HZ1.out.size _)).1 | exact (JBX.out _ (Below.refl _ _).drew).1 | exact (JBX.out _ ((Below.refl _ _).drew.alloc (Nat.le_refl _) _)).1
                              clear hK K
                              try simp only [Act.put, List.setIfInBounds_toArray, List.set_cons_zero, List.set_cons_succ]
                              refine wpAnyZ_ready (rs := [11]) (by kernel_rfl) (by simp) ?_
                              refine AllReadyZ.cons (o := ?oo2012) ?hi2012 (fun K hK => ?hs2012) ?hm2012
                              case hi2012 => (simp only [List.getElem?_toArray, List.getElem?_cons_succ, List.getElem?_cons_zero]; rfl)
                              · refine step_append_any rfl (.tmp 62) (.tmp 66) 22 rfl w5.heap.size 3 j0 _ 8 Try.underlying22 hj hy0 hy1 hy2 rfl _ (0 + k + 1) _ rfl HO2.out _ w5.heap.size ((iv cs).drop k) rfl (JD.out _ HZ2.out) JD1.out (by rw [JDL.out]; unfold maxLen; omega) (by rw [JDL.out]; omega) HZ2.out.size ?_
                                intro vb3 wb3 hown3 hg3 _
                                rw [JDL.out] at hown3
                                obtain ⟨MJ, h9⟩ : ∃ y, 0 + k + 1 + (m - k) = y := ⟨_, rfl⟩
                                rw [h9] at hown3
                                obtain ⟨AJ, cJ, e9, -, -⟩ := own_form' hown3
                                subst e9
                                have H9J := Lib.hid h9
                                have HO3 := Lib.hid hown3
                                have HZ3 : Hid (Below w5.heap.size w5 wb3) := Lib.hid (HZ2.out.grown hg3 HZ2.out.size (fun k e => (own_low HO2.out k e).1))
                                have s3 := (JBX.out wb3 HZ3.out).1
                                have f3 := (JBX.out wb3 HZ3.out).2
                                clear hown3 hg3 h9
                                refine hK.out _ _ ?_ (fun hHeld => ?_)
                                · (try dsimp only); first | exact (JBX.out _ HZ3.out).1 | exact (JBX.out _ HZ2.out).1 | exact (JBX.out _ HZ1.out).1 | exact (JBX.out _ (HZ1.out.alloc HZ1.out.size _)).1 | exact (JBX.out _ (Below.refl _ _).drew).1 | exact (JBX.out _ ((Below.refl _ _).drew.alloc (Nat.le_refl _) _)).1
                                clear hK K
                                try simp only [Act.put, List.setIfInBounds_toArray, List.set_cons_zero, List.set_cons_succ]
                                refine wpAnyZ_take (i := 12) (oi := ?oi2013) (v := ?v2013) ?hi2013 (by kernel_rfl) (by kernel_rfl) (by kernel_rfl) (by kernel_rfl) ?hq2013 ?hy2013 (by assumption) ?hr2013
                                case hi2013 => (simp only [List.getElem?_toArray, List.getElem?_cons_succ, List.getElem?_cons_zero]; rfl)
                                case hq2013 => exact fun _ _ _ h => h
                                case hy2013 => exact Or.inl ⟨by rfl, by intro whSw hSw'; (try dsimp only at hSw'); (first | (go_simp; done) | (go_simp; with_reducible rfl))⟩
                                try simp only [Act.put, List.setIfInBounds_toArray, List.set_cons_zero, List.set_cons_succ]
                                refine wpAnyZ_ready (rs := [13]) (by kernel_rfl) (by simp) ?_
                                refine AllReadyZ.last (o := ?oo2014) ?hi2014 (fun K hK => ?hs2014)
                                case hi2014 => (simp only [List.getElem?_toArray, List.getElem?_cons_succ, List.getElem?_cons_zero]; rfl)
                                · go_simp
                                  refine hK.out _ _ ?_
                                  clear hK K
                                  try simp only [Act.put, List.setIfInBounds_toArray, List.set_cons_zero, List.set_cons_succ]
                                  refine wpAnyZ_done (by kernel_rfl) ?_ _
                                  obtain ⟨w7, hw7⟩ : ∃ w7, wb3.setCell ⟨N + 1, 1, none⟩ (.slice AJ MJ cJ) = w7 := ⟨_, rfl⟩
                                  obtain ⟨cs2, hcs2⟩ : ∃ cs2, cs.take k ++ 0 :: cs.drop k = cs2 := ⟨_, rfl⟩
                                  obtain ⟨M, hM⟩ : ∃ M, m + 1 = M := ⟨_, rfl⟩
                                  have hl2 : cs2.length = M := by rw [← hcs2, ← hM]; exact mid_len HCL.out hkm
                                  have HS7 := Lib.hid (show RSt w w7 N (.slice AH MH cH) (.slice AJ MJ cJ) (putW ws x) cs2 from by
                                    rw [← hw7, ← hcs2]
                                    exact (HS5.out.keep HZ3.out).storeC HN.out (own_eq (own_base HO3.out JN5.out) (by rw [mid_len HCL.out hkm, ← H9J.out]; omega) (put_iv cs k)))
                                  rw [hw7]
                                  clear hw7 HO1 HO2 HO3 HG1 HZ1 HZ2 HZ3 s3 f3 hHeld JT JTL JT1 JD JDL JD1 JBX HS5 hs1 hs2 d1 JN5
                                  obtain ⟨A3, c3, hv3, hc3, hg3⟩ := own_form' HS7.out.oc
                                  rw [hl2] at hv3 hc3 hg3
                                  obtain ⟨g, hA3, hgb, cur, hcur⟩ := hg3 (by omega)
                                  subst hA3
                                  cases hv3
                                  obtain ⟨c, hc0⟩ : ∃ c : Nat, c = 0 := ⟨_, rfl⟩
                                  obtain ⟨d, hd⟩ : ∃ d, d = c + 1 := ⟨_, rfl⟩
                                  have kst : w7.cell? ⟨g, k, none⟩ = some (.int .i64 (c : Int)) := by
                                    have hoc := HS7.out.oc
                                    rw [hl2] at hoc
                                    rw [hoc.cellAt k (by omega), ← hcs2, hc0]
                                    unfold iv
                                    rw [List.getElem?_map, mid_at cs (by rw [HCL.out]; exact hkm)]
                                    rfl
                                  have fst : w7.frozen? ⟨g, k, none⟩ = false := frozen_of hcur
                                  have d1 : w7.cell? ⟨N + 1, 1, none⟩ = some (.slice (some ⟨g, 0, none⟩) MJ cJ) := cell_of HS7.out.box rfl
                                  have hw1 : IntKind.i64.wrap ((c : Int) + 1) = (d : Int) := by rw [IntKind.wrap_i64]; omega
                                  have hkI : (k : Int) < (MJ : Int) := by omega
                                  have HNX := Lib.hid (show RSt w (w7.setCell ⟨g, k, none⟩ (.int .i64 (d : Int))) N (.slice AH MH cH) (.slice (some ⟨g, 0, none⟩) MJ cJ) (lexW (vs.take (s + 1))) (cntW (vs.take (s + 1)) (lexW (vs.take (s + 1)))) by
                                    have h1 : lexW (vs.take (s + 1)) = putW ws x := by rw [lex_take HX.out, HWS.out]; unfold addW; rw [if_neg HNOT.out]
                                    have h2 : cntW (vs.take (s + 1)) (putW ws x) = cs.take k ++ 1 :: cs.drop k := by rw [take_snoc HX.out, cnt_new HMEM.out HNOT.out, HK.out, HCS.out]
                                    rw [h1, h2, hd, hc0, ← mid_set cs (by rw [HCL.out]; exact hkm) 0 1, hcs2]
                                    exact HS7.out.inc HN.out hl2 (by omega) 1)
                                  clear hcs2 hM hl2 hcur hgb hc0 hd HS7
                                  go_wp2_with fail
                                  go_roundg (n - (s + 1))
                                  case measure => have := HJ.out; omega
                                  case rel => exact ⟨s + 1, by go_num, by have := HJ.out; omega, Nat.le_refl _, Lib.hid ⟨⟨_, _, HNX.out⟩, HALL2.out⟩⟩
                              exact AllReadyZ.nil
                            exact AllReadyZ.nil
                          exact AllReadyZ.nil
                        refine AllReadyZ.cons (o := ?oo2015) ?hi2015 (fun K hK => ?hs2015) ?hm2015
                        case hi2015 => (simp only [List.getElem?_toArray, List.getElem?_cons_succ, List.getElem?_cons_zero]; rfl)
                        · go_simp
                          refine hK.out _ _ ?_ (fun hHeld => ?_)
                          · (try dsimp only); first | exact (JBX.out _ HZ3.out).1 | exact (JBX.out _ HZ2.out).1 | exact (JBX.out _ HZ1.out).1 | exact (JBX.out _ (HZ1.out.alloc HZ1.out.size _)).1 | exact (JBX.out _ (Below.refl _ _).drew).1 | exact (JBX.out _ ((Below.refl _ _).drew.alloc (Nat.le_refl _) _)).1
                          clear hK K
                          try simp only [Act.put, List.setIfInBounds_toArray, List.set_cons_zero, List.set_cons_succ]
                          refine wpAnyZ_ready (rs := [4]) (by kernel_rfl) (by simp) ?_
                          refine AllReadyZ.cons (o := ?oo2016) ?hi2016 (fun K hK => ?hs2016) ?hm2016
                          case hi2016 => (simp only [List.getElem?_toArray, List.getElem?_cons_succ, List.getElem?_cons_zero]; rfl)
                          · refine step_append_any rfl (.const (.slice none 0 0)) (.tmp 59) 22 rfl w5.heap.size 3 j0 _ 8 Try.underlying22 hj hy0 hy1 hy2 rfl _ 0 [] rfl (World.ownsRow_nil _ _ _ _) _ w5.heap.size ((iv cs).take k) rfl (by first | exact JT.out _ (Below.refl _ _).drew | exact JT.out _ ((Below.refl _ _).drew.alloc (Nat.le_refl _) _)) JT1.out (by rw [JTL.out]; unfold maxLen; omega) (by rw [JTL.out]; omega) (by first | exact Nat.le_refl _ | simp) ?_
                            intro vb1 wb1 hown1 hg1 _
                            rw [JTL.out] at hown1
                            have HO1 := Lib.hid hown1
                            have HG1 := Lib.hid hg1
                            have HZ1 : Hid (Below w5.heap.size w5 wb1) := Lib.hid (by first | exact (Below.refl _ _).drew.grown hg1 (Nat.le_refl _) (fun k e => nomatch (show (none : Option Nat) = some k from e)) | exact ((Below.refl _ _).drew.alloc (Nat.le_refl _) _).grown hg1 (by simp) (fun k e => nomatch (show (none : Option Nat) = some k from e)))
                            clear hown1 hg1
                            refine hK.out _ _ ?_ (fun hHeld => ?_)
                            · (try dsimp only); first | exact (JBX.out _ HZ3.out).1 | exact (JBX.out _ HZ2.out).1 | exact (JBX.out _ HZ1.out).1 | exact (JBX.out _ (HZ1.out.alloc HZ1.out.size _)).1 | exact (JBX.out _ (Below.refl _ _).drew).1 | exact (JBX.out _ ((Below.refl _ _).drew.alloc (Nat.le_refl _) _)).1
                            clear hK K
                            try simp only [Act.put, List.setIfInBounds_toArray, List.set_cons_zero, List.set_cons_succ]
                            refine wpAnyZ_ready (rs := [6]) (by kernel_rfl) (by simp) ?_
                            refine AllReadyZ.cons (o := ?oo2017) ?hi2017 (fun K hK => ?hs2017) ?hm2017
                            case hi2017 => (simp only [List.getElem?_toArray, List.getElem?_cons_succ, List.getElem?_cons_zero]; rfl)
                            · refine step_append_any rfl (.tmp 60) (.tmp 61) 22 rfl w5.heap.size 3 j0 _ 8 Try.underlying22 hj hy0 hy1 hy2 rfl _ (0 + k) _ rfl (by first | exact HO1.out | exact HO1.out.alloc _) _ _ [.int .i64 0] rfl (by first | exact sees_val _ _ _ | exact (sees_val w5 (.int .i64 0) 3).below ((Below.refl _ _).drew.grown HG1.out (Nat.le_refl _) (fun k e => nomatch (show (none : Option Nat) = some k from e))) | exact (sees_val w5.drew (.int .i64 0) 3).below ((Below.refl _ _).grown HG1.out (Nat.le_refl _) (fun k e => nomatch (show (none : Option Nat) = some k from e)))) (by simp [Value.oneCell']) (by show 0 + k + 1 ≤ _; unfold maxLen; omega) (by show (0 + k + 1) * 8 ≤ _; omega) (by have := HZ1.out.size; first | exact this | (simp; omega)) ?_
                              intro vb2 wb2 hown2 hg2 _
                              have HO2 := Lib.hid hown2
                              have HZ2 : Hid (Below w5.heap.size w5 wb2) := Lib.hid (by first | exact HZ1.out.grown hg2 HZ1.out.size (fun k e => (own_low HO1.out k e).1) | exact (HZ1.out.alloc HZ1.out.size _).grown hg2 (by have := HZ1.out.size; simp; omega) (fun k e => (own_low HO1.out k e).1))
                              clear hown2 hg2
                              refine hK.out _ _ ?_ (fun hHeld => ?_)
                              · (try dsimp only); first | exact (JBX.out _ HZ3.out).1 | exact (JBX.out _ HZ2.out).1 | exact (JBX.out _ HZ1.out).1 | exact (JBX.out _ (HZ1.out.alloc HZ1.out.size _)).1 | exact (JBX.out _ (Below.refl _ _).drew).1 | exact (JBX.out _ ((Below.refl _ _).drew.alloc (Nat.le_refl _) _)).1
                              clear hK K
                              try simp only [Act.put, List.setIfInBounds_toArray, List.set_cons_zero, List.set_cons_succ]
                              refine wpAnyZ_ready (rs := [11]) (by kernel_rfl) (by simp) ?_
                              refine AllReadyZ.cons (o := ?oo2018) ?hi2018 (fun K hK => ?hs2018) ?hm2018
                              case hi2018 => (simp only [List.getElem?_toArray, List.getElem?_cons_succ, List.getElem?_cons_zero]; rfl)
                              · refine step_append_any rfl (.tmp 62) (.tmp 66) 22 rfl w5.heap.size 3 j0 _ 8 Try.underlying22 hj hy0 hy1 hy2 rfl _ (0 + k + 1) _ rfl HO2.out _ w5.heap.size ((iv cs).drop k) rfl (JD.out _ HZ2.out) JD1.out (by rw [JDL.out]; unfold maxLen; omega) (by rw [JDL.out]; omega) HZ2.out.size ?_
                                intro vb3 wb3 hown3 hg3 _
                                rw [JDL.out] at hown3
                                obtain ⟨MJ, h9⟩ : ∃ y, 0 + k + 1 + (m - k) = y := ⟨_, rfl⟩
                                rw [h9] at hown3
                                obtain ⟨AJ, cJ, e9, -, -⟩ := own_form' hown3
                                subst e9
                                have H9J := Lib.hid h9
                                have HO3 := Lib.hid hown3
                                have HZ3 : Hid (Below w5.heap.size w5 wb3) := Lib.hid (HZ2.out.grown hg3 HZ2.out.size (fun k e => (own_low HO2.out k e).1))
                                have s3 := (JBX.out wb3 HZ3.out).1
                                have f3 := (JBX.out wb3 HZ3.out).2
                                clear hown3 hg3 h9
                                refine hK.out _ _ ?_ (fun hHeld => ?_)
                                · (try dsimp only); first | exact (JBX.out _ HZ3.out).1 | exact (JBX.out _ HZ2.out).1 | exact (JBX.out _ HZ1.out).1 | exact (JBX.out _ (HZ1.out.alloc HZ1.out.size _)).1 | exact (JBX.out _ (Below.refl _ _).drew).1 | exact (JBX.out _ ((Below.refl _ _).drew.alloc (Nat.le_refl _) _)).1
                                clear hK K
                                try simp only [Act.put, List.setIfInBounds_toArray, List.set_cons_zero, List.set_cons_succ]
                                refine wpAnyZ_take (i := 12) (oi := ?oi2019) (v := ?v2019) ?hi2019 (by kernel_rfl) (by kernel_rfl) (by kernel_rfl) (by kernel_rfl) ?hq2019 ?hy2019 (by assumption) ?hr2019
                                case hi2019 => (simp only [List.getElem?_toArray, List.getElem?_cons_succ, List.getElem?_cons_zero]; rfl)
                                case hq2019 => exact fun _ _ _ h => h
                                case hy2019 => exact Or.inl ⟨by rfl, by intro whSw hSw'; (try dsimp only at hSw'); (first | (go_simp; done) | (go_simp; with_reducible rfl))⟩
                                try simp only [Act.put, List.setIfInBounds_toArray, List.set_cons_zero, List.set_cons_succ]
                                refine wpAnyZ_ready (rs := [13]) (by kernel_rfl) (by simp) ?_
                                refine AllReadyZ.last (o := ?oo2020) ?hi2020 (fun K hK => ?hs2020)
                                case hi2020 => (simp only [List.getElem?_toArray, List.getElem?_cons_succ, List.getElem?_cons_zero]; rfl)
                                · go_simp
                                  refine hK.out _ _ ?_
                                  clear hK K
                                  try simp only [Act.put, List.setIfInBounds_toArray, List.set_cons_zero, List.set_cons_succ]
                                  refine wpAnyZ_done (by kernel_rfl) ?_ _
                                  obtain ⟨w7, hw7⟩ : ∃ w7, wb3.setCell ⟨N + 1, 1, none⟩ (.slice AJ MJ cJ) = w7 := ⟨_, rfl⟩
                                  obtain ⟨cs2, hcs2⟩ : ∃ cs2, cs.take k ++ 0 :: cs.drop k = cs2 := ⟨_, rfl⟩
                                  obtain ⟨M, hM⟩ : ∃ M, m + 1 = M := ⟨_, rfl⟩
                                  have hl2 : cs2.length = M := by rw [← hcs2, ← hM]; exact mid_len HCL.out hkm
                                  have HS7 := Lib.hid (show RSt w w7 N (.slice AH MH cH) (.slice AJ MJ cJ) (putW ws x) cs2 from by
                                    rw [← hw7, ← hcs2]
                                    exact (HS5.out.keep HZ3.out).storeC HN.out (own_eq (own_base HO3.out JN5.out) (by rw [mid_len HCL.out hkm, ← H9J.out]; omega) (put_iv cs k)))
                                  rw [hw7]
                                  clear hw7 HO1 HO2 HO3 HG1 HZ1 HZ2 HZ3 s3 f3 hHeld JT JTL JT1 JD JDL JD1 JBX HS5 hs1 hs2 d1 JN5
                                  obtain ⟨A3, c3, hv3, hc3, hg3⟩ := own_form' HS7.out.oc
                                  rw [hl2] at hv3 hc3 hg3
                                  obtain ⟨g, hA3, hgb, cur, hcur⟩ := hg3 (by omega)
                                  subst hA3
                                  cases hv3
                                  obtain ⟨c, hc0⟩ : ∃ c : Nat, c = 0 := ⟨_, rfl⟩
                                  obtain ⟨d, hd⟩ : ∃ d, d = c + 1 := ⟨_, rfl⟩
                                  have kst : w7.cell? ⟨g, k, none⟩ = some (.int .i64 (c : Int)) := by
                                    have hoc := HS7.out.oc
                                    rw [hl2] at hoc
                                    rw [hoc.cellAt k (by omega), ← hcs2, hc0]
                                    unfold iv
                                    rw [List.getElem?_map, mid_at cs (by rw [HCL.out]; exact hkm)]
                                    rfl
                                  have fst : w7.frozen? ⟨g, k, none⟩ = false := frozen_of hcur
                                  have d1 : w7.cell? ⟨N + 1, 1, none⟩ = some (.slice (some ⟨g, 0, none⟩) MJ cJ) := cell_of HS7.out.box rfl
                                  have hw1 : IntKind.i64.wrap ((c : Int) + 1) = (d : Int) := by rw [IntKind.wrap_i64]; omega
                                  have hkI : (k : Int) < (MJ : Int) := by omega
                                  have HNX := Lib.hid (show RSt w (w7.setCell ⟨g, k, none⟩ (.int .i64 (d : Int))) N (.slice AH MH cH) (.slice (some ⟨g, 0, none⟩) MJ cJ) (lexW (vs.take (s + 1))) (cntW (vs.take (s + 1)) (lexW (vs.take (s + 1)))) by
                                    have h1 : lexW (vs.take (s + 1)) = putW ws x := by rw [lex_take HX.out, HWS.out]; unfold addW; rw [if_neg HNOT.out]
                                    have h2 : cntW (vs.take (s + 1)) (putW ws x) = cs.take k ++ 1 :: cs.drop k := by rw [take_snoc HX.out, cnt_new HMEM.out HNOT.out, HK.out, HCS.out]
                                    rw [h1, h2, hd, hc0, ← mid_set cs (by rw [HCL.out]; exact hkm) 0 1, hcs2]
                                    exact HS7.out.inc HN.out hl2 (by omega) 1)
                                  clear hcs2 hM hl2 hcur hgb hc0 hd HS7
                                  go_wp2_with fail
                                  go_roundg (n - (s + 1))
                                  case measure => have := HJ.out; omega
                                  case rel => exact ⟨s + 1, by go_num, by have := HJ.out; omega, Nat.le_refl _, Lib.hid ⟨⟨_, _, HNX.out⟩, HALL2.out⟩⟩
                              exact AllReadyZ.nil
                            exact AllReadyZ.nil
                          exact AllReadyZ.nil
                        exact AllReadyZ.nil
                    exact AllReadyZ.nil
                  exact AllReadyZ.nil
                exact AllReadyZ.nil
              exact AllReadyZ.nil
      · obtain rfl : s = n := by omega
        have hlti : ¬ (s : Int) < (s : Int) := by omega
        have hfull : vs.take s = vs := List.take_of_length_le (by rw [HCN.out]; exact Nat.le_refl _)
        rw [hfull] at HST HALL
        have hz := errL_all vs HALL.out
        obtain ⟨ws, hws⟩ : ∃ ws, lexW vs = ws := ⟨_, rfl⟩
        obtain ⟨cs, hcs⟩ : ∃ cs, cntW vs ws = cs := ⟨_, rfl⟩
        rw [hws, hcs] at HST
        have hcl : cs.length = ws.length := by rw [← hcs]; simp [cntW]
        have hlx : ws.length ≤ s := by rw [← hws, ← HCN.out]; exact lex_len vs
        obtain ⟨A1, c1, hv1, hc1, hg1⟩ := own_form' HST.out.ow
        obtain ⟨A2, c2, hv2, hc2, hg2⟩ := own_form' HST.out.oc
        subst hv1 hv2
        obtain ⟨m, hm⟩ : ∃ m, ws.length = m := ⟨_, rfl⟩
        rw [hcl, hm] at HST hc2
        rw [hm] at hc1 hlx
        obtain ⟨wA, hwA⟩ : ∃ wA, wA = wr := ⟨_, rfl⟩
        subst hwA
        have d0 : wA.cell? ⟨N + 1, 0, none⟩ = some (.slice A1 m c1) := cell_of HST.out.box rfl
        have HW := Lib.hid (And.intro hws hcs)
        have HM := Lib.hid hm
        by_cases hbw : 1024 < m
        · have hbI : (1024 : Int) < (m : Int) := by omega
          have HEE := Lib.hid (show buildE vs = 2 by rw [HE0.out, if_neg (by rw [hz]; simp), hws, hm, if_pos hbw])
          have r0 : wA.cell? ⟨N, 0, none⟩ = some (.slice none 0 0) := cell_of HST.out.res rfl
          have r1 : wA.cell? ⟨N, 1, none⟩ = some (.slice none 0 0) := cell_of HST.out.res rfl
          have f0 : wA.frozen? ⟨N, 0, none⟩ = false := frozen_of HST.out.res
          have f1 : wA.frozen? ⟨N, 1, none⟩ = false := frozen_of HST.out.res
          clear hfull hz hws hcs hcl hm hg1 hg2
          go_wp2_with fail
          refine bodyPost_ret (refB_results rfl rfl rfl (by have := set_of (set_of HST.out.res (i := 0) (.slice none 0 0)) (i := 1) (.slice none 0 0); exact this)) rfl ?_
          exact refB_bad ((HST.out.below.setCell (p := ⟨N, 0, none⟩) (by rw [HN.out]; exact Nat.le_refl _) _).setCell (p := ⟨N, 1, none⟩) (by rw [HN.out]; exact Nat.le_refl _) _) HEE.out (by decide)
        · have hbI : ¬ (1024 : Int) < (m : Int) := by omega
          have HEE := Lib.hid (show buildE vs = 0 by rw [HE0.out, if_neg (by rw [hz]; simp), hws, hm, if_neg hbw])
          obtain ⟨N2, hN2⟩ : ∃ N2, wA.heap.size = N2 := ⟨_, rfl⟩
          have HN2 := Lib.hid hN2
          have HSU0 := Lib.hid (show OwnN wA wA N2 (.slice none 0 0) ((vs.take 0).map (fnd ws)) from ⟨World.ownsRow_nil _ _ _ _, Below.refl _ _⟩)
          clear hfull hz hws hcs hcl hm hg1 hg2 hN2
          go_wp2_with fail
          go_loopg [10, 84] s (fun gg av sv' wr => ∃ (j : Nat) (v : Value), j ≤ s ∧ s - j ≤ gg ∧ v = av ∧ sv' = .int .i64 j ∧ Hid (OwnN wA wr N2 v ((vs.take j).map (fnd ws))))
          case atStart => exact ⟨0, _, Nat.zero_le _, Nat.le_refl _, rfl, rfl, HSU0⟩
          case round =>
            clear HSU0 d0
            obtain ⟨j, v, hjn, hgj, rfl, rfl, HR⟩ := hrel
            have HS2 := Lib.hid (HST.out.keep HR.out.below)
            have HBB := Lib.hid HR.out.below
            by_cases hlt : j < s
            · have hjI : (j : Int) < (s : Int) := by omega
              obtain ⟨x, hx⟩ : ∃ x, vs[j]? = some x := ⟨_, List.getElem?_eq_getElem (by rw [HCN.out]; exact hlt)⟩
              obtain ⟨b1, o1, rfl, -, hj1⟩ := at_str (HV.out wr HS2.out.below) (by rw [HCN.out]; omega)
              have u0 := hj1 j x hx
              have HF := Lib.hid (refFind_any (w := wr) (vc := .slice A2 m c2) (rows_sv HS2.out.ow) (by rw [HM.out]; unfold maxLen; omega) x)
              unfold FindV at HF
              obtain ⟨T, hT⟩ : ∃ T : ByteArray, (⟨x.toArray⟩ : ByteArray) = T := ⟨_, rfl⟩
              obtain ⟨k, hk⟩ : ∃ k, fnd ws x = k := ⟨_, rfl⟩
              obtain ⟨q, hq⟩ : ∃ q, decide (ws[k]? = some x) = q := ⟨_, rfl⟩
              rw [hk, hT, hq] at HF
              rw [hT] at u0
              have hstep : (vs.take (j + 1)).map (fnd ws) = (vs.take j).map (fnd ws) ++ [k] := by rw [take_snoc hx, List.map_append, ← hk]; rfl
              have hal : ((vs.take j).map (fnd ws)).length ≤ 1000000 := by rw [List.length_map, List.length_take]; omega
              obtain ⟨acc, hacc⟩ : ∃ acc, (vs.take j).map (fnd ws) = acc := ⟨_, rfl⟩
              rw [hacc] at HR hstep hal
              have HSTEP := Lib.hid hstep
              obtain ⟨ln, hln⟩ : ∃ ln, acc.length = ln := ⟨_, rfl⟩
              have hown := HR.out.own
              rw [hln] at hown hal
              have HOWN := Lib.hid hown
              have HLN := Lib.hid hln
              have d0 : wr.cell? ⟨N + 1, 0, none⟩ = some (.slice A1 m c1) := cell_of HS2.out.box rfl
              have d1 : wr.cell? ⟨N + 1, 1, none⟩ = some (.slice A2 m c2) := cell_of HS2.out.box rfl
              have HJ := Lib.hid (And.intro hlt hgj)
              clear hj1 hx hT hk hq hstep hacc hln hown HR hgj HS2
              go_wp2_with fail
              refine HF.out.mono ?_
              rintro e w4 ⟨rfl, hb4⟩
              have HOWN4 := Lib.hid (own_below' (N := N2) HOWN.out hb4)
              have HB4 := Lib.hid (show Below wA.heap.size wA w4 from HBB.out.trans (hb4.mono HBB.out.size))
              have HNB := Lib.hid (show N2 ≤ w4.heap.size by rw [← HN2.out]; exact HB4.out.size)
              clear hb4 HOWN HBB HF d0 d1 u0
              go_wp2_with (at_builtin; refine wpList_pushI rfl (.tmp 94) (.tmp 96) rfl N2 v ln _ (k : Int) rfl rfl HOWN4.out hal HNB.out ?_; intro v' w5 ho hg)
              have HNX := Lib.hid (show OwnN wA w5 N2 v' ((vs.take (j + 1)).map (fnd ws)) from ⟨by
                have := ho.out
                rw [HSTEP.out]
                simpa [HLN.out] using this, hg.out _ _ HB4.out (by rw [HN2.out]; exact Nat.le_refl _)⟩)
              clear ho hg HOWN4 HB4 HNB hal
              go_wp2_with fail
              go_roundg (s - (j + 1))
              case measure => have := HJ.out; omega
              case rel => exact ⟨j + 1, v', by have := HJ.out; omega, Nat.le_refl _, rfl, by go_num, HNX⟩
            · obtain rfl : j = s := by omega
              have hjI : ¬ (j : Int) < (j : Int) := by omega
              have hfull : vs.take j = vs := List.take_of_length_le (by rw [HCN.out]; exact Nat.le_refl _)
              have hnw : vs.map (fnd ws) = numW vs := by unfold numW; rw [HW.out.1]
              rw [hfull, hnw] at HR
              have HFIN := Lib.hid hnw
              have r0 : wr.cell? ⟨N, 0, none⟩ = some (.slice none 0 0) := cell_of HS2.out.res rfl
              have r1 : wr.cell? ⟨N, 1, none⟩ = some (.slice none 0 0) := cell_of HS2.out.res rfl
              have f0 : wr.frozen? ⟨N, 0, none⟩ = false := frozen_of HS2.out.res
              have f1 : wr.frozen? ⟨N, 1, none⟩ = false := frozen_of HS2.out.res
              have d0 : wr.cell? ⟨N + 1, 0, none⟩ = some (.slice A1 m c1) := cell_of HS2.out.box rfl
              have d1 : wr.cell? ⟨N + 1, 1, none⟩ = some (.slice A2 m c2) := cell_of HS2.out.box rfl
              have HNL := Lib.hid (show N < N2 by have := HST.out.size; rw [HN2.out] at this; omega)
              clear hfull hnw hgj
              go_wp2_with fail
              refine bodyPost_ret (refB_results rfl rfl rfl (by have := set_of (set_of HS2.out.res (i := 0) (.slice A1 m c1)) (i := 1) (.slice A2 m c2); exact this)) rfl ?_
              refine ⟨(HS2.out.below.setCell (p := ⟨N, 0, none⟩) (by rw [HN.out]; exact Nat.le_refl _) _).setCell (p := ⟨N, 1, none⟩) (by rw [HN.out]; exact Nat.le_refl _) _, .inr ⟨HEE.out, _, _, _, rfl, ?_, ?_, ?_⟩⟩
              · rw [HW.out.1]
                exact rows_sv (own_store (own_store HS2.out.ow (by omega)) (by omega))
              · rw [HW.out.1, HW.out.2]
                exact rows_iv (own_store (own_store HS2.out.oc (by omega)) (by omega))
              · exact OwnN.rows (N := N2) ⟨own_store (own_store HR.out.own HNL.out) HNL.out, Below.refl _ _⟩
end Go.Proofs.Yteennnhinfnahaa
