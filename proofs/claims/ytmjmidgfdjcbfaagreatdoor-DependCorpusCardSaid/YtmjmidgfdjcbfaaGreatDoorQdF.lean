/-
  WALKS over package corpus: the validator: one node.
-/
import Derived.Test.YtmjmidgfdjcbfaaGreatDoorQdE
import Derived.Test.YtmjmidgfdjcbfaaGreatDoorQdB
import Derived.Test.YtmjmidgfdjcbfaaGreatDoorQkP
namespace Go.Proofs.YtmjmidgfdjcbfaaGreatDoor
open Go.RowKit Go.Shelf Go.Lib
set_option linter.unusedVariables false

def encI (k : Int) : List Value := [.int .i64 k]
theorem encI_len (k : Int) : (encI k).length = 1 := rfl
theorem encI_one (l : List Int) : ∀ u ∈ l.flatMap encI, u.oneCell' = true := by
  intro u hu
  obtain ⟨k, _, hk⟩ := List.mem_flatMap.1 hu
  simp only [encI, List.mem_singleton] at hk
  rw [hk]; rfl
theorem rows_int {w : World} {base : Nat} {T : TypeId} {v : Value} {l : List Int} (h : w.ownsRow base T 1 v l.length (l.flatMap encI)) : Rows 1 EInt w v l := rows_of_own encI_len h
theorem own_take {w : World} {base : Nat} {T : TypeId} {A : Option Addr} {m cap : Nat} {xs : List Value} (h : w.ownsRow base T 1 (.slice A m cap) m xs) {k : Nat} (hk : k ≤ m) : w.ownsRow base T 1 (.slice A k cap) k (xs.take k) := by
  have hl := h.1
  rw [Nat.mul_one] at hl
  refine ⟨by rw [List.length_take, Nat.mul_one]; omega, ?_⟩
  rcases h.2 with ⟨hv, h0⟩ | ⟨g, cap', cur, hv, hb, hh, hc, hm, hs, ht⟩
  · cases hv
    have hk0 : k = 0 := by omega
    subst hk0
    exact .inl ⟨rfl, rfl⟩
  · cases hv
    refine .inr ⟨g, cap, cur, rfl, hb, hh, by omega, hm, hs, ?_⟩
    rw [← ht, Nat.mul_one, Nat.mul_one, List.take_take, Nat.min_eq_left hk]
theorem flatI_take (l : List Int) (k : Nat) : (l.flatMap encI).take k = (l.take k).flatMap encI := by
  have : ∀ m : List Int, m.flatMap encI = m.map (Value.int .i64) := fun m => by
    induction m with
    | nil => rfl
    | cons a m ih => rw [List.flatMap_cons, ih]; rfl
  rw [this, this, List.map_take]
theorem index_any {W : World} {v : Value} {l : List Int} (hv : Rows 1 EInt W v l) (hl : l.length ≤ maxLen) (x : Int) :
    Calls Tryz.prog 64 #[v, .int .i64 x] W fun e w' => e = .returned (.int .i64 (Lib.idxOf l x)) ∧ w' = W := by
  obtain ⟨A, cap, rfl, hc⟩ := hv.form
  by_cases h0 : l.length = 0
  · have : l = [] := List.length_eq_zero_iff.1 h0
    subst this
    exact Tryz.slices_Index_int_empty A cap x W
  · obtain ⟨b, off, rfl, hb, hj⟩ := at_int hv (by omega)
    have := Tryz.slices_Index_int b off l.length cap l x W (Nat.le_refl _) hl (fun j hjl => by
      rw [hj j l[j] (List.getElem?_eq_getElem hjl)]
      simp [hjl])
    rw [List.take_length] at this
    exact this
theorem Tryz.infoInt : (Tryz.prog.info? 3).map (fun i => (i.zero, i.size, i.bytes)) = some (some (.int .i64 0), 1, 8) := by kernel_rfl
theorem v_keptN {w w' : World} {B : Nat} {s : Sv} {ov p y : Value} {o : Obj} {row : Option Nat} (hV : VAt w B s ov p y) (hne : some B ≠ row) (hg : (w.alloc o).grownBy w' row) : VAt w' B s ov p y :=
  (hg.block B (by simp; have := hV.lt; omega) hne).trans (block_alloc o hV)
/-- What the check of node i answers and leaves behind. -/
def NodV (c : Cor) (s : Sv) (ov y : Value) (B i : Nat) (W : World) (r : Ending) (w' : World) : Prop :=
  r = .returned (.int .i64 (nodeE c i : Nat)) ∧ Below B W w' ∧ KeepP W w' ∧ (nodeE c i = 0 → ∃ pv', VAt w' B s ov pv' y ∧ w'.ownsRow (B + 1) 3 1 pv' (pathAt c.nodes (i + 1)).length ((pathAt c.nodes (i + 1)).flatMap encI))

set_option maxRecDepth 100000 in
set_option maxHeartbeats 16000000 in
theorem vNode {c : Cor} {s : Sv} {ov pv y : Value} {B : Nat} {W : World} (hV : VAt W B s ov pv y) (h : CorAt W s c) (hl2 : c.texts.length ≤ maxLen) (hT : ∀ i, i < c.texts.length → textE c i = 0)
    (i : Nat) (hi : i < c.nodes.length) (hrl : c.nodes.length ≤ 1000000) (hs : ∀ t ∈ c.nodes, t.label.length ≤ maxLen)
    (hown : W.ownsRow (B + 1) 3 1 pv (pathAt c.nodes i).length ((pathAt c.nodes i).flatMap encI)) :
    Calls Tryz.prog 28 #[.pointer (some ⟨B, 0, none⟩), .int .i64 (i : Int)] W (NodV c s ov y B i W) := by
  obtain ⟨x, hx⟩ : ∃ x, c.nodes[i]? = some x := ⟨_, List.getElem?_eq_getElem hi⟩
  have hz1 := hs x (List.mem_of_getElem? hx)
  have hae : nodeE c i = if nameB x.label = false then 4 else if within c x.b x.e = false then 8 else nodeP c.nodes (pathAt c.nodes i) x := by unfold nodeE; rw [hx]
  have hnext : pathAt c.nodes (i + 1) = (pathAt c.nodes i).take (aboveN (pathAt c.nodes i) x.parent) ++ [(i : Int)] := by rw [pathAt, hx]
  obtain ⟨hpr, hpl⟩ := pathAt_range c.nodes i
  obtain ⟨Pa, hPa⟩ : ∃ Pa, pathAt c.nodes i = Pa := ⟨_, rfl⟩
  rw [hPa] at hae hnext hpr hpl hown
  have hal := above_le Pa x.parent
  have ham := fun h => above_mem (P := Pa) (p := x.parent) h
  have hia := idx_above Pa x.parent
  have hwt := fun W' (hb : Below W.heap.size W W') => withinText_any (hV.below hb) (h.x.below stays_ex hb) hl2 hT x.b x.e
  have hins := fun W' (hb : Below W.heap.size W W') z k hk => inside_any (hV.below hb) (h.n.below stays_nd hb) (by unfold maxLen; omega) x z k hk
  have hidx := fun W' (hb : Below W.heap.size W W') => index_any (rows_int (own_after hown hb)) (by unfold maxLen; omega) x.parent
  have hpcell := fun W' (hb : Below W.heap.size W W') => rows_int (own_after hown hb)
  obtain ⟨-, -, -, -, c4, -, -, -, c8, -⟩ := hV.c
  have hBl := hV.lt
  obtain ⟨A2, cap2, hvr, hc2⟩ := h.n.form
  have hrx := h.n
  rw [hvr] at hrx c4
  obtain ⟨bk, off, rfl, hbl, hj⟩ := at_nd hrx (by omega)
  obtain ⟨k0, k1, k2, k3⟩ := hj i x hx
  have hcells : ∀ (j : Nat) z, c.nodes[j]? = some z → ∀ W', Below W.heap.size W W' → W'.cell? ⟨bk, off + j * 4 + 2, none⟩ = some (.int .i64 z.e) := fun j z hz W' hb => (hb.cell (p := ⟨bk, off + j * 4 + 2, none⟩) hbl).trans (hj j z hz).2.2.1
  have hnp : nodeP c.nodes Pa x = if aboveN Pa x.parent = 0 ∧ x.parent ≠ -1 then 6
    else if 0 < aboveN Pa x.parent ∧ ¬ ((ndAt c.nodes x.parent).b ≤ x.b ∧ x.e ≤ (ndAt c.nodes x.parent).e) then 8
    else if aboveN Pa x.parent < Pa.length ∧ x.b < (ndAt c.nodes (Pa.getD (aboveN Pa x.parent) 0)).e then 8
    else if 40 < aboveN Pa x.parent + 1 then 2 else 0 := rfl
  obtain ⟨P, hP⟩ : ∃ s : ByteArray, (⟨x.label.toArray⟩ : ByteArray) = s := ⟨_, rfl⟩
  have hPl : P.data.toList = x.label := by rw [← hP]
  have hvn := fun W => validName_any P (by rw [Lib.size_eq, hPl]; exact hz1) W
  rw [hPl] at hvn
  rw [hP] at k0
  simp only [hP] at hins
  obtain ⟨a, ha⟩ : ∃ a, nameB x.label = a := ⟨_, rfl⟩
  obtain ⟨q, hq⟩ : ∃ q, within c x.b x.e = q := ⟨_, rfl⟩
  rw [ha] at hae hvn
  rw [hq] at hae hwt
  obtain ⟨r0, hr0⟩ : ∃ r0, nodeE c i = r0 := ⟨_, rfl⟩
  have hgoal : NodV c s ov y B i W = fun r w' => r = .returned (.int .i64 (r0 : Nat)) ∧ Below B W w' ∧ KeepP W w' ∧ (r0 = 0 → ∃ pv', VAt w' B s ov pv' y ∧ w'.ownsRow (B + 1) 3 1 pv' (pathAt c.nodes (i + 1)).length ((pathAt c.nodes (i + 1)).flatMap encI)) := by
    funext r w'
    unfold NodV
    rw [hr0]
  rw [hgoal]
  rw [hr0] at hae
  obtain ⟨n, hn⟩ : ∃ n, c.nodes.length = n := ⟨_, rfl⟩
  have hnd : ∀ k : Nat, k < n → ∃ z, c.nodes[k]? = some z ∧ ndAt c.nodes (k : Int) = z := fun k hk => ⟨c.nodes[k]'(by omega), List.getElem?_eq_getElem _, by unfold ndAt; rw [Int.toNat_natCast, List.getD_eq_getElem?_getD, List.getElem?_eq_getElem (by omega)]; rfl⟩
  rw [hn] at c4 hi hrl hc2
  obtain ⟨xb, hxb⟩ : ∃ xb, x.b = xb := ⟨_, rfl⟩
  obtain ⟨xe, hxe⟩ : ∃ xe, x.e = xe := ⟨_, rfl⟩
  obtain ⟨xp, hxp⟩ : ∃ xp, x.parent = xp := ⟨_, rfl⟩
  rw [hxp] at hnp hal ham hia hnext hidx k3
  rw [hxb] at k1
  rw [hxe] at k2
  rw [hxb, hxe] at hnp hwt
  simp only [hxb, hxe, hxp] at hins
  obtain ⟨m, hm⟩ : ∃ m, Pa.length = m := ⟨_, rfl⟩
  obtain ⟨av, hav⟩ : ∃ av, aboveN Pa xp = av := ⟨_, rfl⟩
  obtain ⟨iz, hiz⟩ : ∃ iz, Lib.idxOf Pa xp = iz := ⟨_, rfl⟩
  rw [hav] at hnp hal ham hia hnext
  rw [hm] at hnp hal hpl hown
  rw [hiz] at hia hidx
  obtain ⟨pA, pc, hpv, hpcl⟩ := own_form hown
  subst hpv
  have hlt : (i : Int) < (n : Int) := by omega
  obtain ⟨X, hX⟩ : ∃ X, W.alloc (.cells #[.string P, .int .i64 xb, .int .i64 xe, .int .i64 xp] 109) = X := ⟨_, rfl⟩
  have hbX : Below W.heap.size W X := by rw [← hX]; exact below_box W _
  obtain ⟨N0, hN0⟩ : ∃ N0, W.heap.size = N0 := ⟨_, rfl⟩
  have hRX : X.heap[N0]? = some (.cells #[.string P, .int .i64 xb, .int .i64 xe, .int .i64 xp] 109 (0, 0)) := by rw [← hX, ← hN0]; exact block_new W _
  have g0 : X.cell? ⟨N0, 0, none⟩ = some (.string P) := cell_of hRX rfl
  have g1 : X.cell? ⟨N0, 1, none⟩ = some (.int .i64 xb) := cell_of hRX rfl
  have g2 : X.cell? ⟨N0, 2, none⟩ = some (.int .i64 xe) := cell_of hRX rfl
  have HX := Lib.hid hX
  have HN0 := Lib.hid hN0
  have HBX := Lib.hid hbX
  have HRX := Lib.hid hRX
  have HVW := Lib.hid (fun W' (hb : Below W.heap.size W W') => hV.below hb)
  have HOW := Lib.hid (fun W' (hb : Below W.heap.size W W') => own_after hown hb)
  have HVN := Lib.hid hvn
  have HWT := Lib.hid hwt
  have HINS := Lib.hid hins
  have HIDX := Lib.hid hidx
  have HPC := Lib.hid hpcell
  have HAE := Lib.hid hae
  have HNP := Lib.hid hnp
  have HNX := Lib.hid hnext
  have HAL := Lib.hid hal
  have HAM := Lib.hid ham
  have HIA := Lib.hid hia
  have HBL := Lib.hid hBl
  have HC4 := Lib.hid (fun W' (hb : Below W.heap.size W W') => (hb.cell (p := ⟨B, 4, none⟩) hBl).trans c4)
  have HC8 := Lib.hid (fun W' (hb : Below W.heap.size W W') => (hb.cell (p := ⟨B, 8, none⟩) hBl).trans c8)
  have HCE := Lib.hid hcells
  have HND := Lib.hid hnd
  have HPR := Lib.hid hpr
  have HM := Lib.hid hm
  have HPCL := Lib.hid hpcl
  have HC2 := Lib.hid hc2
  have HPL := Lib.hid hpl
  have HRL := Lib.hid hrl
  have HI := Lib.hid hi
  have HSZ := Lib.hid (show B < N0 from hN0 ▸ hBl)
  clear hvn hwt hins hidx hpcell hae hnp hnext ham hia hX hbX hN0 hRX hown hx hj hrx hP hPl hq ha hr0 hn hgoal h hV hz1 hs hpr hbl hvr hcells hnd hm hav hiz hxb hxe hxp hPa c8 hpl
  go_enter Tryz.func28, Tryz.ntmps28
  go_wp2_with fail
  rw [HX.out, HN0.out]
  clear k0 k1 k2 k3 c4
  go_wp2_with fail
  refine (HVN.out _).mono ?_
  rintro e w1 ⟨rfl, rfl⟩
  cases a with
  | false =>
    go_wp2_with fail
    go_ret
    exact ⟨by rw [HAE.out]; rfl, HBX.out.mono (by have := HN0.out; have := HBL.out; omega), keep_below HBX.out, fun h => by rw [HAE.out] at h; cases h⟩
  | true =>
    go_wp2_with fail
    refine (HWT.out _ HBX.out).mono ?_
    rintro e w2 ⟨rfl, hb2⟩
    have HB2 := Lib.hid (HBX.out.trans (hb2.mono HBX.out.size))
    have HR2 := Lib.hid (block_below HRX.out hb2 (Array.getElem?_eq_some_iff.1 HRX.out).1)
    clear hb2 g0 g1 g2
    cases q with
    | false =>
      go_wp2_with fail
      go_ret
      exact ⟨by rw [HAE.out]; rfl, HB2.out.mono (by have := HN0.out; have := HBL.out; omega), keep_below HB2.out, fun h => by rw [HAE.out] at h; cases h⟩
    | true =>
      have HAP : Hid (r0 = nodeP c.nodes Pa x) := Lib.hid (by rw [HAE.out]; rfl)
      have g3 : w2.cell? ⟨N0, 3, none⟩ = some (.int .i64 xp) := cell_of HR2.out rfl
      have d8 : w2.cell? ⟨B, 8, none⟩ = some (.slice pA m pc) := HC8.out w2 HB2.out
      have hwr : IntKind.i64.wrap (iz + 1) = (av : Int) := by rw [HIA.out, IntKind.wrap_i64]; have := HAL.out; have := HPL.out; have := HI.out; have := HRL.out; omega
      go_wp2_with fail
      go_region_held3 (fun w' => w'.cell? ⟨B, 8, none⟩ = some (.slice pA m pc) ∧ w'.cell? ⟨N0, 3, none⟩ = some (.int .i64 xp))
        (first
          | go_keep
          | fail)
        ((first
          | (go_at_call 64; (with_reducible refine (HIDX.out _ HB2.out).mono ?_); rintro e w3 ⟨rfl, rfl⟩)
          | (go_at_call 64; (with_reducible refine (HIDX.out _ HB2.out.drew).mono ?_); rintro e w3 ⟨rfl, rfl⟩)
          | fail))
      obtain ⟨w4, hw4⟩ : ∃ w4, w2.drew = w4 := ⟨_, rfl⟩
      have HB4 := Lib.hid (show Below W.heap.size W w4 from hw4 ▸ HB2.out.drew)
      have HR4 := Lib.hid (show w4.heap[N0]? = some (.cells #[.string P, .int .i64 xb, .int .i64 xe, .int .i64 xp] 109 (0, 0)) from hw4 ▸ HR2.out)
      rw [hw4]
      clear hw4 d8 g3 hwr
      have g3 : w4.cell? ⟨N0, 3, none⟩ = some (.int .i64 xp) := cell_of HR4.out rfl
      by_cases hav0 : av = 0
      · have e0 : ((av : Int) == 0) = true := by simp [hav0]
        have e1 : ¬ (0 : Int) < (av : Int) := by omega
        by_cases hxp : xp = -1
        · have e2 : (xp != -1) = false := by simp [hxp]
          have HT : Hid (r0 = if av < m ∧ xb < (ndAt c.nodes (Pa.getD av 0)).e then 8 else if 40 < av + 1 then 2 else 0) := Lib.hid (by rw [HAP.out, HNP.out, if_neg (fun h => h.2 hxp), if_neg (fun h => by omega)])
          have HAV := Lib.hid hav0
          clear hav0 hxp
          go_wp2_with fail
          clear g3 e2
          have d8 : w4.cell? ⟨B, 8, none⟩ = some (.slice pA m pc) := HC8.out w4 HB4.out
          have d4 : w4.cell? ⟨B, 4, none⟩ = some (.slice (some ⟨bk, off, none⟩) n cap2) := HC4.out w4 HB4.out
          have y1 : w4.cell? ⟨N0, 1, none⟩ = some (.int .i64 xb) := cell_of HR4.out rfl
          by_cases hlm : av < m
          · have hlmi : (av : Int) < (m : Int) := by omega
            obtain ⟨pk2, hpk2⟩ : ∃ pk2, Pa[av]? = some pk2 := ⟨_, List.getElem?_eq_getElem (by rw [HM.out]; exact hlm)⟩
            obtain ⟨hq0, hq1⟩ := HPR.out pk2 (List.mem_of_getElem? hpk2)
            obtain ⟨j, rfl⟩ : ∃ j : Nat, pk2 = (j : Int) := ⟨pk2.toNat, by omega⟩
            obtain ⟨u, hu, hun⟩ := HND.out j (by have := HI.out; omega)
            obtain ⟨pb, po, hpA, -, hpj⟩ := at_int (HPC.out w4 HB4.out) (by rw [HM.out]; omega)
            have y2 := hpj av _ hpk2
            have y3 := HCE.out j u hu w4 HB4.out
            have hgd : Pa.getD av 0 = (j : Int) := by rw [List.getD_eq_getElem?_getD, hpk2]; rfl
            obtain ⟨ue, hue⟩ : ∃ ue, u.e = ue := ⟨_, rfl⟩
            rw [hue] at y3
            have hji : (j : Int) < (n : Int) := by have := HI.out; omega
            have hj0 : (0 : Int) ≤ (j : Int) := by omega
            have ha0 : (0 : Int) ≤ (av : Int) := by omega
            subst hpA
            by_cases hxu : xb < ue
            · have HH : Hid (r0 = 8) := Lib.hid (by rw [HT.out, if_pos ⟨hlm, by rw [hgd, hun, hue]; exact hxu⟩])
              clear hpj hpk2 hgd hun hu hue hq0 hq1 hlm
              go_quiet (fail)
              go_wp2_with fail
              go_ret
              exact ⟨by rw [HH.out]; rfl, (below_drewN HB4.out _).mono (by have := HN0.out; have := HBL.out; omega), keep_below (below_drewN HB4.out _), fun h => by rw [HH.out] at h; cases h⟩
            · have HNG : Hid (¬ (av < m ∧ xb < (ndAt c.nodes (Pa.getD av 0)).e)) := Lib.hid (fun h => hxu (by have := h.2; rw [hgd, hun, hue] at this; exact this))
              clear hpj hpk2 hgd hun hu hue hq0 hq1 hlm
              go_quiet (fail)
              have HXU := Lib.hid hxu
              clear hxu hji hj0 ha0 hlmi
              obtain ⟨w7, hw7⟩ : ∃ w7, w4.drewN nq = w7 := ⟨_, rfl⟩
              have HB7 := Lib.hid (show Below W.heap.size W w7 from hw7 ▸ below_drewN HB4.out _)
              rw [hw7]
              clear hw7 d8 d4 y1 y2 y3
              have d8 : w7.cell? ⟨B, 8, none⟩ = some (.slice (some ⟨pb, po, none⟩) m pc) := HC8.out w7 HB7.out
              have hac : (av : Int) ≤ (pc : Int) := by have := HAL.out; have := HPCL.out; omega
              have ha0 : (0 : Int) ≤ (av : Int) := by omega
              have hV7 := HVW.out w7 HB7.out
              have hO7 := own_take (HOW.out w7 HB7.out) HAL.out
              obtain ⟨i0, hin, hz0, hz1, hz2⟩ := info_parts' Tryz.infoInt
              have hBs := hV7.lt
              have HV7 := Lib.hid hV7
              have HO7 := Lib.hid hO7
              have HPB : Hid (∀ k, (Value.slice (some ⟨pb, po, none⟩) av pc).ownBlock = some k → B + 1 ≤ k) := Lib.hid (fun k e => (own_low hO7 k e).1)
              have hav6 : av ≤ 1000000 := by have := HAL.out; have := HPL.out; have := HI.out; have := HRL.out; omega
              clear hV7 hO7
              go_wp2_with (at_builtin; refine wpList_append_own _ rfl (.tmp 89) (.tmp 91) 22 rfl (B + 1) 3 i0 _ 1 8 Tryz.underlying22 hin hz0 hz1 hz2 rfl (by decide) _ av _ rfl (HO7.out.alloc _) _ 1 1 [.int .i64 (i : Int)] rfl rfl (news_at _ _ _) (by simp [Value.oneCell']) (by unfold maxLen; omega) (by omega) (by simp; omega) ?_)
              intro v8 w8 hown8 hg8 _
              obtain ⟨A8, c8, hv8, hc8⟩ := own_form hown8
              subst hv8
              have hV8 : VAt w8 B s ov (.slice (some ⟨pb, po, none⟩) m pc) y := v_keptN HV7.out (fun e => by have := HPB.out B e.symm; omega) hg8
              have hB8 : Below B W w8 := ((HB7.out.mono (by have := HN0.out; have := HBL.out; omega)).alloc (by omega) _).grown hg8 (by simp; omega) (fun k e => by have := HPB.out k e; omega)
              have e8 : w8.cell? ⟨B, 8, none⟩ = some (.slice (some ⟨pb, po, none⟩) m pc) := cell_of hV8 rfl
              have f8 : w8.frozen? ⟨B, 8, none⟩ = false := frozen_of hV8
              obtain ⟨w9, hw9⟩ : ∃ w9, w8.setCell ⟨B, 8, none⟩ (.slice A8 (av + 1) c8) = w9 := ⟨_, rfl⟩
              have hV9 : VAt w9 B s ov (.slice A8 (av + 1) c8) y := by rw [← hw9]; exact set_of hV8 _
              have hO9 : w9.ownsRow (B + 1) 3 1 (.slice A8 (av + 1) c8) (av + 1) ((Pa.flatMap encI).take av ++ [.int .i64 (i : Int)]) := by rw [← hw9]; exact ownsRow_setCell_below hown8 (by show B < B + 1; omega) _
              have hB9 : Below B W w9 := by
                rw [← hw9]
                exact hB8.trans ⟨rfl, rfl, rfl, by simp [World.setCell], fun k hk => Below.heap_setCell _ _ _ k (by show k ≠ B; omega)⟩
              have hnl : (pathAt c.nodes (i + 1)).length = av + 1 := by rw [HNX.out, List.length_append, List.length_take, HM.out]; have := HAL.out; simp; omega
              have hnf : (Pa.flatMap encI).take av ++ [.int .i64 (i : Int)] = (pathAt c.nodes (i + 1)).flatMap encI := by rw [HNX.out, List.flatMap_append, flatI_take]; rfl
              rw [hnf] at hO9
              have HK9 := Lib.hid (show KeepP W w9 from hw9 ▸ (((keep_below HB7.out).trans (keep_below (w' := w7.alloc (.cells #[.int .i64 (i : Int)] 3)) ((Below.refl _ w7).alloc (Nat.le_refl _) _))).trans (keep_grown hg8 (own_typed (HO7.out.alloc _) (by decide)))).trans (keep_set hV8))
              have HW9 := Lib.hid hw9
              have HV9 := Lib.hid hV9
              have HO9 := Lib.hid hO9
              have HB9 := Lib.hid hB9
              have HNL := Lib.hid hnl
              clear hown8 hg8 hV8 hB8 hw9 hV9 hO9 hB9 hnl hnf d8
              by_cases h40 : 40 < av + 1
              · exact absurd h40 (by have := HAV.out; omega)
              · have hr2 : Hid (r0 = 0) := Lib.hid (by rw [HT.out, if_neg HNG.out, if_neg h40])
                have h40i : ¬ (40 : Int) < (av : Int) + 1 := by omega
                go_wp2_with fail
                rw [HW9.out]
                go_ret
                exact ⟨by rw [hr2.out]; rfl, HB9.out, HK9.out, fun _ => ⟨_, HV9.out, by rw [HNL.out]; exact HO9.out⟩⟩
          · have hlmi : ¬ (av : Int) < (m : Int) := by omega
            have HNG : Hid (¬ (av < m ∧ xb < (ndAt c.nodes (Pa.getD av 0)).e)) := Lib.hid (fun h => hlm h.1)
            clear hlm
            go_quiet (fail)
            clear hlmi
            obtain ⟨w7, hw7⟩ : ∃ w7, w4.drewN nq = w7 := ⟨_, rfl⟩
            have HB7 := Lib.hid (show Below W.heap.size W w7 from hw7 ▸ below_drewN HB4.out _)
            rw [hw7]
            clear hw7 d8 d4 y1
            have d8 : w7.cell? ⟨B, 8, none⟩ = some (.slice pA m pc) := HC8.out w7 HB7.out
            have hac : (av : Int) ≤ (pc : Int) := by have := HAL.out; have := HPCL.out; omega
            have ha0 : (0 : Int) ≤ (av : Int) := by omega
            have hV7 := HVW.out w7 HB7.out
            have hO7 := own_take (HOW.out w7 HB7.out) HAL.out
            obtain ⟨i0, hin, hz0, hz1, hz2⟩ := info_parts' Tryz.infoInt
            have hBs := hV7.lt
            have HV7 := Lib.hid hV7
            have HO7 := Lib.hid hO7
            have HPB : Hid (∀ k, (Value.slice pA av pc).ownBlock = some k → B + 1 ≤ k) := Lib.hid (fun k e => (own_low hO7 k e).1)
            have hav6 : av ≤ 1000000 := by have := HAL.out; have := HPL.out; have := HI.out; have := HRL.out; omega
            clear hV7 hO7
            go_wp2_with (at_builtin; refine wpList_append_own _ rfl (.tmp 89) (.tmp 91) 22 rfl (B + 1) 3 i0 _ 1 8 Tryz.underlying22 hin hz0 hz1 hz2 rfl (by decide) _ av _ rfl (HO7.out.alloc _) _ 1 1 [.int .i64 (i : Int)] rfl rfl (news_at _ _ _) (by simp [Value.oneCell']) (by unfold maxLen; omega) (by omega) (by simp; omega) ?_)
            intro v8 w8 hown8 hg8 _
            obtain ⟨A8, c8, hv8, hc8⟩ := own_form hown8
            subst hv8
            have hV8 : VAt w8 B s ov (.slice pA m pc) y := v_keptN HV7.out (fun e => by have := HPB.out B e.symm; omega) hg8
            have hB8 : Below B W w8 := ((HB7.out.mono (by have := HN0.out; have := HBL.out; omega)).alloc (by omega) _).grown hg8 (by simp; omega) (fun k e => by have := HPB.out k e; omega)
            have e8 : w8.cell? ⟨B, 8, none⟩ = some (.slice pA m pc) := cell_of hV8 rfl
            have f8 : w8.frozen? ⟨B, 8, none⟩ = false := frozen_of hV8
            obtain ⟨w9, hw9⟩ : ∃ w9, w8.setCell ⟨B, 8, none⟩ (.slice A8 (av + 1) c8) = w9 := ⟨_, rfl⟩
            have hV9 : VAt w9 B s ov (.slice A8 (av + 1) c8) y := by rw [← hw9]; exact set_of hV8 _
            have hO9 : w9.ownsRow (B + 1) 3 1 (.slice A8 (av + 1) c8) (av + 1) ((Pa.flatMap encI).take av ++ [.int .i64 (i : Int)]) := by rw [← hw9]; exact ownsRow_setCell_below hown8 (by show B < B + 1; omega) _
            have hB9 : Below B W w9 := by
              rw [← hw9]
              exact hB8.trans ⟨rfl, rfl, rfl, by simp [World.setCell], fun k hk => Below.heap_setCell _ _ _ k (by show k ≠ B; omega)⟩
            have hnl : (pathAt c.nodes (i + 1)).length = av + 1 := by rw [HNX.out, List.length_append, List.length_take, HM.out]; have := HAL.out; simp; omega
            have hnf : (Pa.flatMap encI).take av ++ [.int .i64 (i : Int)] = (pathAt c.nodes (i + 1)).flatMap encI := by rw [HNX.out, List.flatMap_append, flatI_take]; rfl
            rw [hnf] at hO9
            have HK9 := Lib.hid (show KeepP W w9 from hw9 ▸ (((keep_below HB7.out).trans (keep_below (w' := w7.alloc (.cells #[.int .i64 (i : Int)] 3)) ((Below.refl _ w7).alloc (Nat.le_refl _) _))).trans (keep_grown hg8 (own_typed (HO7.out.alloc _) (by decide)))).trans (keep_set hV8))
            have HW9 := Lib.hid hw9
            have HV9 := Lib.hid hV9
            have HO9 := Lib.hid hO9
            have HB9 := Lib.hid hB9
            have HNL := Lib.hid hnl
            clear hown8 hg8 hV8 hB8 hw9 hV9 hO9 hB9 hnl hnf d8
            by_cases h40 : 40 < av + 1
            · exact absurd h40 (by have := HAV.out; omega)
            · have hr2 : Hid (r0 = 0) := Lib.hid (by rw [HT.out, if_neg HNG.out, if_neg h40])
              have h40i : ¬ (40 : Int) < (av : Int) + 1 := by omega
              go_wp2_with fail
              rw [HW9.out]
              go_ret
              exact ⟨by rw [hr2.out]; rfl, HB9.out, HK9.out, fun _ => ⟨_, HV9.out, by rw [HNL.out]; exact HO9.out⟩⟩
        · have e2 : (xp != -1) = true := by simp [hxp]
          have HH : Hid (r0 = 6) := Lib.hid (by rw [HAP.out, HNP.out, if_pos ⟨hav0, hxp⟩])
          clear hav0 hxp
          go_wp2_with fail
          go_ret
          exact ⟨by rw [HH.out]; rfl, HB4.out.mono (by have := HN0.out; have := HBL.out; omega), keep_below HB4.out, fun h => by rw [HH.out] at h; cases h⟩
      · have e0 : ((av : Int) == 0) = false := by simp [hav0]
        have e1 : (0 : Int) < (av : Int) := by omega
        obtain ⟨hp0, hp1⟩ := HPR.out xp (HAM.out (by omega))
        obtain ⟨pk, rfl⟩ : ∃ pk : Nat, xp = (pk : Int) := ⟨xp.toNat, by omega⟩
        obtain ⟨z, hz, hzn⟩ := HND.out pk (by have := HI.out; omega)
        have g0 : w4.cell? ⟨N0, 0, none⟩ = some (.string P) := cell_of HR4.out rfl
        have g1 : w4.cell? ⟨N0, 1, none⟩ = some (.int .i64 xb) := cell_of HR4.out rfl
        have g2 : w4.cell? ⟨N0, 2, none⟩ = some (.int .i64 xe) := cell_of HR4.out rfl
        have hins := HINS.out w4 HB4.out z pk hz
        obtain ⟨t, ht⟩ : ∃ t, (decide (z.b ≤ xb) && decide (xe ≤ z.e)) = t := ⟨_, rfl⟩
        rw [ht] at hins
        have HIN := Lib.hid hins
        have hnp2 : r0 = if t = false then 8 else if av < m ∧ xb < (ndAt c.nodes (Pa.getD av 0)).e then 8 else if 40 < av + 1 then 2 else 0 := by
          rw [HAP.out, HNP.out, if_neg (fun h => hav0 h.1), hzn]
          by_cases hin : z.b ≤ xb ∧ xe ≤ z.e
          · rw [if_neg (fun h => h.2 hin), if_neg (show ¬ (t = false) from by rw [← ht]; simp [hin.1, hin.2])]
          · rw [if_pos ⟨by omega, hin⟩, if_pos (show t = false from by rw [← ht]; rw [Bool.eq_false_iff]; intro h; simp at h; exact hin h)]
        have HNP2 := Lib.hid hnp2
        clear hins hnp2 ht hz hzn hp0 hp1 hav0
        cases t with
        | false =>
          have HH : Hid (r0 = 8) := Lib.hid (by rw [HNP2.out, if_pos rfl])
          go_wp2_with fail
          refine HIN.out.mono ?_
          rintro e w5 ⟨rfl, hb5⟩
          have HB5 := Lib.hid (HB4.out.trans (hb5.mono HB4.out.size))
          clear hb5
          go_wp2_with fail
          go_ret
          exact ⟨by rw [HH.out]; rfl, HB5.out.mono (by have := HN0.out; have := HBL.out; omega), keep_below HB5.out, fun h => by rw [HH.out] at h; cases h⟩
        | true =>
          have HT : Hid (r0 = if av < m ∧ xb < (ndAt c.nodes (Pa.getD av 0)).e then 8 else if 40 < av + 1 then 2 else 0) := Lib.hid (by rw [HNP2.out, if_neg (by decide)])
          go_wp2_with fail
          refine HIN.out.mono ?_
          rintro e w5 ⟨rfl, hb5⟩
          have HB5 := Lib.hid (HB4.out.trans (hb5.mono HB4.out.size))
          have HR5 := Lib.hid (block_below HR4.out hb5 (Array.getElem?_eq_some_iff.1 HR4.out).1)
          clear hb5 g0 g1 g2 g3
          go_wp2_with fail
          have d8 : w5.cell? ⟨B, 8, none⟩ = some (.slice pA m pc) := HC8.out w5 HB5.out
          have d4 : w5.cell? ⟨B, 4, none⟩ = some (.slice (some ⟨bk, off, none⟩) n cap2) := HC4.out w5 HB5.out
          have y1 : w5.cell? ⟨N0, 1, none⟩ = some (.int .i64 xb) := cell_of HR5.out rfl
          by_cases hlm : av < m
          · have hlmi : (av : Int) < (m : Int) := by omega
            obtain ⟨pk2, hpk2⟩ : ∃ pk2, Pa[av]? = some pk2 := ⟨_, List.getElem?_eq_getElem (by rw [HM.out]; exact hlm)⟩
            obtain ⟨hq0, hq1⟩ := HPR.out pk2 (List.mem_of_getElem? hpk2)
            obtain ⟨j, rfl⟩ : ∃ j : Nat, pk2 = (j : Int) := ⟨pk2.toNat, by omega⟩
            obtain ⟨u, hu, hun⟩ := HND.out j (by have := HI.out; omega)
            obtain ⟨pb, po, hpA, -, hpj⟩ := at_int (HPC.out w5 HB5.out) (by rw [HM.out]; omega)
            have y2 := hpj av _ hpk2
            have y3 := HCE.out j u hu w5 HB5.out
            have hgd : Pa.getD av 0 = (j : Int) := by rw [List.getD_eq_getElem?_getD, hpk2]; rfl
            obtain ⟨ue, hue⟩ : ∃ ue, u.e = ue := ⟨_, rfl⟩
            rw [hue] at y3
            have hji : (j : Int) < (n : Int) := by have := HI.out; omega
            have hj0 : (0 : Int) ≤ (j : Int) := by omega
            have ha0 : (0 : Int) ≤ (av : Int) := by omega
            subst hpA
            by_cases hxu : xb < ue
            · have HH : Hid (r0 = 8) := Lib.hid (by rw [HT.out, if_pos ⟨hlm, by rw [hgd, hun, hue]; exact hxu⟩])
              clear hpj hpk2 hgd hun hu hue hq0 hq1 hlm
              go_quiet (fail)
              go_wp2_with fail
              go_ret
              exact ⟨by rw [HH.out]; rfl, (below_drewN HB5.out _).mono (by have := HN0.out; have := HBL.out; omega), keep_below (below_drewN HB5.out _), fun h => by rw [HH.out] at h; cases h⟩
            · have HNG : Hid (¬ (av < m ∧ xb < (ndAt c.nodes (Pa.getD av 0)).e)) := Lib.hid (fun h => hxu (by have := h.2; rw [hgd, hun, hue] at this; exact this))
              clear hpj hpk2 hgd hun hu hue hq0 hq1 hlm
              go_quiet (fail)
              have HXU := Lib.hid hxu
              clear hxu hji hj0 ha0 hlmi
              obtain ⟨w7, hw7⟩ : ∃ w7, w5.drewN nq = w7 := ⟨_, rfl⟩
              have HB7 := Lib.hid (show Below W.heap.size W w7 from hw7 ▸ below_drewN HB5.out _)
              rw [hw7]
              clear hw7 d8 d4 y1 y2 y3
              have d8 : w7.cell? ⟨B, 8, none⟩ = some (.slice (some ⟨pb, po, none⟩) m pc) := HC8.out w7 HB7.out
              have hac : (av : Int) ≤ (pc : Int) := by have := HAL.out; have := HPCL.out; omega
              have ha0 : (0 : Int) ≤ (av : Int) := by omega
              have hV7 := HVW.out w7 HB7.out
              have hO7 := own_take (HOW.out w7 HB7.out) HAL.out
              obtain ⟨i0, hin, hz0, hz1, hz2⟩ := info_parts' Tryz.infoInt
              have hBs := hV7.lt
              have HV7 := Lib.hid hV7
              have HO7 := Lib.hid hO7
              have HPB : Hid (∀ k, (Value.slice (some ⟨pb, po, none⟩) av pc).ownBlock = some k → B + 1 ≤ k) := Lib.hid (fun k e => (own_low hO7 k e).1)
              have hav6 : av ≤ 1000000 := by have := HAL.out; have := HPL.out; have := HI.out; have := HRL.out; omega
              clear hV7 hO7
              go_wp2_with (at_builtin; refine wpList_append_own _ rfl (.tmp 89) (.tmp 91) 22 rfl (B + 1) 3 i0 _ 1 8 Tryz.underlying22 hin hz0 hz1 hz2 rfl (by decide) _ av _ rfl (HO7.out.alloc _) _ 1 1 [.int .i64 (i : Int)] rfl rfl (news_at _ _ _) (by simp [Value.oneCell']) (by unfold maxLen; omega) (by omega) (by simp; omega) ?_)
              intro v8 w8 hown8 hg8 _
              obtain ⟨A8, c8, hv8, hc8⟩ := own_form hown8
              subst hv8
              have hV8 : VAt w8 B s ov (.slice (some ⟨pb, po, none⟩) m pc) y := v_keptN HV7.out (fun e => by have := HPB.out B e.symm; omega) hg8
              have hB8 : Below B W w8 := ((HB7.out.mono (by have := HN0.out; have := HBL.out; omega)).alloc (by omega) _).grown hg8 (by simp; omega) (fun k e => by have := HPB.out k e; omega)
              have e8 : w8.cell? ⟨B, 8, none⟩ = some (.slice (some ⟨pb, po, none⟩) m pc) := cell_of hV8 rfl
              have f8 : w8.frozen? ⟨B, 8, none⟩ = false := frozen_of hV8
              obtain ⟨w9, hw9⟩ : ∃ w9, w8.setCell ⟨B, 8, none⟩ (.slice A8 (av + 1) c8) = w9 := ⟨_, rfl⟩
              have hV9 : VAt w9 B s ov (.slice A8 (av + 1) c8) y := by rw [← hw9]; exact set_of hV8 _
              have hO9 : w9.ownsRow (B + 1) 3 1 (.slice A8 (av + 1) c8) (av + 1) ((Pa.flatMap encI).take av ++ [.int .i64 (i : Int)]) := by rw [← hw9]; exact ownsRow_setCell_below hown8 (by show B < B + 1; omega) _
              have hB9 : Below B W w9 := by
                rw [← hw9]
                exact hB8.trans ⟨rfl, rfl, rfl, by simp [World.setCell], fun k hk => Below.heap_setCell _ _ _ k (by show k ≠ B; omega)⟩
              have hnl : (pathAt c.nodes (i + 1)).length = av + 1 := by rw [HNX.out, List.length_append, List.length_take, HM.out]; have := HAL.out; simp; omega
              have hnf : (Pa.flatMap encI).take av ++ [.int .i64 (i : Int)] = (pathAt c.nodes (i + 1)).flatMap encI := by rw [HNX.out, List.flatMap_append, flatI_take]; rfl
              rw [hnf] at hO9
              have HK9 := Lib.hid (show KeepP W w9 from hw9 ▸ (((keep_below HB7.out).trans (keep_below (w' := w7.alloc (.cells #[.int .i64 (i : Int)] 3)) ((Below.refl _ w7).alloc (Nat.le_refl _) _))).trans (keep_grown hg8 (own_typed (HO7.out.alloc _) (by decide)))).trans (keep_set hV8))
              have HW9 := Lib.hid hw9
              have HV9 := Lib.hid hV9
              have HO9 := Lib.hid hO9
              have HB9 := Lib.hid hB9
              have HNL := Lib.hid hnl
              clear hown8 hg8 hV8 hB8 hw9 hV9 hO9 hB9 hnl hnf d8
              by_cases h40 : 40 < av + 1
              · have hr2 : Hid (r0 = 2) := Lib.hid (by rw [HT.out, if_neg HNG.out, if_pos h40])
                have h40i : (40 : Int) < (av : Int) + 1 := by omega
                go_wp2_with fail
                rw [HW9.out]
                go_ret
                exact ⟨by rw [hr2.out]; rfl, HB9.out, HK9.out, fun h => by rw [hr2.out] at h; cases h⟩
              · have hr2 : Hid (r0 = 0) := Lib.hid (by rw [HT.out, if_neg HNG.out, if_neg h40])
                have h40i : ¬ (40 : Int) < (av : Int) + 1 := by omega
                go_wp2_with fail
                rw [HW9.out]
                go_ret
                exact ⟨by rw [hr2.out]; rfl, HB9.out, HK9.out, fun _ => ⟨_, HV9.out, by rw [HNL.out]; exact HO9.out⟩⟩
          · have hlmi : ¬ (av : Int) < (m : Int) := by omega
            have HNG : Hid (¬ (av < m ∧ xb < (ndAt c.nodes (Pa.getD av 0)).e)) := Lib.hid (fun h => hlm h.1)
            clear hlm
            go_quiet (fail)
            clear hlmi
            obtain ⟨w7, hw7⟩ : ∃ w7, w5.drewN nq = w7 := ⟨_, rfl⟩
            have HB7 := Lib.hid (show Below W.heap.size W w7 from hw7 ▸ below_drewN HB5.out _)
            rw [hw7]
            clear hw7 d8 d4 y1
            have d8 : w7.cell? ⟨B, 8, none⟩ = some (.slice pA m pc) := HC8.out w7 HB7.out
            have hac : (av : Int) ≤ (pc : Int) := by have := HAL.out; have := HPCL.out; omega
            have ha0 : (0 : Int) ≤ (av : Int) := by omega
            have hV7 := HVW.out w7 HB7.out
            have hO7 := own_take (HOW.out w7 HB7.out) HAL.out
            obtain ⟨i0, hin, hz0, hz1, hz2⟩ := info_parts' Tryz.infoInt
            have hBs := hV7.lt
            have HV7 := Lib.hid hV7
            have HO7 := Lib.hid hO7
            have HPB : Hid (∀ k, (Value.slice pA av pc).ownBlock = some k → B + 1 ≤ k) := Lib.hid (fun k e => (own_low hO7 k e).1)
            have hav6 : av ≤ 1000000 := by have := HAL.out; have := HPL.out; have := HI.out; have := HRL.out; omega
            clear hV7 hO7
            go_wp2_with (at_builtin; refine wpList_append_own _ rfl (.tmp 89) (.tmp 91) 22 rfl (B + 1) 3 i0 _ 1 8 Tryz.underlying22 hin hz0 hz1 hz2 rfl (by decide) _ av _ rfl (HO7.out.alloc _) _ 1 1 [.int .i64 (i : Int)] rfl rfl (news_at _ _ _) (by simp [Value.oneCell']) (by unfold maxLen; omega) (by omega) (by simp; omega) ?_)
            intro v8 w8 hown8 hg8 _
            obtain ⟨A8, c8, hv8, hc8⟩ := own_form hown8
            subst hv8
            have hV8 : VAt w8 B s ov (.slice pA m pc) y := v_keptN HV7.out (fun e => by have := HPB.out B e.symm; omega) hg8
            have hB8 : Below B W w8 := ((HB7.out.mono (by have := HN0.out; have := HBL.out; omega)).alloc (by omega) _).grown hg8 (by simp; omega) (fun k e => by have := HPB.out k e; omega)
            have e8 : w8.cell? ⟨B, 8, none⟩ = some (.slice pA m pc) := cell_of hV8 rfl
            have f8 : w8.frozen? ⟨B, 8, none⟩ = false := frozen_of hV8
            obtain ⟨w9, hw9⟩ : ∃ w9, w8.setCell ⟨B, 8, none⟩ (.slice A8 (av + 1) c8) = w9 := ⟨_, rfl⟩
            have hV9 : VAt w9 B s ov (.slice A8 (av + 1) c8) y := by rw [← hw9]; exact set_of hV8 _
            have hO9 : w9.ownsRow (B + 1) 3 1 (.slice A8 (av + 1) c8) (av + 1) ((Pa.flatMap encI).take av ++ [.int .i64 (i : Int)]) := by rw [← hw9]; exact ownsRow_setCell_below hown8 (by show B < B + 1; omega) _
            have hB9 : Below B W w9 := by
              rw [← hw9]
              exact hB8.trans ⟨rfl, rfl, rfl, by simp [World.setCell], fun k hk => Below.heap_setCell _ _ _ k (by show k ≠ B; omega)⟩
            have hnl : (pathAt c.nodes (i + 1)).length = av + 1 := by rw [HNX.out, List.length_append, List.length_take, HM.out]; have := HAL.out; simp; omega
            have hnf : (Pa.flatMap encI).take av ++ [.int .i64 (i : Int)] = (pathAt c.nodes (i + 1)).flatMap encI := by rw [HNX.out, List.flatMap_append, flatI_take]; rfl
            rw [hnf] at hO9
            have HK9 := Lib.hid (show KeepP W w9 from hw9 ▸ (((keep_below HB7.out).trans (keep_below (w' := w7.alloc (.cells #[.int .i64 (i : Int)] 3)) ((Below.refl _ w7).alloc (Nat.le_refl _) _))).trans (keep_grown hg8 (own_typed (HO7.out.alloc _) (by decide)))).trans (keep_set hV8))
            have HW9 := Lib.hid hw9
            have HV9 := Lib.hid hV9
            have HO9 := Lib.hid hO9
            have HB9 := Lib.hid hB9
            have HNL := Lib.hid hnl
            clear hown8 hg8 hV8 hB8 hw9 hV9 hO9 hB9 hnl hnf d8
            by_cases h40 : 40 < av + 1
            · have hr2 : Hid (r0 = 2) := Lib.hid (by rw [HT.out, if_neg HNG.out, if_pos h40])
              have h40i : (40 : Int) < (av : Int) + 1 := by omega
              go_wp2_with fail
              rw [HW9.out]
              go_ret
              exact ⟨by rw [hr2.out]; rfl, HB9.out, HK9.out, fun h => by rw [hr2.out] at h; cases h⟩
            · have hr2 : Hid (r0 = 0) := Lib.hid (by rw [HT.out, if_neg HNG.out, if_neg h40])
              have h40i : ¬ (40 : Int) < (av : Int) + 1 := by omega
              go_wp2_with fail
              rw [HW9.out]
              go_ret
              exact ⟨by rw [hr2.out]; rfl, HB9.out, HK9.out, fun _ => ⟨_, HV9.out, by rw [HNL.out]; exact HO9.out⟩⟩
end Go.Proofs.YtmjmidgfdjcbfaaGreatDoor
