/-
  WALKS over package corpus: the validator: one head.
-/
import Derived.Test.YtglafkonpbcegaaGreatQgB
namespace Go.Proofs.YtglafkonpbcegaaGreat
open Go.RowKit Go.Shelf Go.Lib
set_option linter.unusedVariables false

set_option maxRecDepth 100000 in
set_option maxHeartbeats 8000000 in
theorem vHead {c : Cor} {s : Sv} {o p yv : Value} {B : Nat} {W : World} (hV : VAt W B s o p yv) (h : CorAt W s c) (hl2 : c.texts.length ≤ maxLen) (hl1 : c.heads.length ≤ 1000000) (hlr : c.rels.length = c.heads.length)
    (hs : ∀ r ∈ c.rels, r.length ≤ maxLen) (i : Nat) (hi : i < c.heads.length) (base : Nat) (hcy : CycAt W base yv (cycL c.heads)) :
    Calls Tryz.prog 85 #[.pointer (some ⟨B, 0, none⟩), .int .i64 (i : Int)] W fun r w' => r = .returned (.int .i64 (headE c i : Nat)) ∧ Below W.heap.size W w' := by
  obtain ⟨c0, c1, c2, c3, c4, c5, c6, -, -, c9⟩ := hV.c
  have hBl := hV.lt
  obtain ⟨x, hx⟩ : ∃ x, c.heads[i]? = some x := ⟨_, List.getElem?_eq_getElem hi⟩
  obtain ⟨rl, hrl⟩ : ∃ rl, c.rels[i]? = some rl := ⟨_, List.getElem?_eq_getElem (by omega)⟩
  have hae : headE c i = if x ≠ -1 ∧ textAt c x ≠ textAt c i then 8 else if rl ≠ [] ∧ nameB rl = false then 4 else if cyc c.heads i then 12 else 0 := by unfold headE; rw [hx, hrl]
  rw [hae]
  have hta := fun W' (hb : Below W.heap.size W W') pos => textAt_any s (h.x.below stays_ex hb) hl2 pos
  have htx : ∀ pos, findZ (fun t : Ex => decide (t.b ≤ pos) && decide (pos < t.e)) c.texts = textAt c pos := fun _ => rfl
  simp only [htx] at hta
  have hcl := cycL_len c.heads
  have hcg : (cycL c.heads).getD i false = cyc c.heads i := by
    unfold cycL
    rw [List.getD_eq_getElem?_getD, List.getElem?_map, List.getElem?_range hi]
    rfl
  obtain ⟨cA, cc, hyv, hcc, hcb⟩ := hcy
  obtain ⟨cb, hcA, -, hcblk⟩ := hcb (by rw [hcl]; omega)
  subst hcA
  have kc : W.cell? ⟨cb, i, none⟩ = some (.bool (cyc c.heads i)) := by rw [← hcg]; exact cell_of hcblk (boolRow_get (by rw [hcl]; exact hi))
  have hcbl := (Array.getElem?_eq_some_iff.1 hcblk).1
  rw [hcl] at hyv hcc
  subst hyv
  obtain ⟨A, cap, hvh, hc1⟩ := h.h.form
  obtain ⟨A2, cap2, hvl, hc2⟩ := h.l.form
  obtain ⟨Ax, cx, hvx, -⟩ := h.x.form
  obtain ⟨Aa, ca, hva, -⟩ := h.a.form
  obtain ⟨At, ct, hvt, -⟩ := h.t.form
  obtain ⟨Ar, cr, hvr, -⟩ := h.r.form
  obtain ⟨An, cn, hvn, -⟩ := h.n.form
  have hrh := h.h
  have hrr := h.l
  rw [hvh] at hrh
  rw [hvl] at hrr
  obtain ⟨b1, o1, rfl, -, hj1⟩ := at_int hrh (by omega)
  obtain ⟨b2, o2, rfl, -, hj2⟩ := at_str hrr (by omega)
  have k1 := hj1 i x hx
  have k2 := hj2 i rl hrl
  obtain ⟨P, hP⟩ : ∃ s : ByteArray, (⟨rl.toArray⟩ : ByteArray) = s := ⟨_, rfl⟩
  have hPl : P.data.toList = rl := by rw [← hP]
  have hvn1 := fun W => validName_any P (by rw [Lib.size_eq, hPl]; exact hs rl (List.mem_of_getElem? hrl)) W
  rw [hPl] at hvn1
  have hemp := str_empty rl
  rw [hP] at k2 hemp
  obtain ⟨em, hem⟩ : ∃ em, decide (rl = []) = em := ⟨_, rfl⟩
  rw [hem] at hemp
  have hemp2 : (P.toList != ([] : List UInt8)) = !em := by rw [← hemp]; rfl
  obtain ⟨a, ha⟩ : ∃ a, nameB rl = a := ⟨_, rfl⟩
  obtain ⟨cv, hcv⟩ : ∃ cv, cyc c.heads i = cv := ⟨_, rfl⟩
  rw [hcv] at kc
  rw [ha] at hvn1
  have hcond2 : (if rl ≠ [] ∧ nameB rl = false then (4 : Nat) else if cyc c.heads i then 12 else 0) = if (!em && !a) = true then 4 else if cv then 12 else 0 := by
    rw [hcv, ha]
    have : (rl ≠ [] ∧ a = false) ↔ (!em && !a) = true := by rw [← hem]; simp
    by_cases hh : rl ≠ [] ∧ a = false
    · rw [if_pos hh, if_pos (this.1 hh)]
    · rw [if_neg hh, if_neg (fun e => hh (this.2 e))]
  obtain ⟨r2, hr2⟩ : ∃ r2, (if rl ≠ [] ∧ nameB rl = false then (4 : Nat) else if cyc c.heads i then 12 else 0) = r2 := ⟨_, rfl⟩
  rw [hr2] at hcond2 ⊢
  obtain ⟨t1, ht1⟩ : ∃ t, textAt c x = t := ⟨_, rfl⟩
  obtain ⟨t2, ht2⟩ : ∃ t, textAt c (i : Int) = t := ⟨_, rfl⟩
  have hta1 := fun W' hb => hta W' hb x
  have hta2 := fun W' hb => hta W' hb (i : Int)
  rw [ht1] at hta1 ⊢
  rw [ht2] at hta2 ⊢
  obtain ⟨va, vt, vx, vr, vn, vh, vl⟩ := s
  simp only at hvh hvl hvx hva hvt hvr hvn c0 c1 c2 c3 c4 c5 c6
  subst hvh hvl hvx hva hvt hvr hvn
  simp only [Sv.arr] at hta1 hta2
  obtain ⟨n1, hn1⟩ : ∃ n, c.heads.length = n := ⟨_, rfl⟩
  obtain ⟨n3, hn3⟩ : ∃ n, c.toks.length = n := ⟨_, rfl⟩
  obtain ⟨n4, hn4⟩ : ∃ n, c.attrs.length = n := ⟨_, rfl⟩
  obtain ⟨n5, hn5⟩ : ∃ n, c.texts.length = n := ⟨_, rfl⟩
  obtain ⟨n6, hn6⟩ : ∃ n, c.regs.length = n := ⟨_, rfl⟩
  obtain ⟨n7, hn7⟩ : ∃ n, c.nodes.length = n := ⟨_, rfl⟩
  rw [hlr] at c6
  simp only [hlr, hn1, hn3, hn4, hn5, hn6, hn7] at c0 c1 c2 c3 c4 c5 c6 c9 hta1 hta2 hcc hc1 hc2 hi
  have hlt : (i : Int) < (n1 : Int) := by omega
  have HC := Lib.hid (fun W' (hb : Below W.heap.size W W') => And.intro ((hb.cell (p := ⟨B, 0, none⟩) hBl).trans c0) (And.intro ((hb.cell (p := ⟨B, 1, none⟩) hBl).trans c1) (And.intro ((hb.cell (p := ⟨B, 2, none⟩) hBl).trans c2) (And.intro ((hb.cell (p := ⟨B, 3, none⟩) hBl).trans c3) (And.intro ((hb.cell (p := ⟨B, 4, none⟩) hBl).trans c4) (And.intro ((hb.cell (p := ⟨B, 5, none⟩) hBl).trans c5) ((hb.cell (p := ⟨B, 6, none⟩) hBl).trans c6)))))))
  have HC9 := Lib.hid (fun W' (hb : Below W.heap.size W W') => And.intro ((hb.cell (p := ⟨B, 9, none⟩) hBl).trans c9) ((hb.cell (p := ⟨cb, i, none⟩) hcbl).trans kc))
  have HT1 := Lib.hid hta1
  have HT2 := Lib.hid hta2
  have HVN := Lib.hid hvn1
  have HR2 := Lib.hid hcond2
  clear hae hta htx hcl hcg hcb hcblk hcbl h hV hrh hrr hj1 hj2 hP hPl hvn1 hem ha hcv hcond2 hr2 hta1 hta2 ht1 ht2 hn1 hn3 hn4 hn5 hn6 hn7 hx hrl hlr hs hl2 hcc hc1 hc2 hBl
  have hW0 := Lib.hid (Below.refl W.heap.size W)
  by_cases hx1 : x = -1
  · subst hx1
    have hr0 : Hid ((if ((-1 : Int) ≠ -1 ∧ t1 ≠ t2) then 8 else r2) = r2) := Lib.hid (by rw [if_neg (fun h => h.1 rfl)])
    rw [hr0.out]
    go_enter Tryz.func85, Tryz.ntmps85
    go_wp2_with fail
    go_quiet (fail)
    obtain ⟨w2, hw2⟩ : ∃ w2, W.drewN nq = w2 := ⟨_, rfl⟩
    have HB2 := Lib.hid (show Below W.heap.size W w2 from hw2 ▸ below_drewN hW0.out _)
    rw [hw2]
    clear hw2 c0 c1 c2 c3 c4 c5 c6 k1 k2 kc c9
    go_wp2_with fail
    go_quiet (fail)
    obtain ⟨w4, hw4⟩ : ∃ w4, w2.drewN nq = w4 := ⟨_, rfl⟩
    have HB4 := Lib.hid (show Below W.heap.size W w4 from hw4 ▸ below_drewN HB2.out _)
    rw [hw4]
    clear hw4
    obtain ⟨c9, kc⟩ := HC9.out w4 HB4.out
    cases em with
    | true =>
      have HRR : Hid (r2 = if cv then 12 else 0) := Lib.hid (by rw [HR2.out]; simp)
      cases cv with
      | true =>
        go_wp2_with fail
        go_ret
        exact ⟨by rw [HRR.out]; rfl, HB4.out⟩
      | false =>
        go_wp2_with fail
        go_ret
        exact ⟨by rw [HRR.out]; rfl, HB4.out⟩
    | false =>
      cases a with
      | false =>
        have HRR : Hid (r2 = 4) := Lib.hid (by rw [HR2.out]; rfl)
        go_wp2_with fail
        refine (HVN.out _).mono ?_
        rintro e w5 ⟨rfl, rfl⟩
        go_wp2_with fail
        go_ret
        exact ⟨by rw [HRR.out]; rfl, HB4.out⟩
      | true =>
        have HRR : Hid (r2 = if cv then 12 else 0) := Lib.hid (by rw [HR2.out]; simp)
        cases cv with
        | true =>
          go_wp2_with fail
          refine (HVN.out _).mono ?_
          rintro e w5 ⟨rfl, rfl⟩
          go_wp2_with fail
          go_ret
          exact ⟨by rw [HRR.out]; rfl, HB4.out⟩
        | false =>
          go_wp2_with fail
          refine (HVN.out _).mono ?_
          rintro e w5 ⟨rfl, rfl⟩
          go_wp2_with fail
          go_ret
          exact ⟨by rw [HRR.out]; rfl, HB4.out⟩
  · have hx2 : (x != -1) = true := by simp [hx1]
    obtain ⟨q, hq⟩ : ∃ q, (t1 != t2) = q := ⟨_, rfl⟩
    have hr0 : Hid ((if (x ≠ -1 ∧ t1 ≠ t2) then 8 else r2) = if q then 8 else r2) := Lib.hid (by
      by_cases e : t1 = t2
      · rw [if_neg (fun h => h.2 e), if_neg (by rw [← hq]; simp [e])]
      · rw [if_pos ⟨hx1, e⟩, if_pos (by rw [← hq]; simp [e])])
    rw [hr0.out]
    obtain ⟨r1, hr1⟩ : ∃ r1, (if q then 8 else r2) = r1 := ⟨_, rfl⟩
    rw [hr1]
    have HQ := Lib.hid hr1
    clear hr0 hx1 hr1
    go_enter Tryz.func85, Tryz.ntmps85
    go_wp2_with fail
    go_quiet (fail)
    obtain ⟨w2, hw2⟩ : ∃ w2, W.drewN nq = w2 := ⟨_, rfl⟩
    have HB2 := Lib.hid (show Below W.heap.size W w2 from hw2 ▸ below_drewN hW0.out _)
    rw [hw2]
    clear hw2 c0 c1 c2 c3 c4 c5 c6 k1 k2 kc c9
    obtain ⟨c0, c1, c2, c3, c4, c5, c6⟩ := HC.out w2 HB2.out
    have HBD : Hid (Below W.heap.size W w2.drew) := Lib.hid HB2.out.drew
    go_wp2_with fail
    go_region_held3 (fun w' => w'.cell? ⟨B, 0, none⟩ = some (.slice Aa n4 ca) ∧ w'.cell? ⟨B, 1, none⟩ = some (.slice At n3 ct) ∧ w'.cell? ⟨B, 2, none⟩ = some (.slice Ax n5 cx) ∧ w'.cell? ⟨B, 3, none⟩ = some (.slice Ar n6 cr) ∧ w'.cell? ⟨B, 4, none⟩ = some (.slice An n7 cn) ∧ w'.cell? ⟨B, 5, none⟩ = some (.slice (some ⟨b1, o1, none⟩) n1 cap) ∧ w'.cell? ⟨B, 6, none⟩ = some (.slice (some ⟨b2, o2, none⟩) n1 cap2))
      (first
        | go_keep
        | (exact HC.out _ ((HBD.out.trans (hb3.mono HBD.out.size)).trans (hb4.mono (HBD.out.trans (hb3.mono HBD.out.size)).size)))
        | (exact HC.out _ (HBD.out.trans (hb3.mono HBD.out.size)))
        | fail)
      ((first
        | (go_at_call 30; (with_reducible refine (HT1.out _ HBD.out).mono ?_); rintro e w3 ⟨rfl, hb3⟩)
        | (go_at_call 30; (with_reducible refine (HT2.out _ (HBD.out.trans (hb3.mono HBD.out.size))).mono ?_); rintro e w4 ⟨rfl, hb4⟩)
        | fail))
    have HB4 := Lib.hid ((HBD.out.trans (hb3.mono HBD.out.size)).trans (hb4.mono (HBD.out.trans (hb3.mono HBD.out.size)).size))
    clear hb3 hb4 c0 c1 c2 c3 c4 c5 c6
    cases q with
    | true =>
      have HR1 : Hid (r1 = 8) := Lib.hid (by rw [← HQ.out]; rfl)
      go_wp2_with fail
      go_ret
      exact ⟨by rw [HR1.out]; rfl, HB4.out⟩
    | false =>
      have HR1 : Hid (r1 = r2) := Lib.hid (by rw [← HQ.out]; rfl)
      obtain ⟨c9, kc⟩ := HC9.out w4 HB4.out
      cases em with
      | true =>
        have HRR : Hid (r2 = if cv then 12 else 0) := Lib.hid (by rw [HR2.out]; simp)
        cases cv with
        | true =>
          go_wp2_with fail
          go_ret
          exact ⟨by rw [HR1.out, HRR.out]; rfl, HB4.out⟩
        | false =>
          go_wp2_with fail
          go_ret
          exact ⟨by rw [HR1.out, HRR.out]; rfl, HB4.out⟩
      | false =>
        cases a with
        | false =>
          have HRR : Hid (r2 = 4) := Lib.hid (by rw [HR2.out]; rfl)
          go_wp2_with fail
          refine (HVN.out _).mono ?_
          rintro e w5 ⟨rfl, rfl⟩
          go_wp2_with fail
          go_ret
          exact ⟨by rw [HR1.out, HRR.out]; rfl, HB4.out⟩
        | true =>
          have HRR : Hid (r2 = if cv then 12 else 0) := Lib.hid (by rw [HR2.out]; simp)
          cases cv with
          | true =>
            go_wp2_with fail
            refine (HVN.out _).mono ?_
            rintro e w5 ⟨rfl, rfl⟩
            go_wp2_with fail
            go_ret
            exact ⟨by rw [HR1.out, HRR.out]; rfl, HB4.out⟩
          | false =>
            go_wp2_with fail
            refine (HVN.out _).mono ?_
            rintro e w5 ⟨rfl, rfl⟩
            go_wp2_with fail
            go_ret
            exact ⟨by rw [HR1.out, HRR.out]; rfl, HB4.out⟩
end Go.Proofs.YtglafkonpbcegaaGreat
