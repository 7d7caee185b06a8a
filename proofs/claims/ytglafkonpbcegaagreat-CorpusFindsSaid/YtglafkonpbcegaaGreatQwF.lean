/-
  CorpusFinds is proved: for every corpus and every string and every number the call of the law returns true, and each argument reads afterwards as it read before. It has no condition.
-/
import Derived.Test.YtglafkonpbcegaaGreatRows
import Derived.Test.YtglafkonpbcegaaGreatOqT
import Derived.Test.YtglafkonpbcegaaGreatQmR
import Derived.Test.YtglafkonpbcegaaGreatQmE
import Derived.Test.YtglafkonpbcegaaGreatQmV
import Derived.ProofKit
import Derived.OpenShut
import Derived.Carry
namespace Go.Proofs.YtglafkonpbcegaaGreat.corpusFinds
open Go.ChangeShapes Go.WideShapes Go.ChangeAt Go.RowKit Go.Shelf Go.Lib
set_option linter.unusedVariables false

attribute [local go_sem ↓] Go.wp_at_zero Go.wp_at_succ
theorem lenC_of {c : Cor} (h : rCor c) : LenC c := ⟨h.a.1, ⟨h.t.1, fun t ht => (h.t.2 t ht).1⟩, ⟨h.x.1, fun x hx => (h.x.2 x hx).2.2.2.1⟩, ⟨h.r.1, fun x hx => (h.r.2 x hx).2.2.2.1⟩, h.n.1, h.l.1⟩
set_option maxRecDepth 1000000 in
set_option maxHeartbeats 8000000 in
theorem walk {w : World} (s : Sv) (c : Cor) (hC : CorAt w s c) (hr : rCor c) (a : ByteArray) (ha : a.size ≤ maxLen) (pos : Int) (hp1 : -9223372036854775808 ≤ pos) (hp2 : pos ≤ 9223372036854775807) :
    Calls Tryz.prog 13 #[.agg s.arr, .string a, .int .i64 pos] w fun e w1 => e = .returned (.bool true) ∧ Below w.heap.size w w1 := by
  have hm1 := fun W (h : Below w.heap.size w W) => findText_any (w := W) s (hC.below h).x hr.x.1 a.data.toList
  have hm2 := fun (hb : c.texts.length ≤ 1000000) W (h : Below w.heap.size w W) => refFindText_any (w := W) s (hC.below h).x hb a.data.toList
  have hm3 := fun W (h : Below w.heap.size w W) => textAt_any (w := W) s (hC.below h).x hr.x.1 pos
  have hm4 := fun (hb : c.texts.length ≤ 1000000) W (h : Below w.heap.size w W) => refTextAt_any (w := W) s (hC.below h).x hb pos
  obtain ⟨z1, hz1⟩ : ∃ z, findZ (fun t : Ex => decide (t.name = a.data.toList)) c.texts = z := ⟨_, rfl⟩
  obtain ⟨z2, hz2⟩ : ∃ z, findZ (fun t : Ex => decide (t.b ≤ pos) && decide (pos < t.e)) c.texts = z := ⟨_, rfl⟩
  simp only [hz1, hz2, Lib.mk_data] at hm1 hm2 hm3 hm4
  have hlen := lenC_of hr
  have hhv := fun (W : World) (v : Value) (hv : Rows 7 ECr W v [c]) => heavyW_any hv (by simp) (fun x hx => by rw [List.mem_singleton.1 hx]; exact hlen)
  obtain ⟨va, vt, vx, vr, vn, vh, vl⟩ := s
  obtain ⟨A0, p0, h0, q0⟩ := hC.a.form
  obtain ⟨A1, p1, h1, q1⟩ := hC.t.form
  obtain ⟨A2, p2, h2, q2⟩ := hC.x.form
  obtain ⟨A3, p3, h3, q3⟩ := hC.r.form
  obtain ⟨A4, p4, h4, q4⟩ := hC.n.form
  obtain ⟨A5, p5, h5, q5⟩ := hC.h.form
  obtain ⟨A6, p6, h6, q6⟩ := hC.l.form
  simp only at h0 h1 h2 h3 h4 h5 h6
  subst h0 h1 h2 h3 h4 h5 h6
  obtain ⟨n0, e0⟩ : ∃ n, c.attrs.length = n := ⟨_, rfl⟩
  obtain ⟨n1, e1⟩ : ∃ n, c.toks.length = n := ⟨_, rfl⟩
  obtain ⟨n2, e2⟩ : ∃ n, c.texts.length = n := ⟨_, rfl⟩
  obtain ⟨n3, e3⟩ : ∃ n, c.regs.length = n := ⟨_, rfl⟩
  obtain ⟨n4, e4⟩ : ∃ n, c.nodes.length = n := ⟨_, rfl⟩
  obtain ⟨n5, e5⟩ : ∃ n, c.heads.length = n := ⟨_, rfl⟩
  obtain ⟨n6, e6⟩ : ∃ n, c.rels.length = n := ⟨_, rfl⟩
  have hbnd : Bnd c → n2 ≤ 1000000 := fun h => by have := h.2.1; omega
  simp only [e0, e1, e2, e3, e4, e5, e6, Sv.arr] at hC hm1 hm2 hm3 hm4 ⊢
  obtain ⟨N0, hN0⟩ : ∃ N0, w.heap.size = N0 := ⟨_, rfl⟩
  obtain ⟨X, hX⟩ : ∃ X, (w.alloc (.cells #[.slice A0 n0 p0, .slice A1 n1 p1, .slice A2 n2 p2, .slice A3 n3 p3, .slice A4 n4 p4, .slice A5 n5 p5, .slice A6 n6 p6] 30)).alloc (.cells #[.slice A0 n0 p0, .slice A1 n1 p1, .slice A2 n2 p2, .slice A3 n3 p3, .slice A4 n4 p4, .slice A5 n5 p5, .slice A6 n6 p6] 30) = X := ⟨_, rfl⟩
  have hbX : Below w.heap.size w X := by rw [← hX]; exact (below_box w _).trans ((below_box _ _).mono (by simp))
  have x1 : X.heap[N0]? = some (.cells #[.slice A0 n0 p0, .slice A1 n1 p1, .slice A2 n2 p2, .slice A3 n3 p3, .slice A4 n4 p4, .slice A5 n5 p5, .slice A6 n6 p6] 30 (0, 0)) := by rw [← hX, ← hN0]; exact block_alloc _ (block_new w _)
  have x2 : X.heap[N0 + 1]? = some (.cells #[.slice A0 n0 p0, .slice A1 n1 p1, .slice A2 n2 p2, .slice A3 n3 p3, .slice A4 n4 p4, .slice A5 n5 p5, .slice A6 n6 p6] 30 (0, 0)) := by
    have := block_new (w.alloc (.cells #[.slice A0 n0 p0, .slice A1 n1 p1, .slice A2 n2 p2, .slice A3 n3 p3, .slice A4 n4 p4, .slice A5 n5 p5, .slice A6 n6 p6] 30)) (.cells #[.slice A0 n0 p0, .slice A1 n1 p1, .slice A2 n2 p2, .slice A3 n3 p3, .slice A4 n4 p4, .slice A5 n5 p5, .slice A6 n6 p6] 30)
    rw [alloc_sz, hN0] at this
    rw [← hX]
    exact this
  have hrow : Rows 7 ECr X (.slice (some ⟨N0 + 1, 0, none⟩) 1 1) [c] := rows_block x2 _ _ rfl fun j x hx => by
    match j, hx with
    | 0, hx => cases hx; exact ⟨_, rfl, ⟨⟨.slice A0 n0 p0, .slice A1 n1 p1, .slice A2 n2 p2, .slice A3 n3 p3, .slice A4 n4 p4, .slice A5 n5 p5, .slice A6 n6 p6⟩, rfl, hC.below hbX⟩, rfl⟩
  have HHV := Lib.hid (hhv X _ hrow)
  have HX := Lib.hid hX
  have HBX0 := Lib.hid hbX
  have HN0 := Lib.hid hN0
  have HX1 := Lib.hid x1
  have HBND := Lib.hid hbnd
  have HM1 := Lib.hid hm1
  have HM2 := Lib.hid hm2
  have HM3 := Lib.hid hm3
  have HM4 := Lib.hid hm4
  clear hm1 hm2 hm3 hm4 hz1 hz2 hlen hhv hC hr ha hbnd hrow hX hbX hN0 x1 x2 e0 e1 e2 e3 e4 e5 e6 q0 q1 q2 q3 q4 q5 q6 hp1 hp2
  go_enter Tryz.func13, Tryz.ntmps13
  go_wp2_with fail
  rw [HX.out, HN0.out]
  refine HHV.out.mono ?_
  rintro e w2 ⟨q, rfl, hb2, hq⟩
  have HB2 := Lib.hid (HBX0.out.trans (hb2.mono HBX0.out.size))
  cases q with
  | true =>
    clear hb2 hq
    go_wp2_with fail
    go_ret
    exact ⟨rfl, HB2.out⟩
  | false =>
    have hbd := HBND.out (hq rfl c (by simp))
    have e1 := block_below HX1.out hb2 (lt_blk HX1.out)
    obtain ⟨X1, hX1'⟩ : ∃ X1, w2.drew = X1 := ⟨_, rfl⟩
    have hbX1 : Below w2.heap.size w2 X1 := by rw [← hX1']; exact (Below.refl w2.heap.size w2).drew
    have e2 := block_below e1 hbX1 (lt_blk e1)
    have HS := Lib.hid (fun W (h : Below X1.heap.size X1 W) => show W.cell? ⟨N0, 0, none⟩ = some (.slice A0 n0 p0) ∧ W.cell? ⟨N0, 1, none⟩ = some (.slice A1 n1 p1) ∧ W.cell? ⟨N0, 2, none⟩ = some (.slice A2 n2 p2) ∧ W.cell? ⟨N0, 3, none⟩ = some (.slice A3 n3 p3) ∧ W.cell? ⟨N0, 4, none⟩ = some (.slice A4 n4 p4) ∧ W.cell? ⟨N0, 5, none⟩ = some (.slice A5 n5 p5) ∧ W.cell? ⟨N0, 6, none⟩ = some (.slice A6 n6 p6) from
      ⟨cell_of (block_below e2 h (lt_blk e2)) rfl, cell_of (block_below e2 h (lt_blk e2)) rfl, cell_of (block_below e2 h (lt_blk e2)) rfl, cell_of (block_below e2 h (lt_blk e2)) rfl, cell_of (block_below e2 h (lt_blk e2)) rfl, cell_of (block_below e2 h (lt_blk e2)) rfl, cell_of (block_below e2 h (lt_blk e2)) rfl⟩)
    have hwX : Below w.heap.size w X1 := HB2.out.trans (hbX1.mono HB2.out.size)
    have H1 := Lib.hid (fun W (h : Below X1.heap.size X1 W) => HM1.out W (hwX.trans (h.mono hwX.size)))
    have H2 := Lib.hid (fun W (h : Below X1.heap.size X1 W) => HM2.out hbd W (hwX.trans (h.mono hwX.size)))
    have H3 := Lib.hid (fun W (h : Below X1.heap.size X1 W) => HM3.out W (hwX.trans (h.mono hwX.size)))
    have H4 := Lib.hid (fun W (h : Below X1.heap.size X1 W) => HM4.out hbd W (hwX.trans (h.mono hwX.size)))
    have HBX := Lib.hid hwX
    have HB0 := Lib.hid (Below.refl X1.heap.size X1)
    replace HX1 := Lib.hid hX1'
    clear hb2 hq hbd e1 e2 hX1' hbX1 hwX HM1 HM2 HM3 HM4
    go_wp2_with fail
    refine wp_region_held_drew (S := (fun w' => w'.cell? ⟨N0, 0, none⟩ = some (.slice A0 n0 p0) ∧ w'.cell? ⟨N0, 1, none⟩ = some (.slice A1 n1 p1) ∧ w'.cell? ⟨N0, 2, none⟩ = some (.slice A2 n2 p2) ∧ w'.cell? ⟨N0, 3, none⟩ = some (.slice A3 n3 p3) ∧ w'.cell? ⟨N0, 4, none⟩ = some (.slice A4 n4 p4) ∧ w'.cell? ⟨N0, 5, none⟩ = some (.slice A5 n5 p5) ∧ w'.cell? ⟨N0, 6, none⟩ = some (.slice A6 n6 p6))) (by kernel_rfl) ?_ (fun hHeld => ?_)
    · (try dsimp only); (rw [HX1.out]; exact HS.out X1 HB0.out)
    rw [HX1.out] at hHeld ⊢
    refine wpAnyH_take (i := 0) (oi := ?oi1) (v := ?v1) ?hi1 (by kernel_rfl) (by kernel_rfl) (by kernel_rfl) ?hq1 ?hy1 (by assumption) ?hr1
    case hi1 => (simp only [List.getElem?_toArray, List.getElem?_cons_zero]; rfl)
    case hq1 => exact fun _ _ _ h => h
    case hy1 => exact Or.inl ⟨by rfl, by intro whSw hSw'; (try dsimp only at hSw'); (first | (go_simp; done) | (go_simp; with_reducible rfl))⟩
    try simp only [Act.put, List.setIfInBounds_toArray, List.set_cons_zero, List.set_cons_succ]
    refine wpAnyH_take (i := 1) (oi := ?oi2) (v := ?v2) ?hi2 (by kernel_rfl) (by kernel_rfl) (by kernel_rfl) ?hq2 ?hy2 (by assumption) ?hr2
    case hi2 => (simp only [List.getElem?_toArray, List.getElem?_cons_succ, List.getElem?_cons_zero]; rfl)
    case hq2 => exact fun _ _ _ h => h
    case hy2 => exact Or.inl ⟨by rfl, by intro whSw hSw'; (try dsimp only at hSw'); (first | (go_simp; done) | (go_simp; with_reducible rfl))⟩
    try simp only [Act.put, List.setIfInBounds_toArray, List.set_cons_zero, List.set_cons_succ]
    refine wpAnyH_take (i := 3) (oi := ?oi3) (v := ?v3) ?hi3 (by kernel_rfl) (by kernel_rfl) (by kernel_rfl) ?hq3 ?hy3 (by assumption) ?hr3
    case hi3 => (simp only [List.getElem?_toArray, List.getElem?_cons_succ, List.getElem?_cons_zero]; rfl)
    case hq3 => exact fun _ _ _ h => h
    case hy3 => exact Or.inl ⟨by rfl, by intro whSw hSw'; (try dsimp only at hSw'); (first | (go_simp; done) | (go_simp; with_reducible rfl))⟩
    try simp only [Act.put, List.setIfInBounds_toArray, List.set_cons_zero, List.set_cons_succ]
    refine wpAnyH_take (i := 4) (oi := ?oi4) (v := ?v4) ?hi4 (by kernel_rfl) (by kernel_rfl) (by kernel_rfl) ?hq4 ?hy4 (by assumption) ?hr4
    case hi4 => (simp only [List.getElem?_toArray, List.getElem?_cons_succ, List.getElem?_cons_zero]; rfl)
    case hq4 => exact fun _ _ _ h => h
    case hy4 => exact Or.inl ⟨by rfl, by intro whSw hSw'; (try dsimp only at hSw'); (first | (go_simp; done) | (go_simp; with_reducible rfl))⟩
    try simp only [Act.put, List.setIfInBounds_toArray, List.set_cons_zero, List.set_cons_succ]
    refine wpAnyH_ready (rs := [2]) (by kernel_rfl) (by simp) ?_
    refine AllReadyH.cons (o := ?oo5) ?hi5 (fun K hK => ?hs5) ?hm5
    case hi5 => (simp only [List.getElem?_toArray, List.getElem?_cons_succ, List.getElem?_cons_zero]; rfl)
    · go_simp
      refine (H1.out X1 HB0.out).mono ?_
      rintro e x1 ⟨rfl, hbx1⟩
      have HBx1 := Lib.hid (HB0.out.trans (hbx1.mono HB0.out.size))
      clear hbx1
      (try go_wp2_with fail)
      refine hK.out _ _ ?_ (fun hHeld => ?_)
      · (try dsimp only); exact HS.out x1 HBx1.out
      clear hK K
      try simp only [Act.put, List.setIfInBounds_toArray, List.set_cons_zero, List.set_cons_succ]
      refine wpAnyH_ready (rs := [5]) (by kernel_rfl) (by simp) ?_
      refine AllReadyH.cons (o := ?oo6) ?hi6 (fun K hK => ?hs6) ?hm6
      case hi6 => (simp only [List.getElem?_toArray, List.getElem?_cons_succ, List.getElem?_cons_zero]; rfl)
      · go_simp
        refine (H2.out x1 HBx1.out).mono ?_
        rintro e x2 ⟨rfl, hbx2⟩
        have HBx2 := Lib.hid (HBx1.out.trans (hbx2.mono HBx1.out.size))
        clear hbx2
        (try go_wp2_with fail)
        refine hK.out _ _ ?_ (fun hHeld => ?_)
        · (try dsimp only); exact HS.out x2 HBx2.out
        clear hK K
        try simp only [Act.put, List.setIfInBounds_toArray, List.set_cons_zero, List.set_cons_succ]
        refine wpAnyH_take (i := 6) (oi := ?oi7) (v := ?v7) ?hi7 (by kernel_rfl) (by kernel_rfl) (by kernel_rfl) ?hq7 ?hy7 (by assumption) ?hr7
        case hi7 => (simp only [List.getElem?_toArray, List.getElem?_cons_succ, List.getElem?_cons_zero]; rfl)
        case hq7 => exact fun _ _ _ h => h
        case hy7 => exact Or.inl ⟨by rfl, by intro whSw hSw'; (try dsimp only at hSw'); (first | (go_simp; done) | (go_simp; with_reducible rfl))⟩
        try simp only [Act.put, List.setIfInBounds_toArray, List.set_cons_zero, List.set_cons_succ]
        refine wpAnyH_take (i := 7) (oi := ?oi8) (v := ?v8) ?hi8 (by kernel_rfl) (by kernel_rfl) (by kernel_rfl) ?hq8 ?hy8 (by assumption) ?hr8
        case hi8 => (simp only [List.getElem?_toArray, List.getElem?_cons_succ, List.getElem?_cons_zero]; rfl)
        case hq8 => exact fun _ _ _ h => h
        case hy8 => exact Or.inl ⟨by rfl, by intro whSw hSw'; (try dsimp only at hSw'); (first | (go_simp; done) | (go_simp; with_reducible rfl))⟩
        try simp only [Act.put, List.setIfInBounds_toArray, List.set_cons_zero, List.set_cons_succ]
        refine wpAnyH_take (i := 8) (oi := ?oi9) (v := ?v9) ?hi9 (by kernel_rfl) (by kernel_rfl) (by kernel_rfl) ?hq9 ?hy9 (by assumption) ?hr9
        case hi9 => (simp only [List.getElem?_toArray, List.getElem?_cons_succ, List.getElem?_cons_zero]; rfl)
        case hq9 => exact fun _ _ _ h => h
        case hy9 => exact Or.inl ⟨by rfl, by intro whSw hSw'; (try dsimp only at hSw'); (first | (go_simp; done) | (go_simp; with_reducible rfl))⟩
        try simp only [Act.put, List.setIfInBounds_toArray, List.set_cons_zero, List.set_cons_succ]
        refine wpAnyH_take (i := 9) (oi := ?oi10) (v := ?v10) ?hi10 (by kernel_rfl) (by kernel_rfl) (by kernel_rfl) ?hq10 ?hy10 (by assumption) ?hr10
        case hi10 => (simp only [List.getElem?_toArray, List.getElem?_cons_succ, List.getElem?_cons_zero]; rfl)
        case hq10 => exact fun _ _ _ h => h
        case hy10 => exact Or.inl ⟨by rfl, by intro whSw hSw'; (try dsimp only at hSw'); (first | (go_simp; done) | (go_simp; with_reducible rfl))⟩
        try simp only [Act.put, List.setIfInBounds_toArray, List.set_cons_zero, List.set_cons_succ]
        refine wpAnyH_take (i := 11) (oi := ?oi11) (v := ?v11) ?hi11 (by kernel_rfl) (by kernel_rfl) (by kernel_rfl) ?hq11 ?hy11 (by assumption) ?hr11
        case hi11 => (simp only [List.getElem?_toArray, List.getElem?_cons_succ, List.getElem?_cons_zero]; rfl)
        case hq11 => exact fun _ _ _ h => h
        case hy11 => exact Or.inl ⟨by rfl, by intro whSw hSw'; (try dsimp only at hSw'); (first | (go_simp; done) | (go_simp; with_reducible rfl))⟩
        try simp only [Act.put, List.setIfInBounds_toArray, List.set_cons_zero, List.set_cons_succ]
        refine wpAnyH_take (i := 12) (oi := ?oi12) (v := ?v12) ?hi12 (by kernel_rfl) (by kernel_rfl) (by kernel_rfl) ?hq12 ?hy12 (by assumption) ?hr12
        case hi12 => (simp only [List.getElem?_toArray, List.getElem?_cons_succ, List.getElem?_cons_zero]; rfl)
        case hq12 => exact fun _ _ _ h => h
        case hy12 => exact Or.inl ⟨by rfl, by intro whSw hSw'; (try dsimp only at hSw'); (first | (go_simp; done) | (go_simp; with_reducible rfl))⟩
        try simp only [Act.put, List.setIfInBounds_toArray, List.set_cons_zero, List.set_cons_succ]
        refine wpAnyH_ready (rs := [10]) (by kernel_rfl) (by simp) ?_
        refine AllReadyH.cons (o := ?oo13) ?hi13 (fun K hK => ?hs13) ?hm13
        case hi13 => (simp only [List.getElem?_toArray, List.getElem?_cons_succ, List.getElem?_cons_zero]; rfl)
        · go_simp
          refine (H3.out x2 HBx2.out).mono ?_
          rintro e x3 ⟨rfl, hbx3⟩
          have HBx3 := Lib.hid (HBx2.out.trans (hbx3.mono HBx2.out.size))
          clear hbx3
          (try go_wp2_with fail)
          refine hK.out _ _ ?_ (fun hHeld => ?_)
          · (try dsimp only); exact HS.out x3 HBx3.out
          clear hK K
          try simp only [Act.put, List.setIfInBounds_toArray, List.set_cons_zero, List.set_cons_succ]
          refine wpAnyH_ready (rs := [13]) (by kernel_rfl) (by simp) ?_
          refine AllReadyH.cons (o := ?oo14) ?hi14 (fun K hK => ?hs14) ?hm14
          case hi14 => (simp only [List.getElem?_toArray, List.getElem?_cons_succ, List.getElem?_cons_zero]; rfl)
          · go_simp
            refine (H4.out x3 HBx3.out).mono ?_
            rintro e x4 ⟨rfl, hbx4⟩
            have HBx4 := Lib.hid (HBx3.out.trans (hbx4.mono HBx3.out.size))
            clear hbx4
            (try go_wp2_with fail)
            refine hK.out _ _ ?_ (fun hHeld => ?_)
            · (try dsimp only); exact HS.out x4 HBx4.out
            clear hK K
            try simp only [Act.put, List.setIfInBounds_toArray, List.set_cons_zero, List.set_cons_succ]
            refine wpAnyH_take (i := 14) (oi := ?oi15) (v := ?v15) ?hi15 (by kernel_rfl) (by kernel_rfl) (by kernel_rfl) ?hq15 ?hy15 (by assumption) ?hr15
            case hi15 => (simp only [List.getElem?_toArray, List.getElem?_cons_succ, List.getElem?_cons_zero]; rfl)
            case hq15 => exact fun _ _ _ h => h
            case hy15 => exact Or.inl ⟨by rfl, by intro whSw hSw'; (try dsimp only at hSw'); (first | (go_simp; done) | (go_simp; with_reducible rfl))⟩
            try simp only [Act.put, List.setIfInBounds_toArray, List.set_cons_zero, List.set_cons_succ]
            refine wpAnyH_take (i := 15) (oi := ?oi16) (v := ?v16) ?hi16 (by kernel_rfl) (by kernel_rfl) (by kernel_rfl) ?hq16 ?hy16 (by assumption) ?hr16
            case hi16 => (simp only [List.getElem?_toArray, List.getElem?_cons_succ, List.getElem?_cons_zero]; rfl)
            case hq16 => exact fun _ _ _ h => h
            case hy16 => exact Or.inl ⟨by rfl, by intro whSw hSw'; (try dsimp only at hSw'); (first | (go_simp; done) | (go_simp; with_reducible rfl))⟩
            try simp only [Act.put, List.setIfInBounds_toArray, List.set_cons_zero, List.set_cons_succ]
            refine wpAnyH_take (i := 16) (oi := ?oi17) (v := ?v17) ?hi17 (by kernel_rfl) (by kernel_rfl) (by kernel_rfl) ?hq17 ?hy17 (by assumption) ?hr17
            case hi17 => (simp only [List.getElem?_toArray, List.getElem?_cons_succ, List.getElem?_cons_zero]; rfl)
            case hq17 => exact fun _ _ _ h => h
            case hy17 => exact Or.inl ⟨by rfl, by intro whSw hSw'; (try dsimp only at hSw'); (first | (go_simp; done) | (go_simp; with_reducible rfl))⟩
            try simp only [Act.put, List.setIfInBounds_toArray, List.set_cons_zero, List.set_cons_succ]
            refine wpAnyH_ready (rs := [17]) (by kernel_rfl) (by simp) ?_
            refine AllReadyH.cons (o := ?oo18) ?hi18 (fun K hK => ?hs18) ?hm18
            case hi18 => (simp only [List.getElem?_toArray, List.getElem?_cons_succ, List.getElem?_cons_zero]; rfl)
            · go_simp
              refine (awake_any x4).mono ?_
              rintro e x5 ⟨rfl, hbx5⟩
              have HBx5 := Lib.hid (HBx4.out.trans (hbx5.mono HBx4.out.size))
              clear hbx5
              (try go_wp2_with fail)
              refine hK.out _ _ ?_ (fun hHeld => ?_)
              · (try dsimp only); exact HS.out x5 HBx5.out
              clear hK K
              try simp only [Act.put, List.setIfInBounds_toArray, List.set_cons_zero, List.set_cons_succ]
              refine wpAnyH_take (i := 18) (oi := ?oi19) (v := ?v19) ?hi19 (by kernel_rfl) (by kernel_rfl) (by kernel_rfl) ?hq19 ?hy19 (by assumption) ?hr19
              case hi19 => (simp only [List.getElem?_toArray, List.getElem?_cons_succ, List.getElem?_cons_zero]; rfl)
              case hq19 => exact fun _ _ _ h => h
              case hy19 => exact Or.inl ⟨by rfl, by intro whSw hSw'; (try dsimp only at hSw'); (first | (go_simp; done) | (go_simp; with_reducible rfl))⟩
              try simp only [Act.put, List.setIfInBounds_toArray, List.set_cons_zero, List.set_cons_succ]
              refine wpAnyH_take (i := 19) (oi := ?oi20) (v := ?v20) ?hi20 (by kernel_rfl) (by kernel_rfl) (by kernel_rfl) ?hq20 ?hy20 (by assumption) ?hr20
              case hi20 => (simp only [List.getElem?_toArray, List.getElem?_cons_succ, List.getElem?_cons_zero]; rfl)
              case hq20 => exact fun _ _ _ h => h
              case hy20 => exact Or.inl ⟨by rfl, by intro whSw hSw'; (try dsimp only at hSw'); (first | (go_simp; done) | (go_simp; with_reducible rfl))⟩
              try simp only [Act.put, List.setIfInBounds_toArray, List.set_cons_zero, List.set_cons_succ]
              refine wpAnyH_done (by kernel_rfl) ?_ _
              go_wp2_with fail
              go_ret
              exact ⟨rfl, HBX.out.trans (HBx5.out.mono HBX.out.size)⟩
            exact AllReadyH.nil
          exact AllReadyH.nil
        exact AllReadyH.nil
      exact AllReadyH.nil
    exact AllReadyH.nil

theorem own : ownKnob Tryz.prog.godebug = none := by kernel_rfl

set_option maxRecDepth 100000 in
theorem lifted (os : Os) (started : os.Started) (H : Type) (enc : TypeId × Value → H) :
    ReturnsInHanded {} Tryz.checked os 13 .any (Rows.corpusFindsSpec.pre6 enc Tryz.prog Tryz.f13 Rows.corpusFindsRow.domain false) (Rows.corpusFindsSpec.post enc Tryz.prog Tryz.f13 false true false false) := by
  refine returnsInHanded_of_change (C := Tryz.checked) own started (by kernel_rfl) Tryz.func13
    (ChangeSpec.witness6 (enc := enc) (C := Tryz.checked) false ⟨#[], #[.agg #[.slice none 0 0, .slice none 0 0, .slice none 0 0, .slice none 0 0, .slice none 0 0, .slice none 0 0, .slice none 0 0], .string ⟨#[]⟩, .int .i64 0], []⟩ 8 (by kernel_rfl) (by kernel_rfl) (by kernel_rfl) (by kernel_rfl)) ?_
  intro W base args ds gs before hval0 hW hcnd _
  have hval : ∀ (j : Nat) t v, Tryz.f13.params[j]? = some t → args[j]? = some v → Value.okWide Tryz.prog W .any base t v := hval0
  have hW' := hW
  have hplt : ∀ x ∈ before, x.block < W.heap.size := fun x hx => hW.lt x hx
  obtain ⟨p, q, hA0, hV, rfl, hfz, hnd⟩ := hW
  have hA : DataW.TrodAll enc Tryz.prog W 0 (fun _ => true) true Tryz.f13.params.toList args.toList ds p := hA0
  rw [Tryz.params13] at hA hval
  obtain ⟨v0, vs0, d0, ds0, p0, q0, hargs, rfl, rfl, h0, r0⟩ := trodAll_cons hA
  obtain ⟨v1, vs1, d1, ds1, p1, q1, rfl, rfl, rfl, h1, r1⟩ := trodAll_cons r0
  obtain ⟨v2, vs2, d2, ds2, p2, q2, rfl, rfl, rfl, h2, r2⟩ := trodAll_cons r1
  obtain ⟨rfl, rfl, rfl⟩ := trodAll_nil r2
  obtain rfl : args = #[v0, v1, v2] := by cases args; simp_all
  obtain ⟨rfl, rfl⟩ := trodVars_none hV
  obtain ⟨s0, c0, rfl, k0, m0, -⟩ := open_cor (hval 0 30 v0 rfl rfl) h0
  obtain ⟨a1, rfl, m1⟩ := open_str (hval 1 9 v1 rfl rfl) h1
  obtain ⟨x2, rfl, m2, n2⟩ := open_i64 (hval 2 3 v2 rfl rfl) h2
  clear hA0 hval0
  refine (walk s0 c0 k0 m0 a1 m1 x2 m2 n2).mono fun e W' ⟨he, bel⟩ => ?_
  subst he
  exact ⟨_, rfl, _, _, _, [], _, [], hW', trodAll_mk1 (shut_bool Tryz.underlying4 _), (trodAll_cons_mk (Below.trod Tryz.laidOut (by kernel_rfl) (of_decide_eq_true (by kernel_rfl)) h0 bel (fun x hx => hplt x (by simp [hx]))) (trodAll_cons_mk (Below.trod Tryz.laidOut (by kernel_rfl) (of_decide_eq_true (by kernel_rfl)) h1 bel (fun x hx => hplt x (by simp [hx]))) (trodAll_cons_mk (Below.trod Tryz.laidOut (by kernel_rfl) (of_decide_eq_true (by kernel_rfl)) h2 bel (fun x hx => hplt x (by simp [hx]))) trodAll_mk0))), rfl, World.keptBut_mono (fun x hx => ⟨hx, Or.inr (by simpa using hx)⟩) (bel.frame (· ∈ _)), fun h => by cases h⟩

theorem over : Rows.corpusFindsRow.holds Tryz.pinned (OpenSpec.ofChange Rows.corpusFindsSpec) :=
  OpenClaim.holds_of_wide 13 Tryz.f13 rfl rfl rfl rfl rfl rfl rfl ⟨rfl, rfl, rfl, rfl, rfl⟩ rfl rfl rfl rfl rfl (by kernel_rfl) Tryz.func13 (by kernel_rfl)
    (of_decide_eq_true (by kernel_rfl)) (by unfold Func.isWrapper; first | (rw [if_pos (by decide +kernel)]; kernel_rfl) | (rw [if_neg (by decide +kernel)]; exact ⟨rfl, rfl⟩))
    (fun os started H enc _ => lifted os started H enc)

/-- THE STATEMENT. -/
theorem proved : Rows.CorpusFindsSaid := over
end Go.Proofs.YtglafkonpbcegaaGreat.corpusFinds
