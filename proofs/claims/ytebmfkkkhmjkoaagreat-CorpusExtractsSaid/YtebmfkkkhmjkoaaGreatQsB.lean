/-
 WALKS over the reference of corpus: Equal.
-/
import Derived.Test.YtebmfkkkhmjkoaaGreatQsA
import Derived.Test.YtebmfkkkhmjkoaaGreatQmV
namespace Go.Proofs.YtebmfkkkhmjkoaaGreat
open Go.RowKit Go.Shelf Go.Lib
set_option linter.unusedVariables false

theorem cell_keep {W W' : World} {a : Addr} {v : Value} (h : W.cell? a = some v) (hb : Below W.heap.size W W') : W'.cell? a = some v := by
 have hlt : a.block < W.heap.size := by
  rcases Nat.lt_or_ge a.block W.heap.size with h' | h'
  · exact h'
  simp [World.cell?, Array.getElem?_eq_none h'] at h
 exact (hb.cell hlt).trans h
theorem str_eq_iff (x y : Bs) (P Q : ByteArray) (hP : (⟨x.toArray⟩ : ByteArray) = P) (hQ : (⟨y.toArray⟩ : ByteArray) = Q) : P.toList = Q.toList ↔ x = y := by
 rw [← hP, ← hQ, Lib.toList_data, Lib.toList_data]
set_option maxRecDepth 1000000 in
set_option maxHeartbeats 32000000 in
theorem refEqual_any {w : World} (s1 s2 : Sv) {c d : Cor} (hC : CorAt w s1 c) (hD : CorAt w s2 d) (hl : LenC c) (hl2 : LenC d) (hh : c.heads.length ≤ maxLen) :
 Calls Tryz.prog 11 #[.agg s1.arr, .agg s2.arr] w fun e w' => e = .returned (.bool (decide (c = d))) ∧ Below w.heap.size w w' := by
 obtain ⟨va, vt, vx, vr, vn, vh, vl⟩ := s1
 obtain ⟨ya, yt, yx, yr, yn, yh, yl⟩ := s2
 obtain ⟨A0, p0, h0, q0⟩ := hC.a.form
 obtain ⟨B0, r0, k0, t0⟩ := hD.a.form
 obtain ⟨A1, p1, h1, q1⟩ := hC.t.form
 obtain ⟨B1, r1, k1, t1⟩ := hD.t.form
 obtain ⟨A2, p2, h2, q2⟩ := hC.x.form
 obtain ⟨B2, r2, k2, t2⟩ := hD.x.form
 obtain ⟨A3, p3, h3, q3⟩ := hC.r.form
 obtain ⟨B3, r3, k3, t3⟩ := hD.r.form
 obtain ⟨A4, p4, h4, q4⟩ := hC.n.form
 obtain ⟨B4, r4, k4, t4⟩ := hD.n.form
 obtain ⟨A5, p5, h5, q5⟩ := hC.h.form
 obtain ⟨B5, r5, k5, t5⟩ := hD.h.form
 obtain ⟨A6, p6, h6, q6⟩ := hC.l.form
 obtain ⟨B6, r6, k6, t6⟩ := hD.l.form
 simp only at h0 k0 h1 k1 h2 k2 h3 k3 h4 k4 h5 k5 h6 k6
 subst h0 k0 h1 k1 h2 k2 h3 k3 h4 k4 h5 k5 h6 k6
 obtain ⟨n0, e0⟩ : ∃ n, c.attrs.length = n := ⟨_, rfl⟩
 obtain ⟨m0, g0⟩ : ∃ n, d.attrs.length = n := ⟨_, rfl⟩
 obtain ⟨n1, e1⟩ : ∃ n, c.toks.length = n := ⟨_, rfl⟩
 obtain ⟨m1, g1⟩ : ∃ n, d.toks.length = n := ⟨_, rfl⟩
 obtain ⟨n2, e2⟩ : ∃ n, c.texts.length = n := ⟨_, rfl⟩
 obtain ⟨m2, g2⟩ : ∃ n, d.texts.length = n := ⟨_, rfl⟩
 obtain ⟨n3, e3⟩ : ∃ n, c.regs.length = n := ⟨_, rfl⟩
 obtain ⟨m3, g3⟩ : ∃ n, d.regs.length = n := ⟨_, rfl⟩
 obtain ⟨n4, e4⟩ : ∃ n, c.nodes.length = n := ⟨_, rfl⟩
 obtain ⟨m4, g4⟩ : ∃ n, d.nodes.length = n := ⟨_, rfl⟩
 obtain ⟨n5, e5⟩ : ∃ n, c.heads.length = n := ⟨_, rfl⟩
 obtain ⟨m5, g5⟩ : ∃ n, d.heads.length = n := ⟨_, rfl⟩
 obtain ⟨n6, e6⟩ : ∃ n, c.rels.length = n := ⟨_, rfl⟩
 obtain ⟨m6, g6⟩ : ∃ n, d.rels.length = n := ⟨_, rfl⟩
 have L1 := hl.t.1
 have L2 := hl.x.1
 have L3 := hl.r.1
 have L4 := hl.n
 have L6 := hl.l
 have hsa := fun W (h : Below w.heap.size w W) => sameAttrs_any (hC.below h).a (hD.below h).a hl.a hl2.a
 have LP := Lib.hid (And.intro hl hl2)
 simp only [e0, g0, e1, g1, e2, g2, e3, g3, e4, g4, e5, g5, e6, g6, Sv.arr] at hC hD hsa L1 L2 L3 L4 L6 hh ⊢
 unfold maxLen at L1 L2 L3 L4 L6 hh
 obtain ⟨b0, hb0⟩ : ∃ b, decide (c.attrs = d.attrs) = b := ⟨_, rfl⟩
 rw [hb0] at hsa
 obtain ⟨q, hq⟩ : ∃ q, decide (c = d) = q := ⟨_, rfl⟩
 rw [hq]
 have HQ := Lib.hid hq
 have HB0 := Lib.hid hb0
 have HE := Lib.hid (And.intro e0 (And.intro e1 (And.intro e2 (And.intro e3 (And.intro e4 (And.intro e5 (e6)))))))
 have HG := Lib.hid (And.intro g0 (And.intro g1 (And.intro g2 (And.intro g3 (And.intro g4 (And.intro g5 (g6)))))))
 obtain ⟨X, hX⟩ : ∃ X, (w.alloc (.cells #[.slice A0 n0 p0, .slice A1 n1 p1, .slice A2 n2 p2, .slice A3 n3 p3, .slice A4 n4 p4, .slice A5 n5 p5, .slice A6 n6 p6] 30)).alloc (.cells #[.slice B0 m0 r0, .slice B1 m1 r1, .slice B2 m2 r2, .slice B3 m3 r3, .slice B4 m4 r4, .slice B5 m5 r5, .slice B6 m6 r6] 30) = X := ⟨_, rfl⟩
 have hbX : Below w.heap.size w X := by rw [← hX]; exact (below_box w _).trans ((below_box _ _).mono (by simp))
 obtain ⟨N0, hN0⟩ : ∃ N0, w.heap.size = N0 := ⟨_, rfl⟩
 have x1 : X.heap[N0]? = some (.cells #[.slice A0 n0 p0, .slice A1 n1 p1, .slice A2 n2 p2, .slice A3 n3 p3, .slice A4 n4 p4, .slice A5 n5 p5, .slice A6 n6 p6] 30 (0, 0)) := by rw [← hX, ← hN0]; exact block_alloc _ (block_new w _)
 have x2 : X.heap[N0 + 1]? = some (.cells #[.slice B0 m0 r0, .slice B1 m1 r1, .slice B2 m2 r2, .slice B3 m3 r3, .slice B4 m4 r4, .slice B5 m5 r5, .slice B6 m6 r6] 30 (0, 0)) := by
  have := block_new (w.alloc (.cells #[.slice A0 n0 p0, .slice A1 n1 p1, .slice A2 n2 p2, .slice A3 n3 p3, .slice A4 n4 p4, .slice A5 n5 p5, .slice A6 n6 p6] 30)) (.cells #[.slice B0 m0 r0, .slice B1 m1 r1, .slice B2 m2 r2, .slice B3 m3 r3, .slice B4 m4 r4, .slice B5 m5 r5, .slice B6 m6 r6] 30)
  rw [alloc_sz, hN0] at this
  rw [← hX]
  exact this
 have HC := Lib.hid (fun W (h : Below X.heap.size X W) => hC.below (hbX.trans (h.mono hbX.size)))
 have HD := Lib.hid (fun W (h : Below X.heap.size X W) => hD.below (hbX.trans (h.mono hbX.size)))
 have HK := Lib.hid (fun W (h : Below X.heap.size X W) => And.intro (block_below x1 h (Array.getElem?_eq_some_iff.1 x1).1) (block_below x2 h (Array.getElem?_eq_some_iff.1 x2).1))
 have HSA := Lib.hid (hsa _ hbX)
 have HX := Lib.hid hX
 have HN0 := Lib.hid hN0
 have HBX := Lib.hid hbX
 have h00 := (Below.refl X.heap.size X)
 have cc0 : X.cell? ⟨N0, 0, none⟩ = some (.slice A0 n0 p0) := cell_of x1 rfl
 have dd0 : X.cell? ⟨N0 + 1, 0, none⟩ = some (.slice B0 m0 r0) := cell_of x2 rfl
 have cc1 : X.cell? ⟨N0, 1, none⟩ = some (.slice A1 n1 p1) := cell_of x1 rfl
 have dd1 : X.cell? ⟨N0 + 1, 1, none⟩ = some (.slice B1 m1 r1) := cell_of x2 rfl
 have cc2 : X.cell? ⟨N0, 2, none⟩ = some (.slice A2 n2 p2) := cell_of x1 rfl
 have dd2 : X.cell? ⟨N0 + 1, 2, none⟩ = some (.slice B2 m2 r2) := cell_of x2 rfl
 have cc3 : X.cell? ⟨N0, 3, none⟩ = some (.slice A3 n3 p3) := cell_of x1 rfl
 have dd3 : X.cell? ⟨N0 + 1, 3, none⟩ = some (.slice B3 m3 r3) := cell_of x2 rfl
 have cc4 : X.cell? ⟨N0, 4, none⟩ = some (.slice A4 n4 p4) := cell_of x1 rfl
 have dd4 : X.cell? ⟨N0 + 1, 4, none⟩ = some (.slice B4 m4 r4) := cell_of x2 rfl
 have cc5 : X.cell? ⟨N0, 5, none⟩ = some (.slice A5 n5 p5) := cell_of x1 rfl
 have dd5 : X.cell? ⟨N0 + 1, 5, none⟩ = some (.slice B5 m5 r5) := cell_of x2 rfl
 have cc6 : X.cell? ⟨N0, 6, none⟩ = some (.slice A6 n6 p6) := cell_of x1 rfl
 have dd6 : X.cell? ⟨N0 + 1, 6, none⟩ = some (.slice B6 m6 r6) := cell_of x2 rfl
 clear h00 hX hN0 hbX x1 x2 hC hD hl hl2 hsa hq hb0 e0 g0 e1 g1 e2 g2 e3 g3 e4 g4 e5 g5 e6 g6
 cases b0 with
 | false =>
   have hqf : q = false := by
    rw [← HQ.out, decide_eq_false_iff_not]
    intro h
    have := HB0.out
    rw [decide_eq_false_iff_not] at this
    exact this (congrArg Cor.attrs h)
   subst hqf
   go_enter Tryz.func11, Tryz.ntmps11
   go_wp2_with fail
   rw [HX.out, HN0.out]
   go_wp2_with fail
   refine HSA.out.mono ?_
   rintro e w2 ⟨rfl, hb2⟩
   have h2 := HK.out w2 hb2
   have cx0 : w2.cell? ⟨N0, 0, none⟩ = some (.slice A0 n0 p0) := cell_of h2.1 rfl
   have dx0 : w2.cell? ⟨N0 + 1, 0, none⟩ = some (.slice B0 m0 r0) := cell_of h2.2 rfl
   have cx1 : w2.cell? ⟨N0, 1, none⟩ = some (.slice A1 n1 p1) := cell_of h2.1 rfl
   have dx1 : w2.cell? ⟨N0 + 1, 1, none⟩ = some (.slice B1 m1 r1) := cell_of h2.2 rfl
   have cx2 : w2.cell? ⟨N0, 2, none⟩ = some (.slice A2 n2 p2) := cell_of h2.1 rfl
   have dx2 : w2.cell? ⟨N0 + 1, 2, none⟩ = some (.slice B2 m2 r2) := cell_of h2.2 rfl
   have cx3 : w2.cell? ⟨N0, 3, none⟩ = some (.slice A3 n3 p3) := cell_of h2.1 rfl
   have dx3 : w2.cell? ⟨N0 + 1, 3, none⟩ = some (.slice B3 m3 r3) := cell_of h2.2 rfl
   have cx4 : w2.cell? ⟨N0, 4, none⟩ = some (.slice A4 n4 p4) := cell_of h2.1 rfl
   have dx4 : w2.cell? ⟨N0 + 1, 4, none⟩ = some (.slice B4 m4 r4) := cell_of h2.2 rfl
   have cx5 : w2.cell? ⟨N0, 5, none⟩ = some (.slice A5 n5 p5) := cell_of h2.1 rfl
   have dx5 : w2.cell? ⟨N0 + 1, 5, none⟩ = some (.slice B5 m5 r5) := cell_of h2.2 rfl
   have cx6 : w2.cell? ⟨N0, 6, none⟩ = some (.slice A6 n6 p6) := cell_of h2.1 rfl
   have dx6 : w2.cell? ⟨N0 + 1, 6, none⟩ = some (.slice B6 m6 r6) := cell_of h2.2 rfl
   have HB := Lib.hid hb2
   clear hb2 h2 cc0 dd0 cc1 dd1 cc2 dd2 cc3 dd3 cc4 dd4 cc5 dd5 cc6 dd6
   go_wp2_with fail
   go_ret
   exact ⟨rfl, HBX.out.trans (HB.out.mono HBX.out.size)⟩
 | true =>
   by_cases z1 : n1 = m1
   ·
    subst z1
    by_cases z2 : n2 = m2
    ·
     subst z2
     by_cases z3 : n3 = m3
     ·
      subst z3
      by_cases z4 : n4 = m4
      ·
       subst z4
       by_cases z5 : n5 = m5
       ·
        subst z5
        by_cases z6 : n6 = m6
        ·
         subst z6
         go_enter Tryz.func11, Tryz.ntmps11
         go_wp2_with fail
         rw [HX.out, HN0.out]
         go_wp2_with fail
         refine HSA.out.mono ?_
         rintro e w2 ⟨rfl, hb2⟩
         have h2 := HK.out w2 hb2
         have cx0 : w2.cell? ⟨N0, 0, none⟩ = some (.slice A0 n0 p0) := cell_of h2.1 rfl
         have dx0 : w2.cell? ⟨N0 + 1, 0, none⟩ = some (.slice B0 m0 r0) := cell_of h2.2 rfl
         have cx1 : w2.cell? ⟨N0, 1, none⟩ = some (.slice A1 n1 p1) := cell_of h2.1 rfl
         have dx1 : w2.cell? ⟨N0 + 1, 1, none⟩ = some (.slice B1 n1 r1) := cell_of h2.2 rfl
         have cx2 : w2.cell? ⟨N0, 2, none⟩ = some (.slice A2 n2 p2) := cell_of h2.1 rfl
         have dx2 : w2.cell? ⟨N0 + 1, 2, none⟩ = some (.slice B2 n2 r2) := cell_of h2.2 rfl
         have cx3 : w2.cell? ⟨N0, 3, none⟩ = some (.slice A3 n3 p3) := cell_of h2.1 rfl
         have dx3 : w2.cell? ⟨N0 + 1, 3, none⟩ = some (.slice B3 n3 r3) := cell_of h2.2 rfl
         have cx4 : w2.cell? ⟨N0, 4, none⟩ = some (.slice A4 n4 p4) := cell_of h2.1 rfl
         have dx4 : w2.cell? ⟨N0 + 1, 4, none⟩ = some (.slice B4 n4 r4) := cell_of h2.2 rfl
         have cx5 : w2.cell? ⟨N0, 5, none⟩ = some (.slice A5 n5 p5) := cell_of h2.1 rfl
         have dx5 : w2.cell? ⟨N0 + 1, 5, none⟩ = some (.slice B5 n5 r5) := cell_of h2.2 rfl
         have cx6 : w2.cell? ⟨N0, 6, none⟩ = some (.slice A6 n6 p6) := cell_of h2.1 rfl
         have dx6 : w2.cell? ⟨N0 + 1, 6, none⟩ = some (.slice B6 n6 r6) := cell_of h2.2 rfl
         have HB := Lib.hid hb2
         clear hb2 h2 cc0 dd0 cc1 dd1 cc2 dd2 cc3 dd3 cc4 dd4 cc5 dd5 cc6 dd6
         go_wp2_with fail
         clear cx0 dx0 cx1 dx1 cx2 dx2 cx3 dx3 cx4 dx4 cx5 dx5 cx6 dx6
         go_loopw [79] (fun i wr => ∃ k : Nat, k ≤ n1 ∧ i = .int .i64 k ∧ Hid (∀ (j : Nat) (x y : Fs), j < k → c.toks[j]? = some x → d.toks[j]? = some y → x = y) ∧ Below X.heap.size X wr) (fun i _ => n1 - (Go.RowKit.intOf i).toNat)
         case atStart => exact ⟨0, Nat.zero_le _, rfl, Lib.hid (fun j x y h => absurd h (by omega)), HB.out⟩
         clear HB
         obtain ⟨k, hk, rfl, hs, hb⟩ := hrel
         have h2 := HK.out wr hb
         have cx1 : wr.cell? ⟨N0, 1, none⟩ = some (.slice A1 n1 p1) := cell_of h2.1 rfl
         have dx1 : wr.cell? ⟨N0 + 1, 1, none⟩ = some (.slice B1 n1 r1) := cell_of h2.2 rfl
         clear h2
         by_cases hlt : k < n1
         ·
          obtain ⟨x, hx⟩ : ∃ x, c.toks[k]? = some x := ⟨_, List.getElem?_eq_getElem (by have := HE.out.2.1; omega)⟩
          obtain ⟨y, hy⟩ : ∃ y, d.toks[k]? = some y := ⟨_, List.getElem?_eq_getElem (by have := HG.out.2.1; omega)⟩
          obtain ⟨b1, o1, rfl, -, hj1⟩ := at_tok (HC.out wr hb).t (by have := HE.out.2.1; omega)
          obtain ⟨b2, o2, rfl, -, hj2⟩ := at_tok (HD.out wr hb).t (by have := HG.out.2.1; omega)
          have HB := Lib.hid hb
          have HXX := Lib.hid hx
          have HYY := Lib.hid hy
          have i0 : (0 : Int) ≤ (k : Int) := by omega
          have i1 : (k : Int) < (n1 : Int) := by omega
          have hqn : x ≠ y → q = false := fun hne => by
           rw [← HQ.out, decide_eq_false_iff_not]
           intro h
           have h3 := HXX.out
           rw [h, HYY.out] at h3
           exact hne (Option.some.inj h3).symm
          have hsn : x = y → Hid (∀ (j : Nat) (x y : Fs), j < k + 1 → c.toks[j]? = some x → d.toks[j]? = some y → x = y) := fun he => Lib.hid fun j x' y' hj h3 h4 => by
           by_cases e : j = k
           ·
            subst e
            rw [HXX.out] at h3
            rw [HYY.out] at h4
            cases h3
            cases h4
            exact he
           exact hs.out j x' y' (by omega) h3 h4
          have HQN := Lib.hid hqn
          have HSN := Lib.hid hsn
          obtain ⟨u, u0, ru⟩ := hj1 k x hx
          obtain ⟨v, v0, rv⟩ := hj2 k y hy
          have lx := LP.out.1.t.2 x (List.mem_of_getElem? hx)
          obtain ⟨Au, pu, rfl, -⟩ := ru.form
          obtain ⟨Bv, pv, rfl, -⟩ := rv.form
          obtain ⟨nu, hnu⟩ : ∃ n, x.length = n := ⟨_, rfl⟩
          obtain ⟨nv, hnv⟩ : ∃ n, y.length = n := ⟨_, rfl⟩
          rw [hnu] at u0 ru lx
          rw [hnv] at v0 rv
          unfold maxLen at lx
          by_cases hlen : nu = nv
          ·
           subst hlen
           obtain ⟨wo, hwo⟩ : ∃ wo, wo = wr := ⟨_, rfl⟩
           subst hwo
           have HRU := Lib.hid (fun W (h : Below wo.heap.size wo W) => ru.below stays_str h)
           have HRV := Lib.hid (fun W (h : Below wo.heap.size wo W) => rv.below stays_str h)
           have HKI := Lib.hid (fun W (h : Below wo.heap.size wo W) => And.intro (cell_keep cx1 h) (And.intro (cell_keep dx1 h) (And.intro (cell_keep u0 h) (cell_keep v0 h))))
           have HNU := Lib.hid (And.intro hnu hnv)
           clear ru rv hnu hnv hb hj1 hj2 hx hy hqn hsn
           go_wp2_with fail
           go_quiet (fail)
           go_wp2_with fail
           clear u0 v0 cx1 dx1
           go_loopw [101] (fun i wr => ∃ j : Nat, j ≤ nu ∧ i = .int .i64 j ∧ Hid (∀ (i : Nat) (a b : Bs), i < j → x[i]? = some a → y[i]? = some b → a = b) ∧ Below wo.heap.size wo wr) (fun i _ => nu - (Go.RowKit.intOf i).toNat)
           case atStart => exact ⟨0, Nat.zero_le _, rfl, Lib.hid (fun j x y h => absurd h (by omega)), below_drewN (Below.refl _ _) _⟩
           obtain ⟨j, hjn, rfl, hs2, hb2⟩ := hrel
           obtain ⟨cx1, dx1, u0, v0⟩ := HKI.out wr hb2
           by_cases hlt2 : j < nu
           ·
            obtain ⟨a, ha⟩ : ∃ a, x[j]? = some a := ⟨_, List.getElem?_eq_getElem (by have := HNU.out.1; omega)⟩
            obtain ⟨b, hbb⟩ : ∃ b, y[j]? = some b := ⟨_, List.getElem?_eq_getElem (by have := HNU.out.2; omega)⟩
            obtain ⟨b3, o3, rfl, -, hj3⟩ := at_str (HRU.out wr hb2) (by have := HNU.out.1; omega)
            obtain ⟨b4, o4, rfl, -, hj4⟩ := at_str (HRV.out wr hb2) (by have := HNU.out.2; omega)
            have e3 := hj3 j a ha
            have e4 := hj4 j b hbb
            obtain ⟨P, hP⟩ : ∃ s : ByteArray, (⟨a.toArray⟩ : ByteArray) = s := ⟨_, rfl⟩
            obtain ⟨Q, hQ⟩ : ∃ s : ByteArray, (⟨b.toArray⟩ : ByteArray) = s := ⟨_, rfl⟩
            have hpq := str_eq_iff a b P Q hP hQ
            rw [hP] at e3
            rw [hQ] at e4
            have j0 : (0 : Int) ≤ (j : Int) := by omega
            have j1 : (j : Int) < (nu : Int) := by omega
            have HB2 := Lib.hid hb2
            have HAA := Lib.hid ha
            have HBB := Lib.hid hbb
            by_cases hab : a = b
            ·
             have w1 : (P.toList == Q.toList) = true := by simpa using hpq.2 hab
             have HS2 := Lib.hid (show ∀ (i : Nat) (a b : Bs), i < j + 1 → x[i]? = some a → y[i]? = some b → a = b from fun i a' b' hi h3 h4 => by
              by_cases e : i = j
              ·
               subst e
               rw [HAA.out] at h3
               rw [HBB.out] at h4
               cases h3
               cases h4
               exact hab
              exact hs2.out i a' b' (by omega) h3 h4)
             clear hb2 ha hbb hj3 hj4 hP hQ hpq hab hs2 hs HC HD HK HSA LP HE HG HXX HYY HQ HRU HRV HKI HNU
             go_wp2_with fail
             go_quiet (fail)
             go_wp2_with fail
             exact ⟨⟨j + 1, by omega, by go_num, HS2, below_drewN HB2.out _⟩, by simp only [Go.RowKit.intOf]; omega⟩
            have w1 : (P.toList == Q.toList) = false := by simpa using mt hpq.1 hab
            have hqf := HQN.out fun h => by
             have h3 := HAA.out
             rw [h, HBB.out] at h3
             exact hab (Option.some.inj h3).symm
            subst hqf
            clear hb2 ha hbb hj3 hj4 hP hQ hpq hab hs2 hs HC HD HK HSA LP HE HG HXX HYY HQ HRU HRV HKI HNU
            go_wp2_with fail
            go_quiet (fail)
            go_wp2_with fail
            go_ret
            exact ⟨rfl, HBX.out.trans ((HB.out.trans ((below_drewN HB2.out _).mono HB.out.size)).mono HBX.out.size)⟩
           have hxy : x = y := eq_at (by have := HNU.out; omega) fun i a b h1 h2 => hs2.out i a b (by have := (List.getElem?_eq_some_iff.1 h1).1; have := HNU.out.1; omega) h1 h2
           have HS2 := Lib.hid (HSN.out hxy).out
           have HB2 := Lib.hid hb2
           obtain rfl : j = nu := by omega
           clear hb2 hs2 hxy hs u0 v0 cx1 dx1
           go_wp2_with fail
           exact ⟨⟨k + 1, by omega, by go_num, HS2, HB.out.trans (HB2.out.mono HB.out.size)⟩, by simp only [Go.RowKit.intOf]; omega⟩
          have hqf := hqn fun h => hlen (by rw [← hnu, ← hnv, h])
          have hl1 : ¬ (nu : Int) = (nv : Int) := by omega
          subst hqf
          clear ru rv hnu hnv hlen
          clear hb hj1 hj2 hx hy hs hqn hsn HC HD HK HSA LP HE HG HXX HYY HQ
          go_wp2_with fail
          go_quiet (fail)
          go_wp2_with fail
          go_ret
          exact ⟨rfl, HBX.out.trans ((below_drewN HB.out _).mono HBX.out.size)⟩
         have hEQ1 : Hid (c.toks = d.toks) := Lib.hid (eq_at (by have := HE.out.2.1; have := HG.out.2.1; omega) fun j x y h1 h2 => hs.out j x y (by have := (List.getElem?_eq_some_iff.1 h1).1; have := HE.out.2.1; omega) h1 h2)
         have HB := Lib.hid hb
         obtain rfl : k = n1 := by omega
         have h2 := HK.out wr hb
         have cy : wr.cell? ⟨N0, 2, none⟩ = some (.slice A2 n2 p2) := cell_of h2.1 rfl
         clear h2 hb hs
         go_wp2_with fail
         clear cy cx1 dx1
         go_loopw [126] (fun i wr => ∃ k : Nat, k ≤ n2 ∧ i = .int .i64 k ∧ Hid (∀ (j : Nat) (x y : Ex), j < k → c.texts[j]? = some x → d.texts[j]? = some y → x = y) ∧ Below X.heap.size X wr) (fun i _ => n2 - (Go.RowKit.intOf i).toNat)
         case atStart => exact ⟨0, Nat.zero_le _, rfl, Lib.hid (fun j x y h => absurd h (by omega)), HB.out⟩
         clear HB
         obtain ⟨k, hk, rfl, hs, hb⟩ := hrel
         have h2 := HK.out wr hb
         have cx2 : wr.cell? ⟨N0, 2, none⟩ = some (.slice A2 n2 p2) := cell_of h2.1 rfl
         have dx2 : wr.cell? ⟨N0 + 1, 2, none⟩ = some (.slice B2 n2 r2) := cell_of h2.2 rfl
         clear h2
         by_cases hlt : k < n2
         ·
          obtain ⟨x, hx⟩ : ∃ x, c.texts[k]? = some x := ⟨_, List.getElem?_eq_getElem (by have := HE.out.2.2.1; omega)⟩
          obtain ⟨y, hy⟩ : ∃ y, d.texts[k]? = some y := ⟨_, List.getElem?_eq_getElem (by have := HG.out.2.2.1; omega)⟩
          obtain ⟨b1, o1, rfl, -, hj1⟩ := at_ex (HC.out wr hb).x (by have := HE.out.2.2.1; omega)
          obtain ⟨b2, o2, rfl, -, hj2⟩ := at_ex (HD.out wr hb).x (by have := HG.out.2.2.1; omega)
          have HB := Lib.hid hb
          have HXX := Lib.hid hx
          have HYY := Lib.hid hy
          have i0 : (0 : Int) ≤ (k : Int) := by omega
          have i1 : (k : Int) < (n2 : Int) := by omega
          have hqn : x ≠ y → q = false := fun hne => by
           rw [← HQ.out, decide_eq_false_iff_not]
           intro h
           have h3 := HXX.out
           rw [h, HYY.out] at h3
           exact hne (Option.some.inj h3).symm
          have hsn : x = y → Hid (∀ (j : Nat) (x y : Ex), j < k + 1 → c.texts[j]? = some x → d.texts[j]? = some y → x = y) := fun he => Lib.hid fun j x' y' hj h3 h4 => by
           by_cases e : j = k
           ·
            subst e
            rw [HXX.out] at h3
            rw [HYY.out] at h4
            cases h3
            cases h4
            exact he
           exact hs.out j x' y' (by omega) h3 h4
          have HQN := Lib.hid hqn
          have HSN := Lib.hid hsn
          obtain ⟨u, ru, u0, u1, u2, u3⟩ := hj1 k x hx
          obtain ⟨v, rv, v0, v1, v2, v3⟩ := hj2 k y hy
          have hsp := fun W (h : Below wr.heap.size wr W) => samePairs_any (ru.below stays_pair h) (rv.below stays_pair h) (LP.out.1.x.2 x (List.mem_of_getElem? hx)) (LP.out.2.x.2 y (List.mem_of_getElem? hy))
          obtain ⟨Au, pu, rfl, -⟩ := ru.form
          obtain ⟨Bv, pv, rfl, -⟩ := rv.form
          have hxs : x = y ↔ (x.name = y.name ∧ x.b = y.b ∧ x.e = y.e ∧ x.ps = y.ps) := by
           obtain ⟨f0, f1, f2, f3⟩ := x
           obtain ⟨g0, g1, g2, g3⟩ := y
           simp only [Ex.mk.injEq]
          obtain ⟨nu, hnu⟩ : ∃ n, x.ps.length = n := ⟨_, rfl⟩
          obtain ⟨nv, hnv⟩ : ∃ n, y.ps.length = n := ⟨_, rfl⟩
          rw [hnu] at u3 hsp
          rw [hnv] at v3 hsp
          obtain ⟨P, hP⟩ : ∃ s : ByteArray, (⟨x.name.toArray⟩ : ByteArray) = s := ⟨_, rfl⟩
          obtain ⟨Q, hQ⟩ : ∃ s : ByteArray, (⟨y.name.toArray⟩ : ByteArray) = s := ⟨_, rfl⟩
          have hnn := str_eq_iff x.name y.name P Q hP hQ
          rw [hP] at u0
          rw [hQ] at v0
          obtain ⟨xb, hxb⟩ : ∃ z, x.b = z := ⟨_, rfl⟩
          obtain ⟨xe, hxe⟩ : ∃ z, x.e = z := ⟨_, rfl⟩
          obtain ⟨yb, hyb⟩ : ∃ z, y.b = z := ⟨_, rfl⟩
          obtain ⟨ye, hye⟩ : ∃ z, y.e = z := ⟨_, rfl⟩
          obtain ⟨bp, hbp⟩ : ∃ z, decide (x.ps = y.ps) = z := ⟨_, rfl⟩
          rw [hxb, hyb, hxe, hye] at hxs
          rw [hxb] at u1
          rw [hxe] at u2
          rw [hyb] at v1
          rw [hye] at v2
          rw [hbp] at hsp
          have hb12 : Below wr.heap.size wr ((wr.alloc (.cells #[.string P, .int .i64 xb, .int .i64 xe, .slice Au nu pu] 51)).alloc (.cells #[.string Q, .int .i64 yb, .int .i64 ye, .slice Bv nv pv] 51)) := (below_box wr _).trans ((below_box _ _).mono (by simp))
          have dy : (wr.alloc (.cells #[.string P, .int .i64 xb, .int .i64 xe, .slice Au nu pu] 51)).cell? ⟨N0 + 1, 2, none⟩ = some (.slice (some ⟨b2, o2, none⟩) n2 r2) := Lib.cell?_alloc_some _ dx2
          have v0' := Lib.cell?_alloc_some (.cells #[.string P, .int .i64 xb, .int .i64 xe, .slice Au nu pu] 51) v0
          have v1' := Lib.cell?_alloc_some (.cells #[.string P, .int .i64 xb, .int .i64 xe, .slice Au nu pu] 51) v1
          have v2' := Lib.cell?_alloc_some (.cells #[.string P, .int .i64 xb, .int .i64 xe, .slice Au nu pu] 51) v2
          have v3' := Lib.cell?_alloc_some (.cells #[.string P, .int .i64 xb, .int .i64 xe, .slice Au nu pu] 51) v3
          have HSP := Lib.hid (hsp _ hb12)
          have HB12 := Lib.hid hb12
          clear hsp ru rv hnu hnv hP hQ hxb hxe hyb hye hb12 v0 v1 v2 v3
          by_cases hn : x.name = y.name
          ·
           have w1 : (P.toList == Q.toList) = true := by simpa using hnn.2 hn
           by_cases hbb : xb = yb
           ·
            by_cases hee : xe = ye
            ·
             cases bp with
             | true =>
               have hpp : x.ps = y.ps := by simpa using hbp
               have hsn2 := hsn (hxs.2 ⟨hn, hbb, hee, hpp⟩)
               have HS2 := Lib.hid hsn2.out
               subst hbb hee
               clear hb hj1 hj2 hx hy hs hqn hsn HC HD HK HSA LP HE HG HXX HYY HQ hxs hnn hbp hpp hn hsn2
               go_wp2_with fail
               refine HSP.out.mono ?_
               rintro e w3 ⟨rfl, hb3⟩
               have HB3 := Lib.hid (HB.out.trans ((HB12.out.trans (hb3.mono HB12.out.size)).mono HB.out.size))
               clear hb3
               go_wp2_with fail
               exact ⟨⟨k + 1, by omega, by go_num, HS2, HB3.out⟩, by simp only [Go.RowKit.intOf]; omega⟩
             | false =>
               have hpp : ¬ x.ps = y.ps := by simpa using hbp
               have hqf := hqn fun h => hpp (hxs.1 h).2.2.2
               subst hqf hbb hee
               clear hb hj1 hj2 hx hy hs hqn hsn HC HD HK HSA LP HE HG HXX HYY HQ hxs hnn hbp hpp hn
               go_wp2_with fail
               refine HSP.out.mono ?_
               rintro e w3 ⟨rfl, hb3⟩
               have HB3 := Lib.hid (HB.out.trans ((HB12.out.trans (hb3.mono HB12.out.size)).mono HB.out.size))
               clear hb3
               go_wp2_with fail
               go_ret
               exact ⟨rfl, HBX.out.trans (HB3.out.mono HBX.out.size)⟩
            have hqf := hqn fun h => hee (hxs.1 h).2.2.1
            subst hqf hbb
            clear hb hj1 hj2 hx hy hs hqn hsn HC HD HK HSA LP HE HG HXX HYY HQ hxs hnn hbp hn
            go_wp2_with fail
            go_ret
            exact ⟨rfl, HBX.out.trans ((HB.out.trans (HB12.out.mono HB.out.size)).mono HBX.out.size)⟩
           have hqf := hqn fun h => hbb (hxs.1 h).2.1
           subst hqf
           clear hb hj1 hj2 hx hy hs hqn hsn HC HD HK HSA LP HE HG HXX HYY HQ hxs hnn hbp hn
           go_wp2_with fail
           go_ret
           exact ⟨rfl, HBX.out.trans ((HB.out.trans (HB12.out.mono HB.out.size)).mono HBX.out.size)⟩
          have w1 : (P.toList == Q.toList) = false := by simpa using mt hnn.1 hn
          have hqf := hqn fun h => hn (hxs.1 h).1
          subst hqf
          clear hb hj1 hj2 hx hy hs hqn hsn HC HD HK HSA LP HE HG HXX HYY HQ hxs hnn hbp hn
          go_wp2_with fail
          go_ret
          exact ⟨rfl, HBX.out.trans ((HB.out.trans (HB12.out.mono HB.out.size)).mono HBX.out.size)⟩
         have hEQ2 : Hid (c.texts = d.texts) := Lib.hid (eq_at (by have := HE.out.2.2.1; have := HG.out.2.2.1; omega) fun j x y h1 h2 => hs.out j x y (by have := (List.getElem?_eq_some_iff.1 h1).1; have := HE.out.2.2.1; omega) h1 h2)
         have HB := Lib.hid hb
         obtain rfl : k = n2 := by omega
         have h2 := HK.out wr hb
         have cy : wr.cell? ⟨N0, 3, none⟩ = some (.slice A3 n3 p3) := cell_of h2.1 rfl
         clear h2 hb hs
         go_wp2_with fail
         clear cy cx2 dx2
         go_loopw [167] (fun i wr => ∃ k : Nat, k ≤ n3 ∧ i = .int .i64 k ∧ Hid (∀ (j : Nat) (x y : Ex), j < k → c.regs[j]? = some x → d.regs[j]? = some y → x = y) ∧ Below X.heap.size X wr) (fun i _ => n3 - (Go.RowKit.intOf i).toNat)
         case atStart => exact ⟨0, Nat.zero_le _, rfl, Lib.hid (fun j x y h => absurd h (by omega)), HB.out⟩
         clear HB
         obtain ⟨k, hk, rfl, hs, hb⟩ := hrel
         have h2 := HK.out wr hb
         have cx3 : wr.cell? ⟨N0, 3, none⟩ = some (.slice A3 n3 p3) := cell_of h2.1 rfl
         have dx3 : wr.cell? ⟨N0 + 1, 3, none⟩ = some (.slice B3 n3 r3) := cell_of h2.2 rfl
         clear h2
         by_cases hlt : k < n3
         ·
          obtain ⟨x, hx⟩ : ∃ x, c.regs[k]? = some x := ⟨_, List.getElem?_eq_getElem (by have := HE.out.2.2.2.1; omega)⟩
          obtain ⟨y, hy⟩ : ∃ y, d.regs[k]? = some y := ⟨_, List.getElem?_eq_getElem (by have := HG.out.2.2.2.1; omega)⟩
          obtain ⟨b1, o1, rfl, -, hj1⟩ := at_ex (HC.out wr hb).r (by have := HE.out.2.2.2.1; omega)
          obtain ⟨b2, o2, rfl, -, hj2⟩ := at_ex (HD.out wr hb).r (by have := HG.out.2.2.2.1; omega)
          have HB := Lib.hid hb
          have HXX := Lib.hid hx
          have HYY := Lib.hid hy
          have i0 : (0 : Int) ≤ (k : Int) := by omega
          have i1 : (k : Int) < (n3 : Int) := by omega
          have hqn : x ≠ y → q = false := fun hne => by
           rw [← HQ.out, decide_eq_false_iff_not]
           intro h
           have h3 := HXX.out
           rw [h, HYY.out] at h3
           exact hne (Option.some.inj h3).symm
          have hsn : x = y → Hid (∀ (j : Nat) (x y : Ex), j < k + 1 → c.regs[j]? = some x → d.regs[j]? = some y → x = y) := fun he => Lib.hid fun j x' y' hj h3 h4 => by
           by_cases e : j = k
           ·
            subst e
            rw [HXX.out] at h3
            rw [HYY.out] at h4
            cases h3
            cases h4
            exact he
           exact hs.out j x' y' (by omega) h3 h4
          have HQN := Lib.hid hqn
          have HSN := Lib.hid hsn
          obtain ⟨u, ru, u0, u1, u2, u3⟩ := hj1 k x hx
          obtain ⟨v, rv, v0, v1, v2, v3⟩ := hj2 k y hy
          have hsp := fun W (h : Below wr.heap.size wr W) => samePairs_any (ru.below stays_pair h) (rv.below stays_pair h) (LP.out.1.r.2 x (List.mem_of_getElem? hx)) (LP.out.2.r.2 y (List.mem_of_getElem? hy))
          obtain ⟨Au, pu, rfl, -⟩ := ru.form
          obtain ⟨Bv, pv, rfl, -⟩ := rv.form
          have hxs : x = y ↔ (x.name = y.name ∧ x.b = y.b ∧ x.e = y.e ∧ x.ps = y.ps) := by
           obtain ⟨f0, f1, f2, f3⟩ := x
           obtain ⟨g0, g1, g2, g3⟩ := y
           simp only [Ex.mk.injEq]
          obtain ⟨nu, hnu⟩ : ∃ n, x.ps.length = n := ⟨_, rfl⟩
          obtain ⟨nv, hnv⟩ : ∃ n, y.ps.length = n := ⟨_, rfl⟩
          rw [hnu] at u3 hsp
          rw [hnv] at v3 hsp
          obtain ⟨P, hP⟩ : ∃ s : ByteArray, (⟨x.name.toArray⟩ : ByteArray) = s := ⟨_, rfl⟩
          obtain ⟨Q, hQ⟩ : ∃ s : ByteArray, (⟨y.name.toArray⟩ : ByteArray) = s := ⟨_, rfl⟩
          have hnn := str_eq_iff x.name y.name P Q hP hQ
          rw [hP] at u0
          rw [hQ] at v0
          obtain ⟨xb, hxb⟩ : ∃ z, x.b = z := ⟨_, rfl⟩
          obtain ⟨xe, hxe⟩ : ∃ z, x.e = z := ⟨_, rfl⟩
          obtain ⟨yb, hyb⟩ : ∃ z, y.b = z := ⟨_, rfl⟩
          obtain ⟨ye, hye⟩ : ∃ z, y.e = z := ⟨_, rfl⟩
          obtain ⟨bp, hbp⟩ : ∃ z, decide (x.ps = y.ps) = z := ⟨_, rfl⟩
          rw [hxb, hyb, hxe, hye] at hxs
          rw [hxb] at u1
          rw [hxe] at u2
          rw [hyb] at v1
          rw [hye] at v2
          rw [hbp] at hsp
          have hb12 : Below wr.heap.size wr ((wr.alloc (.cells #[.string P, .int .i64 xb, .int .i64 xe, .slice Au nu pu] 54)).alloc (.cells #[.string Q, .int .i64 yb, .int .i64 ye, .slice Bv nv pv] 54)) := (below_box wr _).trans ((below_box _ _).mono (by simp))
          have dy : (wr.alloc (.cells #[.string P, .int .i64 xb, .int .i64 xe, .slice Au nu pu] 54)).cell? ⟨N0 + 1, 3, none⟩ = some (.slice (some ⟨b2, o2, none⟩) n3 r3) := Lib.cell?_alloc_some _ dx3
          have v0' := Lib.cell?_alloc_some (.cells #[.string P, .int .i64 xb, .int .i64 xe, .slice Au nu pu] 54) v0
          have v1' := Lib.cell?_alloc_some (.cells #[.string P, .int .i64 xb, .int .i64 xe, .slice Au nu pu] 54) v1
          have v2' := Lib.cell?_alloc_some (.cells #[.string P, .int .i64 xb, .int .i64 xe, .slice Au nu pu] 54) v2
          have v3' := Lib.cell?_alloc_some (.cells #[.string P, .int .i64 xb, .int .i64 xe, .slice Au nu pu] 54) v3
          have HSP := Lib.hid (hsp _ hb12)
          have HB12 := Lib.hid hb12
          clear hsp ru rv hnu hnv hP hQ hxb hxe hyb hye hb12 v0 v1 v2 v3
          by_cases hn : x.name = y.name
          ·
           have w1 : (P.toList == Q.toList) = true := by simpa using hnn.2 hn
           by_cases hbb : xb = yb
           ·
            by_cases hee : xe = ye
            ·
             cases bp with
             | true =>
               have hpp : x.ps = y.ps := by simpa using hbp
               have hsn2 := hsn (hxs.2 ⟨hn, hbb, hee, hpp⟩)
               have HS2 := Lib.hid hsn2.out
               subst hbb hee
               clear hb hj1 hj2 hx hy hs hqn hsn HC HD HK HSA LP HE HG HXX HYY HQ hxs hnn hbp hpp hn hsn2
               go_wp2_with fail
               refine HSP.out.mono ?_
               rintro e w3 ⟨rfl, hb3⟩
               have HB3 := Lib.hid (HB.out.trans ((HB12.out.trans (hb3.mono HB12.out.size)).mono HB.out.size))
               clear hb3
               go_wp2_with fail
               exact ⟨⟨k + 1, by omega, by go_num, HS2, HB3.out⟩, by simp only [Go.RowKit.intOf]; omega⟩
             | false =>
               have hpp : ¬ x.ps = y.ps := by simpa using hbp
               have hqf := hqn fun h => hpp (hxs.1 h).2.2.2
               subst hqf hbb hee
               clear hb hj1 hj2 hx hy hs hqn hsn HC HD HK HSA LP HE HG HXX HYY HQ hxs hnn hbp hpp hn
               go_wp2_with fail
               refine HSP.out.mono ?_
               rintro e w3 ⟨rfl, hb3⟩
               have HB3 := Lib.hid (HB.out.trans ((HB12.out.trans (hb3.mono HB12.out.size)).mono HB.out.size))
               clear hb3
               go_wp2_with fail
               go_ret
               exact ⟨rfl, HBX.out.trans (HB3.out.mono HBX.out.size)⟩
            have hqf := hqn fun h => hee (hxs.1 h).2.2.1
            subst hqf hbb
            clear hb hj1 hj2 hx hy hs hqn hsn HC HD HK HSA LP HE HG HXX HYY HQ hxs hnn hbp hn
            go_wp2_with fail
            go_ret
            exact ⟨rfl, HBX.out.trans ((HB.out.trans (HB12.out.mono HB.out.size)).mono HBX.out.size)⟩
           have hqf := hqn fun h => hbb (hxs.1 h).2.1
           subst hqf
           clear hb hj1 hj2 hx hy hs hqn hsn HC HD HK HSA LP HE HG HXX HYY HQ hxs hnn hbp hn
           go_wp2_with fail
           go_ret
           exact ⟨rfl, HBX.out.trans ((HB.out.trans (HB12.out.mono HB.out.size)).mono HBX.out.size)⟩
          have w1 : (P.toList == Q.toList) = false := by simpa using mt hnn.1 hn
          have hqf := hqn fun h => hn (hxs.1 h).1
          subst hqf
          clear hb hj1 hj2 hx hy hs hqn hsn HC HD HK HSA LP HE HG HXX HYY HQ hxs hnn hbp hn
          go_wp2_with fail
          go_ret
          exact ⟨rfl, HBX.out.trans ((HB.out.trans (HB12.out.mono HB.out.size)).mono HBX.out.size)⟩
         have hEQ3 : Hid (c.regs = d.regs) := Lib.hid (eq_at (by have := HE.out.2.2.2.1; have := HG.out.2.2.2.1; omega) fun j x y h1 h2 => hs.out j x y (by have := (List.getElem?_eq_some_iff.1 h1).1; have := HE.out.2.2.2.1; omega) h1 h2)
         have HB := Lib.hid hb
         obtain rfl : k = n3 := by omega
         have h2 := HK.out wr hb
         have cy : wr.cell? ⟨N0, 4, none⟩ = some (.slice A4 n4 p4) := cell_of h2.1 rfl
         clear h2 hb hs
         go_wp2_with fail
         clear cy cx3 dx3
         go_loopw [208] (fun i wr => ∃ k : Nat, k ≤ n4 ∧ i = .int .i64 k ∧ Hid (∀ (j : Nat) (x y : Nd), j < k → c.nodes[j]? = some x → d.nodes[j]? = some y → x = y) ∧ Below X.heap.size X wr) (fun i _ => n4 - (Go.RowKit.intOf i).toNat)
         case atStart => exact ⟨0, Nat.zero_le _, rfl, Lib.hid (fun j x y h => absurd h (by omega)), HB.out⟩
         clear HB
         obtain ⟨k, hk, rfl, hs, hb⟩ := hrel
         have h2 := HK.out wr hb
         have cx4 : wr.cell? ⟨N0, 4, none⟩ = some (.slice A4 n4 p4) := cell_of h2.1 rfl
         have dx4 : wr.cell? ⟨N0 + 1, 4, none⟩ = some (.slice B4 n4 r4) := cell_of h2.2 rfl
         clear h2
         by_cases hlt : k < n4
         ·
          obtain ⟨x, hx⟩ : ∃ x, c.nodes[k]? = some x := ⟨_, List.getElem?_eq_getElem (by have := HE.out.2.2.2.2.1; omega)⟩
          obtain ⟨y, hy⟩ : ∃ y, d.nodes[k]? = some y := ⟨_, List.getElem?_eq_getElem (by have := HG.out.2.2.2.2.1; omega)⟩
          obtain ⟨b1, o1, rfl, -, hj1⟩ := at_nd (HC.out wr hb).n (by have := HE.out.2.2.2.2.1; omega)
          obtain ⟨b2, o2, rfl, -, hj2⟩ := at_nd (HD.out wr hb).n (by have := HG.out.2.2.2.2.1; omega)
          have HB := Lib.hid hb
          have HXX := Lib.hid hx
          have HYY := Lib.hid hy
          have i0 : (0 : Int) ≤ (k : Int) := by omega
          have i1 : (k : Int) < (n4 : Int) := by omega
          have hqn : x ≠ y → q = false := fun hne => by
           rw [← HQ.out, decide_eq_false_iff_not]
           intro h
           have h3 := HXX.out
           rw [h, HYY.out] at h3
           exact hne (Option.some.inj h3).symm
          have hsn : x = y → Hid (∀ (j : Nat) (x y : Nd), j < k + 1 → c.nodes[j]? = some x → d.nodes[j]? = some y → x = y) := fun he => Lib.hid fun j x' y' hj h3 h4 => by
           by_cases e : j = k
           ·
            subst e
            rw [HXX.out] at h3
            rw [HYY.out] at h4
            cases h3
            cases h4
            exact he
           exact hs.out j x' y' (by omega) h3 h4
          have HQN := Lib.hid hqn
          have HSN := Lib.hid hsn
          obtain ⟨u0, u1, u2, u3⟩ := hj1 k x hx
          obtain ⟨v0, v1, v2, v3⟩ := hj2 k y hy
          have hxs : x = y ↔ (x.label = y.label ∧ x.b = y.b ∧ x.e = y.e ∧ x.parent = y.parent) := by
           obtain ⟨f0, f1, f2, f3⟩ := x
           obtain ⟨g0, g1, g2, g3⟩ := y
           simp only [Nd.mk.injEq]
          obtain ⟨P, hP⟩ : ∃ s : ByteArray, (⟨x.label.toArray⟩ : ByteArray) = s := ⟨_, rfl⟩
          obtain ⟨Q, hQ⟩ : ∃ s : ByteArray, (⟨y.label.toArray⟩ : ByteArray) = s := ⟨_, rfl⟩
          have hnn := str_eq_iff x.label y.label P Q hP hQ
          rw [hP] at u0
          rw [hQ] at v0
          obtain ⟨xb, hxb⟩ : ∃ z, x.b = z := ⟨_, rfl⟩
          obtain ⟨xe, hxe⟩ : ∃ z, x.e = z := ⟨_, rfl⟩
          obtain ⟨xp, hxp⟩ : ∃ z, x.parent = z := ⟨_, rfl⟩
          obtain ⟨yb, hyb⟩ : ∃ z, y.b = z := ⟨_, rfl⟩
          obtain ⟨ye, hye⟩ : ∃ z, y.e = z := ⟨_, rfl⟩
          obtain ⟨yp, hyp⟩ : ∃ z, y.parent = z := ⟨_, rfl⟩
          rw [hxb, hyb, hxe, hye, hxp, hyp] at hxs
          rw [hxb] at u1
          rw [hxe] at u2
          rw [hxp] at u3
          rw [hyb] at v1
          rw [hye] at v2
          rw [hyp] at v3
          clear hP hQ hxb hxe hyb hye hxp hyp
          by_cases hn : x.label = y.label
          ·
           have w1 : P.toList = Q.toList := hnn.2 hn
           by_cases hbb : xb = yb
           ·
            by_cases hee : xe = ye
            ·
             by_cases hpp : xp = yp
             ·
              have hsn2 := hsn (hxs.2 ⟨hn, hbb, hee, hpp⟩)
              have HS2 := Lib.hid hsn2.out
              subst hbb hee hpp
              clear hb hj1 hj2 hx hy hs hqn hsn HC HD HK HSA LP HE HG HXX HYY HQ hxs hnn hn hsn2
              go_wp2_with fail
              go_quiet (fail)
              go_wp2_with fail
              exact ⟨⟨k + 1, by omega, by go_num, HS2, below_drewN HB.out _⟩, by simp only [Go.RowKit.intOf]; omega⟩
             have hqf := hqn fun h => hpp (hxs.1 h).2.2.2
             subst hqf hbb hee
             clear hb hj1 hj2 hx hy hs hqn hsn HC HD HK HSA LP HE HG HXX HYY HQ hxs hnn hn
             go_wp2_with fail
             go_quiet (fail)
             go_wp2_with fail
             go_ret
             exact ⟨rfl, HBX.out.trans ((below_drewN HB.out _).mono HBX.out.size)⟩
            have hqf := hqn fun h => hee (hxs.1 h).2.2.1
            subst hqf hbb
            clear hb hj1 hj2 hx hy hs hqn hsn HC HD HK HSA LP HE HG HXX HYY HQ hxs hnn hn
            go_wp2_with fail
            go_quiet (fail)
            go_wp2_with fail
            go_ret
            exact ⟨rfl, HBX.out.trans ((below_drewN HB.out _).mono HBX.out.size)⟩
           have hqf := hqn fun h => hbb (hxs.1 h).2.1
           subst hqf
           clear hb hj1 hj2 hx hy hs hqn hsn HC HD HK HSA LP HE HG HXX HYY HQ hxs hnn hn
           go_wp2_with fail
           go_quiet (fail)
           go_wp2_with fail
           go_ret
           exact ⟨rfl, HBX.out.trans ((below_drewN HB.out _).mono HBX.out.size)⟩
          have w1 : ¬ P.toList = Q.toList := mt hnn.1 hn
          have hqf := hqn fun h => hn (hxs.1 h).1
          subst hqf
          clear hb hj1 hj2 hx hy hs hqn hsn HC HD HK HSA LP HE HG HXX HYY HQ hxs hnn hn
          go_wp2_with fail
          go_quiet (fail)
          go_wp2_with fail
          go_ret
          exact ⟨rfl, HBX.out.trans ((below_drewN HB.out _).mono HBX.out.size)⟩
         have hEQ4 : Hid (c.nodes = d.nodes) := Lib.hid (eq_at (by have := HE.out.2.2.2.2.1; have := HG.out.2.2.2.2.1; omega) fun j x y h1 h2 => hs.out j x y (by have := (List.getElem?_eq_some_iff.1 h1).1; have := HE.out.2.2.2.2.1; omega) h1 h2)
         have HB := Lib.hid hb
         obtain rfl : k = n4 := by omega
         have h2 := HK.out wr hb
         have cy : wr.cell? ⟨N0, 5, none⟩ = some (.slice A5 n5 p5) := cell_of h2.1 rfl
         clear h2 hb hs
         go_wp2_with fail
         clear cy cx4 dx4
         go_loopw [226] (fun i wr => ∃ k : Nat, k ≤ n5 ∧ i = .int .i64 k ∧ Hid (∀ (j : Nat) (x y : Int), j < k → c.heads[j]? = some x → d.heads[j]? = some y → x = y) ∧ Below X.heap.size X wr) (fun i _ => n5 - (Go.RowKit.intOf i).toNat)
         case atStart => exact ⟨0, Nat.zero_le _, rfl, Lib.hid (fun j x y h => absurd h (by omega)), HB.out⟩
         clear HB
         obtain ⟨k, hk, rfl, hs, hb⟩ := hrel
         have h2 := HK.out wr hb
         have cx5 : wr.cell? ⟨N0, 5, none⟩ = some (.slice A5 n5 p5) := cell_of h2.1 rfl
         have dx5 : wr.cell? ⟨N0 + 1, 5, none⟩ = some (.slice B5 n5 r5) := cell_of h2.2 rfl
         clear h2
         by_cases hlt : k < n5
         ·
          obtain ⟨x, hx⟩ : ∃ x, c.heads[k]? = some x := ⟨_, List.getElem?_eq_getElem (by have := HE.out.2.2.2.2.2.1; omega)⟩
          obtain ⟨y, hy⟩ : ∃ y, d.heads[k]? = some y := ⟨_, List.getElem?_eq_getElem (by have := HG.out.2.2.2.2.2.1; omega)⟩
          obtain ⟨b1, o1, rfl, -, hj1⟩ := at_int (HC.out wr hb).h (by have := HE.out.2.2.2.2.2.1; omega)
          obtain ⟨b2, o2, rfl, -, hj2⟩ := at_int (HD.out wr hb).h (by have := HG.out.2.2.2.2.2.1; omega)
          have HB := Lib.hid hb
          have HXX := Lib.hid hx
          have HYY := Lib.hid hy
          have i0 : (0 : Int) ≤ (k : Int) := by omega
          have i1 : (k : Int) < (n5 : Int) := by omega
          have hqn : x ≠ y → q = false := fun hne => by
           rw [← HQ.out, decide_eq_false_iff_not]
           intro h
           have h3 := HXX.out
           rw [h, HYY.out] at h3
           exact hne (Option.some.inj h3).symm
          have hsn : x = y → Hid (∀ (j : Nat) (x y : Int), j < k + 1 → c.heads[j]? = some x → d.heads[j]? = some y → x = y) := fun he => Lib.hid fun j x' y' hj h3 h4 => by
           by_cases e : j = k
           ·
            subst e
            rw [HXX.out] at h3
            rw [HYY.out] at h4
            cases h3
            cases h4
            exact he
           exact hs.out j x' y' (by omega) h3 h4
          have HQN := Lib.hid hqn
          have HSN := Lib.hid hsn
          have u1 := hj1 k x hx
          have v1 := hj2 k y hy
          by_cases hxy : x = y
          ·
           have HXY := Lib.hid hxy
           subst hxy
           clear hb hj1 hj2 hx hy hs hqn hsn HC HD HK HSA LP HE HG HXX HYY HQ
           go_wp2_with fail
           go_quiet (fail)
           go_wp2_with fail
           exact ⟨⟨k + 1, by omega, by go_num, HSN.out (by first | rfl | exact HXY.out), below_drewN HB.out _⟩, by simp only [Go.RowKit.intOf]; omega⟩
          have hqf := hqn hxy
          subst hqf
          clear hb hj1 hj2 hx hy hs hqn hsn HC HD HK HSA LP HE HG HXX HYY HQ
          go_wp2_with fail
          go_quiet (fail)
          go_wp2_with fail
          go_ret
          exact ⟨rfl, HBX.out.trans ((below_drewN HB.out _).mono HBX.out.size)⟩
         have hEQ5 : Hid (c.heads = d.heads) := Lib.hid (eq_at (by have := HE.out.2.2.2.2.2.1; have := HG.out.2.2.2.2.2.1; omega) fun j x y h1 h2 => hs.out j x y (by have := (List.getElem?_eq_some_iff.1 h1).1; have := HE.out.2.2.2.2.2.1; omega) h1 h2)
         have HB := Lib.hid hb
         obtain rfl : k = n5 := by omega
         have h2 := HK.out wr hb
         have cy : wr.cell? ⟨N0, 6, none⟩ = some (.slice A6 n6 p6) := cell_of h2.1 rfl
         clear h2 hb hs
         go_wp2_with fail
         clear cy cx5 dx5
         go_loopw [244] (fun i wr => ∃ k : Nat, k ≤ n6 ∧ i = .int .i64 k ∧ Hid (∀ (j : Nat) (x y : Bs), j < k → c.rels[j]? = some x → d.rels[j]? = some y → x = y) ∧ Below X.heap.size X wr) (fun i _ => n6 - (Go.RowKit.intOf i).toNat)
         case atStart => exact ⟨0, Nat.zero_le _, rfl, Lib.hid (fun j x y h => absurd h (by omega)), HB.out⟩
         clear HB
         obtain ⟨k, hk, rfl, hs, hb⟩ := hrel
         have h2 := HK.out wr hb
         have cx6 : wr.cell? ⟨N0, 6, none⟩ = some (.slice A6 n6 p6) := cell_of h2.1 rfl
         have dx6 : wr.cell? ⟨N0 + 1, 6, none⟩ = some (.slice B6 n6 r6) := cell_of h2.2 rfl
         clear h2
         by_cases hlt : k < n6
         ·
          obtain ⟨x, hx⟩ : ∃ x, c.rels[k]? = some x := ⟨_, List.getElem?_eq_getElem (by have := HE.out.2.2.2.2.2.2; omega)⟩
          obtain ⟨y, hy⟩ : ∃ y, d.rels[k]? = some y := ⟨_, List.getElem?_eq_getElem (by have := HG.out.2.2.2.2.2.2; omega)⟩
          obtain ⟨b1, o1, rfl, -, hj1⟩ := at_str (HC.out wr hb).l (by have := HE.out.2.2.2.2.2.2; omega)
          obtain ⟨b2, o2, rfl, -, hj2⟩ := at_str (HD.out wr hb).l (by have := HG.out.2.2.2.2.2.2; omega)
          have HB := Lib.hid hb
          have HXX := Lib.hid hx
          have HYY := Lib.hid hy
          have i0 : (0 : Int) ≤ (k : Int) := by omega
          have i1 : (k : Int) < (n6 : Int) := by omega
          have hqn : x ≠ y → q = false := fun hne => by
           rw [← HQ.out, decide_eq_false_iff_not]
           intro h
           have h3 := HXX.out
           rw [h, HYY.out] at h3
           exact hne (Option.some.inj h3).symm
          have hsn : x = y → Hid (∀ (j : Nat) (x y : Bs), j < k + 1 → c.rels[j]? = some x → d.rels[j]? = some y → x = y) := fun he => Lib.hid fun j x' y' hj h3 h4 => by
           by_cases e : j = k
           ·
            subst e
            rw [HXX.out] at h3
            rw [HYY.out] at h4
            cases h3
            cases h4
            exact he
           exact hs.out j x' y' (by omega) h3 h4
          have HQN := Lib.hid hqn
          have HSN := Lib.hid hsn
          have u1 := hj1 k x hx
          have v1 := hj2 k y hy
          obtain ⟨P, hP⟩ : ∃ s : ByteArray, (⟨x.toArray⟩ : ByteArray) = s := ⟨_, rfl⟩
          obtain ⟨Q, hQ⟩ : ∃ s : ByteArray, (⟨y.toArray⟩ : ByteArray) = s := ⟨_, rfl⟩
          have hpq := str_eq_iff x y P Q hP hQ
          rw [hP] at u1
          rw [hQ] at v1
          by_cases hxy : x = y
          ·
           have HXY := Lib.hid hxy
           have w1 : (P.toList == Q.toList) = true := by simpa using hpq.2 hxy
           clear hpq hP hQ
           clear hb hj1 hj2 hx hy hs hqn hsn HC HD HK HSA LP HE HG HXX HYY HQ hxy
           go_wp2_with fail
           go_quiet (fail)
           go_wp2_with fail
           exact ⟨⟨k + 1, by omega, by go_num, HSN.out (by first | rfl | exact HXY.out), below_drewN HB.out _⟩, by simp only [Go.RowKit.intOf]; omega⟩
          have hqf := hqn hxy
          have w1 : (P.toList == Q.toList) = false := by simpa using mt hpq.1 hxy
          clear hpq hP hQ
          subst hqf
          clear hb hj1 hj2 hx hy hs hqn hsn HC HD HK HSA LP HE HG HXX HYY HQ hxy
          go_wp2_with fail
          go_quiet (fail)
          go_wp2_with fail
          go_ret
          exact ⟨rfl, HBX.out.trans ((below_drewN HB.out _).mono HBX.out.size)⟩
         have hEQ6 : Hid (c.rels = d.rels) := Lib.hid (eq_at (by have := HE.out.2.2.2.2.2.2; have := HG.out.2.2.2.2.2.2; omega) fun j x y h1 h2 => hs.out j x y (by have := (List.getElem?_eq_some_iff.1 h1).1; have := HE.out.2.2.2.2.2.2; omega) h1 h2)
         have HB := Lib.hid hb
         obtain rfl : k = n6 := by omega
         have hqt : q = true := by
          rw [← HQ.out, decide_eq_true_iff]
          have h0 := HB0.out
          rw [decide_eq_true_iff] at h0
          have e1 := hEQ1.out
          have e2 := hEQ2.out
          have e3 := hEQ3.out
          have e4 := hEQ4.out
          have e5 := hEQ5.out
          have e6 := hEQ6.out
          obtain ⟨f0, f1, f2, f3, f4, f5, f6⟩ := c
          obtain ⟨g0, g1, g2, g3, g4, g5, g6⟩ := d
          simp only at h0 e1 e2 e3 e4 e5 e6
          rw [h0, e1, e2, e3, e4, e5, e6]
         subst hqt
         clear hb hs
         go_wp2_with fail
         go_ret
         exact ⟨rfl, HBX.out.trans (HB.out.mono HBX.out.size)⟩
        have zi : ¬ (n6 : Int) = (m6 : Int) := by omega
        have hqf : q = false := by
         rw [← HQ.out, decide_eq_false_iff_not]
         intro h
         have h3 := HE.out.2.2.2.2.2.2
         rw [h, HG.out.2.2.2.2.2.2] at h3
         exact z6 h3.symm
        subst hqf
        go_enter Tryz.func11, Tryz.ntmps11
        go_wp2_with fail
        rw [HX.out, HN0.out]
        go_wp2_with fail
        refine HSA.out.mono ?_
        rintro e w2 ⟨rfl, hb2⟩
        have h2 := HK.out w2 hb2
        have cx0 : w2.cell? ⟨N0, 0, none⟩ = some (.slice A0 n0 p0) := cell_of h2.1 rfl
        have dx0 : w2.cell? ⟨N0 + 1, 0, none⟩ = some (.slice B0 m0 r0) := cell_of h2.2 rfl
        have cx1 : w2.cell? ⟨N0, 1, none⟩ = some (.slice A1 n1 p1) := cell_of h2.1 rfl
        have dx1 : w2.cell? ⟨N0 + 1, 1, none⟩ = some (.slice B1 n1 r1) := cell_of h2.2 rfl
        have cx2 : w2.cell? ⟨N0, 2, none⟩ = some (.slice A2 n2 p2) := cell_of h2.1 rfl
        have dx2 : w2.cell? ⟨N0 + 1, 2, none⟩ = some (.slice B2 n2 r2) := cell_of h2.2 rfl
        have cx3 : w2.cell? ⟨N0, 3, none⟩ = some (.slice A3 n3 p3) := cell_of h2.1 rfl
        have dx3 : w2.cell? ⟨N0 + 1, 3, none⟩ = some (.slice B3 n3 r3) := cell_of h2.2 rfl
        have cx4 : w2.cell? ⟨N0, 4, none⟩ = some (.slice A4 n4 p4) := cell_of h2.1 rfl
        have dx4 : w2.cell? ⟨N0 + 1, 4, none⟩ = some (.slice B4 n4 r4) := cell_of h2.2 rfl
        have cx5 : w2.cell? ⟨N0, 5, none⟩ = some (.slice A5 n5 p5) := cell_of h2.1 rfl
        have dx5 : w2.cell? ⟨N0 + 1, 5, none⟩ = some (.slice B5 n5 r5) := cell_of h2.2 rfl
        have cx6 : w2.cell? ⟨N0, 6, none⟩ = some (.slice A6 n6 p6) := cell_of h2.1 rfl
        have dx6 : w2.cell? ⟨N0 + 1, 6, none⟩ = some (.slice B6 m6 r6) := cell_of h2.2 rfl
        have HB := Lib.hid hb2
        clear hb2 h2 cc0 dd0 cc1 dd1 cc2 dd2 cc3 dd3 cc4 dd4 cc5 dd5 cc6 dd6
        go_wp2_with fail
        go_ret
        exact ⟨rfl, HBX.out.trans (HB.out.mono HBX.out.size)⟩
       have zi : ¬ (n5 : Int) = (m5 : Int) := by omega
       have hqf : q = false := by
        rw [← HQ.out, decide_eq_false_iff_not]
        intro h
        have h3 := HE.out.2.2.2.2.2.1
        rw [h, HG.out.2.2.2.2.2.1] at h3
        exact z5 h3.symm
       subst hqf
       go_enter Tryz.func11, Tryz.ntmps11
       go_wp2_with fail
       rw [HX.out, HN0.out]
       go_wp2_with fail
       refine HSA.out.mono ?_
       rintro e w2 ⟨rfl, hb2⟩
       have h2 := HK.out w2 hb2
       have cx0 : w2.cell? ⟨N0, 0, none⟩ = some (.slice A0 n0 p0) := cell_of h2.1 rfl
       have dx0 : w2.cell? ⟨N0 + 1, 0, none⟩ = some (.slice B0 m0 r0) := cell_of h2.2 rfl
       have cx1 : w2.cell? ⟨N0, 1, none⟩ = some (.slice A1 n1 p1) := cell_of h2.1 rfl
       have dx1 : w2.cell? ⟨N0 + 1, 1, none⟩ = some (.slice B1 n1 r1) := cell_of h2.2 rfl
       have cx2 : w2.cell? ⟨N0, 2, none⟩ = some (.slice A2 n2 p2) := cell_of h2.1 rfl
       have dx2 : w2.cell? ⟨N0 + 1, 2, none⟩ = some (.slice B2 n2 r2) := cell_of h2.2 rfl
       have cx3 : w2.cell? ⟨N0, 3, none⟩ = some (.slice A3 n3 p3) := cell_of h2.1 rfl
       have dx3 : w2.cell? ⟨N0 + 1, 3, none⟩ = some (.slice B3 n3 r3) := cell_of h2.2 rfl
       have cx4 : w2.cell? ⟨N0, 4, none⟩ = some (.slice A4 n4 p4) := cell_of h2.1 rfl
       have dx4 : w2.cell? ⟨N0 + 1, 4, none⟩ = some (.slice B4 n4 r4) := cell_of h2.2 rfl
       have cx5 : w2.cell? ⟨N0, 5, none⟩ = some (.slice A5 n5 p5) := cell_of h2.1 rfl
       have dx5 : w2.cell? ⟨N0 + 1, 5, none⟩ = some (.slice B5 m5 r5) := cell_of h2.2 rfl
       have cx6 : w2.cell? ⟨N0, 6, none⟩ = some (.slice A6 n6 p6) := cell_of h2.1 rfl
       have dx6 : w2.cell? ⟨N0 + 1, 6, none⟩ = some (.slice B6 m6 r6) := cell_of h2.2 rfl
       have HB := Lib.hid hb2
       clear hb2 h2 cc0 dd0 cc1 dd1 cc2 dd2 cc3 dd3 cc4 dd4 cc5 dd5 cc6 dd6
       go_wp2_with fail
       go_ret
       exact ⟨rfl, HBX.out.trans (HB.out.mono HBX.out.size)⟩
      have zi : ¬ (n4 : Int) = (m4 : Int) := by omega
      have hqf : q = false := by
       rw [← HQ.out, decide_eq_false_iff_not]
       intro h
       have h3 := HE.out.2.2.2.2.1
       rw [h, HG.out.2.2.2.2.1] at h3
       exact z4 h3.symm
      subst hqf
      go_enter Tryz.func11, Tryz.ntmps11
      go_wp2_with fail
      rw [HX.out, HN0.out]
      go_wp2_with fail
      refine HSA.out.mono ?_
      rintro e w2 ⟨rfl, hb2⟩
      have h2 := HK.out w2 hb2
      have cx0 : w2.cell? ⟨N0, 0, none⟩ = some (.slice A0 n0 p0) := cell_of h2.1 rfl
      have dx0 : w2.cell? ⟨N0 + 1, 0, none⟩ = some (.slice B0 m0 r0) := cell_of h2.2 rfl
      have cx1 : w2.cell? ⟨N0, 1, none⟩ = some (.slice A1 n1 p1) := cell_of h2.1 rfl
      have dx1 : w2.cell? ⟨N0 + 1, 1, none⟩ = some (.slice B1 n1 r1) := cell_of h2.2 rfl
      have cx2 : w2.cell? ⟨N0, 2, none⟩ = some (.slice A2 n2 p2) := cell_of h2.1 rfl
      have dx2 : w2.cell? ⟨N0 + 1, 2, none⟩ = some (.slice B2 n2 r2) := cell_of h2.2 rfl
      have cx3 : w2.cell? ⟨N0, 3, none⟩ = some (.slice A3 n3 p3) := cell_of h2.1 rfl
      have dx3 : w2.cell? ⟨N0 + 1, 3, none⟩ = some (.slice B3 n3 r3) := cell_of h2.2 rfl
      have cx4 : w2.cell? ⟨N0, 4, none⟩ = some (.slice A4 n4 p4) := cell_of h2.1 rfl
      have dx4 : w2.cell? ⟨N0 + 1, 4, none⟩ = some (.slice B4 m4 r4) := cell_of h2.2 rfl
      have cx5 : w2.cell? ⟨N0, 5, none⟩ = some (.slice A5 n5 p5) := cell_of h2.1 rfl
      have dx5 : w2.cell? ⟨N0 + 1, 5, none⟩ = some (.slice B5 m5 r5) := cell_of h2.2 rfl
      have cx6 : w2.cell? ⟨N0, 6, none⟩ = some (.slice A6 n6 p6) := cell_of h2.1 rfl
      have dx6 : w2.cell? ⟨N0 + 1, 6, none⟩ = some (.slice B6 m6 r6) := cell_of h2.2 rfl
      have HB := Lib.hid hb2
      clear hb2 h2 cc0 dd0 cc1 dd1 cc2 dd2 cc3 dd3 cc4 dd4 cc5 dd5 cc6 dd6
      go_wp2_with fail
      go_ret
      exact ⟨rfl, HBX.out.trans (HB.out.mono HBX.out.size)⟩
     have zi : ¬ (n3 : Int) = (m3 : Int) := by omega
     have hqf : q = false := by
      rw [← HQ.out, decide_eq_false_iff_not]
      intro h
      have h3 := HE.out.2.2.2.1
      rw [h, HG.out.2.2.2.1] at h3
      exact z3 h3.symm
     subst hqf
     go_enter Tryz.func11, Tryz.ntmps11
     go_wp2_with fail
     rw [HX.out, HN0.out]
     go_wp2_with fail
     refine HSA.out.mono ?_
     rintro e w2 ⟨rfl, hb2⟩
     have h2 := HK.out w2 hb2
     have cx0 : w2.cell? ⟨N0, 0, none⟩ = some (.slice A0 n0 p0) := cell_of h2.1 rfl
     have dx0 : w2.cell? ⟨N0 + 1, 0, none⟩ = some (.slice B0 m0 r0) := cell_of h2.2 rfl
     have cx1 : w2.cell? ⟨N0, 1, none⟩ = some (.slice A1 n1 p1) := cell_of h2.1 rfl
     have dx1 : w2.cell? ⟨N0 + 1, 1, none⟩ = some (.slice B1 n1 r1) := cell_of h2.2 rfl
     have cx2 : w2.cell? ⟨N0, 2, none⟩ = some (.slice A2 n2 p2) := cell_of h2.1 rfl
     have dx2 : w2.cell? ⟨N0 + 1, 2, none⟩ = some (.slice B2 n2 r2) := cell_of h2.2 rfl
     have cx3 : w2.cell? ⟨N0, 3, none⟩ = some (.slice A3 n3 p3) := cell_of h2.1 rfl
     have dx3 : w2.cell? ⟨N0 + 1, 3, none⟩ = some (.slice B3 m3 r3) := cell_of h2.2 rfl
     have cx4 : w2.cell? ⟨N0, 4, none⟩ = some (.slice A4 n4 p4) := cell_of h2.1 rfl
     have dx4 : w2.cell? ⟨N0 + 1, 4, none⟩ = some (.slice B4 m4 r4) := cell_of h2.2 rfl
     have cx5 : w2.cell? ⟨N0, 5, none⟩ = some (.slice A5 n5 p5) := cell_of h2.1 rfl
     have dx5 : w2.cell? ⟨N0 + 1, 5, none⟩ = some (.slice B5 m5 r5) := cell_of h2.2 rfl
     have cx6 : w2.cell? ⟨N0, 6, none⟩ = some (.slice A6 n6 p6) := cell_of h2.1 rfl
     have dx6 : w2.cell? ⟨N0 + 1, 6, none⟩ = some (.slice B6 m6 r6) := cell_of h2.2 rfl
     have HB := Lib.hid hb2
     clear hb2 h2 cc0 dd0 cc1 dd1 cc2 dd2 cc3 dd3 cc4 dd4 cc5 dd5 cc6 dd6
     go_wp2_with fail
     go_ret
     exact ⟨rfl, HBX.out.trans (HB.out.mono HBX.out.size)⟩
    have zi : ¬ (n2 : Int) = (m2 : Int) := by omega
    have hqf : q = false := by
     rw [← HQ.out, decide_eq_false_iff_not]
     intro h
     have h3 := HE.out.2.2.1
     rw [h, HG.out.2.2.1] at h3
     exact z2 h3.symm
    subst hqf
    go_enter Tryz.func11, Tryz.ntmps11
    go_wp2_with fail
    rw [HX.out, HN0.out]
    go_wp2_with fail
    refine HSA.out.mono ?_
    rintro e w2 ⟨rfl, hb2⟩
    have h2 := HK.out w2 hb2
    have cx0 : w2.cell? ⟨N0, 0, none⟩ = some (.slice A0 n0 p0) := cell_of h2.1 rfl
    have dx0 : w2.cell? ⟨N0 + 1, 0, none⟩ = some (.slice B0 m0 r0) := cell_of h2.2 rfl
    have cx1 : w2.cell? ⟨N0, 1, none⟩ = some (.slice A1 n1 p1) := cell_of h2.1 rfl
    have dx1 : w2.cell? ⟨N0 + 1, 1, none⟩ = some (.slice B1 n1 r1) := cell_of h2.2 rfl
    have cx2 : w2.cell? ⟨N0, 2, none⟩ = some (.slice A2 n2 p2) := cell_of h2.1 rfl
    have dx2 : w2.cell? ⟨N0 + 1, 2, none⟩ = some (.slice B2 m2 r2) := cell_of h2.2 rfl
    have cx3 : w2.cell? ⟨N0, 3, none⟩ = some (.slice A3 n3 p3) := cell_of h2.1 rfl
    have dx3 : w2.cell? ⟨N0 + 1, 3, none⟩ = some (.slice B3 m3 r3) := cell_of h2.2 rfl
    have cx4 : w2.cell? ⟨N0, 4, none⟩ = some (.slice A4 n4 p4) := cell_of h2.1 rfl
    have dx4 : w2.cell? ⟨N0 + 1, 4, none⟩ = some (.slice B4 m4 r4) := cell_of h2.2 rfl
    have cx5 : w2.cell? ⟨N0, 5, none⟩ = some (.slice A5 n5 p5) := cell_of h2.1 rfl
    have dx5 : w2.cell? ⟨N0 + 1, 5, none⟩ = some (.slice B5 m5 r5) := cell_of h2.2 rfl
    have cx6 : w2.cell? ⟨N0, 6, none⟩ = some (.slice A6 n6 p6) := cell_of h2.1 rfl
    have dx6 : w2.cell? ⟨N0 + 1, 6, none⟩ = some (.slice B6 m6 r6) := cell_of h2.2 rfl
    have HB := Lib.hid hb2
    clear hb2 h2 cc0 dd0 cc1 dd1 cc2 dd2 cc3 dd3 cc4 dd4 cc5 dd5 cc6 dd6
    go_wp2_with fail
    go_ret
    exact ⟨rfl, HBX.out.trans (HB.out.mono HBX.out.size)⟩
   have zi : ¬ (n1 : Int) = (m1 : Int) := by omega
   have hqf : q = false := by
    rw [← HQ.out, decide_eq_false_iff_not]
    intro h
    have h3 := HE.out.2.1
    rw [h, HG.out.2.1] at h3
    exact z1 h3.symm
   subst hqf
   go_enter Tryz.func11, Tryz.ntmps11
   go_wp2_with fail
   rw [HX.out, HN0.out]
   go_wp2_with fail
   refine HSA.out.mono ?_
   rintro e w2 ⟨rfl, hb2⟩
   have h2 := HK.out w2 hb2
   have cx0 : w2.cell? ⟨N0, 0, none⟩ = some (.slice A0 n0 p0) := cell_of h2.1 rfl
   have dx0 : w2.cell? ⟨N0 + 1, 0, none⟩ = some (.slice B0 m0 r0) := cell_of h2.2 rfl
   have cx1 : w2.cell? ⟨N0, 1, none⟩ = some (.slice A1 n1 p1) := cell_of h2.1 rfl
   have dx1 : w2.cell? ⟨N0 + 1, 1, none⟩ = some (.slice B1 m1 r1) := cell_of h2.2 rfl
   have cx2 : w2.cell? ⟨N0, 2, none⟩ = some (.slice A2 n2 p2) := cell_of h2.1 rfl
   have dx2 : w2.cell? ⟨N0 + 1, 2, none⟩ = some (.slice B2 m2 r2) := cell_of h2.2 rfl
   have cx3 : w2.cell? ⟨N0, 3, none⟩ = some (.slice A3 n3 p3) := cell_of h2.1 rfl
   have dx3 : w2.cell? ⟨N0 + 1, 3, none⟩ = some (.slice B3 m3 r3) := cell_of h2.2 rfl
   have cx4 : w2.cell? ⟨N0, 4, none⟩ = some (.slice A4 n4 p4) := cell_of h2.1 rfl
   have dx4 : w2.cell? ⟨N0 + 1, 4, none⟩ = some (.slice B4 m4 r4) := cell_of h2.2 rfl
   have cx5 : w2.cell? ⟨N0, 5, none⟩ = some (.slice A5 n5 p5) := cell_of h2.1 rfl
   have dx5 : w2.cell? ⟨N0 + 1, 5, none⟩ = some (.slice B5 m5 r5) := cell_of h2.2 rfl
   have cx6 : w2.cell? ⟨N0, 6, none⟩ = some (.slice A6 n6 p6) := cell_of h2.1 rfl
   have dx6 : w2.cell? ⟨N0 + 1, 6, none⟩ = some (.slice B6 m6 r6) := cell_of h2.2 rfl
   have HB := Lib.hid hb2
   clear hb2 h2 cc0 dd0 cc1 dd1 cc2 dd2 cc3 dd3 cc4 dd4 cc5 dd5 cc6 dd6
   go_wp2_with fail
   go_ret
   exact ⟨rfl, HBX.out.trans (HB.out.mono HBX.out.size)⟩
end Go.Proofs.YtebmfkkkhmjkoaaGreat
