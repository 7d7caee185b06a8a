/-
 WALKS over the reference of corpus: weight and Weight return some number, whatever the corpus.
 WALKS over the laws of corpus: heavy answers something, whatever the corpora.
-/
import Derived.Test.YtebmfkkkhmjkoaaGreatQaR
import Derived.Test.YtebmfkkkhmjkoaaGreatQeE
import Derived.Deep.RegionHeld3
import Derived.Deep.DrawnRows
namespace Go.Proofs.YtebmfkkkhmjkoaaGreat
open Go.RowKit Go.Shelf Go.Lib
attribute [local go_sem ↓] Go.wp_at_zero Go.wp_at_succ

/-- Some number, and nothing that lay is changed. -/
def SomeI (N : Nat) (w : World) (e : Ending) (w' : World) : Prop := ∃ z : Int, e = .returned (.int .i64 z) ∧ Below N w w'
set_option maxRecDepth 100000 in
set_option maxHeartbeats 4000000 in
theorem weightS_any {w : World} {v : Value} {l : List (Bs × Bs)} (hv : Rows 2 EPair w v l) (hl : l.length ≤ maxLen) :
 Calls Tryz.prog 40 #[v] w (SomeI w.heap.size w) := by
 obtain ⟨A, cap, rfl, hc⟩ := hv.form
 obtain ⟨n, hn⟩ : ∃ n, l.length = n := ⟨_, rfl⟩
 have HV := Lib.hid (fun W (h : Below w.heap.size w W) => hv.below stays_pair h)
 rw [hn] at hc hl HV ⊢
 unfold maxLen at hl
 have HN := Lib.hid hn
 clear hn hv
 go_enter Tryz.func40, Tryz.ntmps40
 go_wp2_with fail
 go_loopw [3, 10] (fun m i wr => ∃ (k : Nat) (z : Int), k ≤ n ∧ i = .int .i64 k ∧ m = .int .i64 z ∧ Below w.heap.size w wr) (fun _ i _ => n - (Go.RowKit.intOf i).toNat)
 case atStart => exact ⟨0, n, Nat.zero_le _, rfl, rfl, Below.refl _ _⟩
 obtain ⟨k, z, hk, rfl, rfl, hb⟩ := hrel
 by_cases hlt : k < n
 ·
  obtain ⟨g, hg⟩ : ∃ g, l[k]? = some g := ⟨_, List.getElem?_eq_getElem (by rw [HN.out]; exact hlt)⟩
  obtain ⟨bk, off, rfl, -, hj⟩ := at_pair (HV.out wr hb) (by rw [HN.out]; omega)
  obtain ⟨k0, k1⟩ := hj k g hg
  obtain ⟨G, hG⟩ : ∃ s : ByteArray, (⟨g.1.toArray⟩ : ByteArray) = s := ⟨_, rfl⟩
  obtain ⟨U, hU⟩ : ∃ s : ByteArray, (⟨g.2.toArray⟩ : ByteArray) = s := ⟨_, rfl⟩
  rw [hG] at k0
  rw [hU] at k1
  have HB := Lib.hid hb
  clear hb hG hU hj hg
  go_wp2_with fail
  exact ⟨⟨k + 1, _, by omega, by go_num, rfl, HB.out.trans ((below_box wr _).mono HB.out.size)⟩, by simp only [Go.RowKit.intOf]; omega⟩
 obtain rfl : k = n := by omega
 have HB := Lib.hid hb
 clear hb
 go_wp2_with fail
 go_ret
 exact ⟨z, rfl, HB.out⟩

set_option maxRecDepth 1000000 in
set_option maxHeartbeats 16000000 in
theorem weightC_any {w : World} (s : Sv) {c : Cor} (hC : CorAt w s c) (l0 : c.attrs.length ≤ maxLen) (l1 : c.toks.length ≤ maxLen ∧ ∀ t ∈ c.toks, t.length ≤ maxLen) (l2 : c.texts.length ≤ maxLen ∧ ∀ x ∈ c.texts, x.ps.length ≤ maxLen) (l3 : c.regs.length ≤ maxLen ∧ ∀ x ∈ c.regs, x.ps.length ≤ maxLen) (l4 : c.nodes.length ≤ maxLen) (l6 : c.rels.length ≤ maxLen) :
 Calls Tryz.prog 17 #[.agg s.arr] w (SomeI w.heap.size w) := by
 obtain ⟨va, vt, vx, vr, vn, vh, vl⟩ := s
 obtain ⟨A0, p0, h0, q0⟩ := hC.a.form
 obtain ⟨A1, p1, h1, q1⟩ := hC.t.form
 obtain ⟨A2, p2, h2, q2⟩ := hC.x.form
 obtain ⟨A3, p3, h3, q3⟩ := hC.r.form
 obtain ⟨A4, p4, h4, q4⟩ := hC.n.form
 obtain ⟨A5, p5, h5, q5⟩ := hC.h.form
 obtain ⟨A6, p6, h6, q6⟩ := hC.l.form
 simp only at h0 h1 h2 h3 h4 h5 h6
 subst h0 h1 h2 h3 h4 h5 h6
 obtain ⟨n0, e0⟩ : ∃ n, c.attrs.length = n := ⟨_, rfl⟩
 obtain ⟨n1, e1⟩ : ∃ n, c.toks.length = n := ⟨_, rfl⟩
 obtain ⟨n2, e2⟩ : ∃ n, c.texts.length = n := ⟨_, rfl⟩
 obtain ⟨n3, e3⟩ : ∃ n, c.regs.length = n := ⟨_, rfl⟩
 obtain ⟨n4, e4⟩ : ∃ n, c.nodes.length = n := ⟨_, rfl⟩
 obtain ⟨n5, e5⟩ : ∃ n, c.heads.length = n := ⟨_, rfl⟩
 obtain ⟨n6, e6⟩ : ∃ n, c.rels.length = n := ⟨_, rfl⟩
 simp only [e0, e1, e2, e3, e4, e5, e6, Sv.arr] at hC l0 l1 l2 l3 l4 l6 ⊢
 unfold maxLen at l0 l4 l6
 obtain ⟨l1, l1b⟩ := l1
 obtain ⟨l2, l2b⟩ := l2
 obtain ⟨l3, l3b⟩ := l3
 have L1B := Lib.hid l1b
 have L2B := Lib.hid l2b
 have L3B := Lib.hid l3b
 unfold maxLen at l1 l2 l3
 have HE := Lib.hid (And.intro e0 (And.intro e1 (And.intro e2 (And.intro e3 (And.intro e4 (And.intro e5 e6))))))
 obtain ⟨X, hX⟩ : ∃ X, w.alloc (.cells #[.slice A0 n0 p0, .slice A1 n1 p1, .slice A2 n2 p2, .slice A3 n3 p3, .slice A4 n4 p4, .slice A5 n5 p5, .slice A6 n6 p6] 30) = X := ⟨_, rfl⟩
 have hbX : Below w.heap.size w X := by rw [← hX]; exact below_box w _
 obtain ⟨N0, hN0⟩ : ∃ N0, w.heap.size = N0 := ⟨_, rfl⟩
 have b1 : X.heap[N0]? = some (.cells #[.slice A0 n0 p0, .slice A1 n1 p1, .slice A2 n2 p2, .slice A3 n3 p3, .slice A4 n4 p4, .slice A5 n5 p5, .slice A6 n6 p6] 30 (0, 0)) := by rw [← hX, ← hN0]; exact block_new w _
 have hN1 : N0 < X.heap.size := (Array.getElem?_eq_some_iff.1 b1).1
 have HC := Lib.hid (fun W (h : Below X.heap.size X W) => hC.below (hbX.trans (h.mono hbX.size)))
 have HK := Lib.hid (fun W (h : Below X.heap.size X W) => (h.block N0 hN1).trans b1)
 have c0 : X.cell? ⟨N0, 0, none⟩ = some (.slice A0 n0 p0) := cell_of b1 rfl
 have c5 : X.cell? ⟨N0, 5, none⟩ = some (.slice A5 n5 p5) := cell_of b1 rfl
 have HX := Lib.hid hX
 have HN0 := Lib.hid hN0
 have HBX := Lib.hid hbX
 clear hX hbX hN0 b1 hN1 hC e0 e1 e2 e3 e4 e5 e6 l1b l2b l3b
 go_enter Tryz.func17, Tryz.ntmps17
 go_wp2_with fail
 rw [HX.out, HN0.out]
 go_wp2_with fail
 clear c0 c5

 go_loopw [3, 28] (fun m i wr => ∃ (k : Nat) (z : Int), k ≤ n0 ∧ i = .int .i64 k ∧ m = .int .i64 z ∧ Below X.heap.size X wr) (fun _ i _ => n0 - (Go.RowKit.intOf i).toNat)
 case atStart => exact ⟨0, _, Nat.zero_le _, rfl, rfl, Below.refl _ _⟩
 case round =>

  obtain ⟨k, z, hk, rfl, rfl, hb⟩ := hrel
  by_cases hlt : k < n0
  ·
   obtain ⟨g, hg⟩ : ∃ g, c.attrs[k]? = some g := ⟨_, List.getElem?_eq_getElem (by have := HE.out.1; omega)⟩
   obtain ⟨bk, off, rfl, -, hj⟩ := at_attr (HC.out wr hb).a (by have := HE.out.1; omega)
   have HB := Lib.hid hb
   obtain ⟨k0, k1⟩ := hj k g hg
   obtain ⟨G, hG⟩ : ∃ s : ByteArray, (⟨g.1.toArray⟩ : ByteArray) = s := ⟨_, rfl⟩
   rw [hG] at k0
   clear hb hG hj hg HC HK L1B L2B L3B HE
   go_wp2_with fail
   exact ⟨⟨k + 1, _, by omega, by go_num, rfl, HB.out.trans ((below_box wr _).mono HB.out.size)⟩, by simp only [Go.RowKit.intOf]; omega⟩
  obtain rfl : k = n0 := by omega
  have HB := Lib.hid hb
  have cc : wr.cell? ⟨N0, 1, none⟩ = some (.slice A1 n1 p1) := cell_of (HK.out wr hb) rfl
  clear hb
  go_wp2_with fail
  clear cc
  go_loopw [3, 41] (fun m i wr => ∃ (k : Nat) (z : Int), k ≤ n1 ∧ i = .int .i64 k ∧ m = .int .i64 z ∧ Below X.heap.size X wr) (fun _ i _ => n1 - (Go.RowKit.intOf i).toNat)
  case atStart => exact ⟨0, _, Nat.zero_le _, rfl, rfl, HB.out⟩
  clear HB
  obtain ⟨k, z, hk, rfl, rfl, hb⟩ := hrel
  by_cases hlt : k < n1
  ·
   obtain ⟨g, hg⟩ : ∃ g, c.toks[k]? = some g := ⟨_, List.getElem?_eq_getElem (by have := HE.out.2.1; omega)⟩
   obtain ⟨bk, off, rfl, -, hj⟩ := at_tok (HC.out wr hb).t (by have := HE.out.2.1; omega)
   have HB := Lib.hid hb
   obtain ⟨u, k0, ru⟩ := hj k g hg
   obtain ⟨Au, pu, rfl, -⟩ := ru.form
   obtain ⟨nu, hnu⟩ : ∃ n, g.length = n := ⟨_, rfl⟩
   have hul := L1B.out g (List.mem_of_getElem? hg)
   rw [hnu] at k0 ru hul
   unfold maxLen at hul
   have HU := Lib.hid (fun W (h : Below wr.heap.size wr W) => ru.below stays_str h)
   have HNU := Lib.hid hnu
   clear hb hj hg ru hnu HC HK L1B L2B L3B HE
   obtain ⟨wo, hwo⟩ : ∃ wo, wo = wr := ⟨_, rfl⟩
   subst hwo
   go_wp2_with fail
   go_loopw [3, 49] (fun m i wr => ∃ (k : Nat) (z : Int), k ≤ nu ∧ i = .int .i64 k ∧ m = .int .i64 z ∧ Below wo.heap.size wo wr) (fun _ i _ => nu - (Go.RowKit.intOf i).toNat)
   case atStart => exact ⟨0, _, Nat.zero_le _, rfl, rfl, Below.refl _ _⟩
   obtain ⟨j, y, hjn, rfl, rfl, hb2⟩ := hrel
   by_cases hlt2 : j < nu
   ·
    obtain ⟨g2, hg2⟩ : ∃ x, g[j]? = some x := ⟨_, List.getElem?_eq_getElem (by have := HNU.out; omega)⟩
    obtain ⟨b2, o2, rfl, -, hj2⟩ := at_str (HU.out wr hb2) (by have := HNU.out; omega)
    have k2 := hj2 j g2 hg2
    obtain ⟨G, hG⟩ : ∃ s : ByteArray, (⟨g2.toArray⟩ : ByteArray) = s := ⟨_, rfl⟩
    rw [hG] at k2
    have HB2 := Lib.hid hb2
    clear hb2 hG hj2 hg2 k0
    go_wp2_with fail
    exact ⟨⟨j + 1, _, by omega, by go_num, rfl, HB2.out⟩, by simp only [Go.RowKit.intOf]; omega⟩
   have HB2 := Lib.hid hb2
   clear hb2 k0
   obtain rfl : j = nu := by omega
   go_wp2_with fail
   exact ⟨⟨k + 1, _, by omega, by go_num, rfl, HB.out.trans (HB2.out.mono HB.out.size)⟩, by simp only [Go.RowKit.intOf]; omega⟩
  obtain rfl : k = n1 := by omega
  have HB := Lib.hid hb
  have cc : wr.cell? ⟨N0, 2, none⟩ = some (.slice A2 n2 p2) := cell_of (HK.out wr hb) rfl
  clear hb
  go_wp2_with fail
  clear cc
  go_loopw [3, 63] (fun m i wr => ∃ (k : Nat) (z : Int), k ≤ n2 ∧ i = .int .i64 k ∧ m = .int .i64 z ∧ Below X.heap.size X wr) (fun _ i _ => n2 - (Go.RowKit.intOf i).toNat)
  case atStart => exact ⟨0, _, Nat.zero_le _, rfl, rfl, HB.out⟩
  clear HB
  obtain ⟨k, z, hk, rfl, rfl, hb⟩ := hrel
  by_cases hlt : k < n2
  ·
   obtain ⟨g, hg⟩ : ∃ g, c.texts[k]? = some g := ⟨_, List.getElem?_eq_getElem (by have := HE.out.2.2.1; omega)⟩
   obtain ⟨bk, off, rfl, -, hj⟩ := at_ex (HC.out wr hb).x (by have := HE.out.2.2.1; omega)
   have HB := Lib.hid hb
   obtain ⟨u, ru, k0, k1, k2, k3⟩ := hj k g hg
   have hgp := L2B.out g (List.mem_of_getElem? hg)
   have hwt := fun W (h : Below wr.heap.size wr W) => weightS_any (ru.below stays_pair h) hgp
   obtain ⟨Au, pu, rfl, -⟩ := ru.form
   obtain ⟨nu, hnu⟩ : ∃ n, g.ps.length = n := ⟨_, rfl⟩
   rw [hnu] at k3 hwt
   obtain ⟨G, hG⟩ : ∃ s : ByteArray, (⟨g.name.toArray⟩ : ByteArray) = s := ⟨_, rfl⟩
   rw [hG] at k0
   obtain ⟨Y, hY⟩ : ∃ Y, wr.alloc (.cells #[.string G, .int .i64 g.b, .int .i64 g.e, .slice Au nu pu] 51) = Y := ⟨_, rfl⟩
   have hbY : Below wr.heap.size wr Y := by rw [← hY]; exact below_box wr _
   obtain ⟨M, hM⟩ : ∃ M, wr.heap.size = M := ⟨_, rfl⟩
   have y1 : Y.heap[M]? = some (.cells #[.string G, .int .i64 g.b, .int .i64 g.e, .slice Au nu pu] 51 (0, 0)) := by rw [← hY, ← hM]; exact block_new wr _
   have hM1 : M < Y.heap.size := (Array.getElem?_eq_some_iff.1 y1).1
   have d0 : Y.cell? ⟨M, 0, none⟩ = some (.string G) := cell_of y1 rfl
   have d3 : Y.cell? ⟨M, 3, none⟩ = some (.slice Au nu pu) := cell_of y1 rfl
   have HS := Lib.hid (fun W (h : Below Y.heap.size Y W) => And.intro ((h.cell (p := ⟨M, 0, none⟩) hM1).trans d0) ((h.cell (p := ⟨M, 3, none⟩) hM1).trans d3))
   have HWT := Lib.hid (hwt Y.drew hbY.drew)
   have HD0 := Lib.hid (show Below Y.heap.size Y Y.drew from (Below.refl Y.heap.size Y).drew)
   have HY := Lib.hid hY
   have HM := Lib.hid hM
   have HBY := Lib.hid (HB.out.trans (hbY.mono HB.out.size))
   clear hb hG hj hg ru hnu hgp hwt hY hbY hM y1 hM1 HC HK L1B L2B L3B HE
   go_wp2_with fail
   rw [HY.out, HM.out]
   clear k0 k1 k2 k3
   go_region_held3 (fun w' => w'.cell? ⟨M, 0, none⟩ = some (.string G) ∧ w'.cell? ⟨M, 3, none⟩ = some (.slice Au nu pu))
    (first
     | go_keep
     | (with_reducible exact HS.out _ HB3.out)
     | fail)
    ((first
      | (go_at_call 40; (with_reducible refine HWT.out.mono ?_); rintro e w3 ⟨zz, rfl, hb3⟩; have HB3 := Lib.hid (HD0.out.trans (hb3.mono HD0.out.size)); clear hb3)
      | fail))
   go_wp2_with fail
   exact ⟨⟨k + 1, _, by omega, by go_num, rfl, HBY.out.trans (HB3.out.mono HBY.out.size)⟩, by simp only [Go.RowKit.intOf]; omega⟩
  obtain rfl : k = n2 := by omega
  have HB := Lib.hid hb
  have cc : wr.cell? ⟨N0, 3, none⟩ = some (.slice A3 n3 p3) := cell_of (HK.out wr hb) rfl
  clear hb
  go_wp2_with fail
  clear cc
  go_loopw [3, 81] (fun m i wr => ∃ (k : Nat) (z : Int), k ≤ n3 ∧ i = .int .i64 k ∧ m = .int .i64 z ∧ Below X.heap.size X wr) (fun _ i _ => n3 - (Go.RowKit.intOf i).toNat)
  case atStart => exact ⟨0, _, Nat.zero_le _, rfl, rfl, HB.out⟩
  clear HB
  obtain ⟨k, z, hk, rfl, rfl, hb⟩ := hrel
  by_cases hlt : k < n3
  ·
   obtain ⟨g, hg⟩ : ∃ g, c.regs[k]? = some g := ⟨_, List.getElem?_eq_getElem (by have := HE.out.2.2.2.1; omega)⟩
   obtain ⟨bk, off, rfl, -, hj⟩ := at_ex (HC.out wr hb).r (by have := HE.out.2.2.2.1; omega)
   have HB := Lib.hid hb
   obtain ⟨u, ru, k0, k1, k2, k3⟩ := hj k g hg
   have hgp := L3B.out g (List.mem_of_getElem? hg)
   have hwt := fun W (h : Below wr.heap.size wr W) => weightS_any (ru.below stays_pair h) hgp
   obtain ⟨Au, pu, rfl, -⟩ := ru.form
   obtain ⟨nu, hnu⟩ : ∃ n, g.ps.length = n := ⟨_, rfl⟩
   rw [hnu] at k3 hwt
   obtain ⟨G, hG⟩ : ∃ s : ByteArray, (⟨g.name.toArray⟩ : ByteArray) = s := ⟨_, rfl⟩
   rw [hG] at k0
   obtain ⟨Y, hY⟩ : ∃ Y, wr.alloc (.cells #[.string G, .int .i64 g.b, .int .i64 g.e, .slice Au nu pu] 54) = Y := ⟨_, rfl⟩
   have hbY : Below wr.heap.size wr Y := by rw [← hY]; exact below_box wr _
   obtain ⟨M, hM⟩ : ∃ M, wr.heap.size = M := ⟨_, rfl⟩
   have y1 : Y.heap[M]? = some (.cells #[.string G, .int .i64 g.b, .int .i64 g.e, .slice Au nu pu] 54 (0, 0)) := by rw [← hY, ← hM]; exact block_new wr _
   have hM1 : M < Y.heap.size := (Array.getElem?_eq_some_iff.1 y1).1
   have d0 : Y.cell? ⟨M, 0, none⟩ = some (.string G) := cell_of y1 rfl
   have d3 : Y.cell? ⟨M, 3, none⟩ = some (.slice Au nu pu) := cell_of y1 rfl
   have HS := Lib.hid (fun W (h : Below Y.heap.size Y W) => And.intro ((h.cell (p := ⟨M, 0, none⟩) hM1).trans d0) ((h.cell (p := ⟨M, 3, none⟩) hM1).trans d3))
   have HWT := Lib.hid (hwt Y.drew hbY.drew)
   have HD0 := Lib.hid (show Below Y.heap.size Y Y.drew from (Below.refl Y.heap.size Y).drew)
   have HY := Lib.hid hY
   have HM := Lib.hid hM
   have HBY := Lib.hid (HB.out.trans (hbY.mono HB.out.size))
   clear hb hG hj hg ru hnu hgp hwt hY hbY hM y1 hM1 HC HK L1B L2B L3B HE
   go_wp2_with fail
   rw [HY.out, HM.out]
   clear k0 k1 k2 k3
   go_region_held3 (fun w' => w'.cell? ⟨M, 0, none⟩ = some (.string G) ∧ w'.cell? ⟨M, 3, none⟩ = some (.slice Au nu pu))
    (first
     | go_keep
     | (with_reducible exact HS.out _ HB3.out)
     | fail)
    ((first
      | (go_at_call 40; (with_reducible refine HWT.out.mono ?_); rintro e w3 ⟨zz, rfl, hb3⟩; have HB3 := Lib.hid (HD0.out.trans (hb3.mono HD0.out.size)); clear hb3)
      | fail))
   go_wp2_with fail
   exact ⟨⟨k + 1, _, by omega, by go_num, rfl, HBY.out.trans (HB3.out.mono HBY.out.size)⟩, by simp only [Go.RowKit.intOf]; omega⟩
  obtain rfl : k = n3 := by omega
  have HB := Lib.hid hb
  have cc : wr.cell? ⟨N0, 4, none⟩ = some (.slice A4 n4 p4) := cell_of (HK.out wr hb) rfl
  clear hb
  go_wp2_with fail
  clear cc
  go_loopw [3, 99] (fun m i wr => ∃ (k : Nat) (z : Int), k ≤ n4 ∧ i = .int .i64 k ∧ m = .int .i64 z ∧ Below X.heap.size X wr) (fun _ i _ => n4 - (Go.RowKit.intOf i).toNat)
  case atStart => exact ⟨0, _, Nat.zero_le _, rfl, rfl, HB.out⟩
  clear HB
  obtain ⟨k, z, hk, rfl, rfl, hb⟩ := hrel
  by_cases hlt : k < n4
  ·
   obtain ⟨g, hg⟩ : ∃ g, c.nodes[k]? = some g := ⟨_, List.getElem?_eq_getElem (by have := HE.out.2.2.2.2.1; omega)⟩
   obtain ⟨bk, off, rfl, -, hj⟩ := at_nd (HC.out wr hb).n (by have := HE.out.2.2.2.2.1; omega)
   have HB := Lib.hid hb
   obtain ⟨k0, k1, k2, k3⟩ := hj k g hg
   obtain ⟨G, hG⟩ : ∃ s : ByteArray, (⟨g.label.toArray⟩ : ByteArray) = s := ⟨_, rfl⟩
   rw [hG] at k0
   clear hb hG hj hg HC HK L1B L2B L3B HE
   go_wp2_with fail
   exact ⟨⟨k + 1, _, by omega, by go_num, rfl, HB.out.trans ((below_box wr _).mono HB.out.size)⟩, by simp only [Go.RowKit.intOf]; omega⟩
  obtain rfl : k = n4 := by omega
  have HB := Lib.hid hb
  have cc : wr.cell? ⟨N0, 6, none⟩ = some (.slice A6 n6 p6) := cell_of (HK.out wr hb) rfl
  clear hb
  go_wp2_with fail
  clear cc
  go_loopw [3, 113] (fun m i wr => ∃ (k : Nat) (z : Int), k ≤ n6 ∧ i = .int .i64 k ∧ m = .int .i64 z ∧ Below X.heap.size X wr) (fun _ i _ => n6 - (Go.RowKit.intOf i).toNat)
  case atStart => exact ⟨0, _, Nat.zero_le _, rfl, rfl, HB.out⟩
  clear HB
  obtain ⟨k, z, hk, rfl, rfl, hb⟩ := hrel
  by_cases hlt : k < n6
  ·
   obtain ⟨g, hg⟩ : ∃ g, c.rels[k]? = some g := ⟨_, List.getElem?_eq_getElem (by have := HE.out.2.2.2.2.2.2; omega)⟩
   obtain ⟨bk, off, rfl, -, hj⟩ := at_str (HC.out wr hb).l (by have := HE.out.2.2.2.2.2.2; omega)
   have HB := Lib.hid hb
   have k0 := hj k g hg
   obtain ⟨G, hG⟩ : ∃ s : ByteArray, (⟨g.toArray⟩ : ByteArray) = s := ⟨_, rfl⟩
   rw [hG] at k0
   clear hb hG hj hg HC HK L1B L2B L3B HE
   go_wp2_with fail
   exact ⟨⟨k + 1, _, by omega, by go_num, rfl, HB.out⟩, by simp only [Go.RowKit.intOf]; omega⟩
  obtain rfl : k = n6 := by omega
  have HB := Lib.hid hb
  clear hb
  go_wp2_with fail
  go_ret
  exact ⟨z, rfl, HBX.out.trans (HB.out.mono HBX.out.size)⟩
end Go.Proofs.YtebmfkkkhmjkoaaGreat
namespace Go.Proofs.YtebmfkkkhmjkoaaGreat
open Go.RowKit Go.Shelf Go.Lib
set_option linter.unusedVariables false

/-- The lengths of a corpus' lists are those of lists in memory. -/
structure LenC (c : Cor) : Prop where
 a : c.attrs.length ≤ maxLen
 t : c.toks.length ≤ maxLen ∧ ∀ t ∈ c.toks, t.length ≤ maxLen
 x : c.texts.length ≤ maxLen ∧ ∀ x ∈ c.texts, x.ps.length ≤ maxLen
 r : c.regs.length ≤ maxLen ∧ ∀ x ∈ c.regs, x.ps.length ≤ maxLen
 n : c.nodes.length ≤ maxLen
 l : c.rels.length ≤ maxLen
def ECr (w : World) (cs : List Value) (c : Cor) : Prop := ∃ s : Sv, cs = [s.va, s.vt, s.vx, s.vr, s.vn, s.vh, s.vl] ∧ CorAt w s c
theorem stays_cr : Stays ECr := fun _ _ _ _ hb ⟨s, h1, h2⟩ => ⟨s, h1, h2.below hb⟩
theorem at_cr {w : World} {A : Option Addr} {n cap : Nat} {xs : List Cor} (h : Rows 7 ECr w (.slice A n cap) xs) (h0 : 0 < xs.length) :
 ∃ b off, A = some ⟨b, off, none⟩ ∧ b < w.heap.size ∧ ∀ (j : Nat) (x : Cor), xs[j]? = some x → ∃ s : Sv, CorAt w s x ∧ w.cell? ⟨b, off + j * 7, none⟩ = some s.va ∧ w.cell? ⟨b, off + j * 7 + 1, none⟩ = some s.vt ∧ w.cell? ⟨b, off + j * 7 + 2, none⟩ = some s.vx ∧ w.cell? ⟨b, off + j * 7 + 3, none⟩ = some s.vr ∧ w.cell? ⟨b, off + j * 7 + 4, none⟩ = some s.vn ∧ w.cell? ⟨b, off + j * 7 + 5, none⟩ = some s.vh ∧ w.cell? ⟨b, off + j * 7 + 6, none⟩ = some s.vl := by
 obtain ⟨b, off, hA, hb, hj⟩ := h.at' h0
 refine ⟨b, off, hA, hb, fun j x hx => ?_⟩
 obtain ⟨cs, _, ⟨s, rfl, hs⟩, h3⟩ := hj j x hx
 exact ⟨s, hs, h3 0 _ rfl, h3 1 _ rfl, h3 2 _ rfl, h3 3 _ rfl, h3 4 _ rfl, h3 5 _ rfl, h3 6 _ rfl⟩
/-- Not heavy: the bounds of the lists. -/
def Bnd (c : Cor) : Prop := c.toks.length ≤ 400 ∧ c.texts.length ≤ 100 ∧ c.regs.length ≤ 300 ∧ c.nodes.length ≤ 300 ∧ c.attrs.length ≤ 20
/-- Some bool, and nothing that lay is changed; if it is false, the bounds hold. -/
def HeavyW (cs : List Cor) (w : World) (e : Ending) (w' : World) : Prop := ∃ q : Bool, e = .returned (.bool q) ∧ Below w.heap.size w w' ∧ (q = false → ∀ c ∈ cs, Bnd c)
set_option maxRecDepth 1000000 in
set_option maxHeartbeats 16000000 in
theorem heavyW_any {w : World} {v : Value} {cs : List Cor} (hv : Rows 7 ECr w v cs) (hl : cs.length ≤ 10) (hr : ∀ c ∈ cs, LenC c) :
 Calls Tryz.prog 8 #[v] w (HeavyW cs w) := by
 obtain ⟨A, cap, rfl, hc⟩ := hv.form
 obtain ⟨m, hm⟩ : ∃ n, cs.length = n := ⟨_, rfl⟩
 have HV := Lib.hid (fun W (h : Below w.heap.size w W) => hv.below stays_cr h)
 rw [hm] at hc hl HV ⊢
 have HM := Lib.hid hm
 have HR := Lib.hid hr
 clear hm hv hr
 go_enter Tryz.func8, Tryz.ntmps8
 go_wp2_with fail
 go_loopw [7] (fun i wr => ∃ k : Nat, k ≤ m ∧ i = .int .i64 k ∧ Below w.heap.size w wr ∧ Hid (∀ (j : Nat) (c : Cor), j < k → cs[j]? = some c → Bnd c)) (fun i _ => m - (Go.RowKit.intOf i).toNat)
 case atStart => exact ⟨0, Nat.zero_le _, rfl, Below.refl _ _, Lib.hid (fun j c h => absurd h (by omega))⟩
 obtain ⟨k, hk, rfl, hb, HBD⟩ := hrel
 by_cases hlt : k < m
 ·
  obtain ⟨c, hg⟩ : ∃ g, cs[k]? = some g := ⟨_, List.getElem?_eq_getElem (by rw [HM.out]; exact hlt)⟩
  obtain ⟨bk, off, rfl, -, hj⟩ := at_cr (HV.out wr hb) (by rw [HM.out]; omega)
  have hlc := HR.out c (List.mem_of_getElem? hg)
  obtain ⟨s, hC, d0, d1, d2, d3, d4, d5, d6⟩ := hj k c hg
  obtain ⟨va, vt, vx, vr, vn, vh, vl⟩ := s
  obtain ⟨A0, p0, h0, q0⟩ := hC.a.form
  obtain ⟨A1, p1, h1, q1⟩ := hC.t.form
  obtain ⟨A2, p2, h2, q2⟩ := hC.x.form
  obtain ⟨A3, p3, h3, q3⟩ := hC.r.form
  obtain ⟨A4, p4, h4, q4⟩ := hC.n.form
  obtain ⟨A5, p5, h5, q5⟩ := hC.h.form
  obtain ⟨A6, p6, h6, q6⟩ := hC.l.form
  simp only at h0 h1 h2 h3 h4 h5 h6
  subst h0 h1 h2 h3 h4 h5 h6
  have hw := fun W (h : Below wr.heap.size wr W) => weightC_any (w := W) _ (hC.below h) hlc.a hlc.t hlc.x hlc.r hlc.n hlc.l
  obtain ⟨n0, e0⟩ : ∃ n, c.attrs.length = n := ⟨_, rfl⟩
  obtain ⟨n1, e1⟩ : ∃ n, c.toks.length = n := ⟨_, rfl⟩
  obtain ⟨n2, e2⟩ : ∃ n, c.texts.length = n := ⟨_, rfl⟩
  obtain ⟨n3, e3⟩ : ∃ n, c.regs.length = n := ⟨_, rfl⟩
  obtain ⟨n4, e4⟩ : ∃ n, c.nodes.length = n := ⟨_, rfl⟩
  obtain ⟨n5, e5⟩ : ∃ n, c.heads.length = n := ⟨_, rfl⟩
  obtain ⟨n6, e6⟩ : ∃ n, c.rels.length = n := ⟨_, rfl⟩
  simp only [e0, e1, e2, e3, e4, e5, e6, Sv.arr] at d0 d1 d2 d3 d4 d5 d6 hw
  have HG := Lib.hid hg
  have HE := Lib.hid (And.intro e0 (And.intro e1 (And.intro e2 (And.intro e3 e4))))
  have HB := Lib.hid hb
  have HBB := Lib.hid (HB.out.trans ((below_box wr (.cells #[.slice A0 n0 p0, .slice A1 n1 p1, .slice A2 n2 p2, .slice A3 n3 p3, .slice A4 n4 p4, .slice A5 n5 p5, .slice A6 n6 p6] 30)).mono HB.out.size))
  have HW := Lib.hid (hw _ (below_box wr (.cells #[.slice A0 n0 p0, .slice A1 n1 p1, .slice A2 n2 p2, .slice A3 n3 p3, .slice A4 n4 p4, .slice A5 n5 p5, .slice A6 n6 p6] 30)))
  clear hb hj hg hlc hC hw e0 e1 e2 e3 e4 e5 e6 q0 q1 q2 q3 q4 q5 q6
  by_cases g1 : (400 : Int) < (n1 : Int)
  ·
   clear HW
   go_wp2_with fail
   go_ret
   exact ⟨true, rfl, HBB.out, fun h => by cases h⟩
  by_cases g2 : (100 : Int) < (n2 : Int)
  ·
   clear HW
   go_wp2_with fail
   go_ret
   exact ⟨true, rfl, HBB.out, fun h => by cases h⟩
  by_cases g3 : (300 : Int) < (n3 : Int)
  ·
   clear HW
   go_wp2_with fail
   go_ret
   exact ⟨true, rfl, HBB.out, fun h => by cases h⟩
  by_cases g4 : (300 : Int) < (n4 : Int)
  ·
   clear HW
   go_wp2_with fail
   go_ret
   exact ⟨true, rfl, HBB.out, fun h => by cases h⟩
  by_cases g0 : (20 : Int) < (n0 : Int)
  ·
   clear HW
   go_wp2_with fail
   go_ret
   exact ⟨true, rfl, HBB.out, fun h => by cases h⟩
  go_wp2_with fail
  refine HW.out.mono ?_
  rintro e w2 ⟨z, rfl, hb2⟩
  have HB2 := Lib.hid (HBB.out.trans (hb2.mono HBB.out.size))
  clear hb2 d0 d1 d2 d3 d4 d5 d6
  by_cases gz : (6000 : Int) < z
  · go_wp2_with fail
    go_ret
    exact ⟨true, rfl, HB2.out, fun h => by cases h⟩
  have HGS := Lib.hid (And.intro g1 (And.intro g2 (And.intro g3 (And.intro g4 g0))))
  go_wp2_with fail
  exact ⟨⟨k + 1, by omega, by go_num, HB2.out, Lib.hid (fun j c2 hj hc2 => by
   by_cases e : j = k
   ·
    subst e
    rw [HG.out] at hc2
    cases hc2
    obtain ⟨i1, i2, i3, i4, i0⟩ := HGS.out
    obtain ⟨j0, j1, j2, j3, j4⟩ := HE.out
    exact ⟨by omega, by omega, by omega, by omega, by omega⟩
   exact HBD.out j c2 (by omega) hc2)⟩, by simp only [Go.RowKit.intOf]; omega⟩
 obtain rfl : k = m := by omega
 have HB := Lib.hid hb
 clear hb
 go_wp2_with fail
 go_ret
 exact ⟨false, rfl, HB.out, fun _ c hc => by
  obtain ⟨j, hj, rfl⟩ := List.getElem_of_mem hc
  exact HBD.out j _ (by rw [← HM.out]; exact hj) (List.getElem?_eq_getElem hj)⟩
end Go.Proofs.YtebmfkkkhmjkoaaGreat
