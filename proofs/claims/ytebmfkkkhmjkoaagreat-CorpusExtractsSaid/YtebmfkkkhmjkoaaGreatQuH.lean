/-
 WALKS over the reference of corpus: bare, cyclic, heads.
-/
import Derived.Test.YtebmfkkkhmjkoaaGreatQuA
import Derived.Test.YtebmfkkkhmjkoaaGreatQmR
import Derived.Test.YtebmfkkkhmjkoaaGreatQgZ
import Derived.Test.YtebmfkkkhmjkoaaGreatQhX
import Derived.Deep.RegionHeld3
import Derived.Deep.DrawnRows
namespace Go.Proofs.YtebmfkkkhmjkoaaGreat
open Go.RowKit Go.Shelf Go.Lib
set_option linter.unusedVariables false
attribute [local go_sem ↓] Go.wp_at_zero Go.wp_at_succ

set_option maxRecDepth 100000 in
set_option maxHeartbeats 8000000 in
theorem refBare_any {w : World} {v1 v2 : Value} {h : List Int} {r : Fs} (hv : Rows 1 EInt w v1 h) (hm : Rows 1 EStr w v2 r) (he : h.length = r.length) (hl : h.length ≤ maxLen) :
 Calls Tryz.prog 39 #[v1, v2] w fun e w' => e = .returned (.bool (bare h r)) ∧ Below w.heap.size w w' := by
 obtain ⟨A, cap, rfl, hc⟩ := hv.form
 obtain ⟨A2, cap2, rfl, hc2⟩ := hm.form
 obtain ⟨n, hn⟩ : ∃ n, h.length = n := ⟨_, rfl⟩
 obtain ⟨q, hq⟩ : ∃ q, bare h r = q := ⟨_, rfl⟩
 rw [hq]
 have HQ := Lib.hid hq
 have HV := Lib.hid (fun W (hb : Below w.heap.size w W) => hv.below stays_int hb)
 have HM := Lib.hid (fun W (hb : Below w.heap.size w W) => hm.below stays_str hb)
 rw [← he] at hc2 HM ⊢
 rw [hn] at hc hc2 hl HV HM ⊢
 unfold maxLen at hl
 have HN := Lib.hid (And.intro hn (he ▸ hn))
 clear hq hv hm he hn
 go_enter Tryz.func39, Tryz.ntmps39
 go_wp2_with fail
 go_loopw [8] (fun i wr => ∃ k : Nat, k ≤ n ∧ i = .int .i64 k ∧ Hid (∀ (j : Nat) (x : Int) (y : Bs), j < k → h[j]? = some x → r[j]? = some y → x = -1 ∧ y = []) ∧ Below w.heap.size w wr) (fun i _ => n - (Go.RowKit.intOf i).toNat)
 case atStart => exact ⟨0, Nat.zero_le _, rfl, Lib.hid (fun j x y h => absurd h (by omega)), Below.refl _ _⟩
 obtain ⟨k, hk, rfl, hs, hb⟩ := hrel
 by_cases hlt : k < n
 ·
  obtain ⟨x, hx⟩ : ∃ x, h[k]? = some x := ⟨_, List.getElem?_eq_getElem (by rw [HN.out.1]; exact hlt)⟩
  obtain ⟨y, hy⟩ : ∃ y, r[k]? = some y := ⟨_, List.getElem?_eq_getElem (by rw [HN.out.2]; exact hlt)⟩
  obtain ⟨b1, o1, rfl, -, hj1⟩ := at_int (HV.out wr hb) (by rw [HN.out.1]; omega)
  obtain ⟨b2, o2, rfl, -, hj2⟩ := at_str (HM.out wr hb) (by rw [HN.out.2]; omega)
  have u0 := hj1 k x hx
  have v0 := hj2 k y hy
  have hes := str_empty y
  obtain ⟨P, hP⟩ : ∃ s : ByteArray, (⟨y.toArray⟩ : ByteArray) = s := ⟨_, rfl⟩
  rw [hP] at v0 hes
  have HB := Lib.hid hb
  have k0 : (0 : Int) ≤ (k : Int) := by omega
  have k1 : (k : Int) < (n : Int) := by omega
  have HXY := Lib.hid (And.intro hx hy)
  clear hj1 hj2 hx hy hb hP
  by_cases h1 : x = -1
  ·
   have h1b : (x != -1) = false := by simp [h1]
   by_cases h2 : y = []
   ·
    have h2b : (P.toList == ([] : List UInt8)) = true := by rw [hes]; simpa using h2
    have h2c : (P.toList != ([] : List UInt8)) = false := by show (!(P.toList == ([] : List UInt8))) = false; rw [h2b]; rfl
    have hs' : Hid (∀ (j : Nat) (x : Int) (y : Bs), j < k + 1 → h[j]? = some x → r[j]? = some y → x = -1 ∧ y = []) := Lib.hid fun j x' y' hj ha hb => by
     by_cases e : j = k
     ·
      subst e
      rw [HXY.out.1] at ha
      rw [HXY.out.2] at hb
      cases ha
      cases hb
      exact ⟨h1, h2⟩
     exact hs.out j x' y' (by omega) ha hb
    clear hs hes h1 h2
    go_wp2_with fail
    exact ⟨⟨k + 1, by omega, by go_num, hs', HB.out⟩, by simp only [Go.RowKit.intOf]; omega⟩
   have h2b : (P.toList == ([] : List UInt8)) = false := by rw [hes]; simpa using h2
   have h2c : (P.toList != ([] : List UInt8)) = true := by show (!(P.toList == ([] : List UInt8))) = true; rw [h2b]; rfl
   have hqf : q = false := by
    rw [← HQ.out]
    unfold bare
    rw [Bool.and_eq_false_iff]
    right
    rw [List.all_eq_false]
    exact ⟨y, List.mem_of_getElem? HXY.out.2, by simpa using h2⟩
   subst hqf
   clear hs hes h1 h2
   go_wp2_with fail
   go_ret
   exact ⟨rfl, HB.out⟩
  have h1b : (x != -1) = true := by simp [h1]
  have hqf : q = false := by
   rw [← HQ.out]
   unfold bare
   rw [Bool.and_eq_false_iff]
   left
   rw [List.all_eq_false]
   exact ⟨x, List.mem_of_getElem? HXY.out.1, by simpa using h1⟩
  subst hqf
  clear hs hes
  go_wp2_with fail
  go_ret
  exact ⟨rfl, HB.out⟩
 obtain rfl : k = n := by omega
 have hqt : q = true := by
  rw [← HQ.out]
  unfold bare
  rw [Bool.and_eq_true, List.all_eq_true, List.all_eq_true]
  refine ⟨fun x hx => ?_, fun y hy => ?_⟩
  ·
   obtain ⟨j, hj⟩ := List.getElem?_of_mem hx
   have hjl := (List.getElem?_eq_some_iff.1 hj).1
   obtain ⟨y, hy⟩ : ∃ y, r[j]? = some y := ⟨_, List.getElem?_eq_getElem (by rw [HN.out.2, ← HN.out.1]; exact hjl)⟩
   simpa using (hs.out j x y (by rw [← HN.out.1]; exact hjl) hj hy).1
  obtain ⟨j, hj⟩ := List.getElem?_of_mem hy
  have hjl := (List.getElem?_eq_some_iff.1 hj).1
  obtain ⟨x, hx⟩ : ∃ y, h[j]? = some y := ⟨_, List.getElem?_eq_getElem (by rw [HN.out.1, ← HN.out.2]; exact hjl)⟩
  simpa using (hs.out j x y (by rw [← HN.out.2]; exact hjl) hx hj).2
 subst hqt
 have HB := Lib.hid hb
 clear hb hs
 go_wp2_with fail
 go_ret
 exact ⟨rfl, HB.out⟩

theorem itN_none2 {h : List Int} {m i : Nat} (e : itN h m i = none) (d : Nat) : itN h (m + d) i = none := by rw [itN_add, e]; rfl
theorem cyc_iff2 (h : List Int) (i : Nat) : cyc h (i : Int) = true ↔ ∃ k, k < h.length ∧ itN h (k + 1) i = some i := by
 unfold cyc
 rw [List.any_eq_true]
 constructor
 ·
  rintro ⟨k, hk, e⟩
  refine ⟨k, List.mem_range.1 hk, ?_⟩
  have e2 := of_decide_eq_true e
  rw [iterH_eq] at e2
  cases hx : itN h (k + 1) i with
  | none => rw [hx] at e2; cases e2
  | some t =>
    rw [hx] at e2
    have h3 : (t : Int) = (i : Int) := Option.some.inj e2
    congr 1
    omega
 rintro ⟨k, hk, e⟩
 exact ⟨k, List.mem_range.2 hk, by rw [decide_eq_true_iff, iterH_eq, e]; rfl⟩
set_option maxRecDepth 100000 in
set_option maxHeartbeats 8000000 in
theorem refCyclic_any {w : World} {v1 : Value} {h : List Int} (hv : Rows 1 EInt w v1 h) (hl : h.length ≤ maxLen) (i : Nat) (hi : i < h.length) :
 Calls Tryz.prog 126 #[v1, .int .i64 i] w fun e w' => e = .returned (.bool (cyc h (i : Int))) ∧ Below w.heap.size w w' := by
 obtain ⟨A, cap, rfl, hc⟩ := hv.form
 obtain ⟨n, hn⟩ : ∃ n, h.length = n := ⟨_, rfl⟩
 obtain ⟨q, hq⟩ : ∃ q, cyc h (i : Int) = q := ⟨_, rfl⟩
 rw [hq]
 have hci := cyc_iff2 h i
 rw [hq] at hci
 have HV := Lib.hid (fun W (hb : Below w.heap.size w W) => hv.below stays_int hb)
 rw [hn] at hc hl hi HV hci ⊢
 unfold maxLen at hl
 have HN := Lib.hid hn
 have HCI := Lib.hid hci
 clear hq hv hn hci
 have i0 : (0 : Int) ≤ (i : Int) := by omega
 have in0 : (i : Int) < (n : Int) := by omega
 go_enter Tryz.func126, Tryz.ntmps126
 go_wp2_with fail
 go_loopw [5, 9] (fun a m wr => ∃ (k t : Nat), k ≤ n ∧ a = .int .i64 t ∧ t < n ∧ m = .int .i64 k ∧ Hid (itN h k i = some t) ∧ Hid (∀ j, j < k → itN h (j + 1) i ≠ some i) ∧ Below w.heap.size w wr) (fun _ m _ => n - (Go.RowKit.intOf m).toNat)
 case atStart => exact ⟨0, i, Nat.zero_le _, rfl, hi, rfl, Lib.hid rfl, Lib.hid (fun j h => absurd h (by omega)), Below.refl _ _⟩
 obtain ⟨k, t, hk, rfl, ht, rfl, hit, hno, hb⟩ := hrel
 by_cases hlt : k < n
 ·
  obtain ⟨x, hx⟩ : ∃ x, h[t]? = some x := ⟨_, List.getElem?_eq_getElem (by rw [HN.out]; exact ht)⟩
  obtain ⟨b1, o1, rfl, -, hj1⟩ := at_int (HV.out wr hb) (by rw [HN.out]; omega)
  have u0 := hj1 t x hx
  have HB := Lib.hid hb
  have t0 : (0 : Int) ≤ (t : Int) := by omega
  have t1 : (t : Int) < (n : Int) := by omega
  have hsn := itN_snoc hit.out
  by_cases hr : 0 ≤ x ∧ x < n
  ·
   obtain ⟨y, rfl⟩ : ∃ y : Nat, x = (y : Int) := ⟨x.toNat, by omega⟩
   have y0 : ¬ (y : Int) < 0 := by omega
   have y1 : ¬ (n : Int) ≤ (y : Int) := by omega
   have hst : stN h t = some y := by
    unfold stN
    rw [hx]
    simp only
    rw [if_pos ⟨hr.1, by rw [HN.out]; exact hr.2⟩, Int.toNat_natCast]
   rw [hst] at hsn
   by_cases hy : y = i
   ·
    subst hy
    have hqt : q = true := HCI.out.2 ⟨k, hlt, hsn⟩
    subst hqt
    clear hj1 hx hb hsn hst hr
    go_wp2_with fail
    go_ret
    exact ⟨rfl, HB.out⟩
   have hyb : ((y : Int) == (i : Int)) = false := by simp; omega
   have hyi : ¬ ((y : Int) = (i : Int)) := by omega
   have HSN := Lib.hid hsn
   have hno' : Hid (∀ j, j < k + 1 → itN h (j + 1) i ≠ some i) := Lib.hid fun j hj => by
    by_cases e : j = k
    ·
     subst e
     rw [hsn]
     intro h
     exact hy (Option.some.inj h)
    exact hno.out j (by omega)
   have hyn : y < n := by omega
   clear hj1 hx hb hsn hst hr hy
   go_wp2_with fail
   exact ⟨⟨k + 1, y, by omega, rfl, hyn, by go_num, HSN, hno', HB.out⟩, by simp only [Go.RowKit.intOf]; omega⟩
  have hst : stN h t = none := stN_none hx (by rw [HN.out]; exact hr)
  rw [hst] at hsn
  have hqf : q = false := by
   rw [← Bool.not_eq_true]
   intro hq
   obtain ⟨j, hj, e⟩ := HCI.out.1 hq
   by_cases hjk : j < k
   · exact hno.out j hjk e
   have := itN_none2 hsn (j - k)
   rw [show k + 1 + (j - k) = j + 1 by omega, e] at this
   cases this
  subst hqf
  by_cases x0 : x < 0
  ·
   clear hj1 hx hb hsn hst hr
   go_wp2_with fail
   go_ret
   exact ⟨rfl, HB.out⟩
  have x1 : (n : Int) ≤ x := by omega
  clear hj1 hx hb hsn hst hr
  go_wp2_with fail
  go_ret
  exact ⟨rfl, HB.out⟩
 obtain rfl : k = n := by omega
 have hqf : q = false := by
  rw [← Bool.not_eq_true]
  intro hq
  obtain ⟨j, hj, e⟩ := HCI.out.1 hq
  exact hno.out j hj e
 subst hqf
 have HB := Lib.hid hb
 clear hb
 go_wp2_with fail
 go_ret
 exact ⟨rfl, HB.out⟩

theorem keepH {W W' : World} {a : Addr} {v : Value} (h : W.cell? a = some v) (hb : Below W.heap.size W W') : W'.cell? a = some v := by
 have hlt : a.block < W.heap.size := by
  rcases Nat.lt_or_ge a.block W.heap.size with h' | h'
  · exact h'
  simp [World.cell?, Array.getElem?_eq_none h'] at h
 exact (hb.cell hlt).trans h

set_option maxRecDepth 100000 in
set_option maxHeartbeats 32000000 in
theorem refHeads_any {w : World} (s : Sv) (c : Cor) (hC : CorAt w s c) (hF : Fits c) (hT0 : textsE c = 0) (hT : ∀ i, i < c.texts.length → textE c i = 0) :
 Calls Tryz.prog 89 #[.agg s.arr] w fun e w' => e = .returned (two (partE (headsE c) (headE c) c.heads.length)) ∧ Below w.heap.size w w' := by
 have htx := fun pos W (h : Below w.heap.size w W) => refTextAt_any (w := W) s (hC.below h).x hF.x pos
 have htok := textAt_tok hT0 hT
 have hta : ∀ pos, findZ (fun t : Ex => decide (t.b ≤ pos) && decide (pos < t.e)) c.texts = textAt c pos := fun pos => rfl
 simp only [hta] at htx
 have hae : headsE c = if c.heads.length ≠ c.rels.length then 15 else if c.heads.length ≠ 0 ∧ c.heads.length ≠ c.toks.length then 15 else if c.heads.length ≠ 0 ∧ bare c.heads c.rels = true then 14 else 0 := rfl
 have hat := fun k x y (h : c.heads[k]? = some x) (h2 : c.rels[k]? = some y) => show headE c k = (if x ≠ -1 ∧ textAt c x ≠ textAt c k then 8 else if y ≠ [] ∧ nameB y = false then 4 else if cyc c.heads k then 12 else 0) by unfold headE; rw [h, h2]
 obtain ⟨hd, hhd⟩ : ∃ l, c.heads = l := ⟨_, rfl⟩
 obtain ⟨rl, hrl⟩ : ∃ l, c.rels = l := ⟨_, rfl⟩
 obtain ⟨f, hf⟩ : ∃ f, headE c = f := ⟨_, rfl⟩
 obtain ⟨g, hg⟩ : ∃ g, headsE c = g := ⟨_, rfl⟩
 obtain ⟨ta, hte⟩ : ∃ e, textAt c = e := ⟨_, rfl⟩
 have hv := hC.h
 have hm := hC.l
 have hl := hF.h
 have hl2 := hF.l
 have hs := hF.l2
 have hlt := hF.t
 have hlx := hF.x
 obtain ⟨A1, cap1, hvt, hc1⟩ := hC.t.form
 obtain ⟨A2, cap2, hvx, hc2⟩ := hC.x.form
 obtain ⟨nt, hnt⟩ : ∃ n, c.toks.length = n := ⟨_, rfl⟩
 obtain ⟨nx, hnx⟩ : ∃ n, c.texts.length = n := ⟨_, rfl⟩
 rw [hhd] at hv hl hae hat ⊢
 rw [hrl] at hm hl2 hs hae hat
 rw [hnt] at hvt hae htok hlt
 rw [hnx] at hvx
 rw [hte] at hat htx htok
 rw [hf] at hat ⊢
 rw [hg] at hae ⊢
 clear hhd hrl hf hg hte hC hF hT0 hT hta hnt hnx hc1 hc2 hlx c
 obtain ⟨A, cap, hvh, hc⟩ := hv.form
 obtain ⟨B, capr, hvl, hcr⟩ := hm.form
 obtain ⟨va, vt, vx, vr, vn, vh, vl⟩ := s
 simp only at hvt hvx hvh hvl hv hm
 subst hvt hvx hvh hvl
 simp only [Sv.arr] at htx ⊢
 obtain ⟨n, hn⟩ : ∃ n, hd.length = n := ⟨_, rfl⟩
 obtain ⟨nr, hnr⟩ : ∃ n, rl.length = n := ⟨_, rfl⟩
 obtain ⟨p, hp⟩ : ∃ p, partE g f hd.length = p := ⟨_, rfl⟩
 rw [hp]
 rw [hn] at hp hae hc hl hv htx ⊢
 rw [hnr] at hae hcr hl2 hm htx ⊢
 obtain ⟨N0, hN0⟩ : ∃ N, w.heap.size = N := ⟨_, rfl⟩
 obtain ⟨X, hX⟩ : ∃ X, w.alloc (.cells #[va, .slice A1 nt cap1, .slice A2 nx cap2, vr, vn, .slice A n cap, .slice B nr capr] 30) = X := ⟨_, rfl⟩
 have hbX : Below w.heap.size w X := by rw [← hX]; exact below_box w _
 have x1 : X.heap[N0]? = some (.cells #[va, .slice A1 nt cap1, .slice A2 nx cap2, vr, vn, .slice A n cap, .slice B nr capr] 30 (0, 0)) := by rw [← hX, ← hN0]; exact block_new w _
 have z1 : (w.alloc (.cells #[va, .slice A1 nt cap1, .slice A2 nx cap2, vr, vn, .slice A n cap, .slice B nr capr] 30)).cell? ⟨w.heap.size, 1, none⟩ = some (.slice A1 nt cap1) := cell_of (block_new w _) rfl
 have z5 : (w.alloc (.cells #[va, .slice A1 nt cap1, .slice A2 nx cap2, vr, vn, .slice A n cap, .slice B nr capr] 30)).cell? ⟨w.heap.size, 5, none⟩ = some (.slice A n cap) := cell_of (block_new w _) rfl
 have z6 : (w.alloc (.cells #[va, .slice A1 nt cap1, .slice A2 nx cap2, vr, vn, .slice A n cap, .slice B nr capr] 30)).cell? ⟨w.heap.size, 6, none⟩ = some (.slice B nr capr) := cell_of (block_new w _) rfl
 have HV := Lib.hid (fun W (h : Below X.heap.size X W) => hv.below stays_int (hbX.trans (h.mono hbX.size)))
 have HM := Lib.hid (fun W (h : Below X.heap.size X W) => hm.below stays_str (hbX.trans (h.mono hbX.size)))
 have HK := Lib.hid (fun W (h : Below X.heap.size X W) => block_below x1 h (Array.getElem?_eq_some_iff.1 x1).1)
 have HTX := Lib.hid (fun pos W (h : Below X.heap.size X W) => htx pos W (hbX.trans (h.mono hbX.size)))
 have HN := Lib.hid (And.intro hn hnr)
 have HS := Lib.hid hs
 have HAT := Lib.hid hat
 have HTK := Lib.hid htok
 have HLM := Lib.hid hl
 unfold maxLen at hl hl2
 have HX := Lib.hid hX
 have HN0 := Lib.hid hN0
 have HBX := Lib.hid hbX
 clear hv hm hn hnr hs hat htok hX hN0 hbX x1 htx
 by_cases e1 : n = nr
 ·
  subst e1
  rw [if_neg (by simp)] at hae
  by_cases e2 : n ≠ 0 ∧ n ≠ nt
  ·
   rw [if_pos e2] at hae
   subst hae
   rw [part_whole (by decide)] at hp
   subst hp
   have e2i : ((n : Int) != 0) = true := by simp; omega
   have e3i : ((n : Int) != (nt : Int)) = true := by simp; omega
   clear e2
   go_enter Tryz.func89, Tryz.ntmps89
   go_wp2_with fail
   go_ret2
   exact ⟨rfl, HX.out ▸ HBX.out⟩
  rw [if_neg e2] at hae
  have hbare := fun (h0 : 0 < n) => refBare_any (HV.out X (Below.refl _ _)) (HM.out X (Below.refl _ _)) (HN.out.1.trans HN.out.2.symm) (by rw [HN.out.1]; exact HLM.out)
  obtain ⟨bq, hbq⟩ : ∃ b, bare hd rl = b := ⟨_, rfl⟩
  rw [hbq] at hbare hae
  by_cases h0 : n = 0
  ·
   subst h0
   rw [if_neg (fun h => h.1 rfl)] at hae
   subst hae
   rw [part_scan, scanE_end (by omega)] at hp
   subst hp
   clear e2 hbare hbq
   go_enter Tryz.func89, Tryz.ntmps89
   go_wp2_with fail
   go_loopw [38] (fun i wr => i = .int .i64 0 ∧ wr = X) (fun i _ => 0)
   case atStart => exact ⟨rfl, HX.out⟩
   obtain ⟨rfl, rfl⟩ := hrel
   go_wp2_with fail
   go_ret2
   exact ⟨rfl, HBX.out⟩
  have hnt : n = nt := by omega
  have e3i : ((n : Int) != (nt : Int)) = false := by simp; omega
  have e2i : ((n : Int) != 0) = true := by simp; omega
  have npos : (0 : Int) < (n : Int) := by omega
  have HBR := Lib.hid (hbare (by omega))
  have HNT := Lib.hid hnt
  rw [← HX.out] at HBR
  clear e2 hbare hbq hnt
  cases bq with
  | true =>
    rw [if_pos ⟨h0, rfl⟩] at hae
    subst hae
    rw [part_whole (by decide)] at hp
    subst hp
    clear h0
    go_enter Tryz.func89, Tryz.ntmps89
    go_wp2_with fail
    refine HBR.out.mono ?_
    rintro e w2 ⟨rfl, hb2⟩
    rw [HX.out] at hb2
    have HB2 := Lib.hid (HBX.out.trans (hb2.mono HBX.out.size))
    clear hb2 z1 z5 z6
    go_wp2_with fail
    go_ret2
    exact ⟨rfl, HB2.out⟩
  | false =>
    rw [if_neg (fun h => by cases h.2)] at hae
    subst hae
    rw [part_scan] at hp
    have HP0 : Hid (p = scanE f n 0) := Lib.hid hp.symm
    clear hp h0
    go_enter Tryz.func89, Tryz.ntmps89
    go_wp2_with fail
    refine HBR.out.mono ?_
    rintro e w2 ⟨rfl, hb2⟩
    rw [HX.out] at hb2
    have z5' : w2.cell? ⟨N0, 5, none⟩ = some (.slice A n cap) := cell_of (HK.out w2 hb2) rfl
    have HB2 := Lib.hid hb2
    clear hb2 z1 z5 z6
    rw [HN0.out]
    go_wp2_with fail
    clear z5'
    go_loopw [38] (fun i wr => ∃ k : Nat, k ≤ n ∧ i = .int .i64 k ∧ Hid (p = scanE f n k) ∧ Below X.heap.size X wr) (fun i _ => n - (Go.RowKit.intOf i).toNat)
    case atStart => exact ⟨0, Nat.zero_le _, rfl, HP0, HB2.out⟩
    clear HP0 HB2 HBR
    obtain ⟨k, hk, rfl, hp, hb⟩ := hrel
    by_cases hlt' : k < n
    ·
     obtain ⟨x, hx⟩ : ∃ x, hd[k]? = some x := ⟨_, List.getElem?_eq_getElem (by rw [HN.out.1]; exact hlt')⟩
     obtain ⟨y, hy⟩ : ∃ y, rl[k]? = some y := ⟨_, List.getElem?_eq_getElem (by rw [HN.out.2]; exact hlt')⟩
     obtain ⟨b1, o1, rfl, -, hj1⟩ := at_int (HV.out wr hb) (by rw [HN.out.1]; omega)
     obtain ⟨b2, o2, rfl, -, hj2⟩ := at_str (HM.out wr hb) (by rw [HN.out.2]; omega)
     have u0 := hj1 k x hx
     have v0 := hj2 k y hy
     have hfk := HAT.out k x y hx hy
     have hsc := hp.out
     rw [scanE_step hlt'] at hsc
     have hsx := HS.out y (List.mem_of_getElem? hy)
     have hes := str_empty y
     obtain ⟨P, hP⟩ : ∃ s : ByteArray, (⟨y.toArray⟩ : ByteArray) = s := ⟨_, rfl⟩
     have hPl : P.data.toList = y := by rw [← hP]
     have hvn := fun W => refName_any P (by rw [Lib.size_eq, hPl]; exact hsx) W
     rw [hPl] at hvn
     rw [hP] at v0 hes
     have k0 : (0 : Int) ≤ (k : Int) := by omega
     have kn : (k : Int) < (n : Int) := by omega
     have HB := Lib.hid hb
     have HSS := Lib.hid (fun W (h : Below wr.heap.size wr W) => show W.cell? ⟨N0, 0, none⟩ = some va ∧ W.cell? ⟨N0, 1, none⟩ = some (.slice A1 nt cap1) ∧ W.cell? ⟨N0, 2, none⟩ = some (.slice A2 nx cap2) ∧ W.cell? ⟨N0, 3, none⟩ = some vr ∧ W.cell? ⟨N0, 4, none⟩ = some vn ∧ W.cell? ⟨N0, 5, none⟩ = some (.slice (some ⟨b1, o1, none⟩) n cap) ∧ W.cell? ⟨N0, 6, none⟩ = some (.slice (some ⟨b2, o2, none⟩) n capr) from (have hz := HK.out W (hb.trans (h.mono hb.size)); ⟨cell_of hz rfl, cell_of hz rfl, cell_of hz rfl, cell_of hz rfl, cell_of hz rfl, cell_of hz rfl, cell_of hz rfl⟩))
     have HUV := Lib.hid (fun W (h : Below wr.heap.size wr W) => And.intro (keepH u0 h) (keepH v0 h))
     have HT1 := Lib.hid (fun W (h : Below wr.heap.size wr W) => HTX.out x W (hb.trans (h.mono hb.size)))
     have HT2 := Lib.hid (fun W (h : Below wr.heap.size wr W) => HTX.out (k : Int) W (hb.trans (h.mono hb.size)))
     have HTKK := Lib.hid (And.intro (HTK.out x) (HTK.out (k : Int)))
     obtain ⟨t1, ht1⟩ : ∃ t, ta x = t := ⟨_, rfl⟩
     obtain ⟨t2, ht2⟩ : ∃ t, ta (k : Int) = t := ⟨_, rfl⟩
     rw [ht1, ht2] at hfk HTKK
     rw [ht1] at HT1
     rw [ht2] at HT2
     have HVN := Lib.hid hvn
     have HES := Lib.hid hes
     have HCY := Lib.hid (fun W (h : Below wr.heap.size wr W) => refCyclic_any (HV.out W (hb.trans (h.mono hb.size))) (by rw [HN.out.1]; exact HLM.out) k (by rw [HN.out.1]; exact hlt'))
     obtain ⟨cq, hcq⟩ : ∃ q, cyc hd (k : Int) = q := ⟨_, rfl⟩
     obtain ⟨a, ha⟩ : ∃ a, nameB y = a := ⟨_, rfl⟩
     rw [hcq] at HCY hfk
     rw [ha] at HVN hfk
     clear hj1 hj2 hx hy hP hPl hvn hsx hb ht1 ht2 hcq ha hp hes
     go_wp2_with fail
     by_cases hx1 : x = -1
     ·
      rw [if_neg (fun h => h.1 hx1)] at hfk
      have hxb : (x != -1) = false := by simp [hx1]
      clear hx1
      go_quiet (fail)
      obtain ⟨w3, hw3⟩ : ∃ W, wr.drewN nq = W := ⟨_, rfl⟩
      have HB3 : Hid (Below wr.heap.size wr w3) := Lib.hid (hw3 ▸ below_drewN (Below.refl _ _) nq)
      rw [hw3]
      clear hw3
      obtain ⟨d0, d1, d2, d3, d4, d5, d6⟩ := HSS.out w3 HB3.out
      obtain ⟨g0, g1⟩ := HUV.out w3 HB3.out
      by_cases hy : y = []
      ·
       have h2b : (P.toList == ([] : List UInt8)) = true := by rw [HES.out]; simpa using hy
       have h2c : (P.toList != ([] : List UInt8)) = false := by show (!(P.toList == ([] : List UInt8))) = false; rw [h2b]; rfl
       rw [if_neg (fun h => h.1 hy)] at hfk
       clear hy
       go_wp2_with fail
       refine (HCY.out _ HB3.out).mono ?_
       rintro e w5 ⟨rfl, hb5⟩
       have HB5 := Lib.hid (HB.out.trans ((HB3.out.trans (hb5.mono HB3.out.size)).mono HB.out.size))
       clear hb5 d0 d1 d2 d3 d4 d5 d6 g0 g1
       cases cq with
       | true =>
         rw [if_pos rfl] at hfk
         rw [hfk, if_neg (by decide)] at hsc
         subst hsc
         clear hfk
         go_wp2_with fail
         go_ret2
         exact ⟨rfl, HBX.out.trans (HB5.out.mono HBX.out.size)⟩
       | false =>
         rw [if_neg (by decide)] at hfk
         rw [hfk, if_pos rfl] at hsc
         have HSC2 := Lib.hid hsc
         clear hfk hsc
         go_wp2_with fail
         exact ⟨⟨k + 1, by omega, by go_num, HSC2, HB5.out⟩, by simp only [Go.RowKit.intOf]; omega⟩
      have h2b : (P.toList == ([] : List UInt8)) = false := by rw [HES.out]; simpa using hy
      have h2c : (P.toList != ([] : List UInt8)) = true := by show (!(P.toList == ([] : List UInt8))) = true; rw [h2b]; rfl
      cases a with
      | false =>
        rw [if_pos ⟨hy, rfl⟩] at hfk
        rw [hfk, if_neg (by decide)] at hsc
        subst hsc
        clear hy hfk
        go_wp2_with fail
        refine (HVN.out _).mono ?_
        rintro e w4 ⟨rfl, rfl⟩
        go_wp2_with fail
        go_ret2
        exact ⟨rfl, HBX.out.trans ((HB.out.trans (HB3.out.mono HB.out.size)).mono HBX.out.size)⟩
      | true =>
        rw [if_neg (fun h => by cases h.2)] at hfk
        clear hy
        go_wp2_with fail
        refine (HVN.out _).mono ?_
        rintro e w4 ⟨rfl, rfl⟩
        go_wp2_with fail
        refine (HCY.out _ HB3.out).mono ?_
        rintro e w5 ⟨rfl, hb5⟩
        have HB5 := Lib.hid (HB.out.trans ((HB3.out.trans (hb5.mono HB3.out.size)).mono HB.out.size))
        clear hb5 d0 d1 d2 d3 d4 d5 d6 g0 g1
        cases cq with
        | true =>
          rw [if_pos rfl] at hfk
          rw [hfk, if_neg (by decide)] at hsc
          subst hsc
          clear hfk
          go_wp2_with fail
          go_ret2
          exact ⟨rfl, HBX.out.trans (HB5.out.mono HBX.out.size)⟩
        | false =>
          rw [if_neg (by decide)] at hfk
          rw [hfk, if_pos rfl] at hsc
          have HSC2 := Lib.hid hsc
          clear hfk hsc
          go_wp2_with fail
          exact ⟨⟨k + 1, by omega, by go_num, HSC2, HB5.out⟩, by simp only [Go.RowKit.intOf]; omega⟩
     have hxb : (x != -1) = true := by simp [hx1]
     by_cases hx2 : x < 0
     ·
      rw [if_pos ⟨hx1, fun h => by have h1 := HTKK.out.1; have h2 := HTKK.out.2.1 ⟨by omega, by have := HNT.out; omega⟩; rw [h] at h1; have := h1.2 h2; omega⟩] at hfk
      go_quiet (fail)
      obtain ⟨w3, hw3⟩ : ∃ W, wr.drewN nq = W := ⟨_, rfl⟩
      have HB3 : Hid (Below wr.heap.size wr w3) := Lib.hid (hw3 ▸ below_drewN (Below.refl _ _) nq)
      rw [hw3]
      clear hw3
      rw [hfk, if_neg (by decide)] at hsc
      subst hsc
      clear hfk
      go_wp2_with fail
      go_ret2
      exact ⟨rfl, HBX.out.trans ((HB.out.trans (HB3.out.mono HB.out.size)).mono HBX.out.size)⟩
     by_cases hx3 : (n : Int) ≤ x
     ·
      rw [if_pos ⟨hx1, fun h => by have h1 := HTKK.out.1; have h2 := HTKK.out.2.1 ⟨by omega, by have := HNT.out; omega⟩; rw [h] at h1; have := h1.2 h2; have := HNT.out; omega⟩] at hfk
      go_quiet (fail)
      obtain ⟨w3, hw3⟩ : ∃ W, wr.drewN nq = W := ⟨_, rfl⟩
      have HB3 : Hid (Below wr.heap.size wr w3) := Lib.hid (hw3 ▸ below_drewN (Below.refl _ _) nq)
      rw [hw3]
      clear hw3
      rw [hfk, if_neg (by decide)] at hsc
      subst hsc
      clear hfk
      go_wp2_with fail
      go_ret2
      exact ⟨rfl, HBX.out.trans ((HB.out.trans (HB3.out.mono HB.out.size)).mono HBX.out.size)⟩
     obtain ⟨d0, d1, d2, d3, d4, d5, d6⟩ := HSS.out wr (Below.refl _ _)
     obtain ⟨q, hq⟩ : ∃ q, (t1 != t2) = q := ⟨_, rfl⟩
     go_region_held3 (fun w' => w'.cell? ⟨N0, 0, none⟩ = some va ∧ w'.cell? ⟨N0, 1, none⟩ = some (.slice A1 nt cap1) ∧ w'.cell? ⟨N0, 2, none⟩ = some (.slice A2 nx cap2) ∧ w'.cell? ⟨N0, 3, none⟩ = some vr ∧ w'.cell? ⟨N0, 4, none⟩ = some vn ∧ w'.cell? ⟨N0, 5, none⟩ = some (.slice (some ⟨b1, o1, none⟩) n cap) ∧ w'.cell? ⟨N0, 6, none⟩ = some (.slice (some ⟨b2, o2, none⟩) n capr))
      (first
       | go_keep
       | (exact HSS.out _ ((Below.refl _ wr).drew.trans hb3))
       | (exact HSS.out _ (((Below.refl _ wr).drew.trans hb3).trans (hb4.mono ((Below.refl _ wr).drew.trans hb3).size)))
       | fail)
      ((first
        | (go_at_call 125; have hx3 : Below wr.heap.size wr w3 := (Below.refl _ wr).drew.trans hb3; (with_reducible refine (HT2.out _ hx3).mono ?_); rintro e w4 ⟨rfl, hb4⟩)
        | (go_at_call 125; have hx3 : Below wr.heap.size wr w3 := (Below.refl _ wr).drew.trans hb3; (with_reducible refine (HT1.out _ hx3).mono ?_); rintro e w4 ⟨rfl, hb4⟩)
        | (go_at_call 125; (with_reducible refine (HT1.out _ (Below.refl _ wr).drew).mono ?_); rintro e w3 ⟨rfl, hb3⟩)
        | (go_at_call 125; (with_reducible refine (HT2.out _ (Below.refl _ wr).drew).mono ?_); rintro e w3 ⟨rfl, hb3⟩)
        | fail))
     have HB3 := Lib.hid (hx3.trans (hb4.mono hx3.size))
     obtain ⟨w9, hw9⟩ : ∃ W, W = w4 := ⟨_, rfl⟩
     subst hw9
     clear hb3 hb4 hx3 d0 d1 d2 d3 d4 d5 d6
     cases q with
     | true =>
       rw [if_pos ⟨hx1, by simpa using hq⟩] at hfk
       clear hq
       rw [hfk, if_neg (by decide)] at hsc
       subst hsc
       clear hfk
       go_wp2_with fail
       go_ret2
       exact ⟨rfl, HBX.out.trans ((HB.out.trans (HB3.out.mono HB.out.size)).mono HBX.out.size)⟩
     | false =>
       rw [if_neg (fun h => h.2 (by simpa using hq))] at hfk
       clear hq
       obtain ⟨d0, d1, d2, d3, d4, d5, d6⟩ := HSS.out w9 HB3.out
       obtain ⟨g0, g1⟩ := HUV.out w9 HB3.out
       by_cases hy : y = []
       ·
        have h2b : (P.toList == ([] : List UInt8)) = true := by rw [HES.out]; simpa using hy
        have h2c : (P.toList != ([] : List UInt8)) = false := by show (!(P.toList == ([] : List UInt8))) = false; rw [h2b]; rfl
        rw [if_neg (fun h => h.1 hy)] at hfk
        clear hy
        go_wp2_with fail
        refine (HCY.out _ HB3.out).mono ?_
        rintro e w5 ⟨rfl, hb5⟩
        have HB5 := Lib.hid (HB.out.trans ((HB3.out.trans (hb5.mono HB3.out.size)).mono HB.out.size))
        clear hb5 d0 d1 d2 d3 d4 d5 d6 g0 g1
        cases cq with
        | true =>
          rw [if_pos rfl] at hfk
          rw [hfk, if_neg (by decide)] at hsc
          subst hsc
          clear hfk
          go_wp2_with fail
          go_ret2
          exact ⟨rfl, HBX.out.trans (HB5.out.mono HBX.out.size)⟩
        | false =>
          rw [if_neg (by decide)] at hfk
          rw [hfk, if_pos rfl] at hsc
          have HSC2 := Lib.hid hsc
          clear hfk hsc
          go_wp2_with fail
          exact ⟨⟨k + 1, by omega, by go_num, HSC2, HB5.out⟩, by simp only [Go.RowKit.intOf]; omega⟩
       have h2b : (P.toList == ([] : List UInt8)) = false := by rw [HES.out]; simpa using hy
       have h2c : (P.toList != ([] : List UInt8)) = true := by show (!(P.toList == ([] : List UInt8))) = true; rw [h2b]; rfl
       cases a with
       | false =>
         rw [if_pos ⟨hy, rfl⟩] at hfk
         rw [hfk, if_neg (by decide)] at hsc
         subst hsc
         clear hy hfk
         go_wp2_with fail
         refine (HVN.out _).mono ?_
         rintro e w4 ⟨rfl, rfl⟩
         go_wp2_with fail
         go_ret2
         exact ⟨rfl, HBX.out.trans ((HB.out.trans (HB3.out.mono HB.out.size)).mono HBX.out.size)⟩
       | true =>
         rw [if_neg (fun h => by cases h.2)] at hfk
         clear hy
         go_wp2_with fail
         refine (HVN.out _).mono ?_
         rintro e w4 ⟨rfl, rfl⟩
         go_wp2_with fail
         refine (HCY.out _ HB3.out).mono ?_
         rintro e w5 ⟨rfl, hb5⟩
         have HB5 := Lib.hid (HB.out.trans ((HB3.out.trans (hb5.mono HB3.out.size)).mono HB.out.size))
         clear hb5 d0 d1 d2 d3 d4 d5 d6 g0 g1
         cases cq with
         | true =>
           rw [if_pos rfl] at hfk
           rw [hfk, if_neg (by decide)] at hsc
           subst hsc
           clear hfk
           go_wp2_with fail
           go_ret2
           exact ⟨rfl, HBX.out.trans (HB5.out.mono HBX.out.size)⟩
         | false =>
           rw [if_neg (by decide)] at hfk
           rw [hfk, if_pos rfl] at hsc
           have HSC2 := Lib.hid hsc
           clear hfk hsc
           go_wp2_with fail
           exact ⟨⟨k + 1, by omega, by go_num, HSC2, HB5.out⟩, by simp only [Go.RowKit.intOf]; omega⟩
    obtain rfl : k = n := by omega
    have hsc := hp.out
    rw [scanE_end (by omega)] at hsc
    subst hsc
    have HB := Lib.hid hb
    clear hb hp
    go_wp2_with fail
    go_ret2
    exact ⟨rfl, HBX.out.trans (HB.out.mono HBX.out.size)⟩
 rw [if_pos e1] at hae
 subst hae
 rw [part_whole (by decide)] at hp
 subst hp
 have e1i : ((n : Int) != (nr : Int)) = true := by simp; omega
 clear e1
 go_enter Tryz.func89, Tryz.ntmps89
 go_wp2_with fail
 go_ret2
 exact ⟨rfl, HX.out ▸ HBX.out⟩
end Go.Proofs.YtebmfkkkhmjkoaaGreat
