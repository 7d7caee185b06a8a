/-
  WALKS over package corpus: the validator: heads and relations.
-/
import Derived.Test.YtglafkonpbcegaaGreatQgA
import Derived.Test.YtglafkonpbcegaaGreatQkP
import Derived.Deep.RegionHeld3
import Derived.Deep.DrawnRows
namespace Go.Proofs.YtglafkonpbcegaaGreat
open Go.RowKit Go.Shelf Go.Lib
set_option linter.unusedVariables false

set_option maxHeartbeats 400000 in
theorem headless1_any (x : Int) (W : World) : Calls Tryz.prog 149 (#[.int .i64 x] ++ #[]) W fun e w' => e = .returned (.bool (!decide (x = -1))) ∧ Below W.heap.size W w' := by
  have hq : (!decide (x = -1)) = (x != -1) := by rw [Bool.eq_iff_iff]; simp
  rw [hq]
  clear hq
  go_enter Tryz.func149, Tryz.ntmps149
  go_wp2_with fail
  go_ret
  exact ⟨rfl, Below.refl _ _⟩
theorem str_empty (x : Bs) : ((⟨x.toArray⟩ : ByteArray).toList == ([] : List UInt8)) = decide (x = []) := by
  rw [Lib.toList_data, Bool.eq_iff_iff]
  simp

set_option maxHeartbeats 400000 in
theorem headless2_any (x : Bs) (W : World) : Calls Tryz.prog 151 (#[.string ⟨x.toArray⟩] ++ #[]) W fun e w' => e = .returned (.bool (!decide (x = []))) ∧ Below W.heap.size W w' := by
  have he := str_empty x
  rw [← he]
  obtain ⟨P, hP⟩ : ∃ s : ByteArray, (⟨x.toArray⟩ : ByteArray) = s := ⟨_, rfl⟩
  rw [hP]
  obtain ⟨q, hq⟩ : ∃ q, (P.toList == ([] : List UInt8)) = q := ⟨_, rfl⟩
  have hne : (P.toList != ([] : List UInt8)) = !q := by rw [← hq]; rfl
  rw [hq]
  clear he hP
  go_enter Tryz.func151, Tryz.ntmps151
  go_wp2_with fail
  go_ret
  exact ⟨by rw [← hq]; rfl, Below.refl _ _⟩
theorem all_any {α : Type} (p : α → Bool) (l : List α) : (!(l.any fun x => !p x)) = l.all p := by
  induction l with
  | nil => rfl
  | cons a l ih => rw [List.any_cons, List.all_cons, ← ih]; cases p a <;> simp

set_option maxRecDepth 100000 in
set_option maxHeartbeats 2000000 in
theorem headless_any {w : World} (s : Sv) {h : List Int} {r : Fs} (hh : Rows 1 EInt w s.vh h) (hr : Rows 1 EStr w s.vl r) (hl : h.length ≤ maxLen) (hl2 : r.length ≤ maxLen) :
    Calls Tryz.prog 114 #[.agg s.arr] w fun e w' => e = .returned (.bool (bare h r)) ∧ Below w.heap.size w w' := by
  have h1 := fun W (hb : Below w.heap.size w W) => containsFunc_int stays_int (hh.below stays_int hb) hl 149 #[] (enters_of Tryz.func149 (by kernel_rfl) rfl) (fun x => !decide (x = -1)) (by
    intro W' x u0 _ _ hE
    have hE : [u0] = [.int .i64 x] := hE
    cases hE
    exact headless1_any x W')
  have h2 := fun W (hb : Below w.heap.size w W) => containsFunc_str stays_str (hr.below stays_str hb) hl2 151 #[] (enters_of Tryz.func151 (by kernel_rfl) rfl) (fun x => !decide (x = [])) (by
    intro W' x u0 _ _ hE
    have hE : [u0] = [.string ⟨x.toArray⟩] := hE
    cases hE
    exact headless2_any x W')
  have hb : bare h r = ((!(h.any fun x => !decide (x = -1))) && !(r.any fun x => !decide (x = []))) := by
    unfold bare
    rw [all_any (fun x => decide (x = -1)) h, all_any (fun x => decide (x = [])) r]
  obtain ⟨q1, hq1⟩ : ∃ q, (h.any fun x => !decide (x = -1)) = q := ⟨_, rfl⟩
  obtain ⟨q2, hq2⟩ : ∃ q, (r.any fun x => !decide (x = [])) = q := ⟨_, rfl⟩
  rw [hq1, hq2] at hb
  simp only [hq1] at h1
  simp only [hq2] at h2
  rw [hb]
  obtain ⟨A, cap, hvh, -⟩ := hh.form
  obtain ⟨A2, cap2, hvl, -⟩ := hr.form
  obtain ⟨va, vt, vx, vr, vn, vh, vl⟩ := s
  simp only at hvh hvl h1 h2
  subst hvh hvl
  obtain ⟨n1, hn1⟩ : ∃ n, h.length = n := ⟨_, rfl⟩
  obtain ⟨n2, hn2⟩ : ∃ n, r.length = n := ⟨_, rfl⟩
  simp only [hn1] at h1
  simp only [hn2] at h2
  simp only [Sv.arr, hn1, hn2]
  obtain ⟨X, hX⟩ : ∃ X, w.alloc (.cells #[va, vt, vx, vr, vn, .slice A n1 cap, .slice A2 n2 cap2] 30) = X := ⟨_, rfl⟩
  have hbX : Below w.heap.size w X := by rw [← hX]; exact below_box w _
  obtain ⟨N0, hN0⟩ : ∃ N0, w.heap.size = N0 := ⟨_, rfl⟩
  have hR : X.heap[N0]? = some (.cells #[va, vt, vx, vr, vn, .slice A n1 cap, .slice A2 n2 cap2] 30 (0, 0)) := by rw [← hX, ← hN0]; exact block_new w _
  have g5 : X.cell? ⟨N0, 5, none⟩ = some (.slice A n1 cap) := cell_of hR rfl
  have HR := Lib.hid hR
  have HX := Lib.hid hX
  have HN0 := Lib.hid hN0
  have HBX := Lib.hid hbX
  have H1 := Lib.hid (h1 X hbX)
  have H2 := Lib.hid h2
  clear h1 h2 hq1 hq2 hb hX hbX hN0 hR hh hr hn1 hn2 hl hl2
  cases q1 with
  | true =>
    go_enter Tryz.func114, Tryz.ntmps114
    go_wp2_with fail
    rw [HX.out, HN0.out]
    go_wp2_with fail
    refine H1.out.mono ?_
    rintro e w1 ⟨rfl, hb1⟩
    have HB1 := Lib.hid (HBX.out.trans (hb1.mono HBX.out.size))
    clear hb1
    go_wp2_with fail
    go_ret
    exact ⟨rfl, HN0.out ▸ HB1.out⟩
  | false =>
    go_enter Tryz.func114, Tryz.ntmps114
    go_wp2_with fail
    rw [HX.out, HN0.out]
    go_wp2_with fail
    refine H1.out.mono ?_
    rintro e w1 ⟨rfl, hb1⟩
    have HB1 := Lib.hid (HBX.out.trans (hb1.mono HBX.out.size))
    have g6 : w1.cell? ⟨N0, 6, none⟩ = some (.slice A2 n2 cap2) := cell_of (block_below HR.out hb1 (Array.getElem?_eq_some_iff.1 HR.out).1) rfl
    clear hb1 g5
    go_wp2_with fail
    refine (H2.out _ HB1.out).mono ?_
    rintro e w2 ⟨rfl, hb2⟩
    have HB2 := Lib.hid (HB1.out.trans (hb2.mono HB1.out.size))
    clear hb2
    go_wp2_with fail
    go_ret
    exact ⟨rfl, HN0.out ▸ HB2.out⟩
/-- The marks of the cyclic tokens in memory. -/
def CycAt (W : World) (base : Nat) (yv : Value) (l : List Bool) : Prop := ∃ A cap, yv = .slice A l.length cap ∧ l.length ≤ cap ∧ (0 < l.length → ∃ b, A = some ⟨b, 0, none⟩ ∧ base ≤ b ∧ W.heap[b]? = some (.cells (boolRow l) 4 (0, 0)))
theorem CycAt.below {W W' : World} {base : Nat} {yv : Value} {l : List Bool} (h : CycAt W base yv l) (hb : Below W.heap.size W W') : CycAt W' base yv l := by
  obtain ⟨A, cap, h1, h2, h3⟩ := h
  refine ⟨A, cap, h1, h2, fun h0 => ?_⟩
  obtain ⟨b, e1, e2, e3⟩ := h3 h0
  exact ⟨b, e1, e2, block_below e3 hb (Array.getElem?_eq_some_iff.1 e3).1⟩
def cycL (h : List Int) : List Bool := (List.range h.length).map fun (i : Nat) => cyc h (i : Int)
theorem cycL_len (h : List Int) : (cycL h).length = h.length := by simp [cycL]
theorem heads_end {W w5 : World} {B N n cc z : Nat} {s : Sv} {o p y : Value} {cA : Option Addr} {L : List Bool} (hV : VAt w5 B s o p y) (hB : Below W.heap.size W w5) (hl : B < W.heap.size) (hz : N ≤ z) (hL : L.length = n) (hcl : n ≤ cc)
    (hcb : 0 < n → ∃ b, cA = some ⟨b, 0, none⟩ ∧ z ≤ b ∧ w5.heap[b]? = some (.cells (boolRow L) 4 (0, 0))) (hN : W.heap.size = N) :
    Below B W (w5.setCell ⟨B, 9, none⟩ (.slice cA n cc)) ∧ KeepP W (w5.setCell ⟨B, 9, none⟩ (.slice cA n cc)) ∧ VAt (w5.setCell ⟨B, 9, none⟩ (.slice cA n cc)) B s o p (.slice cA n cc) ∧ CycAt (w5.setCell ⟨B, 9, none⟩ (.slice cA n cc)) (B + 1) (.slice cA n cc) L := by
  refine ⟨(hB.mono (by omega)).trans ⟨rfl, rfl, rfl, by simp [World.setCell], fun k hk => Below.heap_setCell _ _ _ k (by show k ≠ B; omega)⟩, (keep_below hB).trans (keep_set hV), set_of hV _, cA, cc, by rw [hL], by rw [hL]; exact hcl, fun h0 => ?_⟩
  obtain ⟨b, e1, e2, e3⟩ := hcb (by omega)
  exact ⟨b, e1, by omega, block_other _ e3 (by omega)⟩
/-- What the check of the heads as a whole answers and leaves behind. -/
def HdsV (c : Cor) (s : Sv) (o p : Value) (B : Nat) (W : World) (r : Ending) (w' : World) : Prop :=
  r = .returned (.int .i64 (headsE c : Nat)) ∧ Below B W w' ∧ KeepP W w' ∧ (headsE c = 0 → ∃ yv, VAt w' B s o p yv ∧ CycAt w' (B + 1) yv (cycL c.heads))

set_option maxRecDepth 100000 in
set_option maxHeartbeats 4000000 in
theorem vHeads {c : Cor} {s : Sv} {o p y : Value} {B : Nat} {W : World} (hV : VAt W B s o p y) (h : CorAt W s c) (hl1 : c.heads.length ≤ 1000000) (hl2 : c.rels.length ≤ 1000000) (hl3 : c.toks.length ≤ 1000000) :
    Calls Tryz.prog 84 #[.pointer (some ⟨B, 0, none⟩)] W (HdsV c s o p B W) := by
  obtain ⟨c0, c1, c2, c3, c4, c5, c6, -, -, c9⟩ := hV.c
  have hBl := hV.lt
  have hhl := fun W' (hb : Below W.heap.size W W') => headless_any s (h.h.below stays_int hb) (h.l.below stays_str hb) (by unfold maxLen; omega) (by unfold maxLen; omega)
  have hcy := fun W' (hb : Below W.heap.size W W') => cycles_any (h.h.below stays_int hb) hl1
  obtain ⟨A, cap, hvh, -⟩ := h.h.form
  obtain ⟨A2, cap2, hvl, -⟩ := h.l.form
  obtain ⟨A3, cap3, hvt, -⟩ := h.t.form
  obtain ⟨Aa, ca, hva, -⟩ := h.a.form
  obtain ⟨Ax, cx, hvx, -⟩ := h.x.form
  obtain ⟨Ar, cr, hvr, -⟩ := h.r.form
  obtain ⟨An, cn, hvn, -⟩ := h.n.form
  have HVW := Lib.hid (fun W' (hb : Below W.heap.size W W') => hV.below hb)
  obtain ⟨va, vt, vx, vr, vn, vh, vl⟩ := s
  simp only at hvh hvl hvt hva hvx hvr hvn c0 c1 c2 c3 c4 c5 c6
  subst hvh hvl hvt hva hvx hvr hvn
  have hE : headsE c = if c.heads.length ≠ c.rels.length then 15 else if c.heads.length ≠ 0 ∧ c.heads.length ≠ c.toks.length then 15 else if c.heads.length ≠ 0 ∧ bare c.heads c.rels then 14 else 0 := rfl
  obtain ⟨r0, hr0⟩ : ∃ r0, headsE c = r0 := ⟨_, rfl⟩
  rw [hr0] at hE
  obtain ⟨bb, hbb⟩ : ∃ bb, bare c.heads c.rels = bb := ⟨_, rfl⟩
  rw [hbb] at hE
  simp only [hbb, Sv.arr] at hhl
  have hlen := cycL_len c.heads
  obtain ⟨L, hL⟩ : ∃ L, cycL c.heads = L := ⟨_, rfl⟩
  have hL' : ((List.range c.heads.length).map fun (i : Nat) => cyc c.heads (i : Int)) = L := hL
  simp only [hL'] at hcy
  have hgoal : HdsV c ⟨.slice Aa c.attrs.length ca, .slice A3 c.toks.length cap3, .slice Ax c.texts.length cx, .slice Ar c.regs.length cr, .slice An c.nodes.length cn, .slice A c.heads.length cap, .slice A2 c.rels.length cap2⟩ o p B W = fun r w' => r = .returned (.int .i64 (r0 : Nat)) ∧ Below B W w' ∧ KeepP W w' ∧ (r0 = 0 → ∃ yv, VAt w' B ⟨.slice Aa c.attrs.length ca, .slice A3 c.toks.length cap3, .slice Ax c.texts.length cx, .slice Ar c.regs.length cr, .slice An c.nodes.length cn, .slice A c.heads.length cap, .slice A2 c.rels.length cap2⟩ o p yv ∧ CycAt w' (B + 1) yv L) := by
    funext r w'
    unfold HdsV
    rw [hr0, hL]
  rw [hgoal]
  rw [hL] at hlen
  obtain ⟨n1, hn1⟩ : ∃ n, c.heads.length = n := ⟨_, rfl⟩
  obtain ⟨n2, hn2⟩ : ∃ n, c.rels.length = n := ⟨_, rfl⟩
  obtain ⟨n3, hn3⟩ : ∃ n, c.toks.length = n := ⟨_, rfl⟩
  obtain ⟨n4, hn4⟩ : ∃ n, c.attrs.length = n := ⟨_, rfl⟩
  obtain ⟨n5, hn5⟩ : ∃ n, c.texts.length = n := ⟨_, rfl⟩
  obtain ⟨n6, hn6⟩ : ∃ n, c.regs.length = n := ⟨_, rfl⟩
  obtain ⟨n7, hn7⟩ : ∃ n, c.nodes.length = n := ⟨_, rfl⟩
  simp only [hn1, hn2, hn3, hn4, hn5, hn6, hn7] at *
  obtain ⟨X, hX⟩ : ∃ X, W.alloc (.cells #[.slice Aa n4 ca, .slice A3 n3 cap3, .slice Ax n5 cx, .slice Ar n6 cr, .slice An n7 cn, .slice A n1 cap, .slice A2 n2 cap2] 30) = X := ⟨_, rfl⟩
  have hbX : Below W.heap.size W X := by rw [← hX]; exact below_box W _
  obtain ⟨N0, hN0⟩ : ∃ N0, W.heap.size = N0 := ⟨_, rfl⟩
  have hR : X.heap[N0]? = some (.cells #[.slice Aa n4 ca, .slice A3 n3 cap3, .slice Ax n5 cx, .slice Ar n6 cr, .slice An n7 cn, .slice A n1 cap, .slice A2 n2 cap2] 30 (0, 0)) := by rw [← hX, ← hN0]; exact block_new W _
  have g0 : X.cell? ⟨N0, 0, none⟩ = some (.slice Aa n4 ca) := cell_of hR rfl
  have g1 : X.cell? ⟨N0, 1, none⟩ = some (.slice A3 n3 cap3) := cell_of hR rfl
  have g2 : X.cell? ⟨N0, 2, none⟩ = some (.slice Ax n5 cx) := cell_of hR rfl
  have g3 : X.cell? ⟨N0, 3, none⟩ = some (.slice Ar n6 cr) := cell_of hR rfl
  have g4 : X.cell? ⟨N0, 4, none⟩ = some (.slice An n7 cn) := cell_of hR rfl
  have g5 : X.cell? ⟨N0, 5, none⟩ = some (.slice A n1 cap) := cell_of hR rfl
  have g6 : X.cell? ⟨N0, 6, none⟩ = some (.slice A2 n2 cap2) := cell_of hR rfl
  have HR := Lib.hid hR
  have HX := Lib.hid hX
  have HN0 := Lib.hid hN0
  have HBX := Lib.hid hbX
  have HHL := Lib.hid hhl
  have HCY := Lib.hid hcy
  have HE := Lib.hid hE
  have HBL := Lib.hid hBl
  have HLEN := Lib.hid hlen
  clear hhl hcy hE hX hbX hN0 hR h hV hgoal hL hL' hr0 hbb hn1 hn2 hn3 hn4 hn5 hn6 hn7 hlen c9 hBl
  have hfin : ∀ w4 : World, Below W.heap.size W w4 → r0 = 0 → True := fun _ _ _ => trivial
  clear hfin
  by_cases h1 : n1 = n2
  · subst h1
    by_cases h2 : n1 = 0
    · subst h2
      have HH : Hid (r0 = 0) := Lib.hid (by rw [HE.out]; simp)
      go_enter Tryz.func84, Tryz.ntmps84
      go_wp2_with fail
      rw [HX.out, HN0.out]
      clear c0 c1 c2 c3 c4 c5 c6
      go_wp2_with fail
      refine (HCY.out X HBX.out).mono ?_
      rintro e w5 ⟨⟨cA, cc, rfl, hcl, hcb⟩, hb5⟩
      have hB5 := HBX.out.trans (hb5.mono HBX.out.size)
      have hV5 := HVW.out w5 hB5
      have e9 : w5.cell? ⟨B, 9, none⟩ = some y := cell_of hV5 rfl
      have f9 : w5.frozen? ⟨B, 9, none⟩ = false := frozen_of hV5
      have HF := Lib.hid (heads_end hV5 hB5 HBL.out HBX.out.size HLEN.out hcl hcb rfl)
      clear hb5 hB5 hV5 hcb
      go_wp2_with fail
      go_ret
      exact ⟨by rw [HH.out]; rfl, HF.out.1, HF.out.2.1, fun _ => ⟨_, HF.out.2.2⟩⟩
    · have h2i : (0 : Int) < (n1 : Int) := by omega
      by_cases h3 : n1 = n3
      · subst h3
        cases bb with
        | true =>
          have HH : Hid (r0 = 14) := Lib.hid (by rw [HE.out]; simp [h2])
          clear h2
          go_enter Tryz.func84, Tryz.ntmps84
          go_wp2_with fail
          rw [HX.out, HN0.out]
          clear c0 c1 c2 c3 c4 c5 c6
          go_wp2_with fail
          refine (HHL.out X HBX.out).mono ?_
          rintro e w4 ⟨rfl, hb4⟩
          have HB4 := Lib.hid (HBX.out.trans (hb4.mono HBX.out.size))
          clear hb4
          go_wp2_with fail
          go_ret
          exact ⟨by rw [HH.out]; rfl, HB4.out.mono (by have := HN0.out; have := HBL.out; omega), keep_below HB4.out, fun h => by rw [HH.out] at h; cases h⟩
        | false =>
          have HH : Hid (r0 = 0) := Lib.hid (by rw [HE.out]; simp)
          clear h2
          go_enter Tryz.func84, Tryz.ntmps84
          go_wp2_with fail
          rw [HX.out, HN0.out]
          clear c0 c1 c2 c3 c4 c5 c6
          go_wp2_with fail
          refine (HHL.out X HBX.out).mono ?_
          rintro e w4 ⟨rfl, hb4⟩
          have HB4 := Lib.hid (HBX.out.trans (hb4.mono HBX.out.size))
          have g5 : w4.cell? ⟨N0, 5, none⟩ = some (.slice A n1 cap) := cell_of (block_below HR.out hb4 (Array.getElem?_eq_some_iff.1 HR.out).1) rfl
          clear hb4 g0 g1 g2 g3 g4 g6
          go_wp2_with fail
          refine (HCY.out w4 HB4.out).mono ?_
          rintro e w5 ⟨⟨cA, cc, rfl, hcl, hcb⟩, hb5⟩
          have hB5 := HB4.out.trans (hb5.mono HB4.out.size)
          have hV5 := HVW.out w5 hB5
          have e9 : w5.cell? ⟨B, 9, none⟩ = some y := cell_of hV5 rfl
          have f9 : w5.frozen? ⟨B, 9, none⟩ = false := frozen_of hV5
          have HF := Lib.hid (heads_end hV5 hB5 HBL.out HB4.out.size HLEN.out hcl hcb rfl)
          clear hb5 hB5 hV5 hcb
          go_wp2_with fail
          go_ret
          exact ⟨by rw [HH.out]; rfl, HF.out.1, HF.out.2.1, fun _ => ⟨_, HF.out.2.2⟩⟩
      · have HH : Hid (r0 = 15) := Lib.hid (by rw [HE.out]; simp [h2, h3])
        have h3i : ((n1 : Int) != (n3 : Int)) = true := by simp; omega
        clear h3 h2
        go_enter Tryz.func84, Tryz.ntmps84
        go_wp2_with fail
        rw [HX.out, HN0.out]
        clear c0 c1 c2 c3 c4 c5 c6
        go_wp2_with fail
        go_ret
        exact ⟨by rw [HH.out]; rfl, HBX.out.mono (by have := HN0.out; have := HBL.out; omega), keep_below HBX.out, fun h => by rw [HH.out] at h; cases h⟩
  · have HH : Hid (r0 = 15) := Lib.hid (by rw [HE.out, if_pos h1])
    have h1i : ((n1 : Int) != (n2 : Int)) = true := by simp; omega
    clear h1
    go_enter Tryz.func84, Tryz.ntmps84
    go_wp2_with fail
    rw [HX.out, HN0.out]
    clear c0 c1 c2 c3 c4 c5 c6
    go_wp2_with fail
    go_ret
    exact ⟨by rw [HH.out]; rfl, HBX.out.mono (by have := HN0.out; have := HBL.out; omega), keep_below HBX.out, fun h => by rw [HH.out] at h; cases h⟩
end Go.Proofs.YtglafkonpbcegaaGreat
