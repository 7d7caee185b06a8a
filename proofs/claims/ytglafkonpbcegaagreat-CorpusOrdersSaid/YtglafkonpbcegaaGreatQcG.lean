/-
  WALKS over package corpus: the validator: texts.
-/
import Derived.Test.YtglafkonpbcegaaGreatQcF
namespace Go.Proofs.YtglafkonpbcegaaGreat
open Go.RowKit Go.Shelf Go.Lib
set_option linter.unusedVariables false

set_option maxRecDepth 100000 in
set_option maxHeartbeats 1000000 in
theorem vTexts {c : Cor} {s : Sv} {o p y : Value} {B : Nat} {W : World} (hV : VAt W B s o p y) (h : CorAt W s c) (hl1 : c.toks.length ≤ maxLen) (hl2 : c.texts.length ≤ maxLen) :
    Calls Tryz.prog 78 #[.pointer (some ⟨B, 0, none⟩)] W fun r w' => r = .returned (.int .i64 (textsE c : Nat)) ∧ Below W.heap.size W w' := by
  obtain ⟨-, c1, c2, -⟩ := hV.c
  obtain ⟨A, cap, hvt, -⟩ := h.t.form
  obtain ⟨A2, cap2, hvx, -⟩ := h.x.form
  rw [hvt] at c1
  rw [hvx] at c2
  unfold textsE
  obtain ⟨n, hn⟩ : ∃ n, c.toks.length = n := ⟨_, rfl⟩
  obtain ⟨m, hm⟩ : ∃ m, c.texts.length = m := ⟨_, rfl⟩
  rw [hn] at c1 hl1 ⊢
  rw [hm] at c2 hl2 ⊢
  have HL := Lib.hid (limited_text A2 m cap2 64 W)
  unfold maxLen at hl1 hl2
  clear hn hm hvt hvx h hV
  by_cases h64 : 64 < m
  · rw [if_pos h64] at HL ⊢
    clear h64
    go_enter Tryz.func78, Tryz.ntmps78
    go_wp2_with fail
    refine HL.out.mono ?_
    rintro r w1 ⟨rfl, rfl⟩
    go_wp2_with fail
    go_ret
    exact ⟨rfl, Below.refl _ _⟩
  · rw [if_neg h64] at HL ⊢
    clear h64
    by_cases h0 : m = 0 <;> by_cases h1 : n = 0
    · subst h0; subst h1
      rw [if_neg (by decide)]
      go_enter Tryz.func78, Tryz.ntmps78
      go_wp2_with fail
      refine HL.out.mono ?_
      rintro r w1 ⟨rfl, rfl⟩
      go_wp2_with fail
      go_quiet (fail)
      go_wp2_with fail
      go_ret
      exact ⟨rfl, below_drewN (Below.refl _ _) _⟩
    · subst h0
      rw [if_pos (by simp [h1])]
      have h1i : ((n : Int) == 0) = false := by simp; omega
      clear h1
      go_enter Tryz.func78, Tryz.ntmps78
      go_wp2_with fail
      refine HL.out.mono ?_
      rintro r w1 ⟨rfl, rfl⟩
      go_wp2_with fail
      go_quiet (fail)
      go_wp2_with fail
      go_ret
      exact ⟨rfl, below_drewN (Below.refl _ _) _⟩
    · subst h1
      rw [if_pos (by simp [h0])]
      have h1i : ((m : Int) == 0) = false := by simp; omega
      clear h0
      go_enter Tryz.func78, Tryz.ntmps78
      go_wp2_with fail
      refine HL.out.mono ?_
      rintro r w1 ⟨rfl, rfl⟩
      go_wp2_with fail
      go_quiet (fail)
      go_wp2_with fail
      go_ret
      exact ⟨rfl, below_drewN (Below.refl _ _) _⟩
    · rw [if_neg (by simp [h0, h1])]
      have h1i : ((m : Int) == 0) = false := by simp; omega
      have h2i : ((n : Int) == 0) = false := by simp; omega
      clear h0 h1
      go_enter Tryz.func78, Tryz.ntmps78
      go_wp2_with fail
      refine HL.out.mono ?_
      rintro r w1 ⟨rfl, rfl⟩
      go_wp2_with fail
      go_quiet (fail)
      go_wp2_with fail
      go_ret
      exact ⟨rfl, below_drewN (Below.refl _ _) _⟩
theorem find_before {l : List Ex} {i : Nat} {x : Ex} (hx : l[i]? = some x) : decide (findZ (fun t => decide (t.name = x.name)) l < (i : Int)) = (l.take i).any (fun y => decide (y.name = x.name)) := by
  rw [Bool.eq_iff_iff, decide_eq_true_iff, List.any_eq_true]
  rcases findZ_spec (fun t : Ex => decide (t.name = x.name)) l with ⟨_, h⟩ | ⟨k, z, hk, hz, hj, e⟩
  · have := h x (List.mem_of_getElem? hx)
    simp at this
  · rw [e]
    constructor
    · intro h
      refine ⟨z, ?_, hz⟩
      obtain ⟨hkl, rfl⟩ := List.getElem?_eq_some_iff.1 hk
      exact List.mem_take_iff_getElem.2 ⟨k, by omega, rfl⟩
    · rintro ⟨z2, hz2, hp⟩
      obtain ⟨j, hj2, rfl⟩ := List.mem_take_iff_getElem.1 hz2
      have hjl : j < l.length := by omega
      by_cases hlt : k < i
      · omega
      · have := hj j _ (by omega) (List.getElem?_eq_getElem hjl)
        rw [this] at hp
        cases hp

set_option maxRecDepth 100000 in
set_option maxHeartbeats 8000000 in
theorem vText {c : Cor} {s : Sv} {o p y : Value} {B : Nat} {W : World} (hV : VAt W B s o p y) (h : CorAt W s c) (hl1 : c.toks.length ≤ maxLen) (hl2 : c.texts.length ≤ maxLen) (i : Nat) (hi : i < c.texts.length)
    (hs : ∀ t ∈ c.texts, t.name.length ≤ maxLen ∧ t.ps.length ≤ maxLen ∧ ∀ q ∈ t.ps, q.1.length ≤ maxLen ∧ q.2.length ≤ maxLen) :
    Calls Tryz.prog 79 #[.pointer (some ⟨B, 0, none⟩), .int .i64 (i : Int)] W fun r w' => r = .returned (.int .i64 (textE c i : Nat)) ∧ Below W.heap.size W w' := by
  obtain ⟨x, hx⟩ : ∃ x, c.texts[i]? = some x := ⟨_, List.getElem?_eq_getElem hi⟩
  obtain ⟨hz1, hz2, hz3⟩ := hs x (List.mem_of_getElem? hx)
  have hae : textE c i = if nameB x.name = false then 4 else if (c.texts.take i).any (fun y => decide (y.name = x.name)) then 5
    else if x.b ≠ endB c i ∨ x.e ≤ x.b ∨ (c.toks.length : Int) < x.e then 8 else if i + 1 = c.texts.length ∧ x.e ≠ (c.toks.length : Int) then 8 else pairsE x.ps := by unfold textE; rw [hx]
  rw [hae]
  have hft := fun W' (hb : Below W.heap.size W W') => findText_any s (h.x.below stays_ex hb) hl2 x.name
  have hfb := find_before hx
  obtain ⟨c0, c1, c2, c3, c4, c5, c6, -⟩ := hV.c
  have hBl := hV.lt
  obtain ⟨A, cap, hvt, hc⟩ := h.t.form
  obtain ⟨A2, cap2, hvx, hc2⟩ := h.x.form
  have hrx := h.x
  rw [hvx] at hrx
  obtain ⟨bk, off, rfl, hbl, hj⟩ := at_ex hrx (by omega)
  obtain ⟨mv, hmv, k0, k1, k2, k3⟩ := hj i x hx
  obtain ⟨Am, cm, hmf, -⟩ := hmv.form
  obtain ⟨lm, hlm⟩ : ∃ lm, x.ps.length = lm := ⟨_, rfl⟩
  rw [hlm] at hmf
  clear hlm
  subst hmf
  have hcp := fun W' (hb : Below W.heap.size W W') => checkPairs_any (hmv.below stays_pair hb) hz2 hz3
  obtain ⟨va, vt, vx, vr, vn, vh, vl⟩ := s
  simp only [Sv.arr] at hft c0 c1 c2 c3 c4 c5 c6
  simp only at hvt hvx
  subst hvt hvx
  have hprev : ∀ m : Nat, i = m + 1 → W.cell? ⟨bk, off + m * 4 + 2, none⟩ = some (.int .i64 (endB c i)) := by
    intro m hm
    obtain ⟨z, hz⟩ : ∃ z, c.texts[m]? = some z := ⟨_, List.getElem?_eq_getElem (by omega)⟩
    obtain ⟨-, -, -, -, e2, -⟩ := hj m z hz
    rw [hm, endB_succ hz]
    exact e2
  have hb0 : i = 0 → endB c i = 0 := fun e => by rw [e]; rfl
  obtain ⟨P, hP⟩ : ∃ s : ByteArray, (⟨x.name.toArray⟩ : ByteArray) = s := ⟨_, rfl⟩
  have hPl : P.data.toList = x.name := by rw [← hP]
  have hvn := fun W => validName_any P (by rw [Lib.size_eq, hPl]; exact hz1) W
  rw [hPl] at hvn
  rw [hP] at k0 hft
  obtain ⟨a, ha⟩ : ∃ a, nameB x.name = a := ⟨_, rfl⟩
  obtain ⟨fz, hfz⟩ : ∃ fz, findZ (fun t : Ex => decide (t.name = x.name)) c.texts = fz := ⟨_, rfl⟩
  obtain ⟨q, hq⟩ : ∃ q, (c.texts.take i).any (fun y => decide (y.name = x.name)) = q := ⟨_, rfl⟩
  obtain ⟨xb, hxb⟩ : ∃ xb, x.b = xb := ⟨_, rfl⟩
  obtain ⟨xe, hxe⟩ : ∃ xe, x.e = xe := ⟨_, rfl⟩
  obtain ⟨bb, hbb⟩ : ∃ bb, endB c i = bb := ⟨_, rfl⟩
  obtain ⟨z, hz⟩ : ∃ z, pairsE x.ps = z := ⟨_, rfl⟩
  obtain ⟨n, hn⟩ : ∃ n, c.texts.length = n := ⟨_, rfl⟩
  obtain ⟨m, hm⟩ : ∃ m, c.toks.length = m := ⟨_, rfl⟩
  rw [ha, hq, hxb, hxe, hbb, hz, hn, hm]
  rw [ha] at hvn
  rw [hfz] at hft hfb
  rw [hq] at hfb
  rw [hxb] at k1
  rw [hxe] at k2
  rw [hbb] at hprev hb0
  rw [hz] at hcp
  rw [hn] at c2 hi hl2 hft
  rw [hm] at c1 hl1 hft
  obtain ⟨lb, hlb⟩ : ∃ lb, ((i : Int) == (n : Int) - 1) = lb := ⟨_, rfl⟩
  have hlbn : lb = decide (i + 1 = n) := by rw [← hlb, Bool.eq_iff_iff]; simp; omega
  obtain ⟨b1, h1⟩ : ∃ b1, (xb != bb) = b1 := ⟨_, rfl⟩
  obtain ⟨b2, h2⟩ : ∃ b2, decide (xe ≤ xb) = b2 := ⟨_, rfl⟩
  obtain ⟨b3, h3⟩ : ∃ b3, decide ((m : Int) < xe) = b3 := ⟨_, rfl⟩
  obtain ⟨b4, h4⟩ : ∃ b4, (xe != (m : Int)) = b4 := ⟨_, rfl⟩
  have hres : (if a = false then 4 else if q = true then 5 else if xb ≠ bb ∨ xe ≤ xb ∨ (m : Int) < xe then 8 else if i + 1 = n ∧ xe ≠ (m : Int) then 8 else z) =
      (if a = false then 4 else if q = true then 5 else if (b1 || b2 || b3) = true then 8 else if (lb && b4) = true then 8 else z) := by
    have e1 : (b1 || b2 || b3) = decide (xb ≠ bb ∨ xe ≤ xb ∨ (m : Int) < xe) := by
      rw [← h1, ← h2, ← h3, Bool.eq_iff_iff]
      simp [or_assoc]
    have e2 : (lb && b4) = decide (i + 1 = n ∧ xe ≠ (m : Int)) := by
      rw [hlbn, ← h4, Bool.eq_iff_iff]
      simp
    rw [e1, e2]
    simp
  rw [hres]
  have hlt : (i : Int) < (n : Int) := by omega
  obtain ⟨X, hX⟩ : ∃ X, W.alloc (.cells #[.string P, .int .i64 xb, .int .i64 xe, .slice Am lm cm] 73) = X := ⟨_, rfl⟩
  have hbX : Below W.heap.size W X := by rw [← hX]; exact below_box W _
  have hlt3 : W.heap.size < X.heap.size := by rw [← hX, alloc_sz]; omega
  obtain ⟨N0, hN0⟩ : ∃ N0, W.heap.size = N0 := ⟨_, rfl⟩
  have g0 : X.cell? ⟨N0, 0, none⟩ = some (.string P) := by rw [← hX, ← hN0]; exact cell_of (block_new W _) rfl
  have g1 : X.cell? ⟨N0, 1, none⟩ = some (.int .i64 xb) := by rw [← hX, ← hN0]; exact cell_of (block_new W _) rfl
  have g2 : X.cell? ⟨N0, 2, none⟩ = some (.int .i64 xe) := by rw [← hX, ← hN0]; exact cell_of (block_new W _) rfl
  have g3 : X.cell? ⟨N0, 3, none⟩ = some (.slice Am lm cm) := by rw [← hX, ← hN0]; exact cell_of (block_new W _) rfl
  have d0 := (hbX.cell (p := ⟨B, 0, none⟩) hBl).trans c0
  have d1 := (hbX.cell (p := ⟨B, 1, none⟩) hBl).trans c1
  have d2 := (hbX.cell (p := ⟨B, 2, none⟩) hBl).trans c2
  have d3 := (hbX.cell (p := ⟨B, 3, none⟩) hBl).trans c3
  have d4 := (hbX.cell (p := ⟨B, 4, none⟩) hBl).trans c4
  have d5 := (hbX.cell (p := ⟨B, 5, none⟩) hBl).trans c5
  have d6 := (hbX.cell (p := ⟨B, 6, none⟩) hBl).trans c6
  have hpx : ∀ m : Nat, i = m + 1 → X.cell? ⟨bk, off + m * 4 + 2, none⟩ = some (.int .i64 bb) := fun m e => (hbX.cell (p := ⟨bk, off + m * 4 + 2, none⟩) hbl).trans (hprev m e)
  rw [hN0] at hlt3
  have hlt4 : B < X.heap.size := by have := hbX.size; omega
  have HS := Lib.hid (fun W' (h : Below X.drew.heap.size X.drew W') => And.intro ((h.cell (p := ⟨B, 0, none⟩) hlt4).trans d0) (And.intro ((h.cell (p := ⟨B, 1, none⟩) hlt4).trans d1) (And.intro ((h.cell (p := ⟨B, 2, none⟩) hlt4).trans d2) (And.intro ((h.cell (p := ⟨B, 3, none⟩) hlt4).trans d3) (And.intro ((h.cell (p := ⟨B, 4, none⟩) hlt4).trans d4) (And.intro ((h.cell (p := ⟨B, 5, none⟩) hlt4).trans d5) (And.intro ((h.cell (p := ⟨B, 6, none⟩) hlt4).trans d6) ((h.cell (p := ⟨N0, 0, none⟩) hlt3).trans g0))))))))
  have HC1 := Lib.hid (fun W' (h : Below X.drew.heap.size X.drew W') => And.intro ((h.cell (p := ⟨N0, 1, none⟩) hlt3).trans g1) (And.intro ((h.cell (p := ⟨N0, 2, none⟩) hlt3).trans g2) (And.intro ((h.cell (p := ⟨N0, 3, none⟩) hlt3).trans g3) ((h.cell (p := ⟨B, 1, none⟩) hlt4).trans d1))))
  have l2 : (W.alloc (.cells #[.string P, .int .i64 xb, .int .i64 xe, .slice Am lm cm] 73)).cell? ⟨B, 2, none⟩ = some (.slice (some ⟨bk, off, none⟩) n cap2) := by rw [hX]; exact d2
  have hpl : ∀ m : Nat, i = m + 1 → (W.alloc (.cells #[.string P, .int .i64 xb, .int .i64 xe, .slice Am lm cm] 73)).cell? ⟨bk, off + m * 4 + 2, none⟩ = some (.int .i64 bb) := by rw [hX]; exact hpx
  have HX := Lib.hid hX
  have HN0 := Lib.hid hN0
  have HBX := Lib.hid hbX
  have HVN := Lib.hid hvn
  have HFT := Lib.hid (fun W' (hb : Below X.drew.heap.size X.drew W') => hft W' (hbX.drew.trans (hb.mono hbX.size)))
  have HCP := Lib.hid hcp
  have HPX := Lib.hid hpl
  have HB0 := Lib.hid hb0
  unfold maxLen at hl1 hl2
  clear hft hcp hvn hX hbX hres hlbn hq hfz ha hxb hxe hbb hz hn hm hP hPl hz1 hz2 hz3 hj hmv hprev hpx hpl hb0 hrx hx hs h hV hae hlt3 hlt4 hbl hN0 hBl d0 d2 d3 d4 d5 d6
  rcases Nat.eq_zero_or_pos i with hi0 | hi0
  · have hb00 := HB0.out hi0
    subst hi0
    subst hb00
    clear HB0 HPX
    simp only [Nat.zero_mul, Nat.add_zero] at k0 k1 k2 k3
    have hz0 : ((0 : Nat) : Int) = 0 := rfl
    rw [hz0] at hlb hlt hfb ⊢
    clear hz0
    go_enter Tryz.func79, Tryz.ntmps79
    go_wp2_with fail
    rw [HX.out, HN0.out]
    clear k0 k1 k2 k3 c0 c1 c2 c3 c4 c5 c6 l2
    cases a with
    | false =>
      refine (HVN.out _).mono ?_
      rintro e w1 ⟨rfl, rfl⟩
      go_wp2_with fail
      go_ret
      exact ⟨rfl, HN0.out ▸ HBX.out⟩
    | true =>
      refine (HVN.out _).mono ?_
      rintro e w1 ⟨rfl, rfl⟩
      obtain ⟨d0, d1, d2', d3, d4, d5, d6, g0'⟩ := HS.out _ (Below.refl _ _)
      have d2 : w1.cell? ⟨B, 2, none⟩ = some (.slice (some ⟨bk, off, none⟩) n cap2) := d2'
      have d0 : w1.cell? ⟨B, 0, none⟩ = some va := d0
      have d1 : w1.cell? ⟨B, 1, none⟩ = some (.slice A m cap) := d1
      have d3 : w1.cell? ⟨B, 3, none⟩ = some vr := d3
      have d4 : w1.cell? ⟨B, 4, none⟩ = some vn := d4
      have d5 : w1.cell? ⟨B, 5, none⟩ = some vh := d5
      have d6 : w1.cell? ⟨B, 6, none⟩ = some vl := d6
      clear d2' g0'
      go_wp2_with fail
      go_region_held3 (fun w' => w'.cell? ⟨B, 0, none⟩ = some va ∧ w'.cell? ⟨B, 1, none⟩ = some (.slice A m cap) ∧ w'.cell? ⟨B, 2, none⟩ = some (.slice (some ⟨bk, off, none⟩) n cap2) ∧ w'.cell? ⟨B, 3, none⟩ = some vr ∧ w'.cell? ⟨B, 4, none⟩ = some vn ∧ w'.cell? ⟨B, 5, none⟩ = some vh ∧ w'.cell? ⟨B, 6, none⟩ = some vl ∧ w'.cell? ⟨N0, 0, none⟩ = some (.string P))
        (first
          | go_keep
          | (exact HS.out _ hb3)
          | fail)
        ((first
          | (go_at_call 28; (with_reducible refine (HFT.out _ (Below.refl _ _)).mono ?_); rintro e w3 ⟨rfl, hb3⟩)
          | fail))
      obtain ⟨m1, m2, m3, e1⟩ := HC1.out w3 hb3
      have HB3 := Lib.hid (HBX.out.drew.trans (hb3.mono HBX.out.size))
      have HCC := Lib.hid (HC1.out w3 hb3)
      clear hb3
      cases q with
      | true =>
        go_wp2_with fail
        go_ret
        exact ⟨rfl, HB3.out⟩
      | false =>
        cases b1 with
        | true =>
          go_wp2_with fail
          go_quiet (fail)
          go_wp2_with fail
          go_ret
          exact ⟨rfl, below_drewN HB3.out _⟩
        | false =>
          cases b2 with
          | true =>
            go_wp2_with fail
            go_quiet (fail)
            go_wp2_with fail
            go_ret
            exact ⟨rfl, below_drewN HB3.out _⟩
          | false =>
            cases b3 with
            | true =>
              go_wp2_with fail
              go_quiet (fail)
              go_wp2_with fail
              go_ret
              exact ⟨rfl, below_drewN HB3.out _⟩
            | false =>
              go_wp2_with fail
              go_quiet (fail)
              obtain ⟨w4, hw4⟩ : ∃ w4, w3.drewN nq = w4 := ⟨_, rfl⟩
              have HB4 := Lib.hid (show Below W.heap.size W w4 from hw4 ▸ below_drewN HB3.out _)
              have HCE := Lib.hid (show w4.cell? ⟨N0, 3, none⟩ = some (.slice Am lm cm) from hw4 ▸ HCC.out.2.2.1)
              have n2 : w4.cell? ⟨N0, 2, none⟩ = some (.int .i64 xe) := hw4 ▸ HCC.out.2.1
              have n1 : w4.cell? ⟨B, 1, none⟩ = some (.slice A m cap) := hw4 ▸ HCC.out.2.2.2
              rw [hw4]
              clear hw4 m1 m2 m3 e1
              cases lb with
              | false =>
                go_wp2_with fail
                go_quiet (fail)
                have n3 : (w4.drewN nq).cell? ⟨N0, 3, none⟩ = some (.slice Am lm cm) := HCE.out
                have HB5 := Lib.hid (below_drewN HB4.out nq)
                go_wp2_with fail
                refine (HCP.out _ HB5.out).mono ?_
                rintro e w6 ⟨rfl, hb6⟩
                have HB6 := Lib.hid (HB5.out.trans (hb6.mono HB5.out.size))
                clear hb6
                go_wp2_with fail
                go_ret
                exact ⟨rfl, HB6.out⟩
              | true =>
                cases b4 with
                | true =>
                  go_wp2_with fail
                  go_quiet (fail)
                  go_wp2_with fail
                  go_ret
                  exact ⟨rfl, below_drewN HB4.out _⟩
                | false =>
                  go_wp2_with fail
                  go_quiet (fail)
                  have n3 : (w4.drewN nq).cell? ⟨N0, 3, none⟩ = some (.slice Am lm cm) := HCE.out
                  have HB5 := Lib.hid (below_drewN HB4.out nq)
                  go_wp2_with fail
                  refine (HCP.out _ HB5.out).mono ?_
                  rintro e w6 ⟨rfl, hb6⟩
                  have HB6 := Lib.hid (HB5.out.trans (hb6.mono HB5.out.size))
                  clear hb6
                  go_wp2_with fail
                  go_ret
                  exact ⟨rfl, HB6.out⟩
  · obtain ⟨k, rfl⟩ : ∃ k, i = k + 1 := ⟨i - 1, by omega⟩
    have f2 := HPX.out k rfl
    clear HPX HB0 hi0
    have hk1 : ((k + 1 : Nat) : Int) = (k : Int) + 1 := by omega
    rw [hk1] at hlb hlt hfb ⊢
    clear hk1
    have hpos : (0 : Int) < (k : Int) + 1 := by omega
    go_enter Tryz.func79, Tryz.ntmps79
    go_wp2_with fail
    rw [HX.out, HN0.out]
    clear k0 k1 k2 k3 c0 c1 c2 c3 c4 c5 c6 l2 f2
    cases a with
    | false =>
      refine (HVN.out _).mono ?_
      rintro e w1 ⟨rfl, rfl⟩
      go_wp2_with fail
      go_ret
      exact ⟨rfl, HN0.out ▸ HBX.out⟩
    | true =>
      refine (HVN.out _).mono ?_
      rintro e w1 ⟨rfl, rfl⟩
      obtain ⟨d0, d1, d2', d3, d4, d5, d6, g0'⟩ := HS.out _ (Below.refl _ _)
      have d2 : w1.cell? ⟨B, 2, none⟩ = some (.slice (some ⟨bk, off, none⟩) n cap2) := d2'
      have d0 : w1.cell? ⟨B, 0, none⟩ = some va := d0
      have d1 : w1.cell? ⟨B, 1, none⟩ = some (.slice A m cap) := d1
      have d3 : w1.cell? ⟨B, 3, none⟩ = some vr := d3
      have d4 : w1.cell? ⟨B, 4, none⟩ = some vn := d4
      have d5 : w1.cell? ⟨B, 5, none⟩ = some vh := d5
      have d6 : w1.cell? ⟨B, 6, none⟩ = some vl := d6
      clear d2' g0'
      go_wp2_with fail
      go_region_held3 (fun w' => w'.cell? ⟨B, 0, none⟩ = some va ∧ w'.cell? ⟨B, 1, none⟩ = some (.slice A m cap) ∧ w'.cell? ⟨B, 2, none⟩ = some (.slice (some ⟨bk, off, none⟩) n cap2) ∧ w'.cell? ⟨B, 3, none⟩ = some vr ∧ w'.cell? ⟨B, 4, none⟩ = some vn ∧ w'.cell? ⟨B, 5, none⟩ = some vh ∧ w'.cell? ⟨B, 6, none⟩ = some vl ∧ w'.cell? ⟨N0, 0, none⟩ = some (.string P))
        (first
          | go_keep
          | (exact HS.out _ hb3)
          | fail)
        ((first
          | (go_at_call 28; (with_reducible refine (HFT.out _ (Below.refl _ _)).mono ?_); rintro e w3 ⟨rfl, hb3⟩)
          | fail))
      obtain ⟨m1, m2, m3, e1⟩ := HC1.out w3 hb3
      have HB3 := Lib.hid (HBX.out.drew.trans (hb3.mono HBX.out.size))
      have HCC := Lib.hid (HC1.out w3 hb3)
      clear hb3
      cases q with
      | true =>
        go_wp2_with fail
        go_ret
        exact ⟨rfl, HB3.out⟩
      | false =>
        cases b1 with
        | true =>
          go_wp2_with fail
          go_quiet (fail)
          go_wp2_with fail
          go_ret
          exact ⟨rfl, below_drewN HB3.out _⟩
        | false =>
          cases b2 with
          | true =>
            go_wp2_with fail
            go_quiet (fail)
            go_wp2_with fail
            go_ret
            exact ⟨rfl, below_drewN HB3.out _⟩
          | false =>
            cases b3 with
            | true =>
              go_wp2_with fail
              go_quiet (fail)
              go_wp2_with fail
              go_ret
              exact ⟨rfl, below_drewN HB3.out _⟩
            | false =>
              go_wp2_with fail
              go_quiet (fail)
              obtain ⟨w4, hw4⟩ : ∃ w4, w3.drewN nq = w4 := ⟨_, rfl⟩
              have HB4 := Lib.hid (show Below W.heap.size W w4 from hw4 ▸ below_drewN HB3.out _)
              have HCE := Lib.hid (show w4.cell? ⟨N0, 3, none⟩ = some (.slice Am lm cm) from hw4 ▸ HCC.out.2.2.1)
              have n2 : w4.cell? ⟨N0, 2, none⟩ = some (.int .i64 xe) := hw4 ▸ HCC.out.2.1
              have n1 : w4.cell? ⟨B, 1, none⟩ = some (.slice A m cap) := hw4 ▸ HCC.out.2.2.2
              rw [hw4]
              clear hw4 m1 m2 m3 e1
              cases lb with
              | false =>
                go_wp2_with fail
                go_quiet (fail)
                have n3 : (w4.drewN nq).cell? ⟨N0, 3, none⟩ = some (.slice Am lm cm) := HCE.out
                have HB5 := Lib.hid (below_drewN HB4.out nq)
                go_wp2_with fail
                refine (HCP.out _ HB5.out).mono ?_
                rintro e w6 ⟨rfl, hb6⟩
                have HB6 := Lib.hid (HB5.out.trans (hb6.mono HB5.out.size))
                clear hb6
                go_wp2_with fail
                go_ret
                exact ⟨rfl, HB6.out⟩
              | true =>
                cases b4 with
                | true =>
                  go_wp2_with fail
                  go_quiet (fail)
                  go_wp2_with fail
                  go_ret
                  exact ⟨rfl, below_drewN HB4.out _⟩
                | false =>
                  go_wp2_with fail
                  go_quiet (fail)
                  have n3 : (w4.drewN nq).cell? ⟨N0, 3, none⟩ = some (.slice Am lm cm) := HCE.out
                  have HB5 := Lib.hid (below_drewN HB4.out nq)
                  go_wp2_with fail
                  refine (HCP.out _ HB5.out).mono ?_
                  rintro e w6 ⟨rfl, hb6⟩
                  have HB6 := Lib.hid (HB5.out.trans (hb6.mono HB5.out.size))
                  clear hb6
                  go_wp2_with fail
                  go_ret
                  exact ⟨rfl, HB6.out⟩
end Go.Proofs.YtglafkonpbcegaaGreat
