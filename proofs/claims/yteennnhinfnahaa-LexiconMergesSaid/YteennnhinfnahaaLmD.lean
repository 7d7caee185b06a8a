/-
  WALKS over package lexicon: Merge.
-/
import Derived.Test.YteennnhinfnahaaLmC
import Derived.Deep.RegionHeld3
namespace Go.Proofs.Yteennnhinfnahaa
open Go.RowKit Go.Shelf Go.Lib
set_option linter.unusedVariables false
set_option linter.unusedSimpArgs false
namespace Lm

theorem vals_mem {ws : List Wd} {cs : List Nat} {x : Wd} (h : x ∈ valsL ws cs) : x ∈ ws := by
  unfold valsL at h
  rw [List.mem_flatMap] at h
  obtain ⟨a, ha, hx⟩ := h
  obtain ⟨_, rfl⟩ := List.mem_replicate.1 hx
  exact (List.of_mem_zip ha).1
/-- The values of two lexicons, one behind the other. -/
def bothL (ws1 : List Wd) (cs1 : List Nat) (ws2 : List Wd) (cs2 : List Nat) : List Wd := valsL ws1 cs1 ++ valsL ws2 cs2
theorem both_len {ws1 ws2 : List Wd} {cs1 cs2 : List Nat} (h1 : LexOk ws1 cs1) (h2 : LexOk ws2 cs2) : (bothL ws1 cs1 ws2 cs2).length = cs1.sum + cs2.sum := by
  unfold bothL
  rw [List.length_append, valsL_len h1.len, valsL_len h2.len]
theorem both_short {ws1 ws2 : List Wd} {cs1 cs2 : List Nat} (h1 : LexOk ws1 cs1) (h2 : LexOk ws2 cs2) : ∀ x ∈ bothL ws1 cs1 ws2 cs2, x.length ≤ maxLen := by
  intro x hx
  unfold bothL at hx
  rcases List.mem_append.1 hx with hx | hx
  · have := (h1.val x (vals_mem hx)).1
    unfold maxLen
    omega
  · have := (h2.val x (vals_mem hx)).1
    unfold maxLen
    omega
theorem rowsS_two {W W' : World} {v1 v2 : Value} {l1 l2 : List Wd} (hW : W.alloc (.cells #[v1, v2] 29) = W') (h1 : RS W v1 l1) (h2 : RS W v2 l2) : RowsS W' (.slice (some ⟨W.heap.size, 0, none⟩) 2 2) [l1, l2] := by
  subst hW
  refine ⟨[v1, v2], .inr ⟨_, 2, rfl, Nat.le_refl _, fun _ => by simp, fun j u hu => news_at W [v1, v2] 29 j u hu⟩, rfl, fun i v l hv hl => ?_⟩
  match i with
  | 0 => cases hv; cases hl; exact h1.below (below_box _ _)
  | 1 => cases hv; cases hl; exact h2.below (below_box _ _)
  | i + 2 => simp at hv
theorem merge_results {tmps : Array Value} {W : World} {a b c d : Value} (h4 : tmps[4]? = some a) (h5 : tmps[5]? = some b) (h6 : tmps[6]? = some c) (h7 : tmps[7]? = some d) :
    (results Try.f12 tmps).run Try.prog W = .ok (.tuple #[a, b, c, d]) W := by
  simp [results, Try.f12, go_sem, h4, h5, h6, h7]
/-- What Merge answers. -/
def MergeV (w : World) (ws1 ws2 : List Wd) (vs : List Wd) (e : Ending) (w' : World) : Prop :=
  Below w.heap.size w w' ∧ ((buildE vs ≠ 0 ∧ e = .returned (.tuple #[.pointer none, .slice none 0 0, .slice none 0 0, .int .i64 (buildE vs)])) ∨
    (buildE vs = 0 ∧ ∃ p u1 u2, e = .returned (.tuple #[.pointer (some ⟨p, 0, none⟩), u1, u2, .int .i64 0]) ∧ LexAt w' p (lexW vs) (cntW vs (lexW vs)) ∧
      Rows 1 EInt w' u1 (intsN (ws1.map (fnd (lexW vs)))) ∧ Rows 1 EInt w' u2 (intsN (ws2.map (fnd (lexW vs))))))
set_option maxRecDepth 100000 in
set_option maxHeartbeats 8000000 in
theorem merge_any {w : World} {p1 p2 : Nat} {ws1 ws2 : List Wd} {cs1 cs2 : List Nat} (h1 : LexAt w p1 ws1 cs1) (h2 : LexAt w p2 ws2 cs2) :
    Calls Try.prog 12 #[.pointer (some ⟨p1, 0, none⟩), .pointer (some ⟨p2, 0, none⟩)] w (MergeV w ws1 ws2 (bothL ws1 cs1 ws2 cs2)) := by
  have hlen := both_len h1.ok h2.ok
  have hsh := both_short h1.ok h2.ok
  have hs1 := h1.ok.sum
  have hs2 := h2.ok.sum
  have HF1 := Lib.hid (show ws1.length ≤ 4096 from by have := h1.ok.few; omega)
  have HF2 := Lib.hid (show ws2.length ≤ 4096 from by have := h2.ok.few; omega)
  have HL1 := Lib.hid (fun W (hb : Below w.heap.size w W) => h1.below hb)
  have HL2 := Lib.hid (fun W (hb : Below w.heap.size w W) => h2.below hb)
  have HV1 := Lib.hid (values_any h1)
  obtain ⟨vs, hvs⟩ : ∃ vs, bothL ws1 cs1 ws2 cs2 = vs := ⟨_, rfl⟩
  have HVS := Lib.hid hvs
  rw [hvs] at hlen hsh ⊢
  have HLEN := Lib.hid (show vs.length ≤ maxLen from by unfold maxLen; omega)
  have HLB := Lib.hid (show vs.length ≤ 100000 from by omega)
  have HSH := Lib.hid hsh
  clear hlen hsh hs1 hs2 hvs h1 h2
  go_enter Try.func12, Try.ntmps12
  go_wp2_with fail
  refine HV1.out.mono ?_
  rintro e w1 ⟨v1, rfl, ho1, hb1⟩
  obtain ⟨A1, c1, rfl, -, -⟩ := own_form' ho1
  have HO1 := Lib.hid ho1
  have HB1 := Lib.hid hb1
  have HV2 := Lib.hid (values_any (HL2.out w1 hb1))
  clear ho1 hb1 HV1
  go_wp2_with fail
  refine HV2.out.mono ?_
  rintro e w2 ⟨v2, rfl, ho2, hb2⟩
  obtain ⟨A2, c2, rfl, -, -⟩ := own_form' ho2
  have HR1 := Lib.hid (show RS w2 _ _ from (seesC_own (own_below' (N := 0) HO1.out hb2)).1)
  have HR2 := Lib.hid (show RS w2 _ _ from (seesC_own ho2).1)
  have HB2 := Lib.hid (HB1.out.trans (hb2.mono HB1.out.size))
  clear ho2 hb2 HO1 HB1 HV2
  obtain ⟨l1, hl1⟩ : ∃ l, valsL ws1 cs1 = l := ⟨_, rfl⟩
  obtain ⟨l2, hl2⟩ : ∃ l, valsL ws2 cs2 = l := ⟨_, rfl⟩
  have HVL := Lib.hid (show l1 ++ l2 = vs from by rw [← hl1, ← hl2]; exact HVS.out)
  rw [hl1] at HR1 ⊢
  rw [hl2] at HR2 ⊢
  clear hl1 hl2
  obtain ⟨n1, hn1⟩ : ∃ n, l1.length = n := ⟨_, rfl⟩
  obtain ⟨n2, hn2⟩ : ∃ n, l2.length = n := ⟨_, rfl⟩
  rw [hn1] at HR1 ⊢
  rw [hn2] at HR2 ⊢
  clear hn1 hn2
  obtain ⟨W3, hW3⟩ : ∃ W3, w2.alloc (.cells #[.slice A1 n1 c1, .slice A2 n2 c2] 29) = W3 := ⟨_, rfl⟩
  have hfl : [l1, l2].flatten = vs := by rw [← HVL.out]; simp
  have HFL := Lib.hid hfl
  have hrs := rowsS_two hW3 HR1.out HR2.out
  obtain ⟨N2, hN2⟩ : ∃ N2, w2.heap.size = N2 := ⟨_, rfl⟩
  rw [hN2] at hrs
  have HCC := Lib.hid (concat_any hrs (by simp) (by rw [hfl]; exact HLB.out))
  have HB3 := Lib.hid (show Below w.heap.size w W3 from by rw [← hW3]; exact HB2.out.trans ((below_box _ _).mono HB2.out.size))
  have HW3 := Lib.hid hW3
  have HN2 := Lib.hid hN2
  clear hrs hW3 hN2 HR1 HR2 hfl
  go_wp2_with fail
  rw [HW3.out, HN2.out]
  refine HCC.out.mono ?_
  rintro e w4 ⟨⟨v4, rfl, ho4⟩, hb4⟩
  rw [HFL.out] at ho4
  have hr4 := rows_sv ho4
  obtain ⟨A4, c4, rfl, -⟩ := hr4.form
  have HBU := Lib.hid (build_any hr4 HLEN.out HSH.out)
  have HB4 := Lib.hid (HB3.out.trans (hb4.mono HB3.out.size))
  clear ho4 hr4 hb4 HW3 HN2 HCC HB3 HB2
  go_wp2_with fail
  refine HBU.out.mono ?_
  rintro e w5 ⟨hb5, hans⟩
  have HB5 := Lib.hid (HB4.out.trans (hb5.mono HB4.out.size))
  rcases hans with ⟨hne, rfl⟩ | ⟨h0, p, v5, rfl, hL, hr5⟩
  · obtain ⟨z, hz⟩ : ∃ z, buildE vs = z := ⟨_, rfl⟩
    have HZ := Lib.hid hz
    rw [hz] at hne ⊢
    have hne2 : (z != 0) = true := by simpa using hne
    have HNE := Lib.hid hne
    clear hb5 hz hne HBU HB4
    go_wp2_with fail
    refine bodyPost_ret (merge_results rfl rfl rfl rfl) rfl ?_
    exact ⟨HB5.out, .inl ⟨by rw [HZ.out]; exact HNE.out, by rw [HZ.out]; rfl⟩⟩
  · obtain ⟨A5, c5, rfl, -⟩ := hr5.form
    obtain ⟨B1, d1, k1, r1⟩ := (HL1.out w5 HB5.out).words
    obtain ⟨B2, d2, k2, r2⟩ := (HL2.out w5 HB5.out).words
    have t1 := (HL1.out w5 HB5.out).lt
    have t2 := (HL2.out w5 HB5.out).lt
    obtain ⟨m1, hm1⟩ : ∃ m, ws1.length = m := ⟨_, rfl⟩
    obtain ⟨m2, hm2⟩ : ∃ m, ws2.length = m := ⟨_, rfl⟩
    obtain ⟨m5, hm5⟩ : ∃ m, (intsN (numW vs)).length = m := ⟨_, rfl⟩
    rw [hm1] at k1 r1
    rw [hm2] at k2 r2
    rw [hm5]
    have HSK : Hid (∀ W, Below w5.heap.size w5 W → W.cell? ⟨p1, 0, none⟩ = some (Value.slice B1 m1 d1) ∧ W.cell? ⟨p2, 0, none⟩ = some (Value.slice B2 m2 d2)) :=
      Lib.hid (fun W hb => ⟨(hb.cell t1).trans k1, (hb.cell t2).trans k2⟩)
    have HQ1 := Lib.hid (fun W (hb : Below w5.heap.size w5 W) => numbersOf_any (hL.below hb) (r1.below stays_str hb) HF1.out)
    have HQ2 := Lib.hid (fun W (hb : Below w5.heap.size w5 W) => numbersOf_any (hL.below hb) (r2.below stays_str hb) HF2.out)
    have HLL := Lib.hid (fun W (hb : Below w5.heap.size w5 W) => hL.below hb)
    have H0 := Lib.hid h0
    clear hb5 hL hr5 h0 r1 r2 t1 t2 hm1 hm2 hm5 HBU HB4
    go_wp2_with fail
    refine wp_region_held_drew (S := (fun w' => w'.cell? ⟨p1, 0, none⟩ = some (Value.slice B1 m1 d1) ∧ w'.cell? ⟨p2, 0, none⟩ = some (Value.slice B2 m2 d2))) (by kernel_rfl) ?_ (fun hHeld => ?_)
    · (try dsimp only); exact HSK.out _ (Below.refl _ _).drew
    refine wpAnyH_take (i := 0) (oi := ?oi1) (v := ?v1) ?hi1 (by kernel_rfl) (by kernel_rfl) (by kernel_rfl) ?hq1 ?hy1 (by assumption) ?hr1
    case hi1 => (simp only [List.getElem?_toArray, List.getElem?_cons_zero]; rfl)
    case hq1 => exact fun _ _ _ h => h
    case hy1 => exact Or.inl ⟨by rfl, by intro whSw hSw'; (try dsimp only at hSw'); (first | (go_simp; done) | (go_simp; with_reducible rfl))⟩
    try simp only [Act.put, List.setIfInBounds_toArray, List.set_cons_zero, List.set_cons_succ]
    refine wpAnyH_take (i := 1) (oi := ?oi2) (v := ?v2) ?hi2 (by kernel_rfl) (by kernel_rfl) (by kernel_rfl) ?hq2 ?hy2 (by assumption) ?hr2
    case hi2 => (simp only [List.getElem?_toArray, List.getElem?_cons_succ, List.getElem?_cons_zero]; rfl)
    case hq2 => exact fun _ _ _ h => h
    case hy2 => exact Or.inl ⟨by rfl, by intro whSw hSw'; (try dsimp only at hSw'); (first | (go_simp; done) | (go_simp; with_reducible rfl))⟩
    try simp only [Act.put, List.setIfInBounds_toArray, List.set_cons_zero, List.set_cons_succ]
    refine wpAnyH_take (i := 2) (oi := ?oi3) (v := ?v3) ?hi3 (by kernel_rfl) (by kernel_rfl) (by kernel_rfl) ?hq3 ?hy3 (by assumption) ?hr3
    case hi3 => (simp only [List.getElem?_toArray, List.getElem?_cons_succ, List.getElem?_cons_zero]; rfl)
    case hq3 => exact fun _ _ _ h => h
    case hy3 => exact Or.inl ⟨by rfl, by intro whSw hSw'; (try dsimp only at hSw'); (first | (go_simp; done) | (go_simp; with_reducible rfl))⟩
    try simp only [Act.put, List.setIfInBounds_toArray, List.set_cons_zero, List.set_cons_succ]
    refine wpAnyH_take (i := 3) (oi := ?oi4) (v := ?v4) ?hi4 (by kernel_rfl) (by kernel_rfl) (by kernel_rfl) ?hq4 ?hy4 (by assumption) ?hr4
    case hi4 => (simp only [List.getElem?_toArray, List.getElem?_cons_succ, List.getElem?_cons_zero]; rfl)
    case hq4 => exact fun _ _ _ h => h
    case hy4 => exact Or.inl ⟨by rfl, by intro whSw hSw'; (try dsimp only at hSw'); (first | (go_simp; done) | (go_simp; with_reducible rfl))⟩
    try simp only [Act.put, List.setIfInBounds_toArray, List.set_cons_zero, List.set_cons_succ]
    refine wpAnyH_take (i := 4) (oi := ?oi5) (v := ?v5) ?hi5 (by kernel_rfl) (by kernel_rfl) (by kernel_rfl) ?hq5 ?hy5 (by assumption) ?hr5
    case hi5 => (simp only [List.getElem?_toArray, List.getElem?_cons_succ, List.getElem?_cons_zero]; rfl)
    case hq5 => exact fun _ _ _ h => h
    case hy5 => exact Or.inl ⟨by rfl, by intro whSw hSw'; (try dsimp only at hSw'); (first | (go_simp; done) | (go_simp; with_reducible rfl))⟩
    try simp only [Act.put, List.setIfInBounds_toArray, List.set_cons_zero, List.set_cons_succ]
    refine wpAnyH_take (i := 5) (oi := ?oi6) (v := ?v6) ?hi6 (by kernel_rfl) (by kernel_rfl) (by kernel_rfl) ?hq6 ?hy6 (by assumption) ?hr6
    case hi6 => (simp only [List.getElem?_toArray, List.getElem?_cons_succ, List.getElem?_cons_zero]; rfl)
    case hq6 => exact fun _ _ _ h => h
    case hy6 => exact Or.inl ⟨by rfl, by intro whSw hSw'; (try dsimp only at hSw'); (first | (go_simp; done) | (go_simp; with_reducible rfl))⟩
    try simp only [Act.put, List.setIfInBounds_toArray, List.set_cons_zero, List.set_cons_succ]
    refine wpAnyH_take (i := 7) (oi := ?oi7) (v := ?v7) ?hi7 (by kernel_rfl) (by kernel_rfl) (by kernel_rfl) ?hq7 ?hy7 (by assumption) ?hr7
    case hi7 => (simp only [List.getElem?_toArray, List.getElem?_cons_succ, List.getElem?_cons_zero]; rfl)
    case hq7 => exact fun _ _ _ h => h
    case hy7 => exact Or.inl ⟨by rfl, by intro whSw hSw'; (try dsimp only at hSw'); (first | (go_simp; done) | (go_simp; with_reducible rfl))⟩
    try simp only [Act.put, List.setIfInBounds_toArray, List.set_cons_zero, List.set_cons_succ]
    refine wpAnyH_take (i := 8) (oi := ?oi8) (v := ?v8) ?hi8 (by kernel_rfl) (by kernel_rfl) (by kernel_rfl) ?hq8 ?hy8 (by assumption) ?hr8
    case hi8 => (simp only [List.getElem?_toArray, List.getElem?_cons_succ, List.getElem?_cons_zero]; rfl)
    case hq8 => exact fun _ _ _ h => h
    case hy8 => exact Or.inl ⟨by rfl, by intro whSw hSw'; (try dsimp only at hSw'); (first | (go_simp; done) | (go_simp; with_reducible rfl))⟩
    try simp only [Act.put, List.setIfInBounds_toArray, List.set_cons_zero, List.set_cons_succ]
    refine wpAnyH_take (i := 9) (oi := ?oi9) (v := ?v9) ?hi9 (by kernel_rfl) (by kernel_rfl) (by kernel_rfl) ?hq9 ?hy9 (by assumption) ?hr9
    case hi9 => (simp only [List.getElem?_toArray, List.getElem?_cons_succ, List.getElem?_cons_zero]; rfl)
    case hq9 => exact fun _ _ _ h => h
    case hy9 => exact Or.inl ⟨by rfl, by intro whSw hSw'; (try dsimp only at hSw'); (first | (go_simp; done) | (go_simp; with_reducible rfl))⟩
    try simp only [Act.put, List.setIfInBounds_toArray, List.set_cons_zero, List.set_cons_succ]
    refine wpAnyH_take (i := 10) (oi := ?oi10) (v := ?v10) ?hi10 (by kernel_rfl) (by kernel_rfl) (by kernel_rfl) ?hq10 ?hy10 (by assumption) ?hr10
    case hi10 => (simp only [List.getElem?_toArray, List.getElem?_cons_succ, List.getElem?_cons_zero]; rfl)
    case hq10 => exact fun _ _ _ h => h
    case hy10 => exact Or.inl ⟨by rfl, by intro whSw hSw'; (try dsimp only at hSw'); (first | (go_simp; done) | (go_simp; with_reducible rfl))⟩
    try simp only [Act.put, List.setIfInBounds_toArray, List.set_cons_zero, List.set_cons_succ]
    refine wpAnyH_take (i := 11) (oi := ?oi11) (v := ?v11) ?hi11 (by kernel_rfl) (by kernel_rfl) (by kernel_rfl) ?hq11 ?hy11 (by assumption) ?hr11
    case hi11 => (simp only [List.getElem?_toArray, List.getElem?_cons_succ, List.getElem?_cons_zero]; rfl)
    case hq11 => exact fun _ _ _ h => h
    case hy11 => exact Or.inl ⟨by rfl, by intro whSw hSw'; (try dsimp only at hSw'); (first | (go_simp; done) | (go_simp; with_reducible rfl))⟩
    try simp only [Act.put, List.setIfInBounds_toArray, List.set_cons_zero, List.set_cons_succ]
    refine wpAnyH_ready (rs := [6]) (by kernel_rfl) (by simp) ?_
    refine AllReadyH.cons (o := ?oo12) ?hi12 (fun K hK => ?hs12) ?hm12
    case hi12 => (simp only [List.getElem?_toArray, List.getElem?_cons_succ, List.getElem?_cons_zero]; rfl)
    · go_simp
      refine (HQ1.out _ (Below.refl _ w5).drew).mono ?_
      rintro e y1 ⟨u1, rfl, hr1, hc1⟩
      have HX1 : Hid (Below w5.heap.size w5 y1) := Lib.hid ((Below.refl _ w5).drew.trans hc1)
      have HR1 := Lib.hid hr1
      obtain ⟨E1, f1, rfl, -⟩ := hr1.form
      clear hr1 hc1
      (try go_wp2_with fail)
      refine hK.out _ _ ?_ (fun hHeld => ?_)
      · (try dsimp only); first | exact HSK.out _ HX2.out | exact HSK.out _ HX1.out | exact HSK.out _ (Below.refl _ _).drew
      clear hK K
      try simp only [Act.put, List.setIfInBounds_toArray, List.set_cons_zero, List.set_cons_succ]
      refine wpAnyH_ready (rs := [12]) (by kernel_rfl) (by simp) ?_
      refine AllReadyH.cons (o := ?oo13) ?hi13 (fun K hK => ?hs13) ?hm13
      case hi13 => (simp only [List.getElem?_toArray, List.getElem?_cons_succ, List.getElem?_cons_zero]; rfl)
      · go_simp
        refine (HQ2.out _ HX1.out).mono ?_
        rintro e y2 ⟨u2, rfl, hr2, hc2⟩
        have HX2 : Hid (Below w5.heap.size w5 y2) := Lib.hid (HX1.out.trans (hc2.mono HX1.out.size))
        have HR1b := Lib.hid (HR1.out.below stays_int hc2)
        have HR2 := Lib.hid hr2
        obtain ⟨E2, f2, rfl, -⟩ := hr2.form
        clear hr2 hc2 HR1
        (try go_wp2_with fail)
        refine hK.out _ _ ?_ (fun hHeld => ?_)
        · (try dsimp only); first | exact HSK.out _ HX2.out | exact HSK.out _ HX1.out | exact HSK.out _ (Below.refl _ _).drew
        clear hK K
        try simp only [Act.put, List.setIfInBounds_toArray, List.set_cons_zero, List.set_cons_succ]
        refine wpAnyH_take (i := 13) (oi := ?oi14) (v := ?v14) ?hi14 (by kernel_rfl) (by kernel_rfl) (by kernel_rfl) ?hq14 ?hy14 (by assumption) ?hr14
        case hi14 => (simp only [List.getElem?_toArray, List.getElem?_cons_succ, List.getElem?_cons_zero]; rfl)
        case hq14 => exact fun _ _ _ h => h
        case hy14 => exact Or.inl ⟨by rfl, by intro whSw hSw'; (try dsimp only at hSw'); (first | (go_simp; done) | (go_simp; with_reducible rfl))⟩
        try simp only [Act.put, List.setIfInBounds_toArray, List.set_cons_zero, List.set_cons_succ]
        refine wpAnyH_take (i := 14) (oi := ?oi15) (v := ?v15) ?hi15 (by kernel_rfl) (by kernel_rfl) (by kernel_rfl) ?hq15 ?hy15 (by assumption) ?hr15
        case hi15 => (simp only [List.getElem?_toArray, List.getElem?_cons_succ, List.getElem?_cons_zero]; rfl)
        case hq15 => exact fun _ _ _ h => h
        case hy15 => exact Or.inl ⟨by rfl, by intro whSw hSw'; (try dsimp only at hSw'); (first | (go_simp; done) | (go_simp; with_reducible rfl))⟩
        try simp only [Act.put, List.setIfInBounds_toArray, List.set_cons_zero, List.set_cons_succ]
        refine wpAnyH_take (i := 15) (oi := ?oi16) (v := ?v16) ?hi16 (by kernel_rfl) (by kernel_rfl) (by kernel_rfl) ?hq16 ?hy16 (by assumption) ?hr16
        case hi16 => (simp only [List.getElem?_toArray, List.getElem?_cons_succ, List.getElem?_cons_zero]; rfl)
        case hq16 => exact fun _ _ _ h => h
        case hy16 => exact Or.inl ⟨by rfl, by intro whSw hSw'; (try dsimp only at hSw'); (first | (go_simp; done) | (go_simp; with_reducible rfl))⟩
        try simp only [Act.put, List.setIfInBounds_toArray, List.set_cons_zero, List.set_cons_succ]
        refine wpAnyH_take (i := 16) (oi := ?oi17) (v := ?v17) ?hi17 (by kernel_rfl) (by kernel_rfl) (by kernel_rfl) ?hq17 ?hy17 (by assumption) ?hr17
        case hi17 => (simp only [List.getElem?_toArray, List.getElem?_cons_succ, List.getElem?_cons_zero]; rfl)
        case hq17 => exact fun _ _ _ h => h
        case hy17 => exact Or.inl ⟨by rfl, by intro whSw hSw'; (try dsimp only at hSw'); (first | (go_simp; done) | (go_simp; with_reducible rfl))⟩
        try simp only [Act.put, List.setIfInBounds_toArray, List.set_cons_zero, List.set_cons_succ]
        refine wpAnyH_done (by kernel_rfl) ?_ _
        go_wp2_with fail
        refine bodyPost_ret (merge_results rfl rfl rfl rfl) rfl ?_
        exact ⟨HB5.out.trans (HX2.out.mono HB5.out.size), .inr ⟨H0.out, p, _, _, rfl, HLL.out _ HX2.out, by have h := HR1b.out; simp only [List.length_map] at h; exact h, by have h := HR2.out; simp only [List.length_map] at h; exact h⟩⟩
      exact AllReadyH.nil
    exact AllReadyH.nil
end Lm
end Go.Proofs.Yteennnhinfnahaa
