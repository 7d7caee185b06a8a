/-
  WALKS over package depend, fourth part: Path of any arguments; anyGap, Projective.
-/
import Derived.Test.YtpkkebojiengpaaGreatDoorDaE
namespace Go.Proofs.YtpkkebojiengpaaGreatDoor
open Go.RowKit Go.Shelf Go.Lib
set_option linter.unusedVariables false

set_option maxRecDepth 100000 in
set_option maxHeartbeats 4000000 in
theorem path_any {w : World} {v : Value} {h : List Int} (hv : Rows 1 EInt w v h) (hl : h.length ≤ maxLen) (a b : Int) :
    Calls Tryz.prog 15 #[v, .int .i64 a, .int .i64 b] w fun e w' => (∃ vr, e = .returned (.tuple #[vr, .int .i64 (pathH h a b).2]) ∧ RN w' vr (pathH h a b).1) ∧ Below w.heap.size w w' := by
  unfold pathH
  by_cases hok : okH h = true
  · by_cases ha : 0 ≤ a ∧ a < (h.length : Int)
    · by_cases hb : 0 ≤ b ∧ b < (h.length : Int)
      · rw [if_pos ⟨hok, ha, hb⟩]
        obtain ⟨x, rfl⟩ : ∃ x : Nat, a = (x : Int) := ⟨a.toNat, by omega⟩
        obtain ⟨y, rfl⟩ : ∃ y : Nat, b = (y : Int) := ⟨b.toNat, by omega⟩
        rw [Int.toNat_natCast, Int.toNat_natCast]
        exact path_ok hv hok x y (by omega) (by omega)
      · rw [if_neg (fun hh => hb hh.2.2)]
        obtain ⟨A, cap, rfl, hc⟩ := hv.form
        have HVA := Lib.hid (valid_any hv hl)
        have HTA := Lib.hid (fun W => isToken_any a A h.length cap W)
        have HTB := Lib.hid (fun W => isToken_any b A h.length cap W)
        rw [show decide (0 ≤ a ∧ a < (h.length : Int)) = true from decide_eq_true ha] at HTA
        rw [show decide (0 ≤ b ∧ b < (h.length : Int)) = false from decide_eq_false hb] at HTB
        rw [hok] at HVA
        clear hok ha hb hv hl
        go_enter Tryz.func15, Tryz.ntmps15
        go_wp2_with fail
        refine HVA.out.mono ?_
        rintro e w1 ⟨rfl, hb1⟩
        have HB1 := Lib.hid hb1
        clear hb1
        go_wp2_with fail
        refine (HTA.out w1).mono ?_
        rintro e w1 ⟨rfl, rfl⟩
        go_wp2_with fail
        refine (HTB.out w1).mono ?_
        rintro e w1 ⟨rfl, rfl⟩
        go_wp2_with fail
        go_ret2
        exact ⟨⟨_, rfl, RN.nil _⟩, HB1.out⟩
    · rw [if_neg (fun hh => ha hh.2.1)]
      obtain ⟨A, cap, rfl, hc⟩ := hv.form
      have HVA := Lib.hid (valid_any hv hl)
      have HTA := Lib.hid (fun W => isToken_any a A h.length cap W)
      rw [show decide (0 ≤ a ∧ a < (h.length : Int)) = false from decide_eq_false ha] at HTA
      rw [hok] at HVA
      clear hok ha hv hl
      go_enter Tryz.func15, Tryz.ntmps15
      go_wp2_with fail
      refine HVA.out.mono ?_
      rintro e w1 ⟨rfl, hb1⟩
      have HB1 := Lib.hid hb1
      clear hb1
      go_wp2_with fail
      refine (HTA.out w1).mono ?_
      rintro e w1 ⟨rfl, rfl⟩
      go_wp2_with fail
      go_ret2
      exact ⟨⟨_, rfl, RN.nil _⟩, HB1.out⟩
  · rw [if_neg (fun hh => hok hh.1)]
    obtain ⟨A, cap, rfl, hc⟩ := hv.form
    have HVA := Lib.hid (valid_any hv hl)
    have hok2 : okH h = false := by simpa using hok
    rw [hok2] at HVA
    clear hok hok2 hv hl
    go_enter Tryz.func15, Tryz.ntmps15
    go_wp2_with fail
    refine HVA.out.mono ?_
    rintro e w1 ⟨rfl, hb1⟩
    have HB1 := Lib.hid hb1
    clear hb1
    go_wp2_with fail
    go_ret2
    exact ⟨⟨_, rfl, RN.nil _⟩, HB1.out⟩

theorem intsN_set (l : List Nat) (i n : Nat) : (intsN l).set i (n : Int) = intsN (l.set i n) := by
  simp [intsN, List.map_set]
theorem ends_at {h : List Int} {i t : Nat} {done : List Nat} (ht : t < h.length) (hn : t ∉ done) : (intsN (endsL h i done)).getD t 0 = (lastD h i t : Int) := by
  rw [List.getD_eq_getElem?_getD, intsN_get (ends_get ht), if_neg hn]
  rfl

set_option maxRecDepth 100000 in
set_option maxHeartbeats 16000000 in
theorem anyGap_any {w : World} {v : Value} {h : List Int} (hv : Rows 1 EInt w v h) (hO : Okh h) :
    Calls Tryz.prog 39 #[v] w fun e w' => e = .returned (.bool (gapB h)) ∧ Below w.heap.size w w' := by
  obtain ⟨A, cap, rfl, hc⟩ := hv.form
  obtain ⟨n, hn⟩ : ∃ n, h.length = n := ⟨_, rfl⟩
  have hl := hO.len
  have HV := Lib.hid (fun W (hb : Below w.heap.size w W) => hv.below stays_int hb)
  have HAT := Lib.hid (fun t (ht : t < n) => hO.at (i := t) (by rw [hn]; exact ht))
  rw [hn] at hc hl HV
  have HN := Lib.hid hn
  have HO := Lib.hid hO
  obtain ⟨i1, hi1, hy0, hy1, hy2⟩ := info_parts' Tryz.infoInt2
  have hmk : ∀ W : World, (Instr.makeSlice 22 (.int .i64 n) (.int .i64 n)).run Tryz.prog W = .ok (.slice (some ⟨W.heap.size, 0, none⟩) n n) (W.alloc (.cells (intRow (List.replicate n 0)) 3)) := fun W => by
    have := run_make (P := Tryz.prog) W 22 3 i1 _ Tryz.underlying22 hi1 hy0 .i64 .i64 n n (by omega) (by omega) (by rw [hy2]; omega) (by omega)
    rw [Int.toNat_natCast, hy1, Nat.mul_one] at this
    rw [← made_int]
    exact this
  obtain ⟨N, hN⟩ : ∃ N, w.heap.size = N := ⟨_, rfl⟩
  obtain ⟨W0, hW0⟩ : ∃ W0, w.alloc (.cells (intRow (List.replicate n 0)) 3) = W0 := ⟨_, rfl⟩
  have hst0 : DSt w W0 N (intsN (endsL h 0 [])) := by
    have b1 := block_new w (.cells (intRow (List.replicate n 0)) 3)
    rw [hN] at b1
    rw [← hW0, ends_start, hn]
    have e : intsN (List.replicate n 0) = List.replicate n 0 := by simp [intsN]
    rw [e]
    exact ⟨below_box w _, b1⟩
  have hcell : ∀ (W : World), Below w.heap.size w W → 0 < n → ∃ bk off, A = some ⟨bk, off, none⟩ ∧ bk < N ∧ ∀ (j : Nat) (x : Int), h[j]? = some x → W.cell? ⟨bk, off + j, none⟩ = some (.int .i64 x) := fun W hb h0 => by
    obtain ⟨bk, off, h1, h3, h2⟩ := at_int (HV.out W hb) (by rw [HN.out]; exact h0)
    obtain ⟨bk', off', h1', h3', _⟩ := at_int (HV.out w (Below.refl _ _)) (by rw [HN.out]; exact h0)
    rw [h1] at h1'
    cases h1'
    exact ⟨bk, off, h1, by omega, h2⟩
  obtain ⟨q, hq⟩ : ∃ q, gapB h = q := ⟨_, rfl⟩
  rw [hq]
  have HQ := Lib.hid hq
  have HST0 := Lib.hid hst0
  have HW0 := Lib.hid hW0
  have HNN := Lib.hid hN
  have HCELL := Lib.hid hcell
  clear hn hv hst0 hW0 hN hcell hO hq
  rw [HN.out]
  go_enter Tryz.func39, Tryz.ntmps39
  go_wp2_with fail
  rw [HW0.out, HNN.out]
  go_loopw [11] (fun sv wr => ∃ i : Nat, i ≤ n ∧ sv = .int .i64 i ∧ Hid (∀ j, j < i → ∀ a ∈ way h j, gapAt h j a = false) ∧ Hid (DSt w wr N (intsN (endsL h i [])))) (fun sv _ => n - (Go.RowKit.intOf sv).toNat)
  case atStart => exact ⟨0, Nat.zero_le _, rfl, Lib.hid (fun j hj => absurd hj (by omega)), HST0⟩
  case round =>
    clear HST0 HW0 hmk
    obtain ⟨i, hin, rfl, HZ, HS⟩ := hrel
    by_cases hlt : i < n
    · have hlti : (i : Int) < (n : Int) := by omega
      have hi64 : IntKind.i64.wrap ((i : Int) + 1) = (i : Int) + 1 := by rw [IntKind.wrap_i64]; omega
      go_wp2_with fail
      obtain ⟨wo, rfl⟩ : ∃ wo, wo = wr := ⟨_, rfl⟩
      go_loopg [5] (way h i).length (fun gg av wr => ∃ (done rest : List Nat) (a : Int), av = .int .i64 a ∧ rest.length ≤ gg ∧ Hid (way h i = done ++ rest) ∧ Hid ((a = -1 ∧ rest = []) ∨ ∃ t : Nat, a = (t : Int) ∧ t < n ∧ rest = way h t) ∧ Hid (∀ a ∈ done, gapAt h i a = false) ∧ Hid (DSt w wr N (intsN (endsL h i done))))
      case atStart => exact ⟨[], way h i, i, rfl, Nat.le_refl _, Lib.hid rfl, Lib.hid (.inr ⟨i, rfl, hlt, rfl⟩), Lib.hid (by simp), HS⟩
      case round =>
        clear HS
        obtain ⟨done, rest, a, rfl, hgg, HD, HR, HG, HS⟩ := hrel
        rcases HR.out with ⟨ha, hr⟩ | ⟨t, ha, ht, hr⟩
        · subst ha
          subst hr
          have HZ2 := Lib.hid (show ∀ j, j < i + 1 → ∀ a ∈ way h j, gapAt h j a = false from fun j hj a ha => by
            by_cases e : j = i
            · subst e
              rw [HD.out, List.append_nil] at ha
              exact HG.out a ha
            · exact HZ.out j (by omega) a ha)
          have HS2 := Lib.hid (show DSt w wr N (intsN (endsL h (i + 1) [])) by
            rw [← ends_next, HD.out, List.append_nil]
            exact HS.out)
          clear HR HD HG HS
          go_wp2_with fail
          exact ⟨⟨i + 1, by omega, by go_num, HZ2, HS2⟩, by simp only [Go.RowKit.intOf]; omega⟩
        · subst ha
          have hti : (t : Int) < (n : Int) := by omega
          have ht1 : ((t : Int) != -1) = true := by simp <;> omega
          have hnd : t ∉ done := fun hm => by
            have h1 := way_nodup HO.out i
            rw [HD.out, hr, List.nodup_append] at h1
            exact h1.2.2 t hm t (way_self t) rfl
          have hmem : t ∈ way h i := by rw [HD.out, hr]; exact List.mem_append_right _ (way_self t)
          have hcur := ends_at (h := h) (i := i) (by rw [HN.out]; exact ht) hnd
          have kw : wr.cell? ⟨N, t, none⟩ = some (.int .i64 (lastD h i t : Int)) := by
            rw [← hcur]
            exact cell_of HS.out.d (intRow_get (by rw [intsN_len, ends_len, HN.out]; exact ht))
          have fw : wr.frozen? ⟨N, t, none⟩ = false := frozen_of HS.out.d
          have hge : gapAt h i t = (decide (lastD h i t ≠ 0) && decide (lastD h i t ≠ i)) := rfl
          have hcl := lastD_le (h := h) (a := t) (i := i)
          obtain ⟨c, hcc⟩ : ∃ c, lastD h i t = c := ⟨_, rfl⟩
          rw [hcc] at kw hge hcl
          have HMEM := Lib.hid hmem
          by_cases hgap : gapAt h i t = true
          · rw [hgap] at hge
            have hqt : q = true := by
              rw [← HQ.out]
              unfold gapB
              rw [List.any_eq_true]
              exact ⟨i, List.mem_range.2 (by rw [HN.out]; exact hlt), List.any_eq_true.2 ⟨t, hmem, hgap⟩⟩
            subst hqt
            have hge2 := hge.symm
            rw [Bool.and_eq_true, decide_eq_true_iff, decide_eq_true_iff] at hge2
            have c0 : ((c : Int) != 0) = true := by simp <;> omega
            have c1 : ((c : Int) != (i : Int)) = true := by simp <;> omega
            have HB := Lib.hid HS.out.below
            clear HR HD HG HS hr ht hnd hmem hcur hge hge2 hcl hcc hgap
            go_wp2_with fail
            go_ret
            exact ⟨rfl, HB.out⟩
          · have hgf : gapAt h i t = false := by simpa using hgap
            have HG2 := Lib.hid (show ∀ a ∈ done ++ [t], gapAt h i a = false from fun a ha => by
              rw [List.mem_append, List.mem_singleton] at ha
              rcases ha with ha | ha
              · exact HG.out a ha
              · subst ha; exact hgf)
            have HS2 := Lib.hid (show DSt w (wr.setCell ⟨N, t, none⟩ (.int .i64 ((i : Int) + 1))) N (intsN (endsL h i (done ++ [t]))) by
              rw [← ends_set (by rw [HN.out]; exact ht), ← intsN_set]
              exact HS.out.set HNN.out t ((i + 1 : Nat) : Int))
            obtain ⟨bk, off, rfl, hbk, hcel⟩ := HCELL.out wr HS.out.below (by omega)
            have hk2 : ∀ x, h[t]? = some x → (wr.setCell ⟨N, t, none⟩ (.int .i64 ((i : Int) + 1))).cell? ⟨bk, off + t, none⟩ = some (.int .i64 x) := fun x hx => (World.cell?_of_block (Below.heap_setCell wr ⟨N, t, none⟩ _ bk (by show bk ≠ N; omega))).trans (hcel t x hx)
            have hpre : ∀ rest', way h t = t :: rest' → way h i = (done ++ [t]) ++ rest' ∧ rest.length = rest'.length + 1 := fun rest' e => by
              rw [HD.out, hr, e]
              simp
            rw [hgf] at hge
            have hge2 := hge.symm
            rcases HAT.out t ht with ⟨hx, hs⟩ | ⟨b, hx, hb, hs⟩
            · have u0 := hk2 _ hx
              have HP := Lib.hid (hpre [] (way_root HO.out hs))
              clear HR HD HG HS hr ht hnd hmem hcur hge hcl hcc hgap hgf hk2 hpre hx hs hcel hbk
              by_cases hc0 : c = 0
              · subst hc0
                clear hge2
                go_wp2_with fail
                go_roundg 0
                case measure => have := HP.out.2; simp only [List.length_nil] at this; omega
                case rel => exact ⟨done ++ [t], [], -1, rfl, Nat.le_refl _, Lib.hid HP.out.1, Lib.hid (.inl ⟨rfl, rfl⟩), HG2, HS2⟩
              · have hci : c = i := by
                  simp [hc0] at hge2
                  exact hge2
                subst hci
                have c0 : ((c : Int) != 0) = true := by simp <;> omega
                have c1 : ((c : Int) != (c : Int)) = false := by simp
                clear hge2
                go_wp2_with fail
                go_roundg 0
                case measure => have := HP.out.2; simp only [List.length_nil] at this; omega
                case rel => exact ⟨done ++ [t], [], -1, rfl, Nat.le_refl _, Lib.hid HP.out.1, Lib.hid (.inl ⟨rfl, rfl⟩), HG2, HS2⟩
            · have u0 := hk2 _ hx
              have HP := Lib.hid (hpre _ (way_step HO.out hs))
              have hbn : b < n := by rw [← HN.out]; exact hb
              have HBN := Lib.hid hbn
              clear HR HD HG HS hr ht hnd hmem hcur hge hcl hcc hgap hgf hk2 hpre hx hs hcel hbk hb hbn
              by_cases hc0 : c = 0
              · subst hc0
                clear hge2
                go_wp2_with fail
                go_roundg (way h b).length
                case measure => have := HP.out.2; omega
                case rel => exact ⟨done ++ [t], way h b, b, rfl, Nat.le_refl _, Lib.hid HP.out.1, Lib.hid (.inr ⟨b, rfl, HBN.out, rfl⟩), HG2, HS2⟩
              · have hci : c = i := by
                  simp [hc0] at hge2
                  exact hge2
                subst hci
                have c0 : ((c : Int) != 0) = true := by simp <;> omega
                have c1 : ((c : Int) != (c : Int)) = false := by simp
                clear hge2
                go_wp2_with fail
                go_roundg (way h b).length
                case measure => have := HP.out.2; omega
                case rel => exact ⟨done ++ [t], way h b, b, rfl, Nat.le_refl _, Lib.hid HP.out.1, Lib.hid (.inr ⟨b, rfl, HBN.out, rfl⟩), HG2, HS2⟩
    · obtain rfl : i = n := by omega
      have hqf : q = false := by
        rw [← HQ.out]
        unfold gapB
        rw [List.any_eq_false]
        intro j hj
        rw [Bool.not_eq_true, List.any_eq_false]
        intro a ha
        rw [HZ.out j (by have := List.mem_range.1 hj; rw [HN.out] at this; exact this) a ha]
        simp
      subst hqf
      have HB := Lib.hid HS.out.below
      clear HS HZ
      go_wp2_with fail
      go_ret
      exact ⟨rfl, HB.out⟩

set_option maxRecDepth 100000 in
set_option maxHeartbeats 4000000 in
theorem projective_any {w : World} {v : Value} {h : List Int} (hv : Rows 1 EInt w v h) (hl : h.length ≤ maxLen) :
    Calls Tryz.prog 19 #[v] w fun e w' => e = .returned (.bool (projH h)) ∧ Below w.heap.size w w' := by
  obtain ⟨A, cap, rfl, hc⟩ := hv.form
  have HVA := Lib.hid (valid_any hv hl)
  unfold projH
  by_cases hok : okH h = true
  · have HGA := Lib.hid (fun W (hb : Below w.heap.size w W) => anyGap_any (hv.below stays_int hb) (okh_iff.1 hok))
    rw [hok] at HVA ⊢
    obtain ⟨q, hq⟩ : ∃ q, gapB h = q := ⟨_, rfl⟩
    rw [hq] at HGA ⊢
    rw [Bool.true_and]
    obtain ⟨n, hn⟩ : ∃ n, h.length = n := ⟨_, rfl⟩
    rw [hn] at HVA HGA hc ⊢
    clear hok hq hv hl hn
    go_enter Tryz.func19, Tryz.ntmps19
    go_wp2_with fail
    refine HVA.out.mono ?_
    rintro e w1 ⟨rfl, hb1⟩
    have HB1 := Lib.hid hb1
    clear hb1
    go_wp2_with fail
    refine (HGA.out w1 HB1.out).mono ?_
    rintro e w2 ⟨rfl, hb2⟩
    have HB2 := Lib.hid (HB1.out.trans (hb2.mono HB1.out.size))
    clear hb2
    go_wp2_with fail
    go_ret
    exact ⟨rfl, HB2.out⟩
  · have hok2 : okH h = false := by simpa using hok
    rw [hok2] at HVA ⊢
    rw [Bool.false_and]
    obtain ⟨n, hn⟩ : ∃ n, h.length = n := ⟨_, rfl⟩
    rw [hn] at HVA hc ⊢
    clear hok hok2 hv hl hn
    go_enter Tryz.func19, Tryz.ntmps19
    go_wp2_with fail
    refine HVA.out.mono ?_
    rintro e w1 ⟨rfl, hb1⟩
    have HB1 := Lib.hid hb1
    clear hb1
    go_wp2_with fail
    go_ret
    exact ⟨rfl, HB1.out⟩
end Go.Proofs.YtpkkebojiengpaaGreatDoor
