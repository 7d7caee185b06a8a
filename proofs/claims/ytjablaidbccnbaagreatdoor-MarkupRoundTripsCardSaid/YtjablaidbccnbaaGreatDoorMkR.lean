/-
  WALKS over package markup, ninth part: raw, value.
-/
import Derived.Test.YtjablaidbccnbaaGreatDoorMkP
namespace Go.Proofs.YtjablaidbccnbaaGreatDoor
open Go.RowKit Go.Shelf Go.Lib

theorem but_mem {w w' : World} {b : Nat} (h : Mem w) (hb : But b w w') (hlt : ∀ g ∈ [0, 4, 5, 6], g < b) (hbw : b < w.heap.size) : Mem w' := by
  have hbe : Below b w w' := below_but hb (Nat.le_refl _) (Nat.le_of_lt hbw)
  obtain ⟨tp, p, e⟩ := h.syn
  obtain ⟨tq, q, f⟩ := h.rng
  exact {
    named := h.named.below hbe (hlt _ (by simp))
    syn := ⟨tp, p, var?_below hbe Tryz.gSyn (hlt _ (by simp)) e⟩
    rng := ⟨tq, q, var?_below hbe Tryz.gRng (hlt _ (by simp)) f⟩
    tab := var?_below hbe Tryz.gPow (hlt _ (by simp)) h.tab
    low := ⟨Nat.lt_of_lt_of_le h.low.1 hbe.size, Nat.lt_of_lt_of_le h.low.2.1 hbe.size, Nat.lt_of_lt_of_le h.low.2.2 hbe.size⟩ }
/-- The scanner and what it needs: its block lies behind what was there. -/
structure At (w : World) (b : Nat) (s : ByteArray) (i : Nat) : Prop where
  scan : Scan w b s i
  mem : Mem w
  far : ∀ g ∈ [0, 4, 5, 6], g < b
  le : i ≤ s.size
  small : s.size ≤ 1000000
theorem At.below {w w' : World} {b : Nat} {s : ByteArray} {i : Nat} (h : At w b s i) (hb : Below w.heap.size w w') : At w' b s i :=
  ⟨h.scan.below hb, h.mem.below hb (Nat.le_refl _), h.far, h.le, h.small⟩
theorem At.to {w w' : World} {b : Nat} {s : ByteArray} {i j : Nat} (h : At w b s i) (hs : Scan w' b s j) (hb : But b w w') (hj : j ≤ s.size) : At w' b s j :=
  ⟨hs, but_mem h.mem hb h.far h.scan.lt, h.far, hj, h.small⟩

set_option maxHeartbeats 1000000 in
theorem raw_any {w : World} {b : Nat} {s : ByteArray} {i : Nat} (h : At w b s i) :
    Calls Tryz.prog 63 #[.pointer (some ⟨b, 0, none⟩)] w fun e w' => e = .returned (.string ⟨(rawT s.data.toList i).toArray⟩) ∧ Scan w' b s (i + rawN s.data.toList i) ∧ But b w w' := by
  obtain ⟨hsc, _, _, hi, hs⟩ := h
  obtain ⟨c0, c1, f1⟩ := hsc.cells
  obtain ⟨R, hR⟩ : ∃ R, s.extract i s.size = R := ⟨_, rfl⟩
  have hRd : R.data.toList = s.data.toList.drop i := by rw [← hR, Lib.extract_from]
  have hRs : R.size = s.size - i := by rw [Lib.size_eq, hRd, List.length_drop, ← Lib.size_eq]
  have hI := fun W => indexAny_any R (by omega) W
  rw [hRd, raw_index] at hI
  have hle := raw_le s.data.toList i
  rw [← Lib.size_eq] at hle
  have hrl : (s.data.toList.drop i).length = R.size := by rw [Lib.size_eq, hRd]
  have hrn : ((s.data.toList.drop i).takeWhile rawB).length = rawN s.data.toList i := rfl
  have hT : (⟨(rawT s.data.toList i).toArray⟩ : ByteArray) = R.extract 0 (rawN s.data.toList i) := by
    rw [Lib.extract_upto, hRd]
    rfl
  rw [hrn, hrl] at hI
  rw [hT]
  obtain ⟨n, hn⟩ : ∃ n, rawN s.data.toList i = n := ⟨_, rfl⟩
  rw [hn] at hle hI ⊢
  have HS := Lib.hid hsc
  by_cases hlt : n < R.size
  · rw [if_pos hlt] at hI
    obtain ⟨T, hTT⟩ : ∃ T, R.extract 0 n = T := ⟨_, rfl⟩
    have hTs : T.size = n := by rw [← hTT, Lib.extract_upto, Lib.size_mk, List.length_take, ← Lib.size_eq]; omega
    rw [hTT]
    have HI := Lib.hid hI
    have hnn : n ≤ R.size := Nat.le_of_lt hlt
    clear hsc hI hRd hRs hrl hrn hT hn
    go_enter Tryz.func63, Tryz.ntmps63
    go_wp2_with fail
    go_quiet (fail)
    go_wp2_with fail
    refine (HI.out _).mono ?_
    rintro e w1 ⟨rfl, hb1⟩
    have HB1 := Lib.hid hb1
    obtain ⟨d0, d1, e1⟩ := ((HS.out.keep (w' := w.drewN nq) rfl).below hb1).cells
    clear hb1
    go_wp2_with fail
    go_ret
    have hm := ((HS.out.keep (w' := w.drewN nq) rfl).below HB1.out).move (i + n) ((i : Int) + (n : Int)) (by omega)
    exact ⟨rfl, hm.1, but_trans (but_trans (grown_drew' b w nq) (but_below HB1.out)) hm.2⟩
  · rw [if_neg hlt] at hI
    have hRT : R.extract 0 n = R := by
      have : n = R.size := by omega
      rw [this]
      simp
    rw [hRT]
    have hnR : R.size = n := by omega
    have HI := Lib.hid hI
    have HN := Lib.hid hnR
    clear hsc hI hRd hRs hrl hrn hT hn hRT hnR
    go_enter Tryz.func63, Tryz.ntmps63
    go_wp2_with fail
    go_quiet (fail)
    go_wp2_with fail
    refine (HI.out _).mono ?_
    rintro e w1 ⟨rfl, hb1⟩
    have HB1 := Lib.hid hb1
    obtain ⟨d0, d1, e1⟩ := ((HS.out.keep (w' := w.drewN nq) rfl).below hb1).cells
    clear hb1
    go_wp2_with fail
    go_ret
    have hm := ((HS.out.keep (w' := w.drewN nq) rfl).below HB1.out).move (i + n) ((i : Int) + (R.size : Int)) (by have := HN.out; omega)
    exact ⟨rfl, hm.1, but_trans (but_trans (grown_drew' b w nq) (but_below HB1.out)) hm.2⟩

def failI (a e : Int) : Ending := .panicked [{ v := .iface 42 (.agg #[.int .i64 a, .int .i64 e]), recovered := false }]
theorem failI_eq {a e : Int} {A E : Nat} (ha : a = A) (he : e = E) : failI a e = failE A E := by subst ha he; rfl
theorem fail_int (b : Nat) (a e : Int) (w : World) :
    Calls Tryz.prog 34 #[.pointer (some ⟨b, 0, none⟩), .int .i64 a, .int .i64 e] w fun en w' => en = failI a e ∧ w' = w := by
  unfold failI
  go_enter Tryz.func34, Tryz.ntmps34
  go_wp2
  exact ⟨rfl, rfl, rfl⟩
theorem unesc_len : ∀ (n : Nat) (l t : Bs), l.length ≤ n → unesc l = .ok t → t.length ≤ l.length
  | n, [], t, _, h => by rw [unesc_nil] at h; cases h; simp
  | 0, c :: r, t, hn, h => by simp at hn
  | n + 1, c :: r, t, hn, h => by
    rw [List.length_cons] at hn
    by_cases hc : c = 38
    · subst hc
      cases hl : lead (38 :: r) with
      | none => rw [unesc_bad rfl hl] at h; cases h
      | some q =>
        obtain ⟨x, k⟩ := q
        obtain ⟨h1, h2, h3⟩ := lead_len hl
        rw [unesc_lead rfl hl] at h
        rw [List.length_cons] at h2
        cases hu : unesc ((38 :: r).drop k) with
        | error a => rw [hu] at h; cases h
        | ok u =>
          rw [hu] at h
          cases h
          have := unesc_len n _ u (by rw [List.length_drop, List.length_cons]; omega) hu
          rw [List.length_drop, List.length_cons] at this
          rw [List.length_append, List.length_cons]
          omega
    · rw [unesc_byte c r hc] at h
      cases hu : unesc r with
      | error a => rw [hu] at h; cases h
      | ok u =>
        rw [hu] at h
        cases h
        have := unesc_len n r u (by omega) hu
        simp
        omega
theorem unesc_err : ∀ (n : Nat) (l : Bs) (a : Nat), l.length ≤ n → unesc l = .error a → a < l.length
  | n, [], a, _, h => by rw [unesc_nil] at h; cases h
  | 0, c :: r, a, hn, h => by simp at hn
  | n + 1, c :: r, a, hn, h => by
    rw [List.length_cons] at hn
    by_cases hc : c = 38
    · subst hc
      cases hl : lead (38 :: r) with
      | none => rw [unesc_bad rfl hl] at h; cases h; simp
      | some q =>
        obtain ⟨x, k⟩ := q
        obtain ⟨h1, h2, h3⟩ := lead_len hl
        rw [unesc_lead rfl hl] at h
        rw [List.length_cons] at h2
        cases hu : unesc ((38 :: r).drop k) with
        | ok u => rw [hu] at h; cases h
        | error d =>
          rw [hu] at h
          cases h
          have := unesc_err n _ d (by rw [List.length_drop, List.length_cons]; omega) hu
          rw [List.length_drop, List.length_cons] at this
          rw [List.length_cons]
          omega
    · rw [unesc_byte c r hc] at h
      cases hu : unesc r with
      | ok u => rw [hu] at h; cases h
      | error d =>
        rw [hu] at h
        cases h
        have := unesc_err n r d (by omega) hu
        simp
        omega
/-- What a step of the scanner does. -/
def Does (b : Nat) (s : ByteArray) (w : World) (r : PR Bs) (e : Ending) (w' : World) : Prop :=
  But b w w' ∧ match r with
  | .ok v j => e = .returned (.string ⟨v.toArray⟩) ∧ At w' b s j
  | .err a er => e = failE a er

set_option maxHeartbeats 1000000 in
theorem value_any {w : World} {b : Nat} {s : ByteArray} {i : Nat} (h : At w b s i) :
    Calls Tryz.prog 50 #[.pointer (some ⟨b, 0, none⟩)] w fun e w' => Does b s w (pValue s.data.toList i) e w' := by
  have hsz : s.size = s.data.toList.length := Lib.size_eq s
  unfold pValue
  by_cases hq : s.data.toList[i]? = some 34
  · rw [if_pos hq]
    have hil : i < s.size := by rw [hsz]; exact (List.getElem?_eq_some_iff.1 hq).1
    have H1 := Lib.hid (expect_ok h.small h.scan h.le 34 hq)
    have HA := Lib.hid h
    have hrl := raw_le s.data.toList (i + 1)
    have hTl : (rawT s.data.toList (i + 1)).length ≤ s.size := by unfold rawT; rw [List.length_take, List.length_drop, ← hsz]; omega
    obtain ⟨T, hT⟩ : ∃ T, rawT s.data.toList (i + 1) = T := ⟨_, rfl⟩
    obtain ⟨n, hn⟩ : ∃ n, rawN s.data.toList (i + 1) = n := ⟨_, rfl⟩
    have H2 : Hid (∀ W, At W b s (i + 1) → Calls Tryz.prog 63 #[.pointer (some ⟨b, 0, none⟩)] W fun e w' => e = .returned (.string ⟨T.toArray⟩) ∧ Scan w' b s (i + 1 + n) ∧ But b W w') := Lib.hid (fun W hW => by rw [← hT, ← hn]; exact raw_any hW)
    rw [hn, ← hsz] at hrl
    rw [hT] at hTl ⊢
    rw [hn]
    have hs := h.small
    have hle2 : i + 1 + n ≤ s.size := by omega
    obtain ⟨TS, hTS⟩ : ∃ S : ByteArray, (⟨T.toArray⟩ : ByteArray) = S := ⟨_, rfl⟩
    rw [hTS] at H2
    have hTd : TS.data.toList = T := by rw [← hTS]
    have hTz : TS.size ≤ 1000000 := by rw [Lib.size_eq, hTd]; omega
    by_cases hq2 : s.data.toList[i + 1 + n]? = some 34
    · rw [if_pos hq2]
      have hil2 : i + 1 + n < s.size := by rw [hsz]; exact (List.getElem?_eq_some_iff.1 hq2).1
      have H3 := Lib.hid (fun (W : World) (hW : At W b s (i + 1 + n)) => expect_ok hW.small hW.scan hW.le 34 hq2)
      have H4 : Hid (∀ W, Mem W → Calls Tryz.prog 64 #[.string TS] W fun e w' => e = .returned (unV (unesc T)) ∧ Below W.heap.size W w') := Lib.hid (fun W hW => by rw [← hTd]; exact unescape_any TS hTz W hW)
      cases hu : unesc T with
      | error a =>
        have ha := unesc_err T.length T a (Nat.le_refl _) hu
        have hal : a ≤ 1000000 := by omega
        have H4 : Hid (∀ W, Mem W → Calls Tryz.prog 64 #[.string TS] W fun e w' => e = .returned (.tuple #[.string ⟨#[]⟩, .int .i64 (a : Int), .int .i64 3]) ∧ Below W.heap.size W w') := Lib.hid (fun W hW => by have := H4.out W hW; rw [hu] at this; exact this)
        clear h hq hrl hTl hT hn hTS hTd hTz hq2 hu hsz ha
        go_enter Tryz.func50, Tryz.ntmps50
        go_wp2_with fail
        refine H1.out.mono ?_
        rintro e w1 ⟨rfl, hsc1, hb1⟩
        have HA1 := Lib.hid (And.intro (HA.out.to hsc1 hb1 (by omega)) hb1)
        obtain ⟨c0, c1, f1⟩ := hsc1.cells
        clear hsc1 hb1
        go_wp2_with fail
        refine (H2.out _ HA1.out.1).mono ?_
        rintro e w2 ⟨rfl, hsc2, hb2⟩
        have HA2 := Lib.hid (And.intro (HA1.out.1.to hsc2 hb2 hle2) (but_trans HA1.out.2 hb2))
        clear hsc2 hb2 c0 c1 f1
        go_wp2_with fail
        refine (H3.out _ HA2.out.1).mono ?_
        rintro e w3 ⟨rfl, hsc3, hb3⟩
        have HA3 := Lib.hid (And.intro (HA2.out.1.to hsc3 hb3 (by omega)) (but_trans HA2.out.2 hb3))
        clear hsc3 hb3
        go_wp2_with fail
        refine (H4.out _ HA3.out.1.mem).mono ?_
        rintro e w4 ⟨rfl, hb4⟩
        have HA4 := Lib.hid (And.intro (HA3.out.1.below hb4) (but_trans HA3.out.2 (but_below hb4)))
        clear hb4
        go_wp2_with fail
        refine (fail_int b _ _ _).mono ?_
        rintro e w6 ⟨rfl, rfl⟩
        unfold failI
        go_wp2_with fail
        exact ⟨rfl, HA4.out.2, failI_eq (by omega) rfl⟩
      | ok v =>
        have hvl : v.length ≤ 1000000 := by have := unesc_len T.length T v (Nat.le_refl _) hu; omega
        have H4 : Hid (∀ W, Mem W → Calls Tryz.prog 64 #[.string TS] W fun e w' => e = .returned (.tuple #[.string ⟨v.toArray⟩, .int .i64 0, .int .i64 0]) ∧ Below W.heap.size W w') := Lib.hid (fun W hW => by have := H4.out W hW; rw [hu] at this; exact this)
        have hv := fun W => validValue_any ⟨v.toArray⟩ (by rw [Lib.size_mk]; unfold maxLen; omega) W
        obtain ⟨VS, hVS⟩ : ∃ S : ByteArray, (⟨v.toArray⟩ : ByteArray) = S := ⟨_, rfl⟩
        have hVd : VS.data.toList = v := by rw [← hVS]
        rw [hVS] at H4
        simp only [hVS] at hv
        have HVS := Lib.hid hVS
        obtain ⟨E, hE⟩ : ∃ E, valE v = E := ⟨_, rfl⟩
        rw [hE] at hv
        simp only [hE]
        by_cases hE0 : E = 0
        · subst hE0
          simp only [if_true]
          have HV := Lib.hid hv
          clear h hq hrl hTl hT hn hTS hTd hTz hq2 hu hsz hv hVS hVd hE hvl
          go_enter Tryz.func50, Tryz.ntmps50
          go_wp2_with fail
          refine H1.out.mono ?_
          rintro e w1 ⟨rfl, hsc1, hb1⟩
          have HA1 := Lib.hid (And.intro (HA.out.to hsc1 hb1 (by omega)) hb1)
          obtain ⟨c0, c1, f1⟩ := hsc1.cells
          clear hsc1 hb1
          go_wp2_with fail
          refine (H2.out _ HA1.out.1).mono ?_
          rintro e w2 ⟨rfl, hsc2, hb2⟩
          have HA2 := Lib.hid (And.intro (HA1.out.1.to hsc2 hb2 hle2) (but_trans HA1.out.2 hb2))
          clear hsc2 hb2 c0 c1 f1
          go_wp2_with fail
          refine (H3.out _ HA2.out.1).mono ?_
          rintro e w3 ⟨rfl, hsc3, hb3⟩
          have HA3 := Lib.hid (And.intro (HA2.out.1.to hsc3 hb3 (by omega)) (but_trans HA2.out.2 hb3))
          clear hsc3 hb3
          go_wp2_with fail
          refine (H4.out _ HA3.out.1.mem).mono ?_
          rintro e w4 ⟨rfl, hb4⟩
          have HA4 := Lib.hid (And.intro (HA3.out.1.below hb4) (but_trans HA3.out.2 (but_below hb4)))
          clear hb4
          go_wp2_with fail
          refine (HV.out _).mono ?_
          rintro e w5 ⟨rfl, hb5⟩
          have HA5 := Lib.hid (And.intro (HA4.out.1.below hb5) (but_trans HA4.out.2 (but_below hb5)))
          clear hb5
          go_wp2_with fail
          go_ret
          exact ⟨HA5.out.2, by rw [HVS.out]; rfl, HA5.out.1⟩
        · simp only [if_neg hE0]
          have HV := Lib.hid hv
          have hEn : ((E : Int) == 0) = false := by simp; omega
          clear h hq hrl hTl hT hn hTS hTd hTz hq2 hu hsz hv hVS hVd hE hvl hE0
          go_enter Tryz.func50, Tryz.ntmps50
          go_wp2_with fail
          refine H1.out.mono ?_
          rintro e w1 ⟨rfl, hsc1, hb1⟩
          have HA1 := Lib.hid (And.intro (HA.out.to hsc1 hb1 (by omega)) hb1)
          obtain ⟨c0, c1, f1⟩ := hsc1.cells
          clear hsc1 hb1
          go_wp2_with fail
          refine (H2.out _ HA1.out.1).mono ?_
          rintro e w2 ⟨rfl, hsc2, hb2⟩
          have HA2 := Lib.hid (And.intro (HA1.out.1.to hsc2 hb2 hle2) (but_trans HA1.out.2 hb2))
          clear hsc2 hb2 c0 c1 f1
          go_wp2_with fail
          refine (H3.out _ HA2.out.1).mono ?_
          rintro e w3 ⟨rfl, hsc3, hb3⟩
          have HA3 := Lib.hid (And.intro (HA2.out.1.to hsc3 hb3 (by omega)) (but_trans HA2.out.2 hb3))
          clear hsc3 hb3
          go_wp2_with fail
          refine (H4.out _ HA3.out.1.mem).mono ?_
          rintro e w4 ⟨rfl, hb4⟩
          have HA4 := Lib.hid (And.intro (HA3.out.1.below hb4) (but_trans HA3.out.2 (but_below hb4)))
          clear hb4
          go_wp2_with fail
          refine (HV.out _).mono ?_
          rintro e w5 ⟨rfl, hb5⟩
          have HA5 := Lib.hid (And.intro (HA4.out.1.below hb5) (but_trans HA4.out.2 (but_below hb5)))
          clear hb5
          go_wp2_with fail
          refine (fail_int b _ _ _).mono ?_
          rintro e w6 ⟨rfl, rfl⟩
          unfold failI
          go_wp2_with fail
          exact ⟨rfl, HA5.out.2, failI_eq rfl rfl⟩
    · rw [if_neg hq2]
      have H3 := Lib.hid (fun (W : World) (hW : At W b s (i + 1 + n)) => expect_no hW.small hW.scan hW.le 34 hq2)
      clear h hq hrl hTl hT hn hTS hTd hTz hq2 hsz
      go_enter Tryz.func50, Tryz.ntmps50
      go_wp2_with fail
      refine H1.out.mono ?_
      rintro e w1 ⟨rfl, hsc1, hb1⟩
      have HA1 := Lib.hid (And.intro (HA.out.to hsc1 hb1 (by omega)) hb1)
      obtain ⟨c0, c1, f1⟩ := hsc1.cells
      clear hsc1 hb1
      go_wp2_with fail
      refine (H2.out _ HA1.out.1).mono ?_
      rintro e w2 ⟨rfl, hsc2, hb2⟩
      have HA2 := Lib.hid (And.intro (HA1.out.1.to hsc2 hb2 hle2) (but_trans HA1.out.2 hb2))
      clear hsc2 hb2 c0 c1 f1
      go_wp2_with fail
      refine (H3.out _ HA2.out.1).mono ?_
      rintro e w3 ⟨rfl, hb3⟩
      have HB3 := Lib.hid (but_trans HA2.out.2 hb3)
      clear hb3
      unfold failE
      go_wp2_with fail
      exact ⟨rfl, HB3.out, rfl⟩
  · rw [if_neg hq]
    have H1 := Lib.hid (expect_no h.small h.scan h.le 34 hq)
    clear h hq hsz
    go_enter Tryz.func50, Tryz.ntmps50
    go_wp2_with fail
    refine H1.out.mono ?_
    rintro e w1 ⟨rfl, hb1⟩
    unfold failE
    go_wp2_with fail
    exact ⟨rfl, hb1, rfl⟩
end Go.Proofs.YtjablaidbccnbaaGreatDoor
