/-
  WALKS over the reference of markup: escape.
-/
import Derived.Test.YtjablaidbccnbaaGreatDoorMrC
import Derived.Test.YtjablaidbccnbaaGreatDoorMkF
import Derived.BigQuiet
namespace Go.Proofs.YtjablaidbccnbaaGreatDoor
open Go.RowKit Go.Shelf Go.Lib

theorem pre_iff (L P : Bs) : hasPrefix L P = decide (L.take P.length = P) := by
  unfold hasPrefix
  rw [Bool.eq_iff_iff, List.isPrefixOf_iff_prefix, List.prefix_iff_eq_take, decide_eq_true_iff]
  exact eq_comm
theorem pre_short {L P : Bs} (h : L.length < P.length) : hasPrefix L P = false := by
  rw [pre_iff, decide_eq_false_iff_not]
  intro e
  have := congrArg List.length e
  rw [List.length_take] at this
  omega
theorem numE_short {m : Bs} (h : m.length ≤ 1) : numE m = none := by
  have hc : cpL [] = none := rfl
  match m, h with
  | [], _ => unfold numE; rw [List.takeWhile_nil, hc]
  | [c], _ =>
    unfold numE
    rw [List.takeWhile_cons]
    cases hd : digB c with
    | true =>
      simp only [if_true, List.takeWhile_nil]
      cases cpL [c] <;> simp
    | false =>
      simp only [Bool.false_eq_true, if_false, hc]
theorem valD_lt : ∀ ds : Bs, ds.all digB = true → valD ds < 10 ^ ds.length := by
  intro ds
  induction hn : ds.length generalizing ds with
  | zero => intro _; rw [List.length_eq_zero_iff.1 hn]; decide
  | succ k ih =>
    intro h
    rcases List.eq_nil_or_concat ds with rfl | ⟨e, c, rfl⟩
    · simp at hn
    · rw [List.concat_eq_append] at hn h ⊢
      have he : e.length = k := by simpa using hn
      rw [List.all_append, Bool.and_eq_true] at h
      have h1 := ih e he h.1
      have h2 : digB c = true := by simpa using h.2
      unfold digB at h2
      rw [decide_eq_true_iff] at h2
      rw [valD_snoc, Nat.pow_succ]
      omega
theorem while_take (p : UInt8 → Bool) : ∀ (m : Bs) (j : Nat), (m.take j).all p = true → (j ≤ m.length → ∀ c, m[j]? = some c → p c = false) → m.takeWhile p = m.take j
  | [], j, _, _ => by simp
  | c :: r, 0, _, h => by
    rw [List.takeWhile_cons, if_neg (by rw [h (Nat.zero_le _) c rfl]; decide)]
    rfl
  | c :: r, j + 1, h1, h2 => by
    rw [List.take_succ_cons, List.all_cons, Bool.and_eq_true] at h1
    rw [List.takeWhile_cons, if_pos h1.1, List.take_succ_cons, while_take p r j h1.2 (fun hj c hc => h2 (by simpa using hj) c (by simpa using hc))]
theorem while_ge (p : UInt8 → Bool) : ∀ (m : Bs) (j : Nat), (m.take j).all p = true → j ≤ m.length → j ≤ (m.takeWhile p).length
  | _, 0, _, _ => Nat.zero_le _
  | [], j + 1, _, h => absurd h (by simp)
  | c :: r, j + 1, h1, h2 => by
    rw [List.take_succ_cons, List.all_cons, Bool.and_eq_true] at h1
    rw [List.takeWhile_cons, if_pos h1.1, List.length_cons]
    exact Nat.succ_le_succ (while_ge p r j h1.2 (by simpa using h2))
theorem rune_iff (n : Nat) : Lib.validRune (n : Int) = true ↔ n ≤ 1114111 ∧ (n < 55296 ∨ 57343 < n) := by
  unfold Lib.validRune
  simp
  omega
/-- What the number says, where the reading of digits stops at j. -/
theorem numE_stop {m : Bs} {j : Nat} (hj7 : j ≤ 7) (hjm : j ≤ m.length) (ha : (m.take j).all digB = true) (hs : j = m.length ∨ (∃ c, m[j]? = some c ∧ digB c = false)) :
    numE m = if j ≠ 0 ∧ m[j]? = some 59 ∧ ¬ (m[0]? = some 48 ∧ 1 < j) ∧ Lib.validRune (valD (m.take j) : Int) = true then some (utf (valD (m.take j)), j + 3) else none := by
  have hw : m.takeWhile digB = m.take j := while_take digB m j ha (fun _ c hc => by
    rcases hs with rfl | ⟨c', h1, h2⟩
    · rw [List.getElem?_eq_none (Nat.le_refl _)] at hc
      cases hc
    · rw [h1] at hc
      cases hc
      exact h2)
  have hl : (m.take j).length = j := by rw [List.length_take]; omega
  unfold numE
  rw [hw, hl]
  have hcp : cpL (m.take j) = if j ≠ 0 ∧ ¬ (m[0]? = some 48 ∧ 1 < j) ∧ Lib.validRune (valD (m.take j) : Int) = true then some (valD (m.take j)) else none := by
    unfold cpL plainD
    rw [ha, hl]
    by_cases h0 : j = 0
    · subst h0
      simp
    · have hhd : (m.take j).head? = m[0]? := by
        rw [List.head?_take, if_neg h0]
        cases m <;> rfl
      have hne : m.take j ≠ [] := by
        intro e
        rw [e] at hl
        simp at hl
        omega
      rw [hhd]
      simp only [hne, h0, ne_eq, not_false_eq_true, decide_true, Bool.true_and, true_and, decide_eq_true hj7, Bool.and_true, Bool.and_eq_true, Bool.not_eq_true', Bool.and_eq_false_iff, decide_eq_false_iff_not]
      by_cases h48 : m[0]? = some 48 <;> by_cases h1 : 1 < j <;> simp [h48, h1]
  rw [hcp]
  by_cases hc : j ≠ 0 ∧ ¬ (m[0]? = some 48 ∧ 1 < j) ∧ Lib.validRune (valD (m.take j) : Int) = true
  · rw [if_pos hc]
    simp only
    by_cases h59 : m[j]? = some 59
    · rw [if_pos h59, if_pos ⟨hc.1, h59, hc.2⟩]
    · rw [if_neg h59, if_neg (fun h => h59 h.2.1)]
  · rw [if_neg hc, if_neg (fun h => hc ⟨h.1, h.2.2⟩)]
theorem numE_long {m : Bs} {c : UInt8} (ha : (m.take 7).all digB = true) (h7 : m[7]? = some c) (hc : digB c = true) : numE m = none := by
  have hl : 7 < m.length := (List.getElem?_eq_some_iff.1 h7).1
  have h8 : (m.take 8).all digB = true := by
    rw [List.take_add_one, h7, List.all_append, ha]
    simp [hc]
  have hw := while_ge digB m 8 h8 hl
  have hcp : cpL (m.takeWhile digB) = none := by
    unfold cpL
    rw [decide_eq_false (p := (m.takeWhile digB).length ≤ 7) (by omega)]
    simp
  unfold numE
  rw [hcp]
/-- The table of the reference. -/
abbrev tabE : Array Value := #[.string ⟨#[38, 97, 109, 112, 59]⟩, .string ⟨#[38]⟩, .string ⟨#[38, 108, 116, 59]⟩, .string ⟨#[60]⟩, .string ⟨#[38, 103, 116, 59]⟩, .string ⟨#[62]⟩, .string ⟨#[38, 113, 117, 111, 116, 59]⟩, .string ⟨#[34]⟩]

set_option maxRecDepth 100000 in
set_option maxHeartbeats 4000000 in
theorem refLead_any (s : ByteArray) (hs : s.size ≤ 1000000) (w : World) :
    Calls Tryz.prog 51 #[.string s] w fun e w' => e = .returned (leadV (lead s.data.toList)) ∧ Below w.heap.size w w' := by
  have hsz : s.data.toList.length = s.size := (Lib.size_eq s).symm
  have hL : lead s.data.toList = if hasPrefix s.data.toList [38, 97, 109, 112, 59] then some ([38], 5) else if hasPrefix s.data.toList [38, 108, 116, 59] then some ([60], 4) else if hasPrefix s.data.toList [38, 103, 116, 59] then some ([62], 4) else if hasPrefix s.data.toList [38, 113, 117, 111, 116, 59] then some ([34], 6) else if hasPrefix s.data.toList [38, 35] then numE (s.data.toList.drop 2) else none := rfl
  obtain ⟨V, hV⟩ : ∃ V, lead s.data.toList = V := ⟨_, rfl⟩
  rw [hV] at hL ⊢
  have HL := Lib.hid hL
  obtain ⟨W0, hW0⟩ : ∃ W0, w.alloc (.cells tabE 54) = W0 := ⟨_, rfl⟩
  have hb0 : Below w.heap.size w W0 := by rw [← hW0]; exact (Below.refl _ w).alloc (Nat.le_refl _) _
  have hT0 : W0.heap[w.heap.size]? = some (.cells tabE 54 (0, 0)) := by rw [← hW0]; exact block_new _ _
  have HB0 := Lib.hid hb0
  have HT0 := Lib.hid hT0
  have HW0 := Lib.hid hW0
  clear hL hV hb0 hT0 hW0
  go_enter Tryz.func51, Tryz.ntmps51
  go_wp2_with fail
  rw [HW0.out]
  go_loopw [14] (fun i wr => ∃ j : Nat, i = .int .i64 j ∧ j ≤ 4 ∧ Below W0.heap.size W0 wr ∧
      (0 < j → hasPrefix s.data.toList [38, 97, 109, 112, 59] = false) ∧ (1 < j → hasPrefix s.data.toList [38, 108, 116, 59] = false) ∧ (2 < j → hasPrefix s.data.toList [38, 103, 116, 59] = false) ∧ (3 < j → hasPrefix s.data.toList [38, 113, 117, 111, 116, 59] = false)) (fun i _ => 4 - (Go.RowKit.intOf i).toNat)
  case atStart => exact ⟨0, rfl, by omega, Below.refl _ _, by omega, by omega, by omega, by omega⟩
  case round =>
    obtain ⟨j, rfl, hj, hb, n0, n1, n2, n3⟩ := hrel
    have hTr := block_below HT0.out hb (Array.getElem?_eq_some_iff.1 HT0.out).1
    have HB := Lib.hid hb
    have HN := Lib.hid (And.intro n0 (And.intro n1 (And.intro n2 n3)))
    clear hb n0 n1 n2 n3
    rcases (by omega : j = 0 ∨ j = 1 ∨ j = 2 ∨ j = 3 ∨ j = 4) with rfl | rfl | rfl | rfl | rfl
    · have c0 := cell_of (i := 0) hTr rfl
      have c1 := cell_of (i := 1) hTr rfl
      simp only [tabE] at c0 c1
      obtain ⟨W2, hW2⟩ : ∃ W2, wr.alloc (.cells #[.string ⟨#[38, 97, 109, 112, 59]⟩, .string ⟨#[38]⟩] 54) = W2 := ⟨_, rfl⟩
      have hb2 : Below wr.heap.size wr W2 := by rw [← hW2]; exact (Below.refl _ wr).alloc (Nat.le_refl _) _
      have hT2 : W2.heap[wr.heap.size]? = some (.cells #[.string ⟨#[38, 97, 109, 112, 59]⟩, .string ⟨#[38]⟩] 54 (0, 0)) := by rw [← hW2]; exact block_new _ _
      have HB2 := Lib.hid (HB.out.trans (hb2.mono HB.out.size))
      have HW2 := Lib.hid hW2
      have d0 := cell_of (i := 0) hT2 rfl
      have d1 := cell_of (i := 1) hT2 rfl
      clear hW2 hb2 hT2 hTr
      by_cases h5 : 5 ≤ s.size
      · obtain ⟨T, hT⟩ : ∃ T, s.extract 0 5 = T := ⟨_, rfl⟩
        have hTl : T = ⟨(s.data.toList.take 5).toArray⟩ := by rw [← hT, Lib.extract_upto]
        have hdec : decide ((5 : Int) ≤ (s.size : Int)) = true := decide_eq_true (by omega)
        have h5i : (5 : Int) ≤ (s.size : Int) := by omega
        have hq : (T.toList == [38, 97, 109, 112, 59]) = hasPrefix s.data.toList [38, 97, 109, 112, 59] := by
          rw [hTl, Lib.toList_data, pre_iff, Bool.eq_iff_iff]
          simp
        obtain ⟨q, hqq⟩ : ∃ q, hasPrefix s.data.toList [38, 97, 109, 112, 59] = q := ⟨_, rfl⟩
        rw [hqq] at hq
        have HQ := Lib.hid hqq
        clear hqq hTl
        cases q with
        | true =>
          have HV : Hid (V = some ([38], 5)) := Lib.hid (by
            have hl := HL.out
            rw [if_pos HQ.out] at hl
            exact hl)
          go_wp2_with fail
          rw [HW2.out]
          go_quiet (fail)
          obtain ⟨W3, hW3⟩ : ∃ W3, W2.drewN nq = W3 := ⟨_, rfl⟩
          have e0 : W3.cell? ⟨wr.heap.size, 0, none⟩ = some (.string ⟨#[38, 97, 109, 112, 59]⟩) := by rw [← hW3]; exact d0
          have e1 : W3.cell? ⟨wr.heap.size, 1, none⟩ = some (.string ⟨#[38]⟩) := by rw [← hW3]; exact d1
          have HB3 : Hid (Below W0.heap.size W0 W3) := Lib.hid (by rw [← hW3]; exact below_drewN HB2.out nq)
          rw [hW3]
          clear hW3 d0 d1 hq
          go_wp2_with fail
          go_quiet (fail)
          go_wp2_with fail
          go_ret2
          exact ⟨by rw [HV.out]; rfl, HB0.out.trans ((below_drewN HB3.out _).mono HB0.out.size)⟩
        | false =>
          go_wp2_with fail
          rw [HW2.out]
          go_quiet (fail)
          clear d0 d1
          go_wp2_with fail
          go_round
          case rel => exact ⟨1, by go_num, by omega, below_drewN HB2.out nq, (fun _ => HQ.out), (fun h => absurd h (by decide)), (fun h => absurd h (by decide)), (fun h => absurd h (by decide))⟩
          case measure => simp [Go.RowKit.intOf]
      · have HQ : Hid (hasPrefix s.data.toList [38, 97, 109, 112, 59] = false) := Lib.hid (pre_short (by rw [hsz]; simp only [List.length_cons, List.length_nil]; omega))
        have hdec : decide ((5 : Int) ≤ (s.size : Int)) = false := decide_eq_false (by omega)
        have h5i : ¬ (5 : Int) ≤ (s.size : Int) := by omega
        go_wp2_with fail
        rw [HW2.out]
        go_quiet (fail)
        clear d0 d1
        go_wp2_with fail
        go_round
        case rel => exact ⟨1, by go_num, by omega, below_drewN HB2.out nq, (fun _ => HQ.out), (fun h => absurd h (by decide)), (fun h => absurd h (by decide)), (fun h => absurd h (by decide))⟩
        case measure => simp [Go.RowKit.intOf]
    · have c0 := cell_of (i := 2) hTr rfl
      have c1 := cell_of (i := 3) hTr rfl
      simp only [tabE] at c0 c1
      obtain ⟨W2, hW2⟩ : ∃ W2, wr.alloc (.cells #[.string ⟨#[38, 108, 116, 59]⟩, .string ⟨#[60]⟩] 54) = W2 := ⟨_, rfl⟩
      have hb2 : Below wr.heap.size wr W2 := by rw [← hW2]; exact (Below.refl _ wr).alloc (Nat.le_refl _) _
      have hT2 : W2.heap[wr.heap.size]? = some (.cells #[.string ⟨#[38, 108, 116, 59]⟩, .string ⟨#[60]⟩] 54 (0, 0)) := by rw [← hW2]; exact block_new _ _
      have HB2 := Lib.hid (HB.out.trans (hb2.mono HB.out.size))
      have HW2 := Lib.hid hW2
      have d0 := cell_of (i := 0) hT2 rfl
      have d1 := cell_of (i := 1) hT2 rfl
      clear hW2 hb2 hT2 hTr
      by_cases h5 : 4 ≤ s.size
      · obtain ⟨T, hT⟩ : ∃ T, s.extract 0 4 = T := ⟨_, rfl⟩
        have hTl : T = ⟨(s.data.toList.take 4).toArray⟩ := by rw [← hT, Lib.extract_upto]
        have hdec : decide ((4 : Int) ≤ (s.size : Int)) = true := decide_eq_true (by omega)
        have h5i : (4 : Int) ≤ (s.size : Int) := by omega
        have hq : (T.toList == [38, 108, 116, 59]) = hasPrefix s.data.toList [38, 108, 116, 59] := by
          rw [hTl, Lib.toList_data, pre_iff, Bool.eq_iff_iff]
          simp
        obtain ⟨q, hqq⟩ : ∃ q, hasPrefix s.data.toList [38, 108, 116, 59] = q := ⟨_, rfl⟩
        rw [hqq] at hq
        have HQ := Lib.hid hqq
        clear hqq hTl
        cases q with
        | true =>
          have HV : Hid (V = some ([60], 4)) := Lib.hid (by
            have hl := HL.out
            rw [if_neg (by rw [HN.out.1 (by decide)]; decide)] at hl
            rw [if_pos HQ.out] at hl
            exact hl)
          go_wp2_with fail
          rw [HW2.out]
          go_quiet (fail)
          obtain ⟨W3, hW3⟩ : ∃ W3, W2.drewN nq = W3 := ⟨_, rfl⟩
          have e0 : W3.cell? ⟨wr.heap.size, 0, none⟩ = some (.string ⟨#[38, 108, 116, 59]⟩) := by rw [← hW3]; exact d0
          have e1 : W3.cell? ⟨wr.heap.size, 1, none⟩ = some (.string ⟨#[60]⟩) := by rw [← hW3]; exact d1
          have HB3 : Hid (Below W0.heap.size W0 W3) := Lib.hid (by rw [← hW3]; exact below_drewN HB2.out nq)
          rw [hW3]
          clear hW3 d0 d1 hq
          go_wp2_with fail
          go_quiet (fail)
          go_wp2_with fail
          go_ret2
          exact ⟨by rw [HV.out]; rfl, HB0.out.trans ((below_drewN HB3.out _).mono HB0.out.size)⟩
        | false =>
          go_wp2_with fail
          rw [HW2.out]
          go_quiet (fail)
          clear d0 d1
          go_wp2_with fail
          go_round
          case rel => exact ⟨2, by go_num, by omega, below_drewN HB2.out nq, (fun _ => HN.out.1 (by decide)), (fun _ => HQ.out), (fun h => absurd h (by decide)), (fun h => absurd h (by decide))⟩
          case measure => simp [Go.RowKit.intOf]
      · have HQ : Hid (hasPrefix s.data.toList [38, 108, 116, 59] = false) := Lib.hid (pre_short (by rw [hsz]; simp only [List.length_cons, List.length_nil]; omega))
        have hdec : decide ((4 : Int) ≤ (s.size : Int)) = false := decide_eq_false (by omega)
        have h5i : ¬ (4 : Int) ≤ (s.size : Int) := by omega
        go_wp2_with fail
        rw [HW2.out]
        go_quiet (fail)
        clear d0 d1
        go_wp2_with fail
        go_round
        case rel => exact ⟨2, by go_num, by omega, below_drewN HB2.out nq, (fun _ => HN.out.1 (by decide)), (fun _ => HQ.out), (fun h => absurd h (by decide)), (fun h => absurd h (by decide))⟩
        case measure => simp [Go.RowKit.intOf]
    · have c0 := cell_of (i := 4) hTr rfl
      have c1 := cell_of (i := 5) hTr rfl
      simp only [tabE] at c0 c1
      obtain ⟨W2, hW2⟩ : ∃ W2, wr.alloc (.cells #[.string ⟨#[38, 103, 116, 59]⟩, .string ⟨#[62]⟩] 54) = W2 := ⟨_, rfl⟩
      have hb2 : Below wr.heap.size wr W2 := by rw [← hW2]; exact (Below.refl _ wr).alloc (Nat.le_refl _) _
      have hT2 : W2.heap[wr.heap.size]? = some (.cells #[.string ⟨#[38, 103, 116, 59]⟩, .string ⟨#[62]⟩] 54 (0, 0)) := by rw [← hW2]; exact block_new _ _
      have HB2 := Lib.hid (HB.out.trans (hb2.mono HB.out.size))
      have HW2 := Lib.hid hW2
      have d0 := cell_of (i := 0) hT2 rfl
      have d1 := cell_of (i := 1) hT2 rfl
      clear hW2 hb2 hT2 hTr
      by_cases h5 : 4 ≤ s.size
      · obtain ⟨T, hT⟩ : ∃ T, s.extract 0 4 = T := ⟨_, rfl⟩
        have hTl : T = ⟨(s.data.toList.take 4).toArray⟩ := by rw [← hT, Lib.extract_upto]
        have hdec : decide ((4 : Int) ≤ (s.size : Int)) = true := decide_eq_true (by omega)
        have h5i : (4 : Int) ≤ (s.size : Int) := by omega
        have hq : (T.toList == [38, 103, 116, 59]) = hasPrefix s.data.toList [38, 103, 116, 59] := by
          rw [hTl, Lib.toList_data, pre_iff, Bool.eq_iff_iff]
          simp
        obtain ⟨q, hqq⟩ : ∃ q, hasPrefix s.data.toList [38, 103, 116, 59] = q := ⟨_, rfl⟩
        rw [hqq] at hq
        have HQ := Lib.hid hqq
        clear hqq hTl
        cases q with
        | true =>
          have HV : Hid (V = some ([62], 4)) := Lib.hid (by
            have hl := HL.out
            rw [if_neg (by rw [HN.out.1 (by decide)]; decide)] at hl
            rw [if_neg (by rw [HN.out.2.1 (by decide)]; decide)] at hl
            rw [if_pos HQ.out] at hl
            exact hl)
          go_wp2_with fail
          rw [HW2.out]
          go_quiet (fail)
          obtain ⟨W3, hW3⟩ : ∃ W3, W2.drewN nq = W3 := ⟨_, rfl⟩
          have e0 : W3.cell? ⟨wr.heap.size, 0, none⟩ = some (.string ⟨#[38, 103, 116, 59]⟩) := by rw [← hW3]; exact d0
          have e1 : W3.cell? ⟨wr.heap.size, 1, none⟩ = some (.string ⟨#[62]⟩) := by rw [← hW3]; exact d1
          have HB3 : Hid (Below W0.heap.size W0 W3) := Lib.hid (by rw [← hW3]; exact below_drewN HB2.out nq)
          rw [hW3]
          clear hW3 d0 d1 hq
          go_wp2_with fail
          go_quiet (fail)
          go_wp2_with fail
          go_ret2
          exact ⟨by rw [HV.out]; rfl, HB0.out.trans ((below_drewN HB3.out _).mono HB0.out.size)⟩
        | false =>
          go_wp2_with fail
          rw [HW2.out]
          go_quiet (fail)
          clear d0 d1
          go_wp2_with fail
          go_round
          case rel => exact ⟨3, by go_num, by omega, below_drewN HB2.out nq, (fun _ => HN.out.1 (by decide)), (fun _ => HN.out.2.1 (by decide)), (fun _ => HQ.out), (fun h => absurd h (by decide))⟩
          case measure => simp [Go.RowKit.intOf]
      · have HQ : Hid (hasPrefix s.data.toList [38, 103, 116, 59] = false) := Lib.hid (pre_short (by rw [hsz]; simp only [List.length_cons, List.length_nil]; omega))
        have hdec : decide ((4 : Int) ≤ (s.size : Int)) = false := decide_eq_false (by omega)
        have h5i : ¬ (4 : Int) ≤ (s.size : Int) := by omega
        go_wp2_with fail
        rw [HW2.out]
        go_quiet (fail)
        clear d0 d1
        go_wp2_with fail
        go_round
        case rel => exact ⟨3, by go_num, by omega, below_drewN HB2.out nq, (fun _ => HN.out.1 (by decide)), (fun _ => HN.out.2.1 (by decide)), (fun _ => HQ.out), (fun h => absurd h (by decide))⟩
        case measure => simp [Go.RowKit.intOf]
    · have c0 := cell_of (i := 6) hTr rfl
      have c1 := cell_of (i := 7) hTr rfl
      simp only [tabE] at c0 c1
      obtain ⟨W2, hW2⟩ : ∃ W2, wr.alloc (.cells #[.string ⟨#[38, 113, 117, 111, 116, 59]⟩, .string ⟨#[34]⟩] 54) = W2 := ⟨_, rfl⟩
      have hb2 : Below wr.heap.size wr W2 := by rw [← hW2]; exact (Below.refl _ wr).alloc (Nat.le_refl _) _
      have hT2 : W2.heap[wr.heap.size]? = some (.cells #[.string ⟨#[38, 113, 117, 111, 116, 59]⟩, .string ⟨#[34]⟩] 54 (0, 0)) := by rw [← hW2]; exact block_new _ _
      have HB2 := Lib.hid (HB.out.trans (hb2.mono HB.out.size))
      have HW2 := Lib.hid hW2
      have d0 := cell_of (i := 0) hT2 rfl
      have d1 := cell_of (i := 1) hT2 rfl
      clear hW2 hb2 hT2 hTr
      by_cases h5 : 6 ≤ s.size
      · obtain ⟨T, hT⟩ : ∃ T, s.extract 0 6 = T := ⟨_, rfl⟩
        have hTl : T = ⟨(s.data.toList.take 6).toArray⟩ := by rw [← hT, Lib.extract_upto]
        have hdec : decide ((6 : Int) ≤ (s.size : Int)) = true := decide_eq_true (by omega)
        have h5i : (6 : Int) ≤ (s.size : Int) := by omega
        have hq : (T.toList == [38, 113, 117, 111, 116, 59]) = hasPrefix s.data.toList [38, 113, 117, 111, 116, 59] := by
          rw [hTl, Lib.toList_data, pre_iff, Bool.eq_iff_iff]
          simp
        obtain ⟨q, hqq⟩ : ∃ q, hasPrefix s.data.toList [38, 113, 117, 111, 116, 59] = q := ⟨_, rfl⟩
        rw [hqq] at hq
        have HQ := Lib.hid hqq
        clear hqq hTl
        cases q with
        | true =>
          have HV : Hid (V = some ([34], 6)) := Lib.hid (by
            have hl := HL.out
            rw [if_neg (by rw [HN.out.1 (by decide)]; decide)] at hl
            rw [if_neg (by rw [HN.out.2.1 (by decide)]; decide)] at hl
            rw [if_neg (by rw [HN.out.2.2.1 (by decide)]; decide)] at hl
            rw [if_pos HQ.out] at hl
            exact hl)
          go_wp2_with fail
          rw [HW2.out]
          go_quiet (fail)
          obtain ⟨W3, hW3⟩ : ∃ W3, W2.drewN nq = W3 := ⟨_, rfl⟩
          have e0 : W3.cell? ⟨wr.heap.size, 0, none⟩ = some (.string ⟨#[38, 113, 117, 111, 116, 59]⟩) := by rw [← hW3]; exact d0
          have e1 : W3.cell? ⟨wr.heap.size, 1, none⟩ = some (.string ⟨#[34]⟩) := by rw [← hW3]; exact d1
          have HB3 : Hid (Below W0.heap.size W0 W3) := Lib.hid (by rw [← hW3]; exact below_drewN HB2.out nq)
          rw [hW3]
          clear hW3 d0 d1 hq
          go_wp2_with fail
          go_quiet (fail)
          go_wp2_with fail
          go_ret2
          exact ⟨by rw [HV.out]; rfl, HB0.out.trans ((below_drewN HB3.out _).mono HB0.out.size)⟩
        | false =>
          go_wp2_with fail
          rw [HW2.out]
          go_quiet (fail)
          clear d0 d1
          go_wp2_with fail
          go_round
          case rel => exact ⟨4, by go_num, by omega, below_drewN HB2.out nq, (fun _ => HN.out.1 (by decide)), (fun _ => HN.out.2.1 (by decide)), (fun _ => HN.out.2.2.1 (by decide)), (fun _ => HQ.out)⟩
          case measure => simp [Go.RowKit.intOf]
      · have HQ : Hid (hasPrefix s.data.toList [38, 113, 117, 111, 116, 59] = false) := Lib.hid (pre_short (by rw [hsz]; simp only [List.length_cons, List.length_nil]; omega))
        have hdec : decide ((6 : Int) ≤ (s.size : Int)) = false := decide_eq_false (by omega)
        have h5i : ¬ (6 : Int) ≤ (s.size : Int) := by omega
        go_wp2_with fail
        rw [HW2.out]
        go_quiet (fail)
        clear d0 d1
        go_wp2_with fail
        go_round
        case rel => exact ⟨4, by go_num, by omega, below_drewN HB2.out nq, (fun _ => HN.out.1 (by decide)), (fun _ => HN.out.2.1 (by decide)), (fun _ => HN.out.2.2.1 (by decide)), (fun _ => HQ.out)⟩
        case measure => simp [Go.RowKit.intOf]
    · have HBW := Lib.hid (HB0.out.trans (HB.out.mono HB0.out.size))
      have HVH : Hid (V = if hasPrefix s.data.toList [38, 35] then numE (s.data.toList.drop 2) else none) := Lib.hid (by
        have hl := HL.out
        rw [if_neg (by rw [HN.out.1 (by decide)]; decide), if_neg (by rw [HN.out.2.1 (by decide)]; decide), if_neg (by rw [HN.out.2.2.1 (by decide)]; decide), if_neg (by rw [HN.out.2.2.2 (by decide)]; decide)] at hl
        exact hl)
      clear hTr
      by_cases h4 : s.size < 4
      · have HV : Hid (V = none) := Lib.hid (by
          rw [HVH.out, numE_short (by rw [List.length_drop, hsz]; omega)]
          simp)
        go_wp2_with fail
        go_ret2
        exact ⟨by rw [HV.out]; rfl, HBW.out⟩
      · obtain ⟨T, hT⟩ : ∃ T, s.extract 0 2 = T := ⟨_, rfl⟩
        have hTl : T = ⟨(s.data.toList.take 2).toArray⟩ := by rw [← hT, Lib.extract_upto]
        have hq : (T.toList == [38, 35]) = hasPrefix s.data.toList [38, 35] := by
          rw [hTl, Lib.toList_data, pre_iff, Bool.eq_iff_iff]
          simp
        obtain ⟨q, hqq⟩ : ∃ q, hasPrefix s.data.toList [38, 35] = q := ⟨_, rfl⟩
        rw [hqq] at hq HVH
        clear hqq hTl
        cases q with
        | false =>
          have HV : Hid (V = none) := Lib.hid (by rw [HVH.out]; rfl)
          have hq2 : (T.toList != [38, 35]) = true := by rw [bne, hq]; rfl
          go_wp2_with fail
          go_ret2
          exact ⟨by rw [HV.out]; rfl, HBW.out⟩
        | true =>
          have hq2 : (T.toList != [38, 35]) = false := by rw [bne, hq]; rfl
          obtain ⟨m, hm⟩ : ∃ m, s.data.toList.drop 2 = m := ⟨_, rfl⟩
          have HVN : Hid (V = numE m) := Lib.hid (by rw [HVH.out, if_pos rfl, hm])
          have HML : Hid (m.length = s.size - 2) := Lib.hid (by rw [← hm, List.length_drop, hsz])
          have HMB : Hid (∀ (j : Nat) (h : j + 2 < s.size), m[j]? = some (s[j + 2]'h)) := Lib.hid (fun j h => by
            rw [← hm, List.getElem?_drop, Nat.add_comm 2 j, List.getElem?_eq_getElem (by rw [hsz]; exact h)]
            rfl)
          clear hm
          go_wp2_with fail
          go_loop [6, 7] (fun a i => ∃ k : Nat, 2 ≤ k ∧ k ≤ 9 ∧ k ≤ s.size ∧ i = .int .i64 k ∧ a = .int .i64 (valD (m.take (k - 2)) : Nat) ∧ (m.take (k - 2)).all digB = true) (fun _ i => s.size - (Go.RowKit.intOf i).toNat)
          case atStart => exact ⟨2, by omega, by omega, by omega, rfl, rfl, rfl⟩
          case round =>
            obtain ⟨k, hk2, hk9, hks, rfl, rfl, hdig⟩ := hrel
            have hvl := valD_lt (m.take (k - 2)) hdig
            have hp10 : 10 ^ (m.take (k - 2)).length ≤ 10 ^ 7 := Nat.pow_le_pow_right (by decide) (by rw [List.length_take]; omega)
            have hv7 : valD (m.take (k - 2)) < 10000000 := Nat.lt_of_lt_of_le hvl hp10
            obtain ⟨v, hv⟩ : ∃ v, valD (m.take (k - 2)) = v := ⟨_, rfl⟩
            rw [hv] at hv7 ⊢
            have HVD := Lib.hid hv
            have HDG := Lib.hid hdig
            clear hvl hp10 hv hdig
            by_cases hlt : k < s.size
            · obtain ⟨c, hc⟩ : ∃ c, s[k]'hlt = c := ⟨_, rfl⟩
              have HMC : Hid (m[k - 2]? = some c) := Lib.hid (by
                rw [HMB.out (k - 2) (by omega)]
                have e : k - 2 + 2 = k := by omega
                simp only [e, hc])
              obtain ⟨d, hd⟩ : ∃ d, c.toNat = d := ⟨_, rfl⟩
              have hs : (s[k]'hlt).toNat = d := by rw [hc, hd]
              have HD := Lib.hid hd
              have hd256 : d < 256 := by rw [← hd]; exact c.toNat_lt
              clear hc hd
              by_cases hdg : 48 ≤ d ∧ d ≤ 57
              · obtain ⟨g1, g2⟩ := hdg
                have hcd : digB c = true := by unfold digB; rw [HD.out]; simp [g1, g2]
                by_cases h9 : k = 9
                · subst h9
                  have HV : Hid (V = none) := Lib.hid (by rw [HVN.out]; exact numE_long HDG.out HMC.out hcd)
                  have n59 : ¬ ((d : Int) = 59) := by omega
                  clear hcd
                  go_wp2_with fail
                  go_ret2
                  exact ⟨by rw [HV.out]; rfl, HBW.out⟩
                · have HNX : Hid (valD (m.take (k + 1 - 2)) = 10 * v + (d - 48) ∧ (m.take (k + 1 - 2)).all digB = true) := Lib.hid (by
                    have e : k + 1 - 2 = (k - 2) + 1 := by omega
                    rw [e, List.take_add_one, HMC.out]
                    refine ⟨?_, ?_⟩
                    · rw [Option.toList_some, valD_snoc, HVD.out, HD.out]
                    · rw [List.all_append, HDG.out]
                      simp [hcd])
                  clear hcd
                  go_wp2_with fail
                  go_round
                  case rel => exact ⟨k + 1, by omega, by omega, by omega, by go_num, by rw [HNX.out.1]; congr 1; omega, HNX.out.2⟩
                  case measure => simp [Go.RowKit.intOf]; omega
              · have hcd : digB c = false := by unfold digB; rw [HD.out]; simp; omega
                have HSTOP := Lib.hid (numE_stop (m := m) (j := k - 2) (by omega) (by rw [HML.out]; omega) HDG.out (.inr ⟨c, HMC.out, hcd⟩))
                rw [HVD.out] at HSTOP
                clear hcd
                rcases (by omega : d < 48 ∨ 57 < d) with hlo | hhi
                · by_cases h9 : k = 9
                  · subst h9
                    have HV : Hid (V = none) := Lib.hid (by
                      rw [HVN.out, HSTOP.out, if_neg (fun h => ?_)]
                      have := h.2.1.symm.trans HMC.out
                      have e : d = 59 := by rw [← HD.out, ← Option.some.inj this]; rfl
                      omega)
                    have n59 : ¬ ((d : Int) = 59) := by omega
                    go_wp2_with fail
                    go_ret2
                    exact ⟨by rw [HV.out]; rfl, HBW.out⟩
                  · by_cases k2 : k = 2
                    · subst k2
                      have HV : Hid (V = none) := Lib.hid (by rw [HVN.out, HSTOP.out, if_neg (fun h => h.1 rfl)])
                      go_wp2_with fail
                      go_ret2
                      exact ⟨by rw [HV.out]; rfl, HBW.out⟩
                    · have HV : Hid (V = none) := Lib.hid (by
                        rw [HVN.out, HSTOP.out, if_neg (fun h => ?_)]
                        have := h.2.1.symm.trans HMC.out
                        have e : d = 59 := by rw [← HD.out, ← Option.some.inj this]; rfl
                        omega)
                      have k2' : 2 < k := by omega
                      have n59 : ¬ ((d : Int) = 59) := by omega
                      go_wp2_with fail
                      go_ret2
                      exact ⟨by rw [HV.out]; rfl, HBW.out⟩
                · by_cases h9 : k = 9
                  · subst h9
                    by_cases h59 : d = 59
                    · subst h59
                      have hc59 : c = 59 := UInt8.toNat_inj.1 HD.out
                      have HM59 : Hid (m[9 - 2]? = some 59) := Lib.hid (by rw [HMC.out, hc59])
                      clear hc59
                      obtain ⟨c2, hc2⟩ : ∃ c2, s[2]'(by omega) = c2 := ⟨_, rfl⟩
                      obtain ⟨d2, hd2⟩ : ∃ d2, c2.toNat = d2 := ⟨_, rfl⟩
                      have hs2 : (s[2]'(by omega)).toNat = d2 := by rw [hc2, hd2]
                      have HM0 : Hid (m[0]? = some c2) := Lib.hid (by rw [HMB.out 0 (by omega)]; exact congrArg some hc2)
                      have HD2 := Lib.hid hd2
                      clear hc2 hd2
                      by_cases hz : d2 = 48
                      · subst hz
                        have hm48 : m[0]? = some 48 := by rw [HM0.out]; exact congrArg some (UInt8.toNat_inj.1 HD2.out)
                        have HV : Hid (V = none) := Lib.hid (by rw [HVN.out, HSTOP.out, if_neg (fun h => h.2.2.1 ⟨hm48, by decide⟩)])
                        clear hm48
                        go_wp2_with fail
                        go_ret2
                        exact ⟨by rw [HV.out]; rfl, HBW.out⟩
                      · have HNZ : Hid (¬ (m[0]? = some 48 ∧ 1 < 9 - 2)) := Lib.hid (fun h => hz (by rw [← HD2.out, ← Option.some.inj (h.1.symm.trans HM0.out)]; rfl))
                        have hvs : (55296 ≤ v ∧ v ≤ 57343) ∨ (1114111 < v) ∨ (v < 55296) ∨ (57343 < v ∧ v ≤ 1114111) := by omega
                        have HVV : Hid (V = if v ≤ 1114111 ∧ (v < 55296 ∨ 57343 < v) then some (utf v, 10) else none) := Lib.hid (by
                          rw [HVN.out, HSTOP.out]
                          by_cases hv : v ≤ 1114111 ∧ (v < 55296 ∨ 57343 < v)
                          · rw [if_pos hv, if_pos ⟨by decide, HM59.out, HNZ.out, (rune_iff v).2 hv⟩]
                          · rw [if_neg hv, if_neg (fun h => hv ((rune_iff v).1 h.2.2.2))])
                        have n48i : ¬ ((d2 : Int) = 48) := by omega
                        rcases hvs with ⟨v1, v2⟩ | v1 | v1 | ⟨v1, v2⟩
                        · have HV : Hid (V = none) := Lib.hid (by rw [HVV.out, if_neg (by omega)])
                          go_wp2_with fail
                          go_ret2
                          exact ⟨by rw [HV.out]; rfl, HBW.out⟩
                        · have HV : Hid (V = none) := Lib.hid (by rw [HVV.out, if_neg (by omega)])
                          go_wp2_with fail
                          go_ret2
                          exact ⟨by rw [HV.out]; rfl, HBW.out⟩
                        · have HV := Lib.hid (HVV.out.trans (if_pos (by omega)))
                          go_wp2_with fail
                          go_ret2
                          refine ⟨?_, HBW.out⟩
                          rw [HV.out]
                          simp only [leadV]
                          rw [utf_eq, Lib.mk_data]
                          generalize Utf8.encode (v : Int) = E
                          rfl
                        · have HV := Lib.hid (HVV.out.trans (if_pos (by omega)))
                          go_wp2_with fail
                          go_ret2
                          refine ⟨?_, HBW.out⟩
                          rw [HV.out]
                          simp only [leadV]
                          rw [utf_eq, Lib.mk_data]
                          generalize Utf8.encode (v : Int) = E
                          rfl
                    · have HV : Hid (V = none) := Lib.hid (by
                        rw [HVN.out, HSTOP.out, if_neg (fun h => ?_)]
                        have := h.2.1.symm.trans HMC.out
                        have e : d = 59 := by rw [← HD.out, ← Option.some.inj this]; rfl
                        exact h59 e)
                      have n59 : ¬ ((d : Int) = 59) := by omega
                      go_wp2_with fail
                      go_ret2
                      exact ⟨by rw [HV.out]; rfl, HBW.out⟩
                  · by_cases k2 : k = 2
                    · subst k2
                      have HV : Hid (V = none) := Lib.hid (by rw [HVN.out, HSTOP.out, if_neg (fun h => h.1 rfl)])
                      go_wp2_with fail
                      go_ret2
                      exact ⟨by rw [HV.out]; rfl, HBW.out⟩
                    · have k2' : 2 < k := by omega
                      by_cases h59 : d = 59
                      · subst h59
                        have hc59 : c = 59 := UInt8.toNat_inj.1 HD.out
                        have HM59 : Hid (m[k - 2]? = some 59) := Lib.hid (by rw [HMC.out, hc59])
                        clear hc59
                        obtain ⟨c2, hc2⟩ : ∃ c2, s[2]'(by omega) = c2 := ⟨_, rfl⟩
                        obtain ⟨d2, hd2⟩ : ∃ d2, c2.toNat = d2 := ⟨_, rfl⟩
                        have hs2 : (s[2]'(by omega)).toNat = d2 := by rw [hc2, hd2]
                        have HM0 : Hid (m[0]? = some c2) := Lib.hid (by rw [HMB.out 0 (by omega)]; exact congrArg some hc2)
                        have HD2 := Lib.hid hd2
                        clear hc2 hd2
                        by_cases hz : d2 = 48 ∧ 3 < k
                        · obtain ⟨rfl, k3⟩ := hz
                          have hm48 : m[0]? = some 48 := by rw [HM0.out]; exact congrArg some (UInt8.toNat_inj.1 HD2.out)
                          have HV : Hid (V = none) := Lib.hid (by rw [HVN.out, HSTOP.out, if_neg (fun h => h.2.2.1 ⟨hm48, by omega⟩)])
                          clear hm48
                          go_wp2_with fail
                          go_ret2
                          exact ⟨by rw [HV.out]; rfl, HBW.out⟩
                        · have HNZ : Hid (¬ (m[0]? = some 48 ∧ 1 < k - 2)) := Lib.hid (fun h => hz ⟨by rw [← HD2.out, ← Option.some.inj (h.1.symm.trans HM0.out)]; rfl, by omega⟩)
                          have hcs : (d2 ≠ 48) ∨ (d2 = 48 ∧ k = 3) := by omega
                          have hvs : (55296 ≤ v ∧ v ≤ 57343) ∨ (1114111 < v) ∨ (v < 55296) ∨ (57343 < v ∧ v ≤ 1114111) := by omega
                          have HVV : Hid (V = if v ≤ 1114111 ∧ (v < 55296 ∨ 57343 < v) then some (utf v, k + 1) else none) := Lib.hid (by
                            rw [HVN.out, HSTOP.out]
                            have e : k - 2 + 3 = k + 1 := by omega
                            by_cases hv : v ≤ 1114111 ∧ (v < 55296 ∨ 57343 < v)
                            · rw [if_pos hv, if_pos ⟨by omega, HM59.out, HNZ.out, (rune_iff v).2 hv⟩, e]
                            · rw [if_neg hv, if_neg (fun h => hv ((rune_iff v).1 h.2.2.2))])
                          clear hz
                          rcases hcs with n48 | ⟨rfl, rfl⟩
                          · have n48i : ¬ ((d2 : Int) = 48) := by omega
                            have n48b : ((d2 : Int) == 48) = false := by simp; omega
                            have kb2 : ((k : Int) == 2) = false := by simp; omega
                            rcases hvs with ⟨v1, v2⟩ | v1 | v1 | ⟨v1, v2⟩
                            · have HV : Hid (V = none) := Lib.hid (by rw [HVV.out, if_neg (by omega)])
                              go_wp2_with fail
                              go_ret2
                              exact ⟨by rw [HV.out]; rfl, HBW.out⟩
                            · have HV : Hid (V = none) := Lib.hid (by rw [HVV.out, if_neg (by omega)])
                              go_wp2_with fail
                              go_ret2
                              exact ⟨by rw [HV.out]; rfl, HBW.out⟩
                            · have HV := Lib.hid (HVV.out.trans (if_pos (by omega)))
                              go_wp2_with fail
                              go_ret2
                              refine ⟨?_, HBW.out⟩
                              rw [HV.out]
                              simp only [leadV]
                              rw [utf_eq, Lib.mk_data]
                              generalize Utf8.encode (v : Int) = E
                              rfl
                            · have HV := Lib.hid (HVV.out.trans (if_pos (by omega)))
                              go_wp2_with fail
                              go_ret2
                              refine ⟨?_, HBW.out⟩
                              rw [HV.out]
                              simp only [leadV]
                              rw [utf_eq, Lib.mk_data]
                              generalize Utf8.encode (v : Int) = E
                              rfl
                          · rcases hvs with ⟨v1, v2⟩ | v1 | v1 | ⟨v1, v2⟩
                            · have HV : Hid (V = none) := Lib.hid (by rw [HVV.out, if_neg (by omega)])
                              go_wp2_with fail
                              go_ret2
                              exact ⟨by rw [HV.out]; rfl, HBW.out⟩
                            · have HV : Hid (V = none) := Lib.hid (by rw [HVV.out, if_neg (by omega)])
                              go_wp2_with fail
                              go_ret2
                              exact ⟨by rw [HV.out]; rfl, HBW.out⟩
                            · have HV := Lib.hid (HVV.out.trans (if_pos (by omega)))
                              go_wp2_with fail
                              go_ret2
                              refine ⟨?_, HBW.out⟩
                              rw [HV.out]
                              simp only [leadV]
                              rw [utf_eq, Lib.mk_data]
                              generalize Utf8.encode (v : Int) = E
                              rfl
                            · have HV := Lib.hid (HVV.out.trans (if_pos (by omega)))
                              go_wp2_with fail
                              go_ret2
                              refine ⟨?_, HBW.out⟩
                              rw [HV.out]
                              simp only [leadV]
                              rw [utf_eq, Lib.mk_data]
                              generalize Utf8.encode (v : Int) = E
                              rfl
                      · have HV : Hid (V = none) := Lib.hid (by
                          rw [HVN.out, HSTOP.out, if_neg (fun h => ?_)]
                          have := h.2.1.symm.trans HMC.out
                          have e : d = 59 := by rw [← HD.out, ← Option.some.inj this]; rfl
                          exact h59 e)
                        have n59 : ¬ ((d : Int) = 59) := by omega
                        go_wp2_with fail
                        go_ret2
                        exact ⟨by rw [HV.out]; rfl, HBW.out⟩
            · have hks' : k = s.size := by omega
              have HSTOP := Lib.hid (numE_stop (m := m) (j := k - 2) (by omega) (by rw [HML.out]; omega) HDG.out (.inl (by rw [HML.out]; omega)))
              rw [HVD.out] at HSTOP
              have HV : Hid (V = none) := Lib.hid (by
                rw [HVN.out, HSTOP.out, if_neg (fun h => ?_)]
                have h1 := h.2.1
                rw [List.getElem?_eq_none (by rw [HML.out]; omega)] at h1
                cases h1)
              have k2' : 2 < k := by omega
              clear hks'
              go_wp2_with fail
              go_ret2
              exact ⟨by rw [HV.out]; rfl, HBW.out⟩
end Go.Proofs.YtjablaidbccnbaaGreatDoor
