/-
  WALKS over package markup, fifth part: strings.Cut at one byte; leading.
-/
import Derived.Test.YtjablaidbccnbaaGreatDoorMkD
import Derived.RegionTactic
namespace Go.Proofs.YtjablaidbccnbaaGreatDoor
open Go.RowKit Go.Shelf Go.Lib

theorem index_upto : ∀ (l : Bs) (c : UInt8), indexByte l c = if c ∈ l then ((upto c l).length : Int) else -1
  | [], c => by simp [indexByte]
  | x :: r, c => by
    unfold indexByte
    by_cases hx : x = c
    · subst hx; simp [upto]
    · have hm : c ∈ x :: r ↔ c ∈ r := by simp [Ne.symm hx]
      have hu : upto c (x :: r) = x :: upto c r := by simp [upto, hx]
      rw [index_upto r c, hu]
      by_cases hr : c ∈ r
      · rw [if_pos hr, if_pos (hm.2 hr)]
        simp [hx]
        try omega
      · rw [if_neg hr, if_neg (fun h => hr (hm.1 h))]
        simp [hx]
theorem results_three {fn : Func} {t u v : Tmp} (h : fn.results = #[.tmp t, .tmp u, .tmp v]) (tmps : Array Value) (P : Program) (w : World) :
    (results fn tmps).run P w = .ok (.tuple #[tmps.getD t undef, tmps.getD u undef, tmps.getD v undef]) w := by
  simp [results, h]

set_option maxHeartbeats 1000000 in
theorem sl_cut (s : ByteArray) (hs : s.size ≤ 100000000) (c : UInt8) (w : World) :
    Calls Tryz.prog 102 #[.string s, .string ⟨#[c]⟩] w fun e w' => (∃ v1, e = .returned (.tuple #[.string ⟨(upto c s.data.toList).toArray⟩, v1, .bool (decide (c ∈ s.data.toList))])) ∧ Below w.heap.size w w' := by
  have hi := Tryz.stringslite_Index_one s c w
  rw [index_upto] at hi
  have hul := upto_le c s.data.toList
  rw [← Lib.size_eq] at hul
  have hex : s.extract 0 (upto c s.data.toList).length = ⟨(upto c s.data.toList).toArray⟩ := by
    rw [Lib.extract_upto, ← upto_take]
  by_cases hm : c ∈ s.data.toList
  · have hlt : (upto c s.data.toList).length + 1 ≤ s.size := by
      obtain ⟨h, _⟩ := List.getElem?_eq_some_iff.1 (upto_get c _ hm)
      rw [← Lib.size_eq] at h
      omega
    rw [if_pos hm] at hi
    rw [decide_eq_true hm]
    obtain ⟨T, hT⟩ : ∃ T : ByteArray, (⟨(upto c s.data.toList).toArray⟩ : ByteArray) = T := ⟨_, rfl⟩
    rw [hT] at hex ⊢
    obtain ⟨k, hk⟩ : ∃ k, (upto c s.data.toList).length = k := ⟨_, rfl⟩
    rw [hk] at hi hex hlt hul
    have HI := Lib.hid hi
    clear hi hm hT hk
    go_enter Tryz.func102, Tryz.ntmps102
    go_wp2_with fail
    refine HI.out.mono ?_
    rintro e w1 ⟨rfl, rfl⟩
    go_wp2_with fail
    have hmx : Tryz.prog.follows .mixedOrders = true := by kernel_rfl
    go_region
    go_wp2
    (try simp only [Exit.inBlock, Exit.then]); refine bodyPost_ret (results_three rfl _ _ _) rfl ?_
    exact ⟨⟨_, rfl⟩, (Below.refl _ _).drew⟩
  · rw [if_neg hm] at hi
    rw [decide_eq_false hm, upto_all c _ hm, Lib.mk_data]
    have HI := Lib.hid hi
    clear hi hm hex hul
    go_enter Tryz.func102, Tryz.ntmps102
    go_wp2_with fail
    refine HI.out.mono ?_
    rintro e w1 ⟨rfl, rfl⟩
    go_wp2_with fail
    (try simp only [Exit.inBlock, Exit.then]); refine bodyPost_ret (results_three rfl _ _ _) rfl ?_
    exact ⟨⟨_, rfl⟩, Below.refl _ _⟩
set_option maxHeartbeats 1000000 in
theorem cut_any (s : ByteArray) (hs : s.size ≤ 100000000) (c : UInt8) (w : World) :
    Calls Tryz.prog 86 #[.string s, .string ⟨#[c]⟩] w fun e w' => (∃ v1, e = .returned (.tuple #[.string ⟨(upto c s.data.toList).toArray⟩, v1, .bool (decide (c ∈ s.data.toList))])) ∧ Below w.heap.size w w' := by
  have HC := Lib.hid (sl_cut s hs c w)
  obtain ⟨T, hT⟩ : ∃ T : ByteArray, (⟨(upto c s.data.toList).toArray⟩ : ByteArray) = T := ⟨_, rfl⟩
  obtain ⟨b, hb⟩ : ∃ b, decide (c ∈ s.data.toList) = b := ⟨_, rfl⟩
  rw [hT, hb] at HC ⊢
  clear hT hb
  go_enter Tryz.func86, Tryz.ntmps86
  go_wp2_with fail
  refine HC.out.mono ?_
  rintro e w1 ⟨⟨v1, rfl⟩, hb1⟩
  go_wp2_with fail
  (try simp only [Exit.inBlock, Exit.then]); refine bodyPost_ret (results_three rfl _ _ _) rfl ?_
  exact ⟨⟨_, rfl⟩, hb1⟩

def leadV : Option (Bs × Nat) → Value
  | some (x, n) => .tuple #[.string ⟨x.toArray⟩, .int .i64 (n : Int)]
  | none => .tuple #[.string ⟨#[]⟩, .int .i64 0]

set_option maxRecDepth 100000 in
set_option maxHeartbeats 2000000 in
theorem leading_any (s : ByteArray) (hs : s.size ≤ 1000000) (w : World) (hM : Mem w) :
    Calls Tryz.prog 87 #[.string s] w fun e w' => e = .returned (leadV (lead s.data.toList)) ∧ Below w.heap.size w w' := by
  have hp0 := Tryz.strings_HasPrefix s ⟨#[38, 97, 109, 112, 59]⟩
  have hp1 := Tryz.strings_HasPrefix s ⟨#[38, 108, 116, 59]⟩
  have hp2 := Tryz.strings_HasPrefix s ⟨#[38, 103, 116, 59]⟩
  have hp3 := Tryz.strings_HasPrefix s ⟨#[38, 113, 117, 111, 116, 59]⟩
  have hL := lead_code s.data.toList
  obtain ⟨p0, e0⟩ : ∃ p, hasPrefix s.data.toList [38, 97, 109, 112, 59] = p := ⟨_, rfl⟩
  obtain ⟨p1, e1⟩ : ∃ p, hasPrefix s.data.toList [38, 108, 116, 59] = p := ⟨_, rfl⟩
  obtain ⟨p2, e2⟩ : ∃ p, hasPrefix s.data.toList [38, 103, 116, 59] = p := ⟨_, rfl⟩
  obtain ⟨p3, e3⟩ : ∃ p, hasPrefix s.data.toList [38, 113, 117, 111, 116, 59] = p := ⟨_, rfl⟩
  simp only [e0] at hp0
  simp only [e1] at hp1
  simp only [e2] at hp2
  simp only [e3] at hp3
  rw [e0, e1, e2, e3] at hL
  clear e0 e1 e2 e3
  have h0 := hM.named 0 (by decide)
  have h1 := hM.named 1 (by decide)
  have h2 := hM.named 2 (by decide)
  have h3 := hM.named 3 (by decide)
  have h4 := hM.named 4 (by decide)
  have h5 := hM.named 5 (by decide)
  have h6 := hM.named 6 (by decide)
  have h7 := hM.named 7 (by decide)
  simp only [namedS, List.getElem_cons_zero, List.getElem_cons_succ] at h0 h1 h2 h3 h4 h5 h6 h7
  obtain ⟨V, hV⟩ : ∃ V, lead s.data.toList = V := ⟨_, rfl⟩
  rw [hV] at hL ⊢
  have HL := Lib.hid hL
  have HM := Lib.hid hM
  have HP0 := Lib.hid hp0
  have HP1 := Lib.hid hp1
  have HP2 := Lib.hid hp2
  have HP3 := Lib.hid hp3
  clear hM hp0 hp1 hp2 hp3 hL hV
  go_enter Tryz.func87, Tryz.ntmps87
  go_wp2_with fail
  clear h0 h1 h2 h3 h4 h5 h6 h7
  go_loopw [14] (fun i wr => Below w.heap.size w wr ∧ (i = .int .i64 0 ∨ (i = .int .i64 1 ∧ p0 = false) ∨ (i = .int .i64 2 ∧ p0 = false ∧ p1 = false) ∨ (i = .int .i64 3 ∧ p0 = false ∧ p1 = false ∧ p2 = false) ∨ (i = .int .i64 4 ∧ p0 = false ∧ p1 = false ∧ p2 = false ∧ p3 = false))) (fun i _ => 4 - (Go.RowKit.intOf i).toNat)
  case atStart => exact ⟨Below.refl _ _, .inl rfl⟩
  case round =>
    obtain ⟨hb, hrel⟩ := hrel
    have HB := Lib.hid hb
    clear hb
    have hmx : Tryz.prog.follows .mixedOrders = true := by kernel_rfl
    rcases hrel with rfl | ⟨rfl, hn⟩ | ⟨rfl, hn⟩ | ⟨rfl, hn⟩ | ⟨rfl, hn⟩
    · have hix := named_at0
      cases p0 with
      | true =>
        have hl := HL.out
        rw [if_pos rfl] at hl
        have HV := Lib.hid hl
        clear hl HL
        go_wp2_with fail
        refine (HP0.out _).mono ?_
        rintro e w2 ⟨rfl, rfl⟩
        go_wp2_with fail
        go_region
        go_wp2
        go_ret2
        exact ⟨by rw [HV.out]; rfl, (HB.out.alloc HB.out.size _).drew⟩
      | false =>
        go_wp2_with fail
        refine (HP0.out _).mono ?_
        rintro e w2 ⟨rfl, rfl⟩
        go_wp2_with fail
        go_round
        case rel => exact ⟨HB.out.alloc HB.out.size _, .inr (.inl ⟨by go_num, by simp⟩)⟩
        case measure => simp [Go.RowKit.intOf]
    · have hix := named_at1
      obtain rfl := hn
      cases p1 with
      | true =>
        have hl := HL.out
        simp only [Bool.false_eq_true, if_false, if_true] at hl
        have HV := Lib.hid hl
        clear hl HL
        go_wp2_with fail
        refine (HP1.out _).mono ?_
        rintro e w2 ⟨rfl, rfl⟩
        go_wp2_with fail
        go_region
        go_wp2
        go_ret2
        exact ⟨by rw [HV.out]; rfl, (HB.out.alloc HB.out.size _).drew⟩
      | false =>
        go_wp2_with fail
        refine (HP1.out _).mono ?_
        rintro e w2 ⟨rfl, rfl⟩
        go_wp2_with fail
        go_round
        case rel => exact ⟨HB.out.alloc HB.out.size _, .inr (.inr (.inl ⟨by go_num, by simp, by simp⟩))⟩
        case measure => simp [Go.RowKit.intOf]
    · have hix := named_at2
      obtain ⟨rfl, rfl⟩ := hn
      cases p2 with
      | true =>
        have hl := HL.out
        simp only [Bool.false_eq_true, if_false, if_true] at hl
        have HV := Lib.hid hl
        clear hl HL
        go_wp2_with fail
        refine (HP2.out _).mono ?_
        rintro e w2 ⟨rfl, rfl⟩
        go_wp2_with fail
        go_region
        go_wp2
        go_ret2
        exact ⟨by rw [HV.out]; rfl, (HB.out.alloc HB.out.size _).drew⟩
      | false =>
        go_wp2_with fail
        refine (HP2.out _).mono ?_
        rintro e w2 ⟨rfl, rfl⟩
        go_wp2_with fail
        go_round
        case rel => exact ⟨HB.out.alloc HB.out.size _, .inr (.inr (.inr (.inl ⟨by go_num, by simp, by simp, by simp⟩)))⟩
        case measure => simp [Go.RowKit.intOf]
    · have hix := named_at3
      obtain ⟨rfl, rfl, rfl⟩ := hn
      cases p3 with
      | true =>
        have hl := HL.out
        simp only [Bool.false_eq_true, if_false, if_true] at hl
        have HV := Lib.hid hl
        clear hl HL
        go_wp2_with fail
        refine (HP3.out _).mono ?_
        rintro e w2 ⟨rfl, rfl⟩
        go_wp2_with fail
        go_region
        go_wp2
        go_ret2
        exact ⟨by rw [HV.out]; rfl, (HB.out.alloc HB.out.size _).drew⟩
      | false =>
        go_wp2_with fail
        refine (HP3.out _).mono ?_
        rintro e w2 ⟨rfl, rfl⟩
        go_wp2_with fail
        go_round
        case rel => exact ⟨HB.out.alloc HB.out.size _, .inr (.inr (.inr (.inr (⟨by go_num, by simp, by simp, by simp, by simp⟩))))⟩
        case measure => simp [Go.RowKit.intOf]
    · obtain ⟨rfl, rfl, rfl, rfl⟩ := hn
      have hl := HL.out
      simp only [Bool.false_eq_true, if_false] at hl
      unfold leadC at hl
      have hC := cut_any s (by omega) 59 wr
      obtain ⟨B, hB⟩ : ∃ B, upto 59 s.data.toList = B := ⟨_, rfl⟩
      have hBl : B.length ≤ 1000000 := by
        have := upto_le 59 s.data.toList
        rw [hB, ← Lib.size_eq] at this
        omega
      obtain ⟨cb, hcb⟩ : ∃ b, decide (59 ∈ s.data.toList) = b := ⟨_, rfl⟩
      obtain ⟨nb, hnb⟩ : ∃ b, hasPrefix B [38, 35] = b := ⟨_, rfl⟩
      have hQ := Tryz.strings_CutPrefix ⟨B.toArray⟩ ⟨#[38, 35]⟩
      rw [hnb] at hQ
      rw [hB] at hl hC
      rw [hcb] at hC
      rw [hnb] at hl
      have hcb' : (59 ∈ s.data.toList) ↔ cb = true := by rw [← hcb]; simp
      simp only [hcb'] at hl
      have htp : nb = true → trimPrefix B [38, 35] = B.drop 2 := fun h => by unfold trimPrefix; rw [hnb, h]; rfl
      obtain ⟨D, hD⟩ : ∃ D, trimPrefix B [38, 35] = D := ⟨_, rfl⟩
      rw [hD] at hQ htp
      have hDl : D.length ≤ 1000000 := by
        rw [← hD]
        have := trimPrefix_le B [38, 35]
        omega
      have hsz : (⟨B.toArray⟩ : ByteArray).size = B.length := by simp [ByteArray.size]
      have HC := Lib.hid hC
      have HQ := Lib.hid hQ
      have HV := Lib.hid hl
      have HT := Lib.hid htp
      have HK := Lib.hid (fun (W : World) (hW : Mem W) => codePoint_any ⟨D.toArray⟩ (by rw [Lib.size_mk]; exact hDl) W hW)
      have HMr := Lib.hid (HM.out.below HB.out (Nat.le_refl _))
      obtain ⟨S, hS⟩ : ∃ S : ByteArray, (⟨B.toArray⟩ : ByteArray) = S := ⟨_, rfl⟩
      rw [hS] at hsz HC HQ
      obtain ⟨DS, hDS⟩ : ∃ S : ByteArray, (⟨D.toArray⟩ : ByteArray) = S := ⟨_, rfl⟩
      rw [hDS] at HQ HK
      have hDD : DS.data.toList = D := by rw [← hDS]
      rw [hDD] at HK
      clear hl hC hB hcb hnb hQ hcb' htp hD HL hS hDS hDD hDl
      cases cb with
      | false =>
        have hv := HV.out
        simp only [Bool.false_eq_true, false_and, if_false] at hv
        have HVV := Lib.hid hv
        clear hv
        go_wp2_with fail
        refine HC.out.mono ?_
        rintro e w2 ⟨⟨v1, rfl⟩, hb2⟩
        have HB2 := Lib.hid (HB.out.trans (hb2.mono HB.out.size))
        clear hb2
        go_wp2_with fail
        refine (HQ.out _).mono ?_
        rintro e w3 ⟨rfl, rfl⟩
        go_wp2_with fail
        go_ret2
        exact ⟨by rw [HVV.out]; rfl, HB2.out⟩
      | true =>
        cases nb with
        | false =>
          have hv := HV.out
          simp only [Bool.false_eq_true, and_false, if_false] at hv
          have HVV := Lib.hid hv
          clear hv
          go_wp2_with fail
          refine HC.out.mono ?_
          rintro e w2 ⟨⟨v1, rfl⟩, hb2⟩
          have HB2 := Lib.hid (HB.out.trans (hb2.mono HB.out.size))
          clear hb2
          go_wp2_with fail
          refine (HQ.out _).mono ?_
          rintro e w3 ⟨rfl, rfl⟩
          go_wp2_with fail
          go_ret2
          exact ⟨by rw [HVV.out]; rfl, HB2.out⟩
        | true =>
          have hv := HV.out
          simp only [and_self, if_true] at hv
          rw [← HT.out rfl] at hv
          have HVV := Lib.hid hv
          obtain ⟨K, hK⟩ : ∃ K, cpL D = K := ⟨_, rfl⟩
          rw [hK] at HVV HK
          clear hv hK
          cases K with
          | none =>
            have hv := HVV.out
            simp only at hv
            have HVW := Lib.hid hv
            have hk := HK.out
            simp only [cpV] at hk
            have HKK := Lib.hid hk
            clear hv hk HK
            go_wp2_with fail
            refine HC.out.mono ?_
            rintro e w2 ⟨⟨v1, rfl⟩, hb2⟩
            have HM2 := Lib.hid (HMr.out.below hb2 (Nat.le_refl _))
            have HB2 := Lib.hid (HB.out.trans (hb2.mono HB.out.size))
            clear hb2
            go_wp2_with fail
            refine (HQ.out _).mono ?_
            rintro e w3 ⟨rfl, rfl⟩
            go_wp2_with fail
            refine (HKK.out _ HM2.out).mono ?_
            rintro e w4 ⟨rfl, hb4⟩
            have HB4 := Lib.hid (HB2.out.trans (hb4.mono HB2.out.size))
            clear hb4
            go_wp2_with fail
            go_ret2
            exact ⟨by rw [HVW.out]; rfl, HB4.out⟩
          | some n =>
            have hv := HVV.out
            simp only at hv
            have HVW := Lib.hid hv
            have hk := HK.out
            simp only [cpV] at hk
            have HKK := Lib.hid hk
            clear hv hk HK
            go_wp2_with fail
            refine HC.out.mono ?_
            rintro e w2 ⟨⟨v1, rfl⟩, hb2⟩
            have HM2 := Lib.hid (HMr.out.below hb2 (Nat.le_refl _))
            have HB2 := Lib.hid (HB.out.trans (hb2.mono HB.out.size))
            clear hb2
            go_wp2_with fail
            refine (HQ.out _).mono ?_
            rintro e w3 ⟨rfl, rfl⟩
            go_wp2_with fail
            refine (HKK.out _ HM2.out).mono ?_
            rintro e w4 ⟨rfl, hb4⟩
            have HB4 := Lib.hid (HB2.out.trans (hb4.mono HB2.out.size))
            clear hb4
            go_wp2_with fail
            go_ret2
            refine ⟨?_, HB4.out⟩
            rw [HVW.out]
            simp only [leadV]
            rw [utf_eq, Lib.mk_data, ← hsz]
            rfl
end Go.Proofs.YtjablaidbccnbaaGreatDoor
