/-
  StabEncodes is proved: for every list of spans and every span the call of the law returns true, and each argument reads afterwards as it read before. The package-level variables that the row lists hold what the program's text lays in them: this is tied to the text.
-/
import Derived.Test.YtifdencdbpdbfaaDoorRows
import Derived.Test.YtifdencdbpdbfaaDoorCards
import Derived.Test.YtifdencdbpdbfaaDoorTie
import Derived.Test.YtifdencdbpdbfaaDoorZaO
import Derived.Test.YtifdencdbpdbfaaDoorZaB
import Derived.Test.YtifdencdbpdbfaaDoorZdE
import Derived.Test.YtifdencdbpdbfaaDoorZdB
import Derived.Test.YtifdencdbpdbfaaDoorCkO
import Derived.ProofKit
import Derived.RegionTactic
import Derived.OpenShut
import Derived.Carry
import Derived.SevenTiedAt
import Derived.LaidMore
import Derived.Stop.Joined
namespace Go.Proofs.YtifdencdbpdbfaaDoor.stabEncodes
open Go.ChangeShapes Go.WideShapes Go.ChangeAt Go.RowKit Go.Shelf Go.Lib
set_option linter.unusedVariables false

theorem below_chain {N : Nat} {w X W : World} (h : Below N w X) (hN : N ≤ X.heap.size) (k : Below X.heap.size X W) : Below N w W := h.trans (k.mono hN)
set_option maxRecDepth 100000 in
set_option maxHeartbeats 8000000 in
theorem walk {w : World} (v : Value) (l : List Sp) (hv : Rows 2 ESp w v l) (_ : l.length ≤ maxLen) (_ : ∀ x ∈ l, okSp x) (s : Sp) (hs : okSp s) (ht : Tab w) :
    Calls Tryd.prog 3 #[v, .agg #[.int .i64 s.1, .int .i64 s.2]] w fun e w1 => e = .returned (.bool true) ∧ Below w.heap.size w w1 := by
  have hs2 : s.2 ≤ 9223372036854775807 := hs.2.2
  have hb0 := below_box w (.cells #[.int .i64 s.1, .int .i64 s.2] 24)
  have hp0 := ht.pos
  have htX := ht.below hb0 hp0
  obtain ⟨X, hX⟩ : ∃ X, w.alloc (.cells #[.int .i64 s.1, .int .i64 s.2] 24) = X := ⟨_, rfl⟩
  obtain ⟨N, hN⟩ : ∃ N, w.heap.size = N := ⟨_, rfl⟩
  have hbx : X.heap[N]? = some (.cells #[.int .i64 s.1, .int .i64 s.2] 24 (0, 0)) := by rw [← hX, ← hN]; exact block_new _ _
  rw [hX] at hb0 htX
  have hXp : 0 < X.heap.size := by rw [← hX, alloc_sz]; omega
  have hvX := hv.below stays_sp hb0
  have HBD := Lib.hid (built_any hvX)
  have HA := Lib.hid (fun (W : World) => awakeT_any W)
  obtain ⟨A, cap, rfl, hc⟩ := hv.form
  obtain ⟨n, hn⟩ : ∃ n, l.length = n := ⟨_, rfl⟩
  obtain ⟨K, hK⟩ : ∃ K, encL l = K := ⟨_, rfl⟩
  obtain ⟨st, hst⟩ : ∃ y, (⟨K.toArray⟩ : ByteArray) = y := ⟨_, rfl⟩
  have HCV := Lib.hid (fun (W : World) (B : Nat) (V : Value) (h : Sees W B V K) => show (convert 29 9 V).run Tryd.prog W = .ok (.string st) W from by rw [← hst]; exact h.convert)
  unfold BuiltV at HBD
  unfold BoolV at HA
  have hlx : (askL (fun t => ovB t s) s l).length ≤ n := by
    unfold askL
    split
    · rw [← hn]; exact idxs_len _ l
    · simp
  have hly : (idxs (stabP s.1) l).length ≤ n := by rw [← hn]; exact idxs_len _ l
  obtain ⟨xs, hxs⟩ : ∃ xs, askL (fun t => ovB t s) s l = xs := ⟨_, rfl⟩
  obtain ⟨ys, hys⟩ : ∃ xs, idxs (stabP s.1) l = xs := ⟨_, rfl⟩
  have HC1 := Lib.hid (fun (W : World) (B : Nat) (h : IdxAt W B l) => overlap_any h s hs2)
  have HC2 := Lib.hid (fun (W : World) (B : Nat) (h : IdxAt W B l) => stab_any h s.1)
  have HLE := Lib.hid (fun (W : World) (B : Nat) (h : IdxAt W B l) => lenT_any h)
  have HEN := Lib.hid (fun (W : World) (B : Nat) (h : IdxAt W B l) (h0 : chkT l = 0) (hb : Below X.heap.size X W) => encode_any h h0 (htX.below hb hXp))
  have HRE := Lib.hid (fun W (h : Below X.heap.size X W) (h0 : chkT l = 0) => refEncode_any (hvX.below stays_sp h) h0)
  have HTX := Lib.hid (show ∀ W, Below X.heap.size X W → Tab W from fun W hb => htX.below hb hXp)
  rw [hxs] at HC1 hlx
  rw [hys] at HC2 hly
  rw [hK] at HEN HRE
  have HEL := Lib.hid (show chkT l = 0 → K.length ≤ 100000 from fun h => by have := encL_len h; rw [hK] at this; omega)
  have HUN := Lib.hid (show chkT l = 0 → ∀ l', chkT l' = 0 → encL l' = K → l' = l from fun h l' h1 h2 => enc_inj2 h1 h (by rw [h2, hK]))
  have HKE := Lib.hid hK
  obtain ⟨b, e⟩ := s
  unfold spA ListV at HC1
  unfold ListV at HC2
  unfold LenV at HLE
  unfold BytesV at HEN HRE
  simp only at HC1 HC2 hX hbx ⊢
  rw [hn] at HBD HRE HLE ⊢
  have hNX : N < X.heap.size := (Array.getElem?_eq_some_iff.1 hbx).1
  have HD := Lib.hid (fun W (h : Below X.heap.size X W) => show W.cell? ⟨N, 0, none⟩ = some (.int .i64 b) ∧ W.cell? ⟨N, 1, none⟩ = some (.int .i64 e) from And.intro ((h.cell (p := ⟨N, 0, none⟩) hNX).trans (cell_of (i := 0) hbx rfl)) ((h.cell (p := ⟨N, 1, none⟩) hNX).trans (cell_of (i := 1) hbx rfl)))
  have HN := Lib.hid hN
  have HX := Lib.hid hX
  have HB0 := Lib.hid hb0
  rw [hN] at HB0
  rw [hN]
  clear hXp hv hvX hc hn hb0 hX hN hbx hxs hys hs hs2 hNX ht htX hp0 hK hst
  by_cases hl : 100 < n
  · go_enter Tryd.func3, Tryd.ntmps3
    go_upto_region 1 with fail
    rw [HX.out, HN.out]
    go_wp2_with fail
    go_ret
    exact ⟨rfl, HB0.out⟩
  · have hlm : xs.length ≤ maxLen ∧ ys.length ≤ maxLen := by unfold maxLen; omega
    have HLM := Lib.hid hlm
    clear hlx hly hlm
    go_enter Tryd.func3, Tryd.ntmps3
    go_upto_region 1 with fail
    rw [HX.out, HN.out]
    go_wp2_with fail
    refine HBD.out.mono ?_
    rintro e w1 ⟨⟨p, rfl, hp⟩, hb1⟩
    have HB1 := Lib.hid hb1
    have HNX := Lib.hid (show N ≤ X.heap.size by rw [← HX.out, alloc_sz, HN.out]; omega)
    clear hb1
    rcases hp with ⟨h0, B, rfl, hI⟩ | ⟨h0, rfl⟩
    · have HE1 := Lib.hid (HEN.out w1 B hI h0 HB1.out)
      have HI1 := Lib.hid hI
      have H0 := Lib.hid h0
      clear hI h0 HBD
      go_wp2_with fail
      refine HE1.out.mono ?_
      rintro e w2 ⟨⟨v2, rfl, hs2⟩, hb2⟩
      have HB2 := Lib.hid (below_chain HB1.out HB1.out.size hb2)
      have HI2 := Lib.hid (HI1.out.below hb2)
      have HS2 := Lib.hid hs2
      have HDC := Lib.hid (decode_any hs2 (HEL.out H0.out) (HTX.out _ HB2.out))
      unfold DecV at HDC
      obtain ⟨sp2, c2, rfl, -⟩ := hs2.form2
      obtain ⟨k, hk⟩ : ∃ k, K.length = k := ⟨_, rfl⟩
      rw [hk] at HS2 HDC ⊢
      clear hs2 hb2 hk
      go_wp2_with fail
      refine HDC.out.mono ?_
      rintro e w3 ⟨(⟨l', hc', he', B', rfl, hI'⟩ | ⟨hno, rfl⟩), hb3⟩
      · obtain rfl := HUN.out H0.out l' hc' he'
        have HB3 := Lib.hid (below_chain HB2.out HB2.out.size hb3).drew
        have hd3 := hb3.drew
        have HI3 := Lib.hid (HI2.out.below hd3)
        have HJ3 := Lib.hid (hI'.below (Below.refl _ _).drew)
        have HS3 := Lib.hid ((HS2.out.below hd3).mono hd3.size)
        have HRF := Lib.hid (HRE.out _ HB3.out H0.out)
        have hk0 := HCV.out _ _ _ HS3.out
        clear hc' he' hI' hb3 hd3 HDC HUN
        go_wp2_with fail
        refine wp_region_any (by kernel_rfl) ?_
        change wpAny _ _ _ _ _ _ _ (World.drew _)
        refine wpAny_take (i := 0) (oi := ?oi1) (v := ?v1) ?hi1 (by kernel_rfl) (by kernel_rfl) (by kernel_rfl) ?hq1 ?hy1 ?hr1
        case hi1 => (simp only [List.getElem?_toArray, List.getElem?_cons_zero]; rfl)
        case hq1 => exact fun _ _ _ h => h
        case hy1 => exact Or.inl ⟨by rfl, by intro w; (first | (go_simp; done) | (go_simp; with_reducible rfl))⟩
        try simp only [Act.put, List.setIfInBounds_toArray, List.set_cons_zero, List.set_cons_succ]
        refine wpAny_take (i := 2) (oi := ?oi2) (v := ?v2) ?hi2 (by kernel_rfl) (by kernel_rfl) (by kernel_rfl) ?hq2 ?hy2 ?hr2
        case hi2 => (simp only [List.getElem?_toArray, List.getElem?_cons_succ, List.getElem?_cons_zero]; rfl)
        case hq2 => exact fun _ _ _ h => h
        case hy2 => exact Or.inl ⟨by rfl, by intro w; (first | (go_simp; done) | (go_simp; with_reducible rfl))⟩
        try simp only [Act.put, List.setIfInBounds_toArray, List.set_cons_zero, List.set_cons_succ]
        refine wpAny_ready (rs := [1, 3]) (by kernel_rfl) (by simp) ?_
        refine AllReady.cons (o := ?oo3) ?hi3 (fun K hK => ?hs3) ?hm3
        case hi3 => (simp only [List.getElem?_toArray, List.getElem?_cons_succ, List.getElem?_cons_zero]; rfl)
        · go_simp
          refine hK _ _ ?_; clear hK K
          try simp only [Act.put, List.setIfInBounds_toArray, List.set_cons_zero, List.set_cons_succ]
          refine wpAny_ready (rs := [3]) (by kernel_rfl) (by simp) ?_
          refine AllReady.cons (o := ?oo4) ?hi4 (fun K hK => ?hs4) ?hm4
          case hi4 => (simp only [List.getElem?_toArray, List.getElem?_cons_succ, List.getElem?_cons_zero]; rfl)
          · go_simp
            refine HRF.out.mono ?_
            rintro e w4 ⟨⟨v4, rfl, hs4⟩, hb4⟩
            have hk4 := HCV.out w4 _ _ hs4
            have hk5 := HCV.out w4 _ _ (HS3.out.below hb4)
            have HB4 := Lib.hid (below_chain HB3.out HB3.out.size hb4)
            have HI4 := Lib.hid (HI3.out.below hb4)
            have HJ4 := Lib.hid (HJ3.out.below hb4)
            have HS4 := Lib.hid ((HS3.out.below hb4).mono hb4.size)
            clear hs4 hb4
            go_wp2_with fail
            try simp only [Act.put, List.setIfInBounds_toArray, List.set_cons_zero, List.set_cons_succ]
            refine wpAny_ready (rs := [4]) (by kernel_rfl) (by simp) ?_
            refine AllReady.cons (o := ?oo5) ?hi5 (fun K hK => ?hs5) ?hm5
            case hi5 => (simp only [List.getElem?_toArray, List.getElem?_cons_succ, List.getElem?_cons_zero]; rfl)
            · go_simp
              refine hK _ _ ?_; clear hK K
              try simp only [Act.put, List.setIfInBounds_toArray, List.set_cons_zero, List.set_cons_succ]
              refine wpAny_take (i := 5) (oi := ?oi6) (v := ?v6) ?hi6 (by kernel_rfl) (by kernel_rfl) (by kernel_rfl) ?hq6 ?hy6 ?hr6
              case hi6 => (simp only [List.getElem?_toArray, List.getElem?_cons_succ, List.getElem?_cons_zero]; rfl)
              case hq6 => exact fun _ _ _ h => h
              case hy6 => exact Or.inl ⟨by rfl, by intro w; (first | (go_simp; done) | (go_simp; with_reducible rfl))⟩
              try simp only [Act.put, List.setIfInBounds_toArray, List.set_cons_zero, List.set_cons_succ]
              refine wpAny_take (i := 6) (oi := ?oi7) (v := ?v7) ?hi7 (by kernel_rfl) (by kernel_rfl) (by kernel_rfl) ?hq7 ?hy7 ?hr7
              case hi7 => (simp only [List.getElem?_toArray, List.getElem?_cons_succ, List.getElem?_cons_zero]; rfl)
              case hq7 => exact fun _ _ _ h => h
              case hy7 => exact Or.inl ⟨by rfl, by intro w; (first | (go_simp; done) | (go_simp; with_reducible rfl))⟩
              try simp only [Act.put, List.setIfInBounds_toArray, List.set_cons_zero, List.set_cons_succ]
              refine wpAny_take (i := 7) (oi := ?oi8) (v := ?v8) ?hi8 (by kernel_rfl) (by kernel_rfl) (by kernel_rfl) ?hq8 ?hy8 ?hr8
              case hi8 => (simp only [List.getElem?_toArray, List.getElem?_cons_succ, List.getElem?_cons_zero]; rfl)
              case hq8 => exact fun _ _ _ h => h
              case hy8 => first | exact Or.inl ⟨by rfl, by intro w; (first | (go_simp; done) | (go_simp; with_reducible rfl))⟩ | exact Or.inr ⟨by rfl, by with_reducible rfl⟩ | fail
              try simp only [Act.put, List.setIfInBounds_toArray, List.set_cons_zero, List.set_cons_succ]
              refine wpAny_take (i := 8) (oi := ?oi9) (v := ?v9) ?hi9 (by kernel_rfl) (by kernel_rfl) (by kernel_rfl) ?hq9 ?hy9 ?hr9
              case hi9 => (simp only [List.getElem?_toArray, List.getElem?_cons_succ, List.getElem?_cons_zero]; rfl)
              case hq9 => exact fun _ _ _ h => h
              case hy9 => first | exact Or.inl ⟨by rfl, by intro w; (first | (go_simp; done) | (go_simp; with_reducible rfl))⟩ | exact Or.inr ⟨by rfl, by with_reducible rfl⟩ | fail
              try simp only [Act.put, List.setIfInBounds_toArray, List.set_cons_zero, List.set_cons_succ]
              refine wpAny_take (i := 9) (oi := ?oi10) (v := ?v10) ?hi10 (by kernel_rfl) (by kernel_rfl) (by kernel_rfl) ?hq10 ?hy10 ?hr10
              case hi10 => (simp only [List.getElem?_toArray, List.getElem?_cons_succ, List.getElem?_cons_zero]; rfl)
              case hq10 => exact fun _ _ _ h => h
              case hy10 => exact Or.inl ⟨by rfl, by intro w; (first | (go_simp; done) | (go_simp; with_reducible rfl))⟩
              try simp only [Act.put, List.setIfInBounds_toArray, List.set_cons_zero, List.set_cons_succ]
              refine wpAny_take (i := 10) (oi := ?oi11) (v := ?v11) ?hi11 (by kernel_rfl) (by kernel_rfl) (by kernel_rfl) ?hq11 ?hy11 ?hr11
              case hi11 => (simp only [List.getElem?_toArray, List.getElem?_cons_succ, List.getElem?_cons_zero]; rfl)
              case hq11 => exact fun _ _ _ h => h
              case hy11 => exact Or.inl ⟨by rfl, by intro w; (first | (go_simp; done) | (go_simp; with_reducible rfl))⟩
              try simp only [Act.put, List.setIfInBounds_toArray, List.set_cons_zero, List.set_cons_succ]
              refine wpAny_take (i := 11) (oi := ?oi12) (v := ?v12) ?hi12 (by kernel_rfl) (by kernel_rfl) (by kernel_rfl) ?hq12 ?hy12 ?hr12
              case hi12 => (simp only [List.getElem?_toArray, List.getElem?_cons_succ, List.getElem?_cons_zero]; rfl)
              case hq12 => exact fun _ _ _ h => h
              case hy12 => first | exact Or.inl ⟨by rfl, by intro w; (first | (go_simp; done) | (go_simp; with_reducible rfl))⟩ | exact Or.inr ⟨by rfl, by with_reducible rfl⟩ | fail
              try simp only [Act.put, List.setIfInBounds_toArray, List.set_cons_zero, List.set_cons_succ]
              refine wpAny_take (i := 12) (oi := ?oi13) (v := ?v13) ?hi13 (by kernel_rfl) (by kernel_rfl) (by kernel_rfl) ?hq13 ?hy13 ?hr13
              case hi13 => (simp only [List.getElem?_toArray, List.getElem?_cons_succ, List.getElem?_cons_zero]; rfl)
              case hq13 => exact fun _ _ _ h => h
              case hy13 => first | exact Or.inl ⟨by rfl, by intro w; (first | (go_simp; done) | (go_simp; with_reducible rfl))⟩ | exact Or.inr ⟨by rfl, by with_reducible rfl⟩ | fail
              try simp only [Act.put, List.setIfInBounds_toArray, List.set_cons_zero, List.set_cons_succ]
              refine wpAny_take (i := 13) (oi := ?oi14) (v := ?v14) ?hi14 (by kernel_rfl) (by kernel_rfl) (by kernel_rfl) ?hq14 ?hy14 ?hr14
              case hi14 => (simp only [List.getElem?_toArray, List.getElem?_cons_succ, List.getElem?_cons_zero]; rfl)
              case hq14 => exact fun _ _ _ h => h
              case hy14 => exact Or.inl ⟨by rfl, by intro w; (first | (go_simp; done) | (go_simp; with_reducible rfl))⟩
              try simp only [Act.put, List.setIfInBounds_toArray, List.set_cons_zero, List.set_cons_succ]
              refine wpAny_done (by kernel_rfl) ?_ _
              go_wp2_with fail
              have hI0 := HI4.out.below (Below.refl _ _).drew
              have hJ0 := HJ4.out.below (Below.refl _ _).drew
              have hbd := HB4.out.drew
              have hs0 := (HS4.out.below (Below.refl _ _).drew).mono (Below.refl w4.heap.size w4).drew.size
              have hb4 := Below.refl w4.drew.heap.size w4.drew
              obtain ⟨W0, hW0⟩ : ∃ W, w4.drew = W := ⟨_, rfl⟩
              rw [hW0] at hI0 hJ0 hbd hs0 hb4
              have HPI := Lib.hid (fun W (h : Below W0.heap.size W0 W) => HC1.out W B (hI0.below h))
              have HPJ := Lib.hid (fun W (h : Below W0.heap.size W0 W) => HC1.out W B' (hJ0.below h))
              have HTI := Lib.hid (fun W (h : Below W0.heap.size W0 W) => HC2.out W B (hI0.below h))
              have HTJ := Lib.hid (fun W (h : Below W0.heap.size W0 W) => HC2.out W B' (hJ0.below h))
              have HLJ := Lib.hid (fun W (h : Below W0.heap.size W0 W) => HLE.out W B' (hJ0.below h))
              have HEJ := Lib.hid (fun W (h : Below W0.heap.size W0 W) => HEN.out W B' (hJ0.below h) H0.out (below_chain hbd hbd.size h))
              have HKB := Lib.hid (fun W (h : Below W0.heap.size W0 W) => HCV.out W _ _ (hs0.below h))
              have HQ := Lib.hid (fun W (h : Below W0.heap.size W0 W) => HD.out W (below_chain hbd hbd.size h))
              have HX0 := Lib.hid hb4
              have HBD0 := Lib.hid hbd
              have hkb0 := HKB.out _ HX0.out
              clear hI0 hJ0 hbd hs0 hb4 HI4 HJ4 HS4 HI3 HJ3 HS3 HB3 HRF HC1 HC2 HLE HEN HRE HD
              refine wp_region_held_drew (S := (fun W' => W'.cell? ⟨N, 0, none⟩ = some (.int .i64 b) ∧ W'.cell? ⟨N, 1, none⟩ = some (.int .i64 e))) (by kernel_rfl) ?_ (fun hHeld => ?_)
              · (try dsimp only); rw [hW0]; exact HQ.out _ HX0.out
              rw [hW0] at hHeld ⊢
              refine wpAnyH_take (i := 0) (oi := ?oi1001) (v := ?v1001) ?hi1001 (by kernel_rfl) (by kernel_rfl) (by kernel_rfl) ?hq1001 ?hy1001 (by assumption) ?hr1001
              case hi1001 => (simp only [List.getElem?_toArray, List.getElem?_cons_zero]; rfl)
              case hq1001 => exact fun _ _ _ h => h
              case hy1001 => exact Or.inl ⟨by rfl, by intro whSw hSw'; (try dsimp only at hSw'); (first | (go_simp; done) | (go_simp; with_reducible rfl))⟩
              try simp only [Act.put, List.setIfInBounds_toArray, List.set_cons_zero, List.set_cons_succ]
              refine wpAnyH_take (i := 2) (oi := ?oi1002) (v := ?v1002) ?hi1002 (by kernel_rfl) (by kernel_rfl) (by kernel_rfl) ?hq1002 ?hy1002 (by assumption) ?hr1002
              case hi1002 => (simp only [List.getElem?_toArray, List.getElem?_cons_succ, List.getElem?_cons_zero]; rfl)
              case hq1002 => exact fun _ _ _ h => h
              case hy1002 => exact Or.inl ⟨by rfl, by intro whSw hSw'; (try dsimp only at hSw'); (first | (go_simp; done) | (go_simp; with_reducible rfl))⟩
              try simp only [Act.put, List.setIfInBounds_toArray, List.set_cons_zero, List.set_cons_succ]
              refine wpAnyH_take (i := 3) (oi := ?oi1003) (v := ?v1003) ?hi1003 (by kernel_rfl) (by kernel_rfl) (by kernel_rfl) ?hq1003 ?hy1003 (by assumption) ?hr1003
              case hi1003 => (simp only [List.getElem?_toArray, List.getElem?_cons_succ, List.getElem?_cons_zero]; rfl)
              case hq1003 => exact fun _ _ _ h => h
              case hy1003 => exact Or.inl ⟨by rfl, by intro whSw hSw'; (try dsimp only at hSw'); (first | (go_simp; done) | (go_simp; with_reducible rfl))⟩
              try simp only [Act.put, List.setIfInBounds_toArray, List.set_cons_zero, List.set_cons_succ]
              refine wpAnyH_ready (rs := [1]) (by kernel_rfl) (by simp) ?_
              refine AllReadyH.cons (o := ?oo1004) ?hi1004 (fun K hK => ?hs1004) ?hm1004
              case hi1004 => (simp only [List.getElem?_toArray, List.getElem?_cons_succ, List.getElem?_cons_zero]; rfl)
              · go_simp
                refine (HLJ.out _ HX0.out).mono ?_
                rintro e x0 ⟨rfl, rfl⟩
                (try go_wp2_with fail)
                refine hK.out _ _ ?_ (fun hHeld => ?_)
                · (try dsimp only); (first | (with_reducible exact HQ.out _ HX8.out) | (with_reducible exact HQ.out _ HX7.out) | (with_reducible exact HQ.out _ HX6.out) | (with_reducible exact HQ.out _ HX5.out) | (with_reducible exact HQ.out _ HX4.out) | (with_reducible exact HQ.out _ HX3.out) | (with_reducible exact HQ.out _ HX2.out) | (with_reducible exact HQ.out _ HX1.out) | (with_reducible exact HQ.out _ HX0.out) | fail)
                clear hK K
                try simp only [Act.put, List.setIfInBounds_toArray, List.set_cons_zero, List.set_cons_succ]
                refine wpAnyH_take (i := 4) (oi := ?oi1005) (v := ?v1005) ?hi1005 (by kernel_rfl) (by kernel_rfl) (by kernel_rfl) ?hq1005 ?hy1005 (by assumption) ?hr1005
                case hi1005 => (simp only [List.getElem?_toArray, List.getElem?_cons_succ, List.getElem?_cons_zero]; rfl)
                case hq1005 => exact fun _ _ _ h => h
                case hy1005 => exact Or.inl ⟨by rfl, by intro whSw hSw'; (try dsimp only at hSw'); (first | (go_simp; done) | (go_simp; with_reducible rfl))⟩
                try simp only [Act.put, List.setIfInBounds_toArray, List.set_cons_zero, List.set_cons_succ]
                refine wpAnyH_take (i := 5) (oi := ?oi1006) (v := ?v1006) ?hi1006 (by kernel_rfl) (by kernel_rfl) (by kernel_rfl) ?hq1006 ?hy1006 (by assumption) ?hr1006
                case hi1006 => (simp only [List.getElem?_toArray, List.getElem?_cons_succ, List.getElem?_cons_zero]; rfl)
                case hq1006 => exact fun _ _ _ h => h
                case hy1006 => exact Or.inl ⟨by rfl, by intro whSw hSw'; (try dsimp only at hSw'); (first | (go_simp; done) | (go_simp; with_reducible rfl))⟩
                try simp only [Act.put, List.setIfInBounds_toArray, List.set_cons_zero, List.set_cons_succ]
                refine wpAnyH_take (i := 6) (oi := ?oi1007) (v := ?v1007) ?hi1007 (by kernel_rfl) (by kernel_rfl) (by kernel_rfl) ?hq1007 ?hy1007 (by assumption) ?hr1007
                case hi1007 => (simp only [List.getElem?_toArray, List.getElem?_cons_succ, List.getElem?_cons_zero]; rfl)
                case hq1007 => exact fun _ _ _ h => h
                case hy1007 => first | exact Or.inl ⟨by rfl, by intro whSw hSw'; (try dsimp only at hSw'); (first | (go_simp; done) | (go_simp; with_reducible rfl))⟩ | exact Or.inr ⟨by rfl, by with_reducible rfl⟩ | fail
                try simp only [Act.put, List.setIfInBounds_toArray, List.set_cons_zero, List.set_cons_succ]
                refine wpAnyH_take (i := 9) (oi := ?oi1008) (v := ?v1008) ?hi1008 (by kernel_rfl) (by kernel_rfl) (by kernel_rfl) ?hq1008 ?hy1008 (by assumption) ?hr1008
                case hi1008 => (simp only [List.getElem?_toArray, List.getElem?_cons_succ, List.getElem?_cons_zero]; rfl)
                case hq1008 => exact fun _ _ _ h => h
                case hy1008 => first | exact Or.inl ⟨by rfl, by intro whSw hSw'; (try dsimp only at hSw'); (first | (go_simp; done) | (go_simp; with_reducible rfl))⟩ | exact Or.inr ⟨by rfl, by with_reducible rfl⟩ | fail
                try simp only [Act.put, List.setIfInBounds_toArray, List.set_cons_zero, List.set_cons_succ]
                refine wpAnyH_ready (rs := [7, 10]) (by kernel_rfl) (by simp) ?_
                refine AllReadyH.cons (o := ?oo1009) ?hi1009 (fun K hK => ?hs1009) ?hm1009
                case hi1009 => (simp only [List.getElem?_toArray, List.getElem?_cons_succ, List.getElem?_cons_zero]; rfl)
                · go_simp
                  refine (HEJ.out _ HX0.out).mono ?_
                  rintro e x1 ⟨⟨u1, rfl, hs1⟩, hb1⟩
                  have HX1 := Lib.hid (below_chain HX0.out HX0.out.size hb1)
                  have hku := HCV.out x1 _ _ hs1
                  have hkb1 := HKB.out _ HX1.out
                  clear hs1 hb1
                  (try go_wp2_with fail)
                  refine hK.out _ _ ?_ (fun hHeld => ?_)
                  · (try dsimp only); (first | (with_reducible exact HQ.out _ HX8.out) | (with_reducible exact HQ.out _ HX7.out) | (with_reducible exact HQ.out _ HX6.out) | (with_reducible exact HQ.out _ HX5.out) | (with_reducible exact HQ.out _ HX4.out) | (with_reducible exact HQ.out _ HX3.out) | (with_reducible exact HQ.out _ HX2.out) | (with_reducible exact HQ.out _ HX1.out) | (with_reducible exact HQ.out _ HX0.out) | fail)
                  clear hK K
                  try simp only [Act.put, List.setIfInBounds_toArray, List.set_cons_zero, List.set_cons_succ]
                  refine wpAnyH_ready (rs := [8, 10]) (by kernel_rfl) (by simp) ?_
                  refine AllReadyH.cons (o := ?oo1010) ?hi1010 (fun K hK => ?hs1010) ?hm1010
                  case hi1010 => (simp only [List.getElem?_toArray, List.getElem?_cons_succ, List.getElem?_cons_zero]; rfl)
                  · go_simp
                    refine hK.out _ _ ?_ (fun hHeld => ?_)
                    · (try dsimp only); (first | (with_reducible exact HQ.out _ HX8.out) | (with_reducible exact HQ.out _ HX7.out) | (with_reducible exact HQ.out _ HX6.out) | (with_reducible exact HQ.out _ HX5.out) | (with_reducible exact HQ.out _ HX4.out) | (with_reducible exact HQ.out _ HX3.out) | (with_reducible exact HQ.out _ HX2.out) | (with_reducible exact HQ.out _ HX1.out) | (with_reducible exact HQ.out _ HX0.out) | fail)
                    clear hK K
                    try simp only [Act.put, List.setIfInBounds_toArray, List.set_cons_zero, List.set_cons_succ]
                    refine wpAnyH_ready (rs := [10]) (by kernel_rfl) (by simp) ?_
                    refine AllReadyH.cons (o := ?oo1011) ?hi1011 (fun K hK => ?hs1011) ?hm1011
                    case hi1011 => (simp only [List.getElem?_toArray, List.getElem?_cons_succ, List.getElem?_cons_zero]; rfl)
                    · go_simp
                      refine hK.out _ _ ?_ (fun hHeld => ?_)
                      · (try dsimp only); (first | (with_reducible exact HQ.out _ HX8.out) | (with_reducible exact HQ.out _ HX7.out) | (with_reducible exact HQ.out _ HX6.out) | (with_reducible exact HQ.out _ HX5.out) | (with_reducible exact HQ.out _ HX4.out) | (with_reducible exact HQ.out _ HX3.out) | (with_reducible exact HQ.out _ HX2.out) | (with_reducible exact HQ.out _ HX1.out) | (with_reducible exact HQ.out _ HX0.out) | fail)
                      clear hK K
                      try simp only [Act.put, List.setIfInBounds_toArray, List.set_cons_zero, List.set_cons_succ]
                      refine wpAnyH_take (i := 11) (oi := ?oi1012) (v := ?v1012) ?hi1012 (by kernel_rfl) (by kernel_rfl) (by kernel_rfl) ?hq1012 ?hy1012 (by assumption) ?hr1012
                      case hi1012 => (simp only [List.getElem?_toArray, List.getElem?_cons_succ, List.getElem?_cons_zero]; rfl)
                      case hq1012 => exact fun _ _ _ h => h
                      case hy1012 => first | exact Or.inl ⟨by rfl, by intro whSw hSw'; (try dsimp only at hSw'); (first | (go_simp; done) | (go_simp; with_reducible rfl))⟩ | exact Or.inr ⟨by rfl, by with_reducible rfl⟩ | fail
                      try simp only [Act.put, List.setIfInBounds_toArray, List.set_cons_zero, List.set_cons_succ]
                      refine wpAnyH_take (i := 12) (oi := ?oi1013) (v := ?v1013) ?hi1013 (by kernel_rfl) (by kernel_rfl) (by kernel_rfl) ?hq1013 ?hy1013 (by assumption) ?hr1013
                      case hi1013 => (simp only [List.getElem?_toArray, List.getElem?_cons_succ, List.getElem?_cons_zero]; rfl)
                      case hq1013 => exact fun _ _ _ h => h
                      case hy1013 => exact Or.inl ⟨by rfl, by intro whSw hSw'; (try dsimp only at hSw'); (first | (go_simp; done) | (go_simp; with_reducible rfl))⟩
                      try simp only [Act.put, List.setIfInBounds_toArray, List.set_cons_zero, List.set_cons_succ]
                      refine wpAnyH_take (i := 13) (oi := ?oi1014) (v := ?v1014) ?hi1014 (by kernel_rfl) (by kernel_rfl) (by kernel_rfl) ?hq1014 ?hy1014 (by assumption) ?hr1014
                      case hi1014 => (simp only [List.getElem?_toArray, List.getElem?_cons_succ, List.getElem?_cons_zero]; rfl)
                      case hq1014 => exact fun _ _ _ h => h
                      case hy1014 => exact Or.inl ⟨by rfl, by intro whSw hSw'; (try dsimp only at hSw'); (first | (go_simp; done) | (go_simp; with_reducible rfl))⟩
                      try simp only [Act.put, List.setIfInBounds_toArray, List.set_cons_zero, List.set_cons_succ]
                      refine wpAnyH_take (i := 14) (oi := ?oi1015) (v := ?v1015) ?hi1015 (by kernel_rfl) (by kernel_rfl) (by kernel_rfl) ?hq1015 ?hy1015 (by assumption) ?hr1015
                      case hi1015 => (simp only [List.getElem?_toArray, List.getElem?_cons_succ, List.getElem?_cons_zero]; rfl)
                      case hq1015 => exact fun _ _ _ h => h
                      case hy1015 => first | exact Or.inl ⟨by rfl, by intro whSw hSw'; (try dsimp only at hSw'); (first | (go_simp; done) | (go_simp; with_reducible rfl))⟩ | exact Or.inr ⟨by rfl, by with_reducible rfl⟩ | fail
                      try simp only [Act.put, List.setIfInBounds_toArray, List.set_cons_zero, List.set_cons_succ]
                      refine wpAnyH_take (i := 15) (oi := ?oi1016) (v := ?v1016) ?hi1016 (by kernel_rfl) (by kernel_rfl) (by kernel_rfl) ?hq1016 ?hy1016 (by assumption) ?hr1016
                      case hi1016 => (simp only [List.getElem?_toArray, List.getElem?_cons_succ, List.getElem?_cons_zero]; rfl)
                      case hq1016 => exact fun _ _ _ h => h
                      case hy1016 => first | exact Or.inl ⟨by rfl, by intro whSw hSw'; (try dsimp only at hSw'); (first | (go_simp; done) | (go_simp; with_reducible rfl))⟩ | exact Or.inr ⟨by rfl, by with_reducible rfl⟩ | fail
                      try simp only [Act.put, List.setIfInBounds_toArray, List.set_cons_zero, List.set_cons_succ]
                      refine wpAnyH_take (i := 17) (oi := ?oi1017) (v := ?v1017) ?hi1017 (by kernel_rfl) (by kernel_rfl) (by kernel_rfl) ?hq1017 ?hy1017 (by assumption) ?hr1017
                      case hi1017 => (simp only [List.getElem?_toArray, List.getElem?_cons_succ, List.getElem?_cons_zero]; rfl)
                      case hq1017 => exact fun _ _ _ h => h
                      case hy1017 => first | exact Or.inl ⟨by rfl, by intro whSw hSw'; (try dsimp only at hSw'); (first | (go_simp; done) | (go_simp; with_reducible rfl))⟩ | exact Or.inr ⟨by rfl, by with_reducible rfl⟩ | fail
                      try simp only [Act.put, List.setIfInBounds_toArray, List.set_cons_zero, List.set_cons_succ]
                      refine wpAnyH_take (i := 18) (oi := ?oi1018) (v := ?v1018) ?hi1018 (by kernel_rfl) (by kernel_rfl) (by kernel_rfl) ?hq1018 ?hy1018 (by assumption) ?hr1018
                      case hi1018 => (simp only [List.getElem?_toArray, List.getElem?_cons_succ, List.getElem?_cons_zero]; rfl)
                      case hq1018 => exact fun _ _ _ h => h
                      case hy1018 => first | exact Or.inl ⟨by rfl, by intro whSw hSw'; (try dsimp only at hSw'); (first | (go_simp; done) | (go_simp; with_reducible rfl))⟩ | exact Or.inr ⟨by rfl, by with_reducible rfl⟩ | fail
                      try simp only [Act.put, List.setIfInBounds_toArray, List.set_cons_zero, List.set_cons_succ]
                      refine wpAnyH_ready (rs := [16]) (by kernel_rfl) (by simp) ?_
                      refine AllReadyH.cons (o := ?oo1019) ?hi1019 (fun K hK => ?hs1019) ?hm1019
                      case hi1019 => (simp only [List.getElem?_toArray, List.getElem?_cons_succ, List.getElem?_cons_zero]; rfl)
                      · go_simp
                        refine (HPJ.out _ HX1.out).mono ?_
                        rintro e x2 ⟨⟨u2, rfl, hr2⟩, hb2⟩
                        have HX2 := Lib.hid (below_chain HX1.out HX1.out.size hb2)
                        have HR2 := Lib.hid hr2
                        obtain ⟨A2, d2, rfl, -⟩ := hr2.form
                        clear hr2 hb2
                        (try go_wp2_with fail)
                        refine hK.out _ _ ?_ (fun hHeld => ?_)
                        · (try dsimp only); (first | (with_reducible exact HQ.out _ HX8.out) | (with_reducible exact HQ.out _ HX7.out) | (with_reducible exact HQ.out _ HX6.out) | (with_reducible exact HQ.out _ HX5.out) | (with_reducible exact HQ.out _ HX4.out) | (with_reducible exact HQ.out _ HX3.out) | (with_reducible exact HQ.out _ HX2.out) | (with_reducible exact HQ.out _ HX1.out) | (with_reducible exact HQ.out _ HX0.out) | fail)
                        clear hK K
                        try simp only [Act.put, List.setIfInBounds_toArray, List.set_cons_zero, List.set_cons_succ]
                        refine wpAnyH_ready (rs := [19]) (by kernel_rfl) (by simp) ?_
                        refine AllReadyH.cons (o := ?oo1020) ?hi1020 (fun K hK => ?hs1020) ?hm1020
                        case hi1020 => (simp only [List.getElem?_toArray, List.getElem?_cons_succ, List.getElem?_cons_zero]; rfl)
                        · go_simp
                          refine (HPI.out _ HX2.out).mono ?_
                          rintro e x3 ⟨⟨u3, rfl, hr3⟩, hb3⟩
                          have HX3 := Lib.hid (below_chain HX2.out HX2.out.size hb3)
                          have HSM1 := Lib.hid (sameInts_any (HR2.out.below stays_int hb3) hr3 HLM.out.1 HLM.out.1)
                          rw [decide_eq_true (rfl : xs = xs)] at HSM1
                          obtain ⟨A3, d3, rfl, -⟩ := hr3.form
                          clear hr3 hb3
                          (try go_wp2_with fail)
                          refine hK.out _ _ ?_ (fun hHeld => ?_)
                          · (try dsimp only); (first | (with_reducible exact HQ.out _ HX8.out) | (with_reducible exact HQ.out _ HX7.out) | (with_reducible exact HQ.out _ HX6.out) | (with_reducible exact HQ.out _ HX5.out) | (with_reducible exact HQ.out _ HX4.out) | (with_reducible exact HQ.out _ HX3.out) | (with_reducible exact HQ.out _ HX2.out) | (with_reducible exact HQ.out _ HX1.out) | (with_reducible exact HQ.out _ HX0.out) | fail)
                          clear hK K
                          try simp only [Act.put, List.setIfInBounds_toArray, List.set_cons_zero, List.set_cons_succ]
                          refine wpAnyH_ready (rs := [20]) (by kernel_rfl) (by simp) ?_
                          refine AllReadyH.cons (o := ?oo1021) ?hi1021 (fun K hK => ?hs1021) ?hm1021
                          case hi1021 => (simp only [List.getElem?_toArray, List.getElem?_cons_succ, List.getElem?_cons_zero]; rfl)
                          · go_simp
                            refine HSM1.out.mono ?_
                            rintro e x4 ⟨rfl, hb4⟩
                            have HX4 := Lib.hid (below_chain HX3.out HX3.out.size hb4)
                            clear hb4
                            (try go_wp2_with fail)
                            refine hK.out _ _ ?_ (fun hHeld => ?_)
                            · (try dsimp only); (first | (with_reducible exact HQ.out _ HX8.out) | (with_reducible exact HQ.out _ HX7.out) | (with_reducible exact HQ.out _ HX6.out) | (with_reducible exact HQ.out _ HX5.out) | (with_reducible exact HQ.out _ HX4.out) | (with_reducible exact HQ.out _ HX3.out) | (with_reducible exact HQ.out _ HX2.out) | (with_reducible exact HQ.out _ HX1.out) | (with_reducible exact HQ.out _ HX0.out) | fail)
                            clear hK K
                            try simp only [Act.put, List.setIfInBounds_toArray, List.set_cons_zero, List.set_cons_succ]
                            refine wpAnyH_take (i := 21) (oi := ?oi1022) (v := ?v1022) ?hi1022 (by kernel_rfl) (by kernel_rfl) (by kernel_rfl) ?hq1022 ?hy1022 (by assumption) ?hr1022
                            case hi1022 => (simp only [List.getElem?_toArray, List.getElem?_cons_succ, List.getElem?_cons_zero]; rfl)
                            case hq1022 => exact fun _ _ _ h => h
                            case hy1022 => exact Or.inl ⟨by rfl, by intro whSw hSw'; (try dsimp only at hSw'); (first | (go_simp; done) | (go_simp; with_reducible rfl))⟩
                            try simp only [Act.put, List.setIfInBounds_toArray, List.set_cons_zero, List.set_cons_succ]
                            refine wpAnyH_take (i := 22) (oi := ?oi1023) (v := ?v1023) ?hi1023 (by kernel_rfl) (by kernel_rfl) (by kernel_rfl) ?hq1023 ?hy1023 (by assumption) ?hr1023
                            case hi1023 => (simp only [List.getElem?_toArray, List.getElem?_cons_succ, List.getElem?_cons_zero]; rfl)
                            case hq1023 => exact fun _ _ _ h => h
                            case hy1023 => exact Or.inl ⟨by rfl, by intro whSw hSw'; (try dsimp only at hSw'); (first | (go_simp; done) | (go_simp; with_reducible rfl))⟩
                            try simp only [Act.put, List.setIfInBounds_toArray, List.set_cons_zero, List.set_cons_succ]
                            refine wpAnyH_take (i := 23) (oi := ?oi1024) (v := ?v1024) ?hi1024 (by kernel_rfl) (by kernel_rfl) (by kernel_rfl) ?hq1024 ?hy1024 (by assumption) ?hr1024
                            case hi1024 => (simp only [List.getElem?_toArray, List.getElem?_cons_succ, List.getElem?_cons_zero]; rfl)
                            case hq1024 => exact fun _ _ _ h => h
                            case hy1024 => first | exact Or.inl ⟨by rfl, by intro whSw hSw'; (try dsimp only at hSw'); (first | (go_simp; done) | (go_simp; with_reducible rfl))⟩ | exact Or.inr ⟨by rfl, by with_reducible rfl⟩ | fail
                            try simp only [Act.put, List.setIfInBounds_toArray, List.set_cons_zero, List.set_cons_succ]
                            refine wpAnyH_take (i := 24) (oi := ?oi1025) (v := ?v1025) ?hi1025 (by kernel_rfl) (by kernel_rfl) (by kernel_rfl) ?hq1025 ?hy1025 (by assumption) ?hr1025
                            case hi1025 => (simp only [List.getElem?_toArray, List.getElem?_cons_succ, List.getElem?_cons_zero]; rfl)
                            case hq1025 => exact fun _ _ _ h => h
                            case hy1025 => first | exact Or.inl ⟨by rfl, by intro whSw hSw'; (try dsimp only at hSw'); (first | (go_simp; done) | (go_simp; with_reducible rfl))⟩ | exact Or.inr ⟨by rfl, by with_reducible rfl⟩ | fail
                            try simp only [Act.put, List.setIfInBounds_toArray, List.set_cons_zero, List.set_cons_succ]
                            refine wpAnyH_take (i := 25) (oi := ?oi1026) (v := ?v1026) ?hi1026 (by kernel_rfl) (by kernel_rfl) (by kernel_rfl) ?hq1026 ?hy1026 (by assumption) ?hr1026
                            case hi1026 => (simp only [List.getElem?_toArray, List.getElem?_cons_succ, List.getElem?_cons_zero]; rfl)
                            case hq1026 => exact fun _ _ _ h => h
                            case hy1026 => first | exact Or.inl ⟨by rfl, by intro whSw hSw'; (try dsimp only at hSw'); (first | (go_simp; done) | (go_simp; with_reducible rfl))⟩ | exact Or.inr ⟨by rfl, by with_reducible rfl⟩ | fail
                            try simp only [Act.put, List.setIfInBounds_toArray, List.set_cons_zero, List.set_cons_succ]
                            refine wpAnyH_take (i := 27) (oi := ?oi1027) (v := ?v1027) ?hi1027 (by kernel_rfl) (by kernel_rfl) (by kernel_rfl) ?hq1027 ?hy1027 (by assumption) ?hr1027
                            case hi1027 => (simp only [List.getElem?_toArray, List.getElem?_cons_succ, List.getElem?_cons_zero]; rfl)
                            case hq1027 => exact fun _ _ _ h => h
                            case hy1027 => first | exact Or.inl ⟨by rfl, by intro whSw hSw'; (try dsimp only at hSw'); (first | (go_simp; done) | (go_simp; with_reducible rfl))⟩ | exact Or.inr ⟨by rfl, by with_reducible rfl⟩ | fail
                            try simp only [Act.put, List.setIfInBounds_toArray, List.set_cons_zero, List.set_cons_succ]
                            refine wpAnyH_take (i := 28) (oi := ?oi1028) (v := ?v1028) ?hi1028 (by kernel_rfl) (by kernel_rfl) (by kernel_rfl) ?hq1028 ?hy1028 (by assumption) ?hr1028
                            case hi1028 => (simp only [List.getElem?_toArray, List.getElem?_cons_succ, List.getElem?_cons_zero]; rfl)
                            case hq1028 => exact fun _ _ _ h => h
                            case hy1028 => first | exact Or.inl ⟨by rfl, by intro whSw hSw'; (try dsimp only at hSw'); (first | (go_simp; done) | (go_simp; with_reducible rfl))⟩ | exact Or.inr ⟨by rfl, by with_reducible rfl⟩ | fail
                            try simp only [Act.put, List.setIfInBounds_toArray, List.set_cons_zero, List.set_cons_succ]
                            refine wpAnyH_take (i := 29) (oi := ?oi1029) (v := ?v1029) ?hi1029 (by kernel_rfl) (by kernel_rfl) (by kernel_rfl) ?hq1029 ?hy1029 (by assumption) ?hr1029
                            case hi1029 => (simp only [List.getElem?_toArray, List.getElem?_cons_succ, List.getElem?_cons_zero]; rfl)
                            case hq1029 => exact fun _ _ _ h => h
                            case hy1029 => first | exact Or.inl ⟨by rfl, by intro whSw hSw'; (try dsimp only at hSw'); (first | (go_simp; done) | (go_simp; with_reducible rfl))⟩ | exact Or.inr ⟨by rfl, by with_reducible rfl⟩ | fail
                            try simp only [Act.put, List.setIfInBounds_toArray, List.set_cons_zero, List.set_cons_succ]
                            refine wpAnyH_ready (rs := [26]) (by kernel_rfl) (by simp) ?_
                            refine AllReadyH.cons (o := ?oo1030) ?hi1030 (fun K hK => ?hs1030) ?hm1030
                            case hi1030 => (simp only [List.getElem?_toArray, List.getElem?_cons_succ, List.getElem?_cons_zero]; rfl)
                            · go_simp
                              refine (HTJ.out _ HX4.out).mono ?_
                              rintro e x5 ⟨⟨u5, rfl, hr5⟩, hb5⟩
                              have HX5 := Lib.hid (below_chain HX4.out HX4.out.size hb5)
                              have HR5 := Lib.hid hr5
                              obtain ⟨A5, d5, rfl, -⟩ := hr5.form
                              clear hr5 hb5
                              (try go_wp2_with fail)
                              refine hK.out _ _ ?_ (fun hHeld => ?_)
                              · (try dsimp only); (first | (with_reducible exact HQ.out _ HX8.out) | (with_reducible exact HQ.out _ HX7.out) | (with_reducible exact HQ.out _ HX6.out) | (with_reducible exact HQ.out _ HX5.out) | (with_reducible exact HQ.out _ HX4.out) | (with_reducible exact HQ.out _ HX3.out) | (with_reducible exact HQ.out _ HX2.out) | (with_reducible exact HQ.out _ HX1.out) | (with_reducible exact HQ.out _ HX0.out) | fail)
                              clear hK K
                              try simp only [Act.put, List.setIfInBounds_toArray, List.set_cons_zero, List.set_cons_succ]
                              refine wpAnyH_ready (rs := [30]) (by kernel_rfl) (by simp) ?_
                              refine AllReadyH.cons (o := ?oo1031) ?hi1031 (fun K hK => ?hs1031) ?hm1031
                              case hi1031 => (simp only [List.getElem?_toArray, List.getElem?_cons_succ, List.getElem?_cons_zero]; rfl)
                              · go_simp
                                refine (HTI.out _ HX5.out).mono ?_
                                rintro e x6 ⟨⟨u6, rfl, hr6⟩, hb6⟩
                                have HX6 := Lib.hid (below_chain HX5.out HX5.out.size hb6)
                                have HSM2 := Lib.hid (sameInts_any (HR5.out.below stays_int hb6) hr6 HLM.out.2 HLM.out.2)
                                rw [decide_eq_true (rfl : ys = ys)] at HSM2
                                obtain ⟨A6, d6, rfl, -⟩ := hr6.form
                                clear hr6 hb6
                                (try go_wp2_with fail)
                                refine hK.out _ _ ?_ (fun hHeld => ?_)
                                · (try dsimp only); (first | (with_reducible exact HQ.out _ HX8.out) | (with_reducible exact HQ.out _ HX7.out) | (with_reducible exact HQ.out _ HX6.out) | (with_reducible exact HQ.out _ HX5.out) | (with_reducible exact HQ.out _ HX4.out) | (with_reducible exact HQ.out _ HX3.out) | (with_reducible exact HQ.out _ HX2.out) | (with_reducible exact HQ.out _ HX1.out) | (with_reducible exact HQ.out _ HX0.out) | fail)
                                clear hK K
                                try simp only [Act.put, List.setIfInBounds_toArray, List.set_cons_zero, List.set_cons_succ]
                                refine wpAnyH_ready (rs := [31]) (by kernel_rfl) (by simp) ?_
                                refine AllReadyH.cons (o := ?oo1032) ?hi1032 (fun K hK => ?hs1032) ?hm1032
                                case hi1032 => (simp only [List.getElem?_toArray, List.getElem?_cons_succ, List.getElem?_cons_zero]; rfl)
                                · go_simp
                                  refine HSM2.out.mono ?_
                                  rintro e x7 ⟨rfl, hb7⟩
                                  have HX7 := Lib.hid (below_chain HX6.out HX6.out.size hb7)
                                  clear hb7
                                  (try go_wp2_with fail)
                                  refine hK.out _ _ ?_ (fun hHeld => ?_)
                                  · (try dsimp only); (first | (with_reducible exact HQ.out _ HX8.out) | (with_reducible exact HQ.out _ HX7.out) | (with_reducible exact HQ.out _ HX6.out) | (with_reducible exact HQ.out _ HX5.out) | (with_reducible exact HQ.out _ HX4.out) | (with_reducible exact HQ.out _ HX3.out) | (with_reducible exact HQ.out _ HX2.out) | (with_reducible exact HQ.out _ HX1.out) | (with_reducible exact HQ.out _ HX0.out) | fail)
                                  clear hK K
                                  try simp only [Act.put, List.setIfInBounds_toArray, List.set_cons_zero, List.set_cons_succ]
                                  refine wpAnyH_take (i := 32) (oi := ?oi1033) (v := ?v1033) ?hi1033 (by kernel_rfl) (by kernel_rfl) (by kernel_rfl) ?hq1033 ?hy1033 (by assumption) ?hr1033
                                  case hi1033 => (simp only [List.getElem?_toArray, List.getElem?_cons_succ, List.getElem?_cons_zero]; rfl)
                                  case hq1033 => exact fun _ _ _ h => h
                                  case hy1033 => exact Or.inl ⟨by rfl, by intro whSw hSw'; (try dsimp only at hSw'); (first | (go_simp; done) | (go_simp; with_reducible rfl))⟩
                                  try simp only [Act.put, List.setIfInBounds_toArray, List.set_cons_zero, List.set_cons_succ]
                                  refine wpAnyH_take (i := 33) (oi := ?oi1034) (v := ?v1034) ?hi1034 (by kernel_rfl) (by kernel_rfl) (by kernel_rfl) ?hq1034 ?hy1034 (by assumption) ?hr1034
                                  case hi1034 => (simp only [List.getElem?_toArray, List.getElem?_cons_succ, List.getElem?_cons_zero]; rfl)
                                  case hq1034 => exact fun _ _ _ h => h
                                  case hy1034 => exact Or.inl ⟨by rfl, by intro whSw hSw'; (try dsimp only at hSw'); (first | (go_simp; done) | (go_simp; with_reducible rfl))⟩
                                  try simp only [Act.put, List.setIfInBounds_toArray, List.set_cons_zero, List.set_cons_succ]
                                  refine wpAnyH_ready (rs := [34]) (by kernel_rfl) (by simp) ?_
                                  refine AllReadyH.cons (o := ?oo1035) ?hi1035 (fun K hK => ?hs1035) ?hm1035
                                  case hi1035 => (simp only [List.getElem?_toArray, List.getElem?_cons_succ, List.getElem?_cons_zero]; rfl)
                                  · go_simp
                                    refine (HA.out _).mono ?_
                                    rintro e x8 ⟨rfl, hb8⟩
                                    have HX8 := Lib.hid (below_chain HX7.out HX7.out.size hb8)
                                    clear hb8
                                    (try go_wp2_with fail)
                                    refine hK.out _ _ ?_ (fun hHeld => ?_)
                                    · (try dsimp only); (first | (with_reducible exact HQ.out _ HX8.out) | (with_reducible exact HQ.out _ HX7.out) | (with_reducible exact HQ.out _ HX6.out) | (with_reducible exact HQ.out _ HX5.out) | (with_reducible exact HQ.out _ HX4.out) | (with_reducible exact HQ.out _ HX3.out) | (with_reducible exact HQ.out _ HX2.out) | (with_reducible exact HQ.out _ HX1.out) | (with_reducible exact HQ.out _ HX0.out) | fail)
                                    clear hK K
                                    try simp only [Act.put, List.setIfInBounds_toArray, List.set_cons_zero, List.set_cons_succ]
                                    refine wpAnyH_take (i := 35) (oi := ?oi1036) (v := ?v1036) ?hi1036 (by kernel_rfl) (by kernel_rfl) (by kernel_rfl) ?hq1036 ?hy1036 (by assumption) ?hr1036
                                    case hi1036 => (simp only [List.getElem?_toArray, List.getElem?_cons_succ, List.getElem?_cons_zero]; rfl)
                                    case hq1036 => exact fun _ _ _ h => h
                                    case hy1036 => exact Or.inl ⟨by rfl, by intro whSw hSw'; (try dsimp only at hSw'); (first | (go_simp; done) | (go_simp; with_reducible rfl))⟩
                                    try simp only [Act.put, List.setIfInBounds_toArray, List.set_cons_zero, List.set_cons_succ]
                                    refine wpAnyH_take (i := 36) (oi := ?oi1037) (v := ?v1037) ?hi1037 (by kernel_rfl) (by kernel_rfl) (by kernel_rfl) ?hq1037 ?hy1037 (by assumption) ?hr1037
                                    case hi1037 => (simp only [List.getElem?_toArray, List.getElem?_cons_succ, List.getElem?_cons_zero]; rfl)
                                    case hq1037 => exact fun _ _ _ h => h
                                    case hy1037 => exact Or.inl ⟨by rfl, by intro whSw hSw'; (try dsimp only at hSw'); (first | (go_simp; done) | (go_simp; with_reducible rfl))⟩
                                    try simp only [Act.put, List.setIfInBounds_toArray, List.set_cons_zero, List.set_cons_succ]
                                    refine wpAnyH_done (by kernel_rfl) ?_ _
                                    have HFIN := Lib.hid (HB0.out.trans ((HBD0.out.trans (HX8.out.mono HBD0.out.size)).mono HNX.out))
                                    go_wp2_with fail
                                    go_ret
                                    exact ⟨rfl, HFIN.out⟩
                                  exact AllReadyH.nil
                                exact AllReadyH.nil
                              exact AllReadyH.nil
                            exact AllReadyH.nil
                          exact AllReadyH.nil
                        exact AllReadyH.nil
                      exact AllReadyH.nil
                    exact AllReadyH.nil
                  refine AllReadyH.cons (o := ?oo1038) ?hi1038 (fun K hK => ?hs1038) ?hm1038
                  case hi1038 => (simp only [List.getElem?_toArray, List.getElem?_cons_succ, List.getElem?_cons_zero]; rfl)
                  · go_simp
                    refine hK.out _ _ ?_ (fun hHeld => ?_)
                    · (try dsimp only); (first | (with_reducible exact HQ.out _ HX8.out) | (with_reducible exact HQ.out _ HX7.out) | (with_reducible exact HQ.out _ HX6.out) | (with_reducible exact HQ.out _ HX5.out) | (with_reducible exact HQ.out _ HX4.out) | (with_reducible exact HQ.out _ HX3.out) | (with_reducible exact HQ.out _ HX2.out) | (with_reducible exact HQ.out _ HX1.out) | (with_reducible exact HQ.out _ HX0.out) | fail)
                    clear hK K
                    try simp only [Act.put, List.setIfInBounds_toArray, List.set_cons_zero, List.set_cons_succ]
                    refine wpAnyH_ready (rs := [8]) (by kernel_rfl) (by simp) ?_
                    refine AllReadyH.cons (o := ?oo1039) ?hi1039 (fun K hK => ?hs1039) ?hm1039
                    case hi1039 => (simp only [List.getElem?_toArray, List.getElem?_cons_succ, List.getElem?_cons_zero]; rfl)
                    · go_simp
                      refine hK.out _ _ ?_ (fun hHeld => ?_)
                      · (try dsimp only); (first | (with_reducible exact HQ.out _ HX8.out) | (with_reducible exact HQ.out _ HX7.out) | (with_reducible exact HQ.out _ HX6.out) | (with_reducible exact HQ.out _ HX5.out) | (with_reducible exact HQ.out _ HX4.out) | (with_reducible exact HQ.out _ HX3.out) | (with_reducible exact HQ.out _ HX2.out) | (with_reducible exact HQ.out _ HX1.out) | (with_reducible exact HQ.out _ HX0.out) | fail)
                      clear hK K
                      try simp only [Act.put, List.setIfInBounds_toArray, List.set_cons_zero, List.set_cons_succ]
                      refine wpAnyH_take (i := 11) (oi := ?oi1040) (v := ?v1040) ?hi1040 (by kernel_rfl) (by kernel_rfl) (by kernel_rfl) ?hq1040 ?hy1040 (by assumption) ?hr1040
                      case hi1040 => (simp only [List.getElem?_toArray, List.getElem?_cons_succ, List.getElem?_cons_zero]; rfl)
                      case hq1040 => exact fun _ _ _ h => h
                      case hy1040 => first | exact Or.inl ⟨by rfl, by intro whSw hSw'; (try dsimp only at hSw'); (first | (go_simp; done) | (go_simp; with_reducible rfl))⟩ | exact Or.inr ⟨by rfl, by with_reducible rfl⟩ | fail
                      try simp only [Act.put, List.setIfInBounds_toArray, List.set_cons_zero, List.set_cons_succ]
                      refine wpAnyH_take (i := 12) (oi := ?oi1041) (v := ?v1041) ?hi1041 (by kernel_rfl) (by kernel_rfl) (by kernel_rfl) ?hq1041 ?hy1041 (by assumption) ?hr1041
                      case hi1041 => (simp only [List.getElem?_toArray, List.getElem?_cons_succ, List.getElem?_cons_zero]; rfl)
                      case hq1041 => exact fun _ _ _ h => h
                      case hy1041 => exact Or.inl ⟨by rfl, by intro whSw hSw'; (try dsimp only at hSw'); (first | (go_simp; done) | (go_simp; with_reducible rfl))⟩
                      try simp only [Act.put, List.setIfInBounds_toArray, List.set_cons_zero, List.set_cons_succ]
                      refine wpAnyH_take (i := 13) (oi := ?oi1042) (v := ?v1042) ?hi1042 (by kernel_rfl) (by kernel_rfl) (by kernel_rfl) ?hq1042 ?hy1042 (by assumption) ?hr1042
                      case hi1042 => (simp only [List.getElem?_toArray, List.getElem?_cons_succ, List.getElem?_cons_zero]; rfl)
                      case hq1042 => exact fun _ _ _ h => h
                      case hy1042 => exact Or.inl ⟨by rfl, by intro whSw hSw'; (try dsimp only at hSw'); (first | (go_simp; done) | (go_simp; with_reducible rfl))⟩
                      try simp only [Act.put, List.setIfInBounds_toArray, List.set_cons_zero, List.set_cons_succ]
                      refine wpAnyH_take (i := 14) (oi := ?oi1043) (v := ?v1043) ?hi1043 (by kernel_rfl) (by kernel_rfl) (by kernel_rfl) ?hq1043 ?hy1043 (by assumption) ?hr1043
                      case hi1043 => (simp only [List.getElem?_toArray, List.getElem?_cons_succ, List.getElem?_cons_zero]; rfl)
                      case hq1043 => exact fun _ _ _ h => h
                      case hy1043 => first | exact Or.inl ⟨by rfl, by intro whSw hSw'; (try dsimp only at hSw'); (first | (go_simp; done) | (go_simp; with_reducible rfl))⟩ | exact Or.inr ⟨by rfl, by with_reducible rfl⟩ | fail
                      try simp only [Act.put, List.setIfInBounds_toArray, List.set_cons_zero, List.set_cons_succ]
                      refine wpAnyH_take (i := 15) (oi := ?oi1044) (v := ?v1044) ?hi1044 (by kernel_rfl) (by kernel_rfl) (by kernel_rfl) ?hq1044 ?hy1044 (by assumption) ?hr1044
                      case hi1044 => (simp only [List.getElem?_toArray, List.getElem?_cons_succ, List.getElem?_cons_zero]; rfl)
                      case hq1044 => exact fun _ _ _ h => h
                      case hy1044 => first | exact Or.inl ⟨by rfl, by intro whSw hSw'; (try dsimp only at hSw'); (first | (go_simp; done) | (go_simp; with_reducible rfl))⟩ | exact Or.inr ⟨by rfl, by with_reducible rfl⟩ | fail
                      try simp only [Act.put, List.setIfInBounds_toArray, List.set_cons_zero, List.set_cons_succ]
                      refine wpAnyH_take (i := 17) (oi := ?oi1045) (v := ?v1045) ?hi1045 (by kernel_rfl) (by kernel_rfl) (by kernel_rfl) ?hq1045 ?hy1045 (by assumption) ?hr1045
                      case hi1045 => (simp only [List.getElem?_toArray, List.getElem?_cons_succ, List.getElem?_cons_zero]; rfl)
                      case hq1045 => exact fun _ _ _ h => h
                      case hy1045 => first | exact Or.inl ⟨by rfl, by intro whSw hSw'; (try dsimp only at hSw'); (first | (go_simp; done) | (go_simp; with_reducible rfl))⟩ | exact Or.inr ⟨by rfl, by with_reducible rfl⟩ | fail
                      try simp only [Act.put, List.setIfInBounds_toArray, List.set_cons_zero, List.set_cons_succ]
                      refine wpAnyH_take (i := 18) (oi := ?oi1046) (v := ?v1046) ?hi1046 (by kernel_rfl) (by kernel_rfl) (by kernel_rfl) ?hq1046 ?hy1046 (by assumption) ?hr1046
                      case hi1046 => (simp only [List.getElem?_toArray, List.getElem?_cons_succ, List.getElem?_cons_zero]; rfl)
                      case hq1046 => exact fun _ _ _ h => h
                      case hy1046 => first | exact Or.inl ⟨by rfl, by intro whSw hSw'; (try dsimp only at hSw'); (first | (go_simp; done) | (go_simp; with_reducible rfl))⟩ | exact Or.inr ⟨by rfl, by with_reducible rfl⟩ | fail
                      try simp only [Act.put, List.setIfInBounds_toArray, List.set_cons_zero, List.set_cons_succ]
                      refine wpAnyH_ready (rs := [16]) (by kernel_rfl) (by simp) ?_
                      refine AllReadyH.cons (o := ?oo1047) ?hi1047 (fun K hK => ?hs1047) ?hm1047
                      case hi1047 => (simp only [List.getElem?_toArray, List.getElem?_cons_succ, List.getElem?_cons_zero]; rfl)
                      · go_simp
                        refine (HPJ.out _ HX1.out).mono ?_
                        rintro e x2 ⟨⟨u2, rfl, hr2⟩, hb2⟩
                        have HX2 := Lib.hid (below_chain HX1.out HX1.out.size hb2)
                        have HR2 := Lib.hid hr2
                        obtain ⟨A2, d2, rfl, -⟩ := hr2.form
                        clear hr2 hb2
                        (try go_wp2_with fail)
                        refine hK.out _ _ ?_ (fun hHeld => ?_)
                        · (try dsimp only); (first | (with_reducible exact HQ.out _ HX8.out) | (with_reducible exact HQ.out _ HX7.out) | (with_reducible exact HQ.out _ HX6.out) | (with_reducible exact HQ.out _ HX5.out) | (with_reducible exact HQ.out _ HX4.out) | (with_reducible exact HQ.out _ HX3.out) | (with_reducible exact HQ.out _ HX2.out) | (with_reducible exact HQ.out _ HX1.out) | (with_reducible exact HQ.out _ HX0.out) | fail)
                        clear hK K
                        try simp only [Act.put, List.setIfInBounds_toArray, List.set_cons_zero, List.set_cons_succ]
                        refine wpAnyH_ready (rs := [19]) (by kernel_rfl) (by simp) ?_
                        refine AllReadyH.cons (o := ?oo1048) ?hi1048 (fun K hK => ?hs1048) ?hm1048
                        case hi1048 => (simp only [List.getElem?_toArray, List.getElem?_cons_succ, List.getElem?_cons_zero]; rfl)
                        · go_simp
                          refine (HPI.out _ HX2.out).mono ?_
                          rintro e x3 ⟨⟨u3, rfl, hr3⟩, hb3⟩
                          have HX3 := Lib.hid (below_chain HX2.out HX2.out.size hb3)
                          have HSM1 := Lib.hid (sameInts_any (HR2.out.below stays_int hb3) hr3 HLM.out.1 HLM.out.1)
                          rw [decide_eq_true (rfl : xs = xs)] at HSM1
                          obtain ⟨A3, d3, rfl, -⟩ := hr3.form
                          clear hr3 hb3
                          (try go_wp2_with fail)
                          refine hK.out _ _ ?_ (fun hHeld => ?_)
                          · (try dsimp only); (first | (with_reducible exact HQ.out _ HX8.out) | (with_reducible exact HQ.out _ HX7.out) | (with_reducible exact HQ.out _ HX6.out) | (with_reducible exact HQ.out _ HX5.out) | (with_reducible exact HQ.out _ HX4.out) | (with_reducible exact HQ.out _ HX3.out) | (with_reducible exact HQ.out _ HX2.out) | (with_reducible exact HQ.out _ HX1.out) | (with_reducible exact HQ.out _ HX0.out) | fail)
                          clear hK K
                          try simp only [Act.put, List.setIfInBounds_toArray, List.set_cons_zero, List.set_cons_succ]
                          refine wpAnyH_ready (rs := [20]) (by kernel_rfl) (by simp) ?_
                          refine AllReadyH.cons (o := ?oo1049) ?hi1049 (fun K hK => ?hs1049) ?hm1049
                          case hi1049 => (simp only [List.getElem?_toArray, List.getElem?_cons_succ, List.getElem?_cons_zero]; rfl)
                          · go_simp
                            refine HSM1.out.mono ?_
                            rintro e x4 ⟨rfl, hb4⟩
                            have HX4 := Lib.hid (below_chain HX3.out HX3.out.size hb4)
                            clear hb4
                            (try go_wp2_with fail)
                            refine hK.out _ _ ?_ (fun hHeld => ?_)
                            · (try dsimp only); (first | (with_reducible exact HQ.out _ HX8.out) | (with_reducible exact HQ.out _ HX7.out) | (with_reducible exact HQ.out _ HX6.out) | (with_reducible exact HQ.out _ HX5.out) | (with_reducible exact HQ.out _ HX4.out) | (with_reducible exact HQ.out _ HX3.out) | (with_reducible exact HQ.out _ HX2.out) | (with_reducible exact HQ.out _ HX1.out) | (with_reducible exact HQ.out _ HX0.out) | fail)
                            clear hK K
                            try simp only [Act.put, List.setIfInBounds_toArray, List.set_cons_zero, List.set_cons_succ]
                            refine wpAnyH_take (i := 21) (oi := ?oi1050) (v := ?v1050) ?hi1050 (by kernel_rfl) (by kernel_rfl) (by kernel_rfl) ?hq1050 ?hy1050 (by assumption) ?hr1050
                            case hi1050 => (simp only [List.getElem?_toArray, List.getElem?_cons_succ, List.getElem?_cons_zero]; rfl)
                            case hq1050 => exact fun _ _ _ h => h
                            case hy1050 => exact Or.inl ⟨by rfl, by intro whSw hSw'; (try dsimp only at hSw'); (first | (go_simp; done) | (go_simp; with_reducible rfl))⟩
                            try simp only [Act.put, List.setIfInBounds_toArray, List.set_cons_zero, List.set_cons_succ]
                            refine wpAnyH_take (i := 22) (oi := ?oi1051) (v := ?v1051) ?hi1051 (by kernel_rfl) (by kernel_rfl) (by kernel_rfl) ?hq1051 ?hy1051 (by assumption) ?hr1051
                            case hi1051 => (simp only [List.getElem?_toArray, List.getElem?_cons_succ, List.getElem?_cons_zero]; rfl)
                            case hq1051 => exact fun _ _ _ h => h
                            case hy1051 => exact Or.inl ⟨by rfl, by intro whSw hSw'; (try dsimp only at hSw'); (first | (go_simp; done) | (go_simp; with_reducible rfl))⟩
                            try simp only [Act.put, List.setIfInBounds_toArray, List.set_cons_zero, List.set_cons_succ]
                            refine wpAnyH_take (i := 23) (oi := ?oi1052) (v := ?v1052) ?hi1052 (by kernel_rfl) (by kernel_rfl) (by kernel_rfl) ?hq1052 ?hy1052 (by assumption) ?hr1052
                            case hi1052 => (simp only [List.getElem?_toArray, List.getElem?_cons_succ, List.getElem?_cons_zero]; rfl)
                            case hq1052 => exact fun _ _ _ h => h
                            case hy1052 => first | exact Or.inl ⟨by rfl, by intro whSw hSw'; (try dsimp only at hSw'); (first | (go_simp; done) | (go_simp; with_reducible rfl))⟩ | exact Or.inr ⟨by rfl, by with_reducible rfl⟩ | fail
                            try simp only [Act.put, List.setIfInBounds_toArray, List.set_cons_zero, List.set_cons_succ]
                            refine wpAnyH_take (i := 24) (oi := ?oi1053) (v := ?v1053) ?hi1053 (by kernel_rfl) (by kernel_rfl) (by kernel_rfl) ?hq1053 ?hy1053 (by assumption) ?hr1053
                            case hi1053 => (simp only [List.getElem?_toArray, List.getElem?_cons_succ, List.getElem?_cons_zero]; rfl)
                            case hq1053 => exact fun _ _ _ h => h
                            case hy1053 => first | exact Or.inl ⟨by rfl, by intro whSw hSw'; (try dsimp only at hSw'); (first | (go_simp; done) | (go_simp; with_reducible rfl))⟩ | exact Or.inr ⟨by rfl, by with_reducible rfl⟩ | fail
                            try simp only [Act.put, List.setIfInBounds_toArray, List.set_cons_zero, List.set_cons_succ]
                            refine wpAnyH_take (i := 25) (oi := ?oi1054) (v := ?v1054) ?hi1054 (by kernel_rfl) (by kernel_rfl) (by kernel_rfl) ?hq1054 ?hy1054 (by assumption) ?hr1054
                            case hi1054 => (simp only [List.getElem?_toArray, List.getElem?_cons_succ, List.getElem?_cons_zero]; rfl)
                            case hq1054 => exact fun _ _ _ h => h
                            case hy1054 => first | exact Or.inl ⟨by rfl, by intro whSw hSw'; (try dsimp only at hSw'); (first | (go_simp; done) | (go_simp; with_reducible rfl))⟩ | exact Or.inr ⟨by rfl, by with_reducible rfl⟩ | fail
                            try simp only [Act.put, List.setIfInBounds_toArray, List.set_cons_zero, List.set_cons_succ]
                            refine wpAnyH_take (i := 27) (oi := ?oi1055) (v := ?v1055) ?hi1055 (by kernel_rfl) (by kernel_rfl) (by kernel_rfl) ?hq1055 ?hy1055 (by assumption) ?hr1055
                            case hi1055 => (simp only [List.getElem?_toArray, List.getElem?_cons_succ, List.getElem?_cons_zero]; rfl)
                            case hq1055 => exact fun _ _ _ h => h
                            case hy1055 => first | exact Or.inl ⟨by rfl, by intro whSw hSw'; (try dsimp only at hSw'); (first | (go_simp; done) | (go_simp; with_reducible rfl))⟩ | exact Or.inr ⟨by rfl, by with_reducible rfl⟩ | fail
                            try simp only [Act.put, List.setIfInBounds_toArray, List.set_cons_zero, List.set_cons_succ]
                            refine wpAnyH_take (i := 28) (oi := ?oi1056) (v := ?v1056) ?hi1056 (by kernel_rfl) (by kernel_rfl) (by kernel_rfl) ?hq1056 ?hy1056 (by assumption) ?hr1056
                            case hi1056 => (simp only [List.getElem?_toArray, List.getElem?_cons_succ, List.getElem?_cons_zero]; rfl)
                            case hq1056 => exact fun _ _ _ h => h
                            case hy1056 => first | exact Or.inl ⟨by rfl, by intro whSw hSw'; (try dsimp only at hSw'); (first | (go_simp; done) | (go_simp; with_reducible rfl))⟩ | exact Or.inr ⟨by rfl, by with_reducible rfl⟩ | fail
                            try simp only [Act.put, List.setIfInBounds_toArray, List.set_cons_zero, List.set_cons_succ]
                            refine wpAnyH_take (i := 29) (oi := ?oi1057) (v := ?v1057) ?hi1057 (by kernel_rfl) (by kernel_rfl) (by kernel_rfl) ?hq1057 ?hy1057 (by assumption) ?hr1057
                            case hi1057 => (simp only [List.getElem?_toArray, List.getElem?_cons_succ, List.getElem?_cons_zero]; rfl)
                            case hq1057 => exact fun _ _ _ h => h
                            case hy1057 => first | exact Or.inl ⟨by rfl, by intro whSw hSw'; (try dsimp only at hSw'); (first | (go_simp; done) | (go_simp; with_reducible rfl))⟩ | exact Or.inr ⟨by rfl, by with_reducible rfl⟩ | fail
                            try simp only [Act.put, List.setIfInBounds_toArray, List.set_cons_zero, List.set_cons_succ]
                            refine wpAnyH_ready (rs := [26]) (by kernel_rfl) (by simp) ?_
                            refine AllReadyH.cons (o := ?oo1058) ?hi1058 (fun K hK => ?hs1058) ?hm1058
                            case hi1058 => (simp only [List.getElem?_toArray, List.getElem?_cons_succ, List.getElem?_cons_zero]; rfl)
                            · go_simp
                              refine (HTJ.out _ HX4.out).mono ?_
                              rintro e x5 ⟨⟨u5, rfl, hr5⟩, hb5⟩
                              have HX5 := Lib.hid (below_chain HX4.out HX4.out.size hb5)
                              have HR5 := Lib.hid hr5
                              obtain ⟨A5, d5, rfl, -⟩ := hr5.form
                              clear hr5 hb5
                              (try go_wp2_with fail)
                              refine hK.out _ _ ?_ (fun hHeld => ?_)
                              · (try dsimp only); (first | (with_reducible exact HQ.out _ HX8.out) | (with_reducible exact HQ.out _ HX7.out) | (with_reducible exact HQ.out _ HX6.out) | (with_reducible exact HQ.out _ HX5.out) | (with_reducible exact HQ.out _ HX4.out) | (with_reducible exact HQ.out _ HX3.out) | (with_reducible exact HQ.out _ HX2.out) | (with_reducible exact HQ.out _ HX1.out) | (with_reducible exact HQ.out _ HX0.out) | fail)
                              clear hK K
                              try simp only [Act.put, List.setIfInBounds_toArray, List.set_cons_zero, List.set_cons_succ]
                              refine wpAnyH_ready (rs := [30]) (by kernel_rfl) (by simp) ?_
                              refine AllReadyH.cons (o := ?oo1059) ?hi1059 (fun K hK => ?hs1059) ?hm1059
                              case hi1059 => (simp only [List.getElem?_toArray, List.getElem?_cons_succ, List.getElem?_cons_zero]; rfl)
                              · go_simp
                                refine (HTI.out _ HX5.out).mono ?_
                                rintro e x6 ⟨⟨u6, rfl, hr6⟩, hb6⟩
                                have HX6 := Lib.hid (below_chain HX5.out HX5.out.size hb6)
                                have HSM2 := Lib.hid (sameInts_any (HR5.out.below stays_int hb6) hr6 HLM.out.2 HLM.out.2)
                                rw [decide_eq_true (rfl : ys = ys)] at HSM2
                                obtain ⟨A6, d6, rfl, -⟩ := hr6.form
                                clear hr6 hb6
                                (try go_wp2_with fail)
                                refine hK.out _ _ ?_ (fun hHeld => ?_)
                                · (try dsimp only); (first | (with_reducible exact HQ.out _ HX8.out) | (with_reducible exact HQ.out _ HX7.out) | (with_reducible exact HQ.out _ HX6.out) | (with_reducible exact HQ.out _ HX5.out) | (with_reducible exact HQ.out _ HX4.out) | (with_reducible exact HQ.out _ HX3.out) | (with_reducible exact HQ.out _ HX2.out) | (with_reducible exact HQ.out _ HX1.out) | (with_reducible exact HQ.out _ HX0.out) | fail)
                                clear hK K
                                try simp only [Act.put, List.setIfInBounds_toArray, List.set_cons_zero, List.set_cons_succ]
                                refine wpAnyH_ready (rs := [31]) (by kernel_rfl) (by simp) ?_
                                refine AllReadyH.cons (o := ?oo1060) ?hi1060 (fun K hK => ?hs1060) ?hm1060
                                case hi1060 => (simp only [List.getElem?_toArray, List.getElem?_cons_succ, List.getElem?_cons_zero]; rfl)
                                · go_simp
                                  refine HSM2.out.mono ?_
                                  rintro e x7 ⟨rfl, hb7⟩
                                  have HX7 := Lib.hid (below_chain HX6.out HX6.out.size hb7)
                                  clear hb7
                                  (try go_wp2_with fail)
                                  refine hK.out _ _ ?_ (fun hHeld => ?_)
                                  · (try dsimp only); (first | (with_reducible exact HQ.out _ HX8.out) | (with_reducible exact HQ.out _ HX7.out) | (with_reducible exact HQ.out _ HX6.out) | (with_reducible exact HQ.out _ HX5.out) | (with_reducible exact HQ.out _ HX4.out) | (with_reducible exact HQ.out _ HX3.out) | (with_reducible exact HQ.out _ HX2.out) | (with_reducible exact HQ.out _ HX1.out) | (with_reducible exact HQ.out _ HX0.out) | fail)
                                  clear hK K
                                  try simp only [Act.put, List.setIfInBounds_toArray, List.set_cons_zero, List.set_cons_succ]
                                  refine wpAnyH_take (i := 32) (oi := ?oi1061) (v := ?v1061) ?hi1061 (by kernel_rfl) (by kernel_rfl) (by kernel_rfl) ?hq1061 ?hy1061 (by assumption) ?hr1061
                                  case hi1061 => (simp only [List.getElem?_toArray, List.getElem?_cons_succ, List.getElem?_cons_zero]; rfl)
                                  case hq1061 => exact fun _ _ _ h => h
                                  case hy1061 => exact Or.inl ⟨by rfl, by intro whSw hSw'; (try dsimp only at hSw'); (first | (go_simp; done) | (go_simp; with_reducible rfl))⟩
                                  try simp only [Act.put, List.setIfInBounds_toArray, List.set_cons_zero, List.set_cons_succ]
                                  refine wpAnyH_take (i := 33) (oi := ?oi1062) (v := ?v1062) ?hi1062 (by kernel_rfl) (by kernel_rfl) (by kernel_rfl) ?hq1062 ?hy1062 (by assumption) ?hr1062
                                  case hi1062 => (simp only [List.getElem?_toArray, List.getElem?_cons_succ, List.getElem?_cons_zero]; rfl)
                                  case hq1062 => exact fun _ _ _ h => h
                                  case hy1062 => exact Or.inl ⟨by rfl, by intro whSw hSw'; (try dsimp only at hSw'); (first | (go_simp; done) | (go_simp; with_reducible rfl))⟩
                                  try simp only [Act.put, List.setIfInBounds_toArray, List.set_cons_zero, List.set_cons_succ]
                                  refine wpAnyH_ready (rs := [34]) (by kernel_rfl) (by simp) ?_
                                  refine AllReadyH.cons (o := ?oo1063) ?hi1063 (fun K hK => ?hs1063) ?hm1063
                                  case hi1063 => (simp only [List.getElem?_toArray, List.getElem?_cons_succ, List.getElem?_cons_zero]; rfl)
                                  · go_simp
                                    refine (HA.out _).mono ?_
                                    rintro e x8 ⟨rfl, hb8⟩
                                    have HX8 := Lib.hid (below_chain HX7.out HX7.out.size hb8)
                                    clear hb8
                                    (try go_wp2_with fail)
                                    refine hK.out _ _ ?_ (fun hHeld => ?_)
                                    · (try dsimp only); (first | (with_reducible exact HQ.out _ HX8.out) | (with_reducible exact HQ.out _ HX7.out) | (with_reducible exact HQ.out _ HX6.out) | (with_reducible exact HQ.out _ HX5.out) | (with_reducible exact HQ.out _ HX4.out) | (with_reducible exact HQ.out _ HX3.out) | (with_reducible exact HQ.out _ HX2.out) | (with_reducible exact HQ.out _ HX1.out) | (with_reducible exact HQ.out _ HX0.out) | fail)
                                    clear hK K
                                    try simp only [Act.put, List.setIfInBounds_toArray, List.set_cons_zero, List.set_cons_succ]
                                    refine wpAnyH_take (i := 35) (oi := ?oi1064) (v := ?v1064) ?hi1064 (by kernel_rfl) (by kernel_rfl) (by kernel_rfl) ?hq1064 ?hy1064 (by assumption) ?hr1064
                                    case hi1064 => (simp only [List.getElem?_toArray, List.getElem?_cons_succ, List.getElem?_cons_zero]; rfl)
                                    case hq1064 => exact fun _ _ _ h => h
                                    case hy1064 => exact Or.inl ⟨by rfl, by intro whSw hSw'; (try dsimp only at hSw'); (first | (go_simp; done) | (go_simp; with_reducible rfl))⟩
                                    try simp only [Act.put, List.setIfInBounds_toArray, List.set_cons_zero, List.set_cons_succ]
                                    refine wpAnyH_take (i := 36) (oi := ?oi1065) (v := ?v1065) ?hi1065 (by kernel_rfl) (by kernel_rfl) (by kernel_rfl) ?hq1065 ?hy1065 (by assumption) ?hr1065
                                    case hi1065 => (simp only [List.getElem?_toArray, List.getElem?_cons_succ, List.getElem?_cons_zero]; rfl)
                                    case hq1065 => exact fun _ _ _ h => h
                                    case hy1065 => exact Or.inl ⟨by rfl, by intro whSw hSw'; (try dsimp only at hSw'); (first | (go_simp; done) | (go_simp; with_reducible rfl))⟩
                                    try simp only [Act.put, List.setIfInBounds_toArray, List.set_cons_zero, List.set_cons_succ]
                                    refine wpAnyH_done (by kernel_rfl) ?_ _
                                    have HFIN := Lib.hid (HB0.out.trans ((HBD0.out.trans (HX8.out.mono HBD0.out.size)).mono HNX.out))
                                    go_wp2_with fail
                                    go_ret
                                    exact ⟨rfl, HFIN.out⟩
                                  exact AllReadyH.nil
                                exact AllReadyH.nil
                              exact AllReadyH.nil
                            exact AllReadyH.nil
                          exact AllReadyH.nil
                        exact AllReadyH.nil
                      exact AllReadyH.nil
                    exact AllReadyH.nil
                  exact AllReadyH.nil
                refine AllReadyH.cons (o := ?oo1066) ?hi1066 (fun K hK => ?hs1066) ?hm1066
                case hi1066 => (simp only [List.getElem?_toArray, List.getElem?_cons_succ, List.getElem?_cons_zero]; rfl)
                · go_simp
                  refine hK.out _ _ ?_ (fun hHeld => ?_)
                  · (try dsimp only); (first | (with_reducible exact HQ.out _ HX8.out) | (with_reducible exact HQ.out _ HX7.out) | (with_reducible exact HQ.out _ HX6.out) | (with_reducible exact HQ.out _ HX5.out) | (with_reducible exact HQ.out _ HX4.out) | (with_reducible exact HQ.out _ HX3.out) | (with_reducible exact HQ.out _ HX2.out) | (with_reducible exact HQ.out _ HX1.out) | (with_reducible exact HQ.out _ HX0.out) | fail)
                  clear hK K
                  try simp only [Act.put, List.setIfInBounds_toArray, List.set_cons_zero, List.set_cons_succ]
                  refine wpAnyH_ready (rs := [7]) (by kernel_rfl) (by simp) ?_
                  refine AllReadyH.cons (o := ?oo1067) ?hi1067 (fun K hK => ?hs1067) ?hm1067
                  case hi1067 => (simp only [List.getElem?_toArray, List.getElem?_cons_succ, List.getElem?_cons_zero]; rfl)
                  · go_simp
                    refine (HEJ.out _ HX0.out).mono ?_
                    rintro e x1 ⟨⟨u1, rfl, hs1⟩, hb1⟩
                    have HX1 := Lib.hid (below_chain HX0.out HX0.out.size hb1)
                    have hku := HCV.out x1 _ _ hs1
                    have hkb1 := HKB.out _ HX1.out
                    clear hs1 hb1
                    (try go_wp2_with fail)
                    refine hK.out _ _ ?_ (fun hHeld => ?_)
                    · (try dsimp only); (first | (with_reducible exact HQ.out _ HX8.out) | (with_reducible exact HQ.out _ HX7.out) | (with_reducible exact HQ.out _ HX6.out) | (with_reducible exact HQ.out _ HX5.out) | (with_reducible exact HQ.out _ HX4.out) | (with_reducible exact HQ.out _ HX3.out) | (with_reducible exact HQ.out _ HX2.out) | (with_reducible exact HQ.out _ HX1.out) | (with_reducible exact HQ.out _ HX0.out) | fail)
                    clear hK K
                    try simp only [Act.put, List.setIfInBounds_toArray, List.set_cons_zero, List.set_cons_succ]
                    refine wpAnyH_ready (rs := [8]) (by kernel_rfl) (by simp) ?_
                    refine AllReadyH.cons (o := ?oo1068) ?hi1068 (fun K hK => ?hs1068) ?hm1068
                    case hi1068 => (simp only [List.getElem?_toArray, List.getElem?_cons_succ, List.getElem?_cons_zero]; rfl)
                    · go_simp
                      refine hK.out _ _ ?_ (fun hHeld => ?_)
                      · (try dsimp only); (first | (with_reducible exact HQ.out _ HX8.out) | (with_reducible exact HQ.out _ HX7.out) | (with_reducible exact HQ.out _ HX6.out) | (with_reducible exact HQ.out _ HX5.out) | (with_reducible exact HQ.out _ HX4.out) | (with_reducible exact HQ.out _ HX3.out) | (with_reducible exact HQ.out _ HX2.out) | (with_reducible exact HQ.out _ HX1.out) | (with_reducible exact HQ.out _ HX0.out) | fail)
                      clear hK K
                      try simp only [Act.put, List.setIfInBounds_toArray, List.set_cons_zero, List.set_cons_succ]
                      refine wpAnyH_take (i := 11) (oi := ?oi1069) (v := ?v1069) ?hi1069 (by kernel_rfl) (by kernel_rfl) (by kernel_rfl) ?hq1069 ?hy1069 (by assumption) ?hr1069
                      case hi1069 => (simp only [List.getElem?_toArray, List.getElem?_cons_succ, List.getElem?_cons_zero]; rfl)
                      case hq1069 => exact fun _ _ _ h => h
                      case hy1069 => first | exact Or.inl ⟨by rfl, by intro whSw hSw'; (try dsimp only at hSw'); (first | (go_simp; done) | (go_simp; with_reducible rfl))⟩ | exact Or.inr ⟨by rfl, by with_reducible rfl⟩ | fail
                      try simp only [Act.put, List.setIfInBounds_toArray, List.set_cons_zero, List.set_cons_succ]
                      refine wpAnyH_take (i := 12) (oi := ?oi1070) (v := ?v1070) ?hi1070 (by kernel_rfl) (by kernel_rfl) (by kernel_rfl) ?hq1070 ?hy1070 (by assumption) ?hr1070
                      case hi1070 => (simp only [List.getElem?_toArray, List.getElem?_cons_succ, List.getElem?_cons_zero]; rfl)
                      case hq1070 => exact fun _ _ _ h => h
                      case hy1070 => exact Or.inl ⟨by rfl, by intro whSw hSw'; (try dsimp only at hSw'); (first | (go_simp; done) | (go_simp; with_reducible rfl))⟩
                      try simp only [Act.put, List.setIfInBounds_toArray, List.set_cons_zero, List.set_cons_succ]
                      refine wpAnyH_take (i := 13) (oi := ?oi1071) (v := ?v1071) ?hi1071 (by kernel_rfl) (by kernel_rfl) (by kernel_rfl) ?hq1071 ?hy1071 (by assumption) ?hr1071
                      case hi1071 => (simp only [List.getElem?_toArray, List.getElem?_cons_succ, List.getElem?_cons_zero]; rfl)
                      case hq1071 => exact fun _ _ _ h => h
                      case hy1071 => exact Or.inl ⟨by rfl, by intro whSw hSw'; (try dsimp only at hSw'); (first | (go_simp; done) | (go_simp; with_reducible rfl))⟩
                      try simp only [Act.put, List.setIfInBounds_toArray, List.set_cons_zero, List.set_cons_succ]
                      refine wpAnyH_take (i := 14) (oi := ?oi1072) (v := ?v1072) ?hi1072 (by kernel_rfl) (by kernel_rfl) (by kernel_rfl) ?hq1072 ?hy1072 (by assumption) ?hr1072
                      case hi1072 => (simp only [List.getElem?_toArray, List.getElem?_cons_succ, List.getElem?_cons_zero]; rfl)
                      case hq1072 => exact fun _ _ _ h => h
                      case hy1072 => first | exact Or.inl ⟨by rfl, by intro whSw hSw'; (try dsimp only at hSw'); (first | (go_simp; done) | (go_simp; with_reducible rfl))⟩ | exact Or.inr ⟨by rfl, by with_reducible rfl⟩ | fail
                      try simp only [Act.put, List.setIfInBounds_toArray, List.set_cons_zero, List.set_cons_succ]
                      refine wpAnyH_take (i := 15) (oi := ?oi1073) (v := ?v1073) ?hi1073 (by kernel_rfl) (by kernel_rfl) (by kernel_rfl) ?hq1073 ?hy1073 (by assumption) ?hr1073
                      case hi1073 => (simp only [List.getElem?_toArray, List.getElem?_cons_succ, List.getElem?_cons_zero]; rfl)
                      case hq1073 => exact fun _ _ _ h => h
                      case hy1073 => first | exact Or.inl ⟨by rfl, by intro whSw hSw'; (try dsimp only at hSw'); (first | (go_simp; done) | (go_simp; with_reducible rfl))⟩ | exact Or.inr ⟨by rfl, by with_reducible rfl⟩ | fail
                      try simp only [Act.put, List.setIfInBounds_toArray, List.set_cons_zero, List.set_cons_succ]
                      refine wpAnyH_take (i := 17) (oi := ?oi1074) (v := ?v1074) ?hi1074 (by kernel_rfl) (by kernel_rfl) (by kernel_rfl) ?hq1074 ?hy1074 (by assumption) ?hr1074
                      case hi1074 => (simp only [List.getElem?_toArray, List.getElem?_cons_succ, List.getElem?_cons_zero]; rfl)
                      case hq1074 => exact fun _ _ _ h => h
                      case hy1074 => first | exact Or.inl ⟨by rfl, by intro whSw hSw'; (try dsimp only at hSw'); (first | (go_simp; done) | (go_simp; with_reducible rfl))⟩ | exact Or.inr ⟨by rfl, by with_reducible rfl⟩ | fail
                      try simp only [Act.put, List.setIfInBounds_toArray, List.set_cons_zero, List.set_cons_succ]
                      refine wpAnyH_take (i := 18) (oi := ?oi1075) (v := ?v1075) ?hi1075 (by kernel_rfl) (by kernel_rfl) (by kernel_rfl) ?hq1075 ?hy1075 (by assumption) ?hr1075
                      case hi1075 => (simp only [List.getElem?_toArray, List.getElem?_cons_succ, List.getElem?_cons_zero]; rfl)
                      case hq1075 => exact fun _ _ _ h => h
                      case hy1075 => first | exact Or.inl ⟨by rfl, by intro whSw hSw'; (try dsimp only at hSw'); (first | (go_simp; done) | (go_simp; with_reducible rfl))⟩ | exact Or.inr ⟨by rfl, by with_reducible rfl⟩ | fail
                      try simp only [Act.put, List.setIfInBounds_toArray, List.set_cons_zero, List.set_cons_succ]
                      refine wpAnyH_ready (rs := [16]) (by kernel_rfl) (by simp) ?_
                      refine AllReadyH.cons (o := ?oo1076) ?hi1076 (fun K hK => ?hs1076) ?hm1076
                      case hi1076 => (simp only [List.getElem?_toArray, List.getElem?_cons_succ, List.getElem?_cons_zero]; rfl)
                      · go_simp
                        refine (HPJ.out _ HX1.out).mono ?_
                        rintro e x2 ⟨⟨u2, rfl, hr2⟩, hb2⟩
                        have HX2 := Lib.hid (below_chain HX1.out HX1.out.size hb2)
                        have HR2 := Lib.hid hr2
                        obtain ⟨A2, d2, rfl, -⟩ := hr2.form
                        clear hr2 hb2
                        (try go_wp2_with fail)
                        refine hK.out _ _ ?_ (fun hHeld => ?_)
                        · (try dsimp only); (first | (with_reducible exact HQ.out _ HX8.out) | (with_reducible exact HQ.out _ HX7.out) | (with_reducible exact HQ.out _ HX6.out) | (with_reducible exact HQ.out _ HX5.out) | (with_reducible exact HQ.out _ HX4.out) | (with_reducible exact HQ.out _ HX3.out) | (with_reducible exact HQ.out _ HX2.out) | (with_reducible exact HQ.out _ HX1.out) | (with_reducible exact HQ.out _ HX0.out) | fail)
                        clear hK K
                        try simp only [Act.put, List.setIfInBounds_toArray, List.set_cons_zero, List.set_cons_succ]
                        refine wpAnyH_ready (rs := [19]) (by kernel_rfl) (by simp) ?_
                        refine AllReadyH.cons (o := ?oo1077) ?hi1077 (fun K hK => ?hs1077) ?hm1077
                        case hi1077 => (simp only [List.getElem?_toArray, List.getElem?_cons_succ, List.getElem?_cons_zero]; rfl)
                        · go_simp
                          refine (HPI.out _ HX2.out).mono ?_
                          rintro e x3 ⟨⟨u3, rfl, hr3⟩, hb3⟩
                          have HX3 := Lib.hid (below_chain HX2.out HX2.out.size hb3)
                          have HSM1 := Lib.hid (sameInts_any (HR2.out.below stays_int hb3) hr3 HLM.out.1 HLM.out.1)
                          rw [decide_eq_true (rfl : xs = xs)] at HSM1
                          obtain ⟨A3, d3, rfl, -⟩ := hr3.form
                          clear hr3 hb3
                          (try go_wp2_with fail)
                          refine hK.out _ _ ?_ (fun hHeld => ?_)
                          · (try dsimp only); (first | (with_reducible exact HQ.out _ HX8.out) | (with_reducible exact HQ.out _ HX7.out) | (with_reducible exact HQ.out _ HX6.out) | (with_reducible exact HQ.out _ HX5.out) | (with_reducible exact HQ.out _ HX4.out) | (with_reducible exact HQ.out _ HX3.out) | (with_reducible exact HQ.out _ HX2.out) | (with_reducible exact HQ.out _ HX1.out) | (with_reducible exact HQ.out _ HX0.out) | fail)
                          clear hK K
                          try simp only [Act.put, List.setIfInBounds_toArray, List.set_cons_zero, List.set_cons_succ]
                          refine wpAnyH_ready (rs := [20]) (by kernel_rfl) (by simp) ?_
                          refine AllReadyH.cons (o := ?oo1078) ?hi1078 (fun K hK => ?hs1078) ?hm1078
                          case hi1078 => (simp only [List.getElem?_toArray, List.getElem?_cons_succ, List.getElem?_cons_zero]; rfl)
                          · go_simp
                            refine HSM1.out.mono ?_
                            rintro e x4 ⟨rfl, hb4⟩
                            have HX4 := Lib.hid (below_chain HX3.out HX3.out.size hb4)
                            clear hb4
                            (try go_wp2_with fail)
                            refine hK.out _ _ ?_ (fun hHeld => ?_)
                            · (try dsimp only); (first | (with_reducible exact HQ.out _ HX8.out) | (with_reducible exact HQ.out _ HX7.out) | (with_reducible exact HQ.out _ HX6.out) | (with_reducible exact HQ.out _ HX5.out) | (with_reducible exact HQ.out _ HX4.out) | (with_reducible exact HQ.out _ HX3.out) | (with_reducible exact HQ.out _ HX2.out) | (with_reducible exact HQ.out _ HX1.out) | (with_reducible exact HQ.out _ HX0.out) | fail)
                            clear hK K
                            try simp only [Act.put, List.setIfInBounds_toArray, List.set_cons_zero, List.set_cons_succ]
                            refine wpAnyH_take (i := 21) (oi := ?oi1079) (v := ?v1079) ?hi1079 (by kernel_rfl) (by kernel_rfl) (by kernel_rfl) ?hq1079 ?hy1079 (by assumption) ?hr1079
                            case hi1079 => (simp only [List.getElem?_toArray, List.getElem?_cons_succ, List.getElem?_cons_zero]; rfl)
                            case hq1079 => exact fun _ _ _ h => h
                            case hy1079 => exact Or.inl ⟨by rfl, by intro whSw hSw'; (try dsimp only at hSw'); (first | (go_simp; done) | (go_simp; with_reducible rfl))⟩
                            try simp only [Act.put, List.setIfInBounds_toArray, List.set_cons_zero, List.set_cons_succ]
                            refine wpAnyH_take (i := 22) (oi := ?oi1080) (v := ?v1080) ?hi1080 (by kernel_rfl) (by kernel_rfl) (by kernel_rfl) ?hq1080 ?hy1080 (by assumption) ?hr1080
                            case hi1080 => (simp only [List.getElem?_toArray, List.getElem?_cons_succ, List.getElem?_cons_zero]; rfl)
                            case hq1080 => exact fun _ _ _ h => h
                            case hy1080 => exact Or.inl ⟨by rfl, by intro whSw hSw'; (try dsimp only at hSw'); (first | (go_simp; done) | (go_simp; with_reducible rfl))⟩
                            try simp only [Act.put, List.setIfInBounds_toArray, List.set_cons_zero, List.set_cons_succ]
                            refine wpAnyH_take (i := 23) (oi := ?oi1081) (v := ?v1081) ?hi1081 (by kernel_rfl) (by kernel_rfl) (by kernel_rfl) ?hq1081 ?hy1081 (by assumption) ?hr1081
                            case hi1081 => (simp only [List.getElem?_toArray, List.getElem?_cons_succ, List.getElem?_cons_zero]; rfl)
                            case hq1081 => exact fun _ _ _ h => h
                            case hy1081 => first | exact Or.inl ⟨by rfl, by intro whSw hSw'; (try dsimp only at hSw'); (first | (go_simp; done) | (go_simp; with_reducible rfl))⟩ | exact Or.inr ⟨by rfl, by with_reducible rfl⟩ | fail
                            try simp only [Act.put, List.setIfInBounds_toArray, List.set_cons_zero, List.set_cons_succ]
                            refine wpAnyH_take (i := 24) (oi := ?oi1082) (v := ?v1082) ?hi1082 (by kernel_rfl) (by kernel_rfl) (by kernel_rfl) ?hq1082 ?hy1082 (by assumption) ?hr1082
                            case hi1082 => (simp only [List.getElem?_toArray, List.getElem?_cons_succ, List.getElem?_cons_zero]; rfl)
                            case hq1082 => exact fun _ _ _ h => h
                            case hy1082 => first | exact Or.inl ⟨by rfl, by intro whSw hSw'; (try dsimp only at hSw'); (first | (go_simp; done) | (go_simp; with_reducible rfl))⟩ | exact Or.inr ⟨by rfl, by with_reducible rfl⟩ | fail
                            try simp only [Act.put, List.setIfInBounds_toArray, List.set_cons_zero, List.set_cons_succ]
                            refine wpAnyH_take (i := 25) (oi := ?oi1083) (v := ?v1083) ?hi1083 (by kernel_rfl) (by kernel_rfl) (by kernel_rfl) ?hq1083 ?hy1083 (by assumption) ?hr1083
                            case hi1083 => (simp only [List.getElem?_toArray, List.getElem?_cons_succ, List.getElem?_cons_zero]; rfl)
                            case hq1083 => exact fun _ _ _ h => h
                            case hy1083 => first | exact Or.inl ⟨by rfl, by intro whSw hSw'; (try dsimp only at hSw'); (first | (go_simp; done) | (go_simp; with_reducible rfl))⟩ | exact Or.inr ⟨by rfl, by with_reducible rfl⟩ | fail
                            try simp only [Act.put, List.setIfInBounds_toArray, List.set_cons_zero, List.set_cons_succ]
                            refine wpAnyH_take (i := 27) (oi := ?oi1084) (v := ?v1084) ?hi1084 (by kernel_rfl) (by kernel_rfl) (by kernel_rfl) ?hq1084 ?hy1084 (by assumption) ?hr1084
                            case hi1084 => (simp only [List.getElem?_toArray, List.getElem?_cons_succ, List.getElem?_cons_zero]; rfl)
                            case hq1084 => exact fun _ _ _ h => h
                            case hy1084 => first | exact Or.inl ⟨by rfl, by intro whSw hSw'; (try dsimp only at hSw'); (first | (go_simp; done) | (go_simp; with_reducible rfl))⟩ | exact Or.inr ⟨by rfl, by with_reducible rfl⟩ | fail
                            try simp only [Act.put, List.setIfInBounds_toArray, List.set_cons_zero, List.set_cons_succ]
                            refine wpAnyH_take (i := 28) (oi := ?oi1085) (v := ?v1085) ?hi1085 (by kernel_rfl) (by kernel_rfl) (by kernel_rfl) ?hq1085 ?hy1085 (by assumption) ?hr1085
                            case hi1085 => (simp only [List.getElem?_toArray, List.getElem?_cons_succ, List.getElem?_cons_zero]; rfl)
                            case hq1085 => exact fun _ _ _ h => h
                            case hy1085 => first | exact Or.inl ⟨by rfl, by intro whSw hSw'; (try dsimp only at hSw'); (first | (go_simp; done) | (go_simp; with_reducible rfl))⟩ | exact Or.inr ⟨by rfl, by with_reducible rfl⟩ | fail
                            try simp only [Act.put, List.setIfInBounds_toArray, List.set_cons_zero, List.set_cons_succ]
                            refine wpAnyH_take (i := 29) (oi := ?oi1086) (v := ?v1086) ?hi1086 (by kernel_rfl) (by kernel_rfl) (by kernel_rfl) ?hq1086 ?hy1086 (by assumption) ?hr1086
                            case hi1086 => (simp only [List.getElem?_toArray, List.getElem?_cons_succ, List.getElem?_cons_zero]; rfl)
                            case hq1086 => exact fun _ _ _ h => h
                            case hy1086 => first | exact Or.inl ⟨by rfl, by intro whSw hSw'; (try dsimp only at hSw'); (first | (go_simp; done) | (go_simp; with_reducible rfl))⟩ | exact Or.inr ⟨by rfl, by with_reducible rfl⟩ | fail
                            try simp only [Act.put, List.setIfInBounds_toArray, List.set_cons_zero, List.set_cons_succ]
                            refine wpAnyH_ready (rs := [26]) (by kernel_rfl) (by simp) ?_
                            refine AllReadyH.cons (o := ?oo1087) ?hi1087 (fun K hK => ?hs1087) ?hm1087
                            case hi1087 => (simp only [List.getElem?_toArray, List.getElem?_cons_succ, List.getElem?_cons_zero]; rfl)
                            · go_simp
                              refine (HTJ.out _ HX4.out).mono ?_
                              rintro e x5 ⟨⟨u5, rfl, hr5⟩, hb5⟩
                              have HX5 := Lib.hid (below_chain HX4.out HX4.out.size hb5)
                              have HR5 := Lib.hid hr5
                              obtain ⟨A5, d5, rfl, -⟩ := hr5.form
                              clear hr5 hb5
                              (try go_wp2_with fail)
                              refine hK.out _ _ ?_ (fun hHeld => ?_)
                              · (try dsimp only); (first | (with_reducible exact HQ.out _ HX8.out) | (with_reducible exact HQ.out _ HX7.out) | (with_reducible exact HQ.out _ HX6.out) | (with_reducible exact HQ.out _ HX5.out) | (with_reducible exact HQ.out _ HX4.out) | (with_reducible exact HQ.out _ HX3.out) | (with_reducible exact HQ.out _ HX2.out) | (with_reducible exact HQ.out _ HX1.out) | (with_reducible exact HQ.out _ HX0.out) | fail)
                              clear hK K
                              try simp only [Act.put, List.setIfInBounds_toArray, List.set_cons_zero, List.set_cons_succ]
                              refine wpAnyH_ready (rs := [30]) (by kernel_rfl) (by simp) ?_
                              refine AllReadyH.cons (o := ?oo1088) ?hi1088 (fun K hK => ?hs1088) ?hm1088
                              case hi1088 => (simp only [List.getElem?_toArray, List.getElem?_cons_succ, List.getElem?_cons_zero]; rfl)
                              · go_simp
                                refine (HTI.out _ HX5.out).mono ?_
                                rintro e x6 ⟨⟨u6, rfl, hr6⟩, hb6⟩
                                have HX6 := Lib.hid (below_chain HX5.out HX5.out.size hb6)
                                have HSM2 := Lib.hid (sameInts_any (HR5.out.below stays_int hb6) hr6 HLM.out.2 HLM.out.2)
                                rw [decide_eq_true (rfl : ys = ys)] at HSM2
                                obtain ⟨A6, d6, rfl, -⟩ := hr6.form
                                clear hr6 hb6
                                (try go_wp2_with fail)
                                refine hK.out _ _ ?_ (fun hHeld => ?_)
                                · (try dsimp only); (first | (with_reducible exact HQ.out _ HX8.out) | (with_reducible exact HQ.out _ HX7.out) | (with_reducible exact HQ.out _ HX6.out) | (with_reducible exact HQ.out _ HX5.out) | (with_reducible exact HQ.out _ HX4.out) | (with_reducible exact HQ.out _ HX3.out) | (with_reducible exact HQ.out _ HX2.out) | (with_reducible exact HQ.out _ HX1.out) | (with_reducible exact HQ.out _ HX0.out) | fail)
                                clear hK K
                                try simp only [Act.put, List.setIfInBounds_toArray, List.set_cons_zero, List.set_cons_succ]
                                refine wpAnyH_ready (rs := [31]) (by kernel_rfl) (by simp) ?_
                                refine AllReadyH.cons (o := ?oo1089) ?hi1089 (fun K hK => ?hs1089) ?hm1089
                                case hi1089 => (simp only [List.getElem?_toArray, List.getElem?_cons_succ, List.getElem?_cons_zero]; rfl)
                                · go_simp
                                  refine HSM2.out.mono ?_
                                  rintro e x7 ⟨rfl, hb7⟩
                                  have HX7 := Lib.hid (below_chain HX6.out HX6.out.size hb7)
                                  clear hb7
                                  (try go_wp2_with fail)
                                  refine hK.out _ _ ?_ (fun hHeld => ?_)
                                  · (try dsimp only); (first | (with_reducible exact HQ.out _ HX8.out) | (with_reducible exact HQ.out _ HX7.out) | (with_reducible exact HQ.out _ HX6.out) | (with_reducible exact HQ.out _ HX5.out) | (with_reducible exact HQ.out _ HX4.out) | (with_reducible exact HQ.out _ HX3.out) | (with_reducible exact HQ.out _ HX2.out) | (with_reducible exact HQ.out _ HX1.out) | (with_reducible exact HQ.out _ HX0.out) | fail)
                                  clear hK K
                                  try simp only [Act.put, List.setIfInBounds_toArray, List.set_cons_zero, List.set_cons_succ]
                                  refine wpAnyH_take (i := 32) (oi := ?oi1090) (v := ?v1090) ?hi1090 (by kernel_rfl) (by kernel_rfl) (by kernel_rfl) ?hq1090 ?hy1090 (by assumption) ?hr1090
                                  case hi1090 => (simp only [List.getElem?_toArray, List.getElem?_cons_succ, List.getElem?_cons_zero]; rfl)
                                  case hq1090 => exact fun _ _ _ h => h
                                  case hy1090 => exact Or.inl ⟨by rfl, by intro whSw hSw'; (try dsimp only at hSw'); (first | (go_simp; done) | (go_simp; with_reducible rfl))⟩
                                  try simp only [Act.put, List.setIfInBounds_toArray, List.set_cons_zero, List.set_cons_succ]
                                  refine wpAnyH_take (i := 33) (oi := ?oi1091) (v := ?v1091) ?hi1091 (by kernel_rfl) (by kernel_rfl) (by kernel_rfl) ?hq1091 ?hy1091 (by assumption) ?hr1091
                                  case hi1091 => (simp only [List.getElem?_toArray, List.getElem?_cons_succ, List.getElem?_cons_zero]; rfl)
                                  case hq1091 => exact fun _ _ _ h => h
                                  case hy1091 => exact Or.inl ⟨by rfl, by intro whSw hSw'; (try dsimp only at hSw'); (first | (go_simp; done) | (go_simp; with_reducible rfl))⟩
                                  try simp only [Act.put, List.setIfInBounds_toArray, List.set_cons_zero, List.set_cons_succ]
                                  refine wpAnyH_ready (rs := [34]) (by kernel_rfl) (by simp) ?_
                                  refine AllReadyH.cons (o := ?oo1092) ?hi1092 (fun K hK => ?hs1092) ?hm1092
                                  case hi1092 => (simp only [List.getElem?_toArray, List.getElem?_cons_succ, List.getElem?_cons_zero]; rfl)
                                  · go_simp
                                    refine (HA.out _).mono ?_
                                    rintro e x8 ⟨rfl, hb8⟩
                                    have HX8 := Lib.hid (below_chain HX7.out HX7.out.size hb8)
                                    clear hb8
                                    (try go_wp2_with fail)
                                    refine hK.out _ _ ?_ (fun hHeld => ?_)
                                    · (try dsimp only); (first | (with_reducible exact HQ.out _ HX8.out) | (with_reducible exact HQ.out _ HX7.out) | (with_reducible exact HQ.out _ HX6.out) | (with_reducible exact HQ.out _ HX5.out) | (with_reducible exact HQ.out _ HX4.out) | (with_reducible exact HQ.out _ HX3.out) | (with_reducible exact HQ.out _ HX2.out) | (with_reducible exact HQ.out _ HX1.out) | (with_reducible exact HQ.out _ HX0.out) | fail)
                                    clear hK K
                                    try simp only [Act.put, List.setIfInBounds_toArray, List.set_cons_zero, List.set_cons_succ]
                                    refine wpAnyH_take (i := 35) (oi := ?oi1093) (v := ?v1093) ?hi1093 (by kernel_rfl) (by kernel_rfl) (by kernel_rfl) ?hq1093 ?hy1093 (by assumption) ?hr1093
                                    case hi1093 => (simp only [List.getElem?_toArray, List.getElem?_cons_succ, List.getElem?_cons_zero]; rfl)
                                    case hq1093 => exact fun _ _ _ h => h
                                    case hy1093 => exact Or.inl ⟨by rfl, by intro whSw hSw'; (try dsimp only at hSw'); (first | (go_simp; done) | (go_simp; with_reducible rfl))⟩
                                    try simp only [Act.put, List.setIfInBounds_toArray, List.set_cons_zero, List.set_cons_succ]
                                    refine wpAnyH_take (i := 36) (oi := ?oi1094) (v := ?v1094) ?hi1094 (by kernel_rfl) (by kernel_rfl) (by kernel_rfl) ?hq1094 ?hy1094 (by assumption) ?hr1094
                                    case hi1094 => (simp only [List.getElem?_toArray, List.getElem?_cons_succ, List.getElem?_cons_zero]; rfl)
                                    case hq1094 => exact fun _ _ _ h => h
                                    case hy1094 => exact Or.inl ⟨by rfl, by intro whSw hSw'; (try dsimp only at hSw'); (first | (go_simp; done) | (go_simp; with_reducible rfl))⟩
                                    try simp only [Act.put, List.setIfInBounds_toArray, List.set_cons_zero, List.set_cons_succ]
                                    refine wpAnyH_done (by kernel_rfl) ?_ _
                                    have HFIN := Lib.hid (HB0.out.trans ((HBD0.out.trans (HX8.out.mono HBD0.out.size)).mono HNX.out))
                                    go_wp2_with fail
                                    go_ret
                                    exact ⟨rfl, HFIN.out⟩
                                  exact AllReadyH.nil
                                exact AllReadyH.nil
                              exact AllReadyH.nil
                            exact AllReadyH.nil
                          exact AllReadyH.nil
                        exact AllReadyH.nil
                      exact AllReadyH.nil
                    exact AllReadyH.nil
                  exact AllReadyH.nil
                exact AllReadyH.nil
              exact AllReadyH.nil
            exact AllReady.nil
          exact AllReady.nil
        refine AllReady.cons (o := ?oo15) ?hi15 (fun K hK => ?hs15) ?hm15
        case hi15 => (simp only [List.getElem?_toArray, List.getElem?_cons_succ, List.getElem?_cons_zero]; rfl)
        · go_simp
          refine HRF.out.mono ?_
          rintro e w4 ⟨⟨v4, rfl, hs4⟩, hb4⟩
          have hk4 := HCV.out w4 _ _ hs4
          have hk5 := HCV.out w4 _ _ (HS3.out.below hb4)
          have HB4 := Lib.hid (below_chain HB3.out HB3.out.size hb4)
          have HI4 := Lib.hid (HI3.out.below hb4)
          have HJ4 := Lib.hid (HJ3.out.below hb4)
          have HS4 := Lib.hid ((HS3.out.below hb4).mono hb4.size)
          clear hs4 hb4
          go_wp2_with fail
          try simp only [Act.put, List.setIfInBounds_toArray, List.set_cons_zero, List.set_cons_succ]
          refine wpAny_ready (rs := [1, 4]) (by kernel_rfl) (by simp) ?_
          refine AllReady.cons (o := ?oo16) ?hi16 (fun K hK => ?hs16) ?hm16
          case hi16 => (simp only [List.getElem?_toArray, List.getElem?_cons_succ, List.getElem?_cons_zero]; rfl)
          · go_simp
            refine hK _ _ ?_; clear hK K
            try simp only [Act.put, List.setIfInBounds_toArray, List.set_cons_zero, List.set_cons_succ]
            refine wpAny_ready (rs := [4]) (by kernel_rfl) (by simp) ?_
            refine AllReady.cons (o := ?oo17) ?hi17 (fun K hK => ?hs17) ?hm17
            case hi17 => (simp only [List.getElem?_toArray, List.getElem?_cons_succ, List.getElem?_cons_zero]; rfl)
            · go_simp
              refine hK _ _ ?_; clear hK K
              try simp only [Act.put, List.setIfInBounds_toArray, List.set_cons_zero, List.set_cons_succ]
              refine wpAny_take (i := 5) (oi := ?oi18) (v := ?v18) ?hi18 (by kernel_rfl) (by kernel_rfl) (by kernel_rfl) ?hq18 ?hy18 ?hr18
              case hi18 => (simp only [List.getElem?_toArray, List.getElem?_cons_succ, List.getElem?_cons_zero]; rfl)
              case hq18 => exact fun _ _ _ h => h
              case hy18 => exact Or.inl ⟨by rfl, by intro w; (first | (go_simp; done) | (go_simp; with_reducible rfl))⟩
              try simp only [Act.put, List.setIfInBounds_toArray, List.set_cons_zero, List.set_cons_succ]
              refine wpAny_take (i := 6) (oi := ?oi19) (v := ?v19) ?hi19 (by kernel_rfl) (by kernel_rfl) (by kernel_rfl) ?hq19 ?hy19 ?hr19
              case hi19 => (simp only [List.getElem?_toArray, List.getElem?_cons_succ, List.getElem?_cons_zero]; rfl)
              case hq19 => exact fun _ _ _ h => h
              case hy19 => exact Or.inl ⟨by rfl, by intro w; (first | (go_simp; done) | (go_simp; with_reducible rfl))⟩
              try simp only [Act.put, List.setIfInBounds_toArray, List.set_cons_zero, List.set_cons_succ]
              refine wpAny_take (i := 7) (oi := ?oi20) (v := ?v20) ?hi20 (by kernel_rfl) (by kernel_rfl) (by kernel_rfl) ?hq20 ?hy20 ?hr20
              case hi20 => (simp only [List.getElem?_toArray, List.getElem?_cons_succ, List.getElem?_cons_zero]; rfl)
              case hq20 => exact fun _ _ _ h => h
              case hy20 => first | exact Or.inl ⟨by rfl, by intro w; (first | (go_simp; done) | (go_simp; with_reducible rfl))⟩ | exact Or.inr ⟨by rfl, by with_reducible rfl⟩ | fail
              try simp only [Act.put, List.setIfInBounds_toArray, List.set_cons_zero, List.set_cons_succ]
              refine wpAny_take (i := 8) (oi := ?oi21) (v := ?v21) ?hi21 (by kernel_rfl) (by kernel_rfl) (by kernel_rfl) ?hq21 ?hy21 ?hr21
              case hi21 => (simp only [List.getElem?_toArray, List.getElem?_cons_succ, List.getElem?_cons_zero]; rfl)
              case hq21 => exact fun _ _ _ h => h
              case hy21 => first | exact Or.inl ⟨by rfl, by intro w; (first | (go_simp; done) | (go_simp; with_reducible rfl))⟩ | exact Or.inr ⟨by rfl, by with_reducible rfl⟩ | fail
              try simp only [Act.put, List.setIfInBounds_toArray, List.set_cons_zero, List.set_cons_succ]
              refine wpAny_take (i := 9) (oi := ?oi22) (v := ?v22) ?hi22 (by kernel_rfl) (by kernel_rfl) (by kernel_rfl) ?hq22 ?hy22 ?hr22
              case hi22 => (simp only [List.getElem?_toArray, List.getElem?_cons_succ, List.getElem?_cons_zero]; rfl)
              case hq22 => exact fun _ _ _ h => h
              case hy22 => exact Or.inl ⟨by rfl, by intro w; (first | (go_simp; done) | (go_simp; with_reducible rfl))⟩
              try simp only [Act.put, List.setIfInBounds_toArray, List.set_cons_zero, List.set_cons_succ]
              refine wpAny_take (i := 10) (oi := ?oi23) (v := ?v23) ?hi23 (by kernel_rfl) (by kernel_rfl) (by kernel_rfl) ?hq23 ?hy23 ?hr23
              case hi23 => (simp only [List.getElem?_toArray, List.getElem?_cons_succ, List.getElem?_cons_zero]; rfl)
              case hq23 => exact fun _ _ _ h => h
              case hy23 => exact Or.inl ⟨by rfl, by intro w; (first | (go_simp; done) | (go_simp; with_reducible rfl))⟩
              try simp only [Act.put, List.setIfInBounds_toArray, List.set_cons_zero, List.set_cons_succ]
              refine wpAny_take (i := 11) (oi := ?oi24) (v := ?v24) ?hi24 (by kernel_rfl) (by kernel_rfl) (by kernel_rfl) ?hq24 ?hy24 ?hr24
              case hi24 => (simp only [List.getElem?_toArray, List.getElem?_cons_succ, List.getElem?_cons_zero]; rfl)
              case hq24 => exact fun _ _ _ h => h
              case hy24 => first | exact Or.inl ⟨by rfl, by intro w; (first | (go_simp; done) | (go_simp; with_reducible rfl))⟩ | exact Or.inr ⟨by rfl, by with_reducible rfl⟩ | fail
              try simp only [Act.put, List.setIfInBounds_toArray, List.set_cons_zero, List.set_cons_succ]
              refine wpAny_take (i := 12) (oi := ?oi25) (v := ?v25) ?hi25 (by kernel_rfl) (by kernel_rfl) (by kernel_rfl) ?hq25 ?hy25 ?hr25
              case hi25 => (simp only [List.getElem?_toArray, List.getElem?_cons_succ, List.getElem?_cons_zero]; rfl)
              case hq25 => exact fun _ _ _ h => h
              case hy25 => first | exact Or.inl ⟨by rfl, by intro w; (first | (go_simp; done) | (go_simp; with_reducible rfl))⟩ | exact Or.inr ⟨by rfl, by with_reducible rfl⟩ | fail
              try simp only [Act.put, List.setIfInBounds_toArray, List.set_cons_zero, List.set_cons_succ]
              refine wpAny_take (i := 13) (oi := ?oi26) (v := ?v26) ?hi26 (by kernel_rfl) (by kernel_rfl) (by kernel_rfl) ?hq26 ?hy26 ?hr26
              case hi26 => (simp only [List.getElem?_toArray, List.getElem?_cons_succ, List.getElem?_cons_zero]; rfl)
              case hq26 => exact fun _ _ _ h => h
              case hy26 => exact Or.inl ⟨by rfl, by intro w; (first | (go_simp; done) | (go_simp; with_reducible rfl))⟩
              try simp only [Act.put, List.setIfInBounds_toArray, List.set_cons_zero, List.set_cons_succ]
              refine wpAny_done (by kernel_rfl) ?_ _
              go_wp2_with fail
              have hI0 := HI4.out.below (Below.refl _ _).drew
              have hJ0 := HJ4.out.below (Below.refl _ _).drew
              have hbd := HB4.out.drew
              have hs0 := (HS4.out.below (Below.refl _ _).drew).mono (Below.refl w4.heap.size w4).drew.size
              have hb4 := Below.refl w4.drew.heap.size w4.drew
              obtain ⟨W0, hW0⟩ : ∃ W, w4.drew = W := ⟨_, rfl⟩
              rw [hW0] at hI0 hJ0 hbd hs0 hb4
              have HPI := Lib.hid (fun W (h : Below W0.heap.size W0 W) => HC1.out W B (hI0.below h))
              have HPJ := Lib.hid (fun W (h : Below W0.heap.size W0 W) => HC1.out W B' (hJ0.below h))
              have HTI := Lib.hid (fun W (h : Below W0.heap.size W0 W) => HC2.out W B (hI0.below h))
              have HTJ := Lib.hid (fun W (h : Below W0.heap.size W0 W) => HC2.out W B' (hJ0.below h))
              have HLJ := Lib.hid (fun W (h : Below W0.heap.size W0 W) => HLE.out W B' (hJ0.below h))
              have HEJ := Lib.hid (fun W (h : Below W0.heap.size W0 W) => HEN.out W B' (hJ0.below h) H0.out (below_chain hbd hbd.size h))
              have HKB := Lib.hid (fun W (h : Below W0.heap.size W0 W) => HCV.out W _ _ (hs0.below h))
              have HQ := Lib.hid (fun W (h : Below W0.heap.size W0 W) => HD.out W (below_chain hbd hbd.size h))
              have HX0 := Lib.hid hb4
              have HBD0 := Lib.hid hbd
              have hkb0 := HKB.out _ HX0.out
              clear hI0 hJ0 hbd hs0 hb4 HI4 HJ4 HS4 HI3 HJ3 HS3 HB3 HRF HC1 HC2 HLE HEN HRE HD
              refine wp_region_held_drew (S := (fun W' => W'.cell? ⟨N, 0, none⟩ = some (.int .i64 b) ∧ W'.cell? ⟨N, 1, none⟩ = some (.int .i64 e))) (by kernel_rfl) ?_ (fun hHeld => ?_)
              · (try dsimp only); rw [hW0]; exact HQ.out _ HX0.out
              rw [hW0] at hHeld ⊢
              refine wpAnyH_take (i := 0) (oi := ?oi2001) (v := ?v2001) ?hi2001 (by kernel_rfl) (by kernel_rfl) (by kernel_rfl) ?hq2001 ?hy2001 (by assumption) ?hr2001
              case hi2001 => (simp only [List.getElem?_toArray, List.getElem?_cons_zero]; rfl)
              case hq2001 => exact fun _ _ _ h => h
              case hy2001 => exact Or.inl ⟨by rfl, by intro whSw hSw'; (try dsimp only at hSw'); (first | (go_simp; done) | (go_simp; with_reducible rfl))⟩
              try simp only [Act.put, List.setIfInBounds_toArray, List.set_cons_zero, List.set_cons_succ]
              refine wpAnyH_take (i := 2) (oi := ?oi2002) (v := ?v2002) ?hi2002 (by kernel_rfl) (by kernel_rfl) (by kernel_rfl) ?hq2002 ?hy2002 (by assumption) ?hr2002
              case hi2002 => (simp only [List.getElem?_toArray, List.getElem?_cons_succ, List.getElem?_cons_zero]; rfl)
              case hq2002 => exact fun _ _ _ h => h
              case hy2002 => exact Or.inl ⟨by rfl, by intro whSw hSw'; (try dsimp only at hSw'); (first | (go_simp; done) | (go_simp; with_reducible rfl))⟩
              try simp only [Act.put, List.setIfInBounds_toArray, List.set_cons_zero, List.set_cons_succ]
              refine wpAnyH_take (i := 3) (oi := ?oi2003) (v := ?v2003) ?hi2003 (by kernel_rfl) (by kernel_rfl) (by kernel_rfl) ?hq2003 ?hy2003 (by assumption) ?hr2003
              case hi2003 => (simp only [List.getElem?_toArray, List.getElem?_cons_succ, List.getElem?_cons_zero]; rfl)
              case hq2003 => exact fun _ _ _ h => h
              case hy2003 => exact Or.inl ⟨by rfl, by intro whSw hSw'; (try dsimp only at hSw'); (first | (go_simp; done) | (go_simp; with_reducible rfl))⟩
              try simp only [Act.put, List.setIfInBounds_toArray, List.set_cons_zero, List.set_cons_succ]
              refine wpAnyH_ready (rs := [1]) (by kernel_rfl) (by simp) ?_
              refine AllReadyH.cons (o := ?oo2004) ?hi2004 (fun K hK => ?hs2004) ?hm2004
              case hi2004 => (simp only [List.getElem?_toArray, List.getElem?_cons_succ, List.getElem?_cons_zero]; rfl)
              · go_simp
                refine (HLJ.out _ HX0.out).mono ?_
                rintro e x0 ⟨rfl, rfl⟩
                (try go_wp2_with fail)
                refine hK.out _ _ ?_ (fun hHeld => ?_)
                · (try dsimp only); (first | (with_reducible exact HQ.out _ HX8.out) | (with_reducible exact HQ.out _ HX7.out) | (with_reducible exact HQ.out _ HX6.out) | (with_reducible exact HQ.out _ HX5.out) | (with_reducible exact HQ.out _ HX4.out) | (with_reducible exact HQ.out _ HX3.out) | (with_reducible exact HQ.out _ HX2.out) | (with_reducible exact HQ.out _ HX1.out) | (with_reducible exact HQ.out _ HX0.out) | fail)
                clear hK K
                try simp only [Act.put, List.setIfInBounds_toArray, List.set_cons_zero, List.set_cons_succ]
                refine wpAnyH_take (i := 4) (oi := ?oi2005) (v := ?v2005) ?hi2005 (by kernel_rfl) (by kernel_rfl) (by kernel_rfl) ?hq2005 ?hy2005 (by assumption) ?hr2005
                case hi2005 => (simp only [List.getElem?_toArray, List.getElem?_cons_succ, List.getElem?_cons_zero]; rfl)
                case hq2005 => exact fun _ _ _ h => h
                case hy2005 => exact Or.inl ⟨by rfl, by intro whSw hSw'; (try dsimp only at hSw'); (first | (go_simp; done) | (go_simp; with_reducible rfl))⟩
                try simp only [Act.put, List.setIfInBounds_toArray, List.set_cons_zero, List.set_cons_succ]
                refine wpAnyH_take (i := 5) (oi := ?oi2006) (v := ?v2006) ?hi2006 (by kernel_rfl) (by kernel_rfl) (by kernel_rfl) ?hq2006 ?hy2006 (by assumption) ?hr2006
                case hi2006 => (simp only [List.getElem?_toArray, List.getElem?_cons_succ, List.getElem?_cons_zero]; rfl)
                case hq2006 => exact fun _ _ _ h => h
                case hy2006 => exact Or.inl ⟨by rfl, by intro whSw hSw'; (try dsimp only at hSw'); (first | (go_simp; done) | (go_simp; with_reducible rfl))⟩
                try simp only [Act.put, List.setIfInBounds_toArray, List.set_cons_zero, List.set_cons_succ]
                refine wpAnyH_take (i := 6) (oi := ?oi2007) (v := ?v2007) ?hi2007 (by kernel_rfl) (by kernel_rfl) (by kernel_rfl) ?hq2007 ?hy2007 (by assumption) ?hr2007
                case hi2007 => (simp only [List.getElem?_toArray, List.getElem?_cons_succ, List.getElem?_cons_zero]; rfl)
                case hq2007 => exact fun _ _ _ h => h
                case hy2007 => first | exact Or.inl ⟨by rfl, by intro whSw hSw'; (try dsimp only at hSw'); (first | (go_simp; done) | (go_simp; with_reducible rfl))⟩ | exact Or.inr ⟨by rfl, by with_reducible rfl⟩ | fail
                try simp only [Act.put, List.setIfInBounds_toArray, List.set_cons_zero, List.set_cons_succ]
                refine wpAnyH_take (i := 9) (oi := ?oi2008) (v := ?v2008) ?hi2008 (by kernel_rfl) (by kernel_rfl) (by kernel_rfl) ?hq2008 ?hy2008 (by assumption) ?hr2008
                case hi2008 => (simp only [List.getElem?_toArray, List.getElem?_cons_succ, List.getElem?_cons_zero]; rfl)
                case hq2008 => exact fun _ _ _ h => h
                case hy2008 => first | exact Or.inl ⟨by rfl, by intro whSw hSw'; (try dsimp only at hSw'); (first | (go_simp; done) | (go_simp; with_reducible rfl))⟩ | exact Or.inr ⟨by rfl, by with_reducible rfl⟩ | fail
                try simp only [Act.put, List.setIfInBounds_toArray, List.set_cons_zero, List.set_cons_succ]
                refine wpAnyH_ready (rs := [7, 10]) (by kernel_rfl) (by simp) ?_
                refine AllReadyH.cons (o := ?oo2009) ?hi2009 (fun K hK => ?hs2009) ?hm2009
                case hi2009 => (simp only [List.getElem?_toArray, List.getElem?_cons_succ, List.getElem?_cons_zero]; rfl)
                · go_simp
                  refine (HEJ.out _ HX0.out).mono ?_
                  rintro e x1 ⟨⟨u1, rfl, hs1⟩, hb1⟩
                  have HX1 := Lib.hid (below_chain HX0.out HX0.out.size hb1)
                  have hku := HCV.out x1 _ _ hs1
                  have hkb1 := HKB.out _ HX1.out
                  clear hs1 hb1
                  (try go_wp2_with fail)
                  refine hK.out _ _ ?_ (fun hHeld => ?_)
                  · (try dsimp only); (first | (with_reducible exact HQ.out _ HX8.out) | (with_reducible exact HQ.out _ HX7.out) | (with_reducible exact HQ.out _ HX6.out) | (with_reducible exact HQ.out _ HX5.out) | (with_reducible exact HQ.out _ HX4.out) | (with_reducible exact HQ.out _ HX3.out) | (with_reducible exact HQ.out _ HX2.out) | (with_reducible exact HQ.out _ HX1.out) | (with_reducible exact HQ.out _ HX0.out) | fail)
                  clear hK K
                  try simp only [Act.put, List.setIfInBounds_toArray, List.set_cons_zero, List.set_cons_succ]
                  refine wpAnyH_ready (rs := [8, 10]) (by kernel_rfl) (by simp) ?_
                  refine AllReadyH.cons (o := ?oo2010) ?hi2010 (fun K hK => ?hs2010) ?hm2010
                  case hi2010 => (simp only [List.getElem?_toArray, List.getElem?_cons_succ, List.getElem?_cons_zero]; rfl)
                  · go_simp
                    refine hK.out _ _ ?_ (fun hHeld => ?_)
                    · (try dsimp only); (first | (with_reducible exact HQ.out _ HX8.out) | (with_reducible exact HQ.out _ HX7.out) | (with_reducible exact HQ.out _ HX6.out) | (with_reducible exact HQ.out _ HX5.out) | (with_reducible exact HQ.out _ HX4.out) | (with_reducible exact HQ.out _ HX3.out) | (with_reducible exact HQ.out _ HX2.out) | (with_reducible exact HQ.out _ HX1.out) | (with_reducible exact HQ.out _ HX0.out) | fail)
                    clear hK K
                    try simp only [Act.put, List.setIfInBounds_toArray, List.set_cons_zero, List.set_cons_succ]
                    refine wpAnyH_ready (rs := [10]) (by kernel_rfl) (by simp) ?_
                    refine AllReadyH.cons (o := ?oo2011) ?hi2011 (fun K hK => ?hs2011) ?hm2011
                    case hi2011 => (simp only [List.getElem?_toArray, List.getElem?_cons_succ, List.getElem?_cons_zero]; rfl)
                    · go_simp
                      refine hK.out _ _ ?_ (fun hHeld => ?_)
                      · (try dsimp only); (first | (with_reducible exact HQ.out _ HX8.out) | (with_reducible exact HQ.out _ HX7.out) | (with_reducible exact HQ.out _ HX6.out) | (with_reducible exact HQ.out _ HX5.out) | (with_reducible exact HQ.out _ HX4.out) | (with_reducible exact HQ.out _ HX3.out) | (with_reducible exact HQ.out _ HX2.out) | (with_reducible exact HQ.out _ HX1.out) | (with_reducible exact HQ.out _ HX0.out) | fail)
                      clear hK K
                      try simp only [Act.put, List.setIfInBounds_toArray, List.set_cons_zero, List.set_cons_succ]
                      refine wpAnyH_take (i := 11) (oi := ?oi2012) (v := ?v2012) ?hi2012 (by kernel_rfl) (by kernel_rfl) (by kernel_rfl) ?hq2012 ?hy2012 (by assumption) ?hr2012
                      case hi2012 => (simp only [List.getElem?_toArray, List.getElem?_cons_succ, List.getElem?_cons_zero]; rfl)
                      case hq2012 => exact fun _ _ _ h => h
                      case hy2012 => first | exact Or.inl ⟨by rfl, by intro whSw hSw'; (try dsimp only at hSw'); (first | (go_simp; done) | (go_simp; with_reducible rfl))⟩ | exact Or.inr ⟨by rfl, by with_reducible rfl⟩ | fail
                      try simp only [Act.put, List.setIfInBounds_toArray, List.set_cons_zero, List.set_cons_succ]
                      refine wpAnyH_take (i := 12) (oi := ?oi2013) (v := ?v2013) ?hi2013 (by kernel_rfl) (by kernel_rfl) (by kernel_rfl) ?hq2013 ?hy2013 (by assumption) ?hr2013
                      case hi2013 => (simp only [List.getElem?_toArray, List.getElem?_cons_succ, List.getElem?_cons_zero]; rfl)
                      case hq2013 => exact fun _ _ _ h => h
                      case hy2013 => exact Or.inl ⟨by rfl, by intro whSw hSw'; (try dsimp only at hSw'); (first | (go_simp; done) | (go_simp; with_reducible rfl))⟩
                      try simp only [Act.put, List.setIfInBounds_toArray, List.set_cons_zero, List.set_cons_succ]
                      refine wpAnyH_take (i := 13) (oi := ?oi2014) (v := ?v2014) ?hi2014 (by kernel_rfl) (by kernel_rfl) (by kernel_rfl) ?hq2014 ?hy2014 (by assumption) ?hr2014
                      case hi2014 => (simp only [List.getElem?_toArray, List.getElem?_cons_succ, List.getElem?_cons_zero]; rfl)
                      case hq2014 => exact fun _ _ _ h => h
                      case hy2014 => exact Or.inl ⟨by rfl, by intro whSw hSw'; (try dsimp only at hSw'); (first | (go_simp; done) | (go_simp; with_reducible rfl))⟩
                      try simp only [Act.put, List.setIfInBounds_toArray, List.set_cons_zero, List.set_cons_succ]
                      refine wpAnyH_take (i := 14) (oi := ?oi2015) (v := ?v2015) ?hi2015 (by kernel_rfl) (by kernel_rfl) (by kernel_rfl) ?hq2015 ?hy2015 (by assumption) ?hr2015
                      case hi2015 => (simp only [List.getElem?_toArray, List.getElem?_cons_succ, List.getElem?_cons_zero]; rfl)
                      case hq2015 => exact fun _ _ _ h => h
                      case hy2015 => first | exact Or.inl ⟨by rfl, by intro whSw hSw'; (try dsimp only at hSw'); (first | (go_simp; done) | (go_simp; with_reducible rfl))⟩ | exact Or.inr ⟨by rfl, by with_reducible rfl⟩ | fail
                      try simp only [Act.put, List.setIfInBounds_toArray, List.set_cons_zero, List.set_cons_succ]
                      refine wpAnyH_take (i := 15) (oi := ?oi2016) (v := ?v2016) ?hi2016 (by kernel_rfl) (by kernel_rfl) (by kernel_rfl) ?hq2016 ?hy2016 (by assumption) ?hr2016
                      case hi2016 => (simp only [List.getElem?_toArray, List.getElem?_cons_succ, List.getElem?_cons_zero]; rfl)
                      case hq2016 => exact fun _ _ _ h => h
                      case hy2016 => first | exact Or.inl ⟨by rfl, by intro whSw hSw'; (try dsimp only at hSw'); (first | (go_simp; done) | (go_simp; with_reducible rfl))⟩ | exact Or.inr ⟨by rfl, by with_reducible rfl⟩ | fail
                      try simp only [Act.put, List.setIfInBounds_toArray, List.set_cons_zero, List.set_cons_succ]
                      refine wpAnyH_take (i := 17) (oi := ?oi2017) (v := ?v2017) ?hi2017 (by kernel_rfl) (by kernel_rfl) (by kernel_rfl) ?hq2017 ?hy2017 (by assumption) ?hr2017
                      case hi2017 => (simp only [List.getElem?_toArray, List.getElem?_cons_succ, List.getElem?_cons_zero]; rfl)
                      case hq2017 => exact fun _ _ _ h => h
                      case hy2017 => first | exact Or.inl ⟨by rfl, by intro whSw hSw'; (try dsimp only at hSw'); (first | (go_simp; done) | (go_simp; with_reducible rfl))⟩ | exact Or.inr ⟨by rfl, by with_reducible rfl⟩ | fail
                      try simp only [Act.put, List.setIfInBounds_toArray, List.set_cons_zero, List.set_cons_succ]
                      refine wpAnyH_take (i := 18) (oi := ?oi2018) (v := ?v2018) ?hi2018 (by kernel_rfl) (by kernel_rfl) (by kernel_rfl) ?hq2018 ?hy2018 (by assumption) ?hr2018
                      case hi2018 => (simp only [List.getElem?_toArray, List.getElem?_cons_succ, List.getElem?_cons_zero]; rfl)
                      case hq2018 => exact fun _ _ _ h => h
                      case hy2018 => first | exact Or.inl ⟨by rfl, by intro whSw hSw'; (try dsimp only at hSw'); (first | (go_simp; done) | (go_simp; with_reducible rfl))⟩ | exact Or.inr ⟨by rfl, by with_reducible rfl⟩ | fail
                      try simp only [Act.put, List.setIfInBounds_toArray, List.set_cons_zero, List.set_cons_succ]
                      refine wpAnyH_ready (rs := [16]) (by kernel_rfl) (by simp) ?_
                      refine AllReadyH.cons (o := ?oo2019) ?hi2019 (fun K hK => ?hs2019) ?hm2019
                      case hi2019 => (simp only [List.getElem?_toArray, List.getElem?_cons_succ, List.getElem?_cons_zero]; rfl)
                      · go_simp
                        refine (HPJ.out _ HX1.out).mono ?_
                        rintro e x2 ⟨⟨u2, rfl, hr2⟩, hb2⟩
                        have HX2 := Lib.hid (below_chain HX1.out HX1.out.size hb2)
                        have HR2 := Lib.hid hr2
                        obtain ⟨A2, d2, rfl, -⟩ := hr2.form
                        clear hr2 hb2
                        (try go_wp2_with fail)
                        refine hK.out _ _ ?_ (fun hHeld => ?_)
                        · (try dsimp only); (first | (with_reducible exact HQ.out _ HX8.out) | (with_reducible exact HQ.out _ HX7.out) | (with_reducible exact HQ.out _ HX6.out) | (with_reducible exact HQ.out _ HX5.out) | (with_reducible exact HQ.out _ HX4.out) | (with_reducible exact HQ.out _ HX3.out) | (with_reducible exact HQ.out _ HX2.out) | (with_reducible exact HQ.out _ HX1.out) | (with_reducible exact HQ.out _ HX0.out) | fail)
                        clear hK K
                        try simp only [Act.put, List.setIfInBounds_toArray, List.set_cons_zero, List.set_cons_succ]
                        refine wpAnyH_ready (rs := [19]) (by kernel_rfl) (by simp) ?_
                        refine AllReadyH.cons (o := ?oo2020) ?hi2020 (fun K hK => ?hs2020) ?hm2020
                        case hi2020 => (simp only [List.getElem?_toArray, List.getElem?_cons_succ, List.getElem?_cons_zero]; rfl)
                        · go_simp
                          refine (HPI.out _ HX2.out).mono ?_
                          rintro e x3 ⟨⟨u3, rfl, hr3⟩, hb3⟩
                          have HX3 := Lib.hid (below_chain HX2.out HX2.out.size hb3)
                          have HSM1 := Lib.hid (sameInts_any (HR2.out.below stays_int hb3) hr3 HLM.out.1 HLM.out.1)
                          rw [decide_eq_true (rfl : xs = xs)] at HSM1
                          obtain ⟨A3, d3, rfl, -⟩ := hr3.form
                          clear hr3 hb3
                          (try go_wp2_with fail)
                          refine hK.out _ _ ?_ (fun hHeld => ?_)
                          · (try dsimp only); (first | (with_reducible exact HQ.out _ HX8.out) | (with_reducible exact HQ.out _ HX7.out) | (with_reducible exact HQ.out _ HX6.out) | (with_reducible exact HQ.out _ HX5.out) | (with_reducible exact HQ.out _ HX4.out) | (with_reducible exact HQ.out _ HX3.out) | (with_reducible exact HQ.out _ HX2.out) | (with_reducible exact HQ.out _ HX1.out) | (with_reducible exact HQ.out _ HX0.out) | fail)
                          clear hK K
                          try simp only [Act.put, List.setIfInBounds_toArray, List.set_cons_zero, List.set_cons_succ]
                          refine wpAnyH_ready (rs := [20]) (by kernel_rfl) (by simp) ?_
                          refine AllReadyH.cons (o := ?oo2021) ?hi2021 (fun K hK => ?hs2021) ?hm2021
                          case hi2021 => (simp only [List.getElem?_toArray, List.getElem?_cons_succ, List.getElem?_cons_zero]; rfl)
                          · go_simp
                            refine HSM1.out.mono ?_
                            rintro e x4 ⟨rfl, hb4⟩
                            have HX4 := Lib.hid (below_chain HX3.out HX3.out.size hb4)
                            clear hb4
                            (try go_wp2_with fail)
                            refine hK.out _ _ ?_ (fun hHeld => ?_)
                            · (try dsimp only); (first | (with_reducible exact HQ.out _ HX8.out) | (with_reducible exact HQ.out _ HX7.out) | (with_reducible exact HQ.out _ HX6.out) | (with_reducible exact HQ.out _ HX5.out) | (with_reducible exact HQ.out _ HX4.out) | (with_reducible exact HQ.out _ HX3.out) | (with_reducible exact HQ.out _ HX2.out) | (with_reducible exact HQ.out _ HX1.out) | (with_reducible exact HQ.out _ HX0.out) | fail)
                            clear hK K
                            try simp only [Act.put, List.setIfInBounds_toArray, List.set_cons_zero, List.set_cons_succ]
                            refine wpAnyH_take (i := 21) (oi := ?oi2022) (v := ?v2022) ?hi2022 (by kernel_rfl) (by kernel_rfl) (by kernel_rfl) ?hq2022 ?hy2022 (by assumption) ?hr2022
                            case hi2022 => (simp only [List.getElem?_toArray, List.getElem?_cons_succ, List.getElem?_cons_zero]; rfl)
                            case hq2022 => exact fun _ _ _ h => h
                            case hy2022 => exact Or.inl ⟨by rfl, by intro whSw hSw'; (try dsimp only at hSw'); (first | (go_simp; done) | (go_simp; with_reducible rfl))⟩
                            try simp only [Act.put, List.setIfInBounds_toArray, List.set_cons_zero, List.set_cons_succ]
                            refine wpAnyH_take (i := 22) (oi := ?oi2023) (v := ?v2023) ?hi2023 (by kernel_rfl) (by kernel_rfl) (by kernel_rfl) ?hq2023 ?hy2023 (by assumption) ?hr2023
                            case hi2023 => (simp only [List.getElem?_toArray, List.getElem?_cons_succ, List.getElem?_cons_zero]; rfl)
                            case hq2023 => exact fun _ _ _ h => h
                            case hy2023 => exact Or.inl ⟨by rfl, by intro whSw hSw'; (try dsimp only at hSw'); (first | (go_simp; done) | (go_simp; with_reducible rfl))⟩
                            try simp only [Act.put, List.setIfInBounds_toArray, List.set_cons_zero, List.set_cons_succ]
                            refine wpAnyH_take (i := 23) (oi := ?oi2024) (v := ?v2024) ?hi2024 (by kernel_rfl) (by kernel_rfl) (by kernel_rfl) ?hq2024 ?hy2024 (by assumption) ?hr2024
                            case hi2024 => (simp only [List.getElem?_toArray, List.getElem?_cons_succ, List.getElem?_cons_zero]; rfl)
                            case hq2024 => exact fun _ _ _ h => h
                            case hy2024 => first | exact Or.inl ⟨by rfl, by intro whSw hSw'; (try dsimp only at hSw'); (first | (go_simp; done) | (go_simp; with_reducible rfl))⟩ | exact Or.inr ⟨by rfl, by with_reducible rfl⟩ | fail
                            try simp only [Act.put, List.setIfInBounds_toArray, List.set_cons_zero, List.set_cons_succ]
                            refine wpAnyH_take (i := 24) (oi := ?oi2025) (v := ?v2025) ?hi2025 (by kernel_rfl) (by kernel_rfl) (by kernel_rfl) ?hq2025 ?hy2025 (by assumption) ?hr2025
                            case hi2025 => (simp only [List.getElem?_toArray, List.getElem?_cons_succ, List.getElem?_cons_zero]; rfl)
                            case hq2025 => exact fun _ _ _ h => h
                            case hy2025 => first | exact Or.inl ⟨by rfl, by intro whSw hSw'; (try dsimp only at hSw'); (first | (go_simp; done) | (go_simp; with_reducible rfl))⟩ | exact Or.inr ⟨by rfl, by with_reducible rfl⟩ | fail
                            try simp only [Act.put, List.setIfInBounds_toArray, List.set_cons_zero, List.set_cons_succ]
                            refine wpAnyH_take (i := 25) (oi := ?oi2026) (v := ?v2026) ?hi2026 (by kernel_rfl) (by kernel_rfl) (by kernel_rfl) ?hq2026 ?hy2026 (by assumption) ?hr2026
                            case hi2026 => (simp only [List.getElem?_toArray, List.getElem?_cons_succ, List.getElem?_cons_zero]; rfl)
                            case hq2026 => exact fun _ _ _ h => h
                            case hy2026 => first | exact Or.inl ⟨by rfl, by intro whSw hSw'; (try dsimp only at hSw'); (first | (go_simp; done) | (go_simp; with_reducible rfl))⟩ | exact Or.inr ⟨by rfl, by with_reducible rfl⟩ | fail
                            try simp only [Act.put, List.setIfInBounds_toArray, List.set_cons_zero, List.set_cons_succ]
                            refine wpAnyH_take (i := 27) (oi := ?oi2027) (v := ?v2027) ?hi2027 (by kernel_rfl) (by kernel_rfl) (by kernel_rfl) ?hq2027 ?hy2027 (by assumption) ?hr2027
                            case hi2027 => (simp only [List.getElem?_toArray, List.getElem?_cons_succ, List.getElem?_cons_zero]; rfl)
                            case hq2027 => exact fun _ _ _ h => h
                            case hy2027 => first | exact Or.inl ⟨by rfl, by intro whSw hSw'; (try dsimp only at hSw'); (first | (go_simp; done) | (go_simp; with_reducible rfl))⟩ | exact Or.inr ⟨by rfl, by with_reducible rfl⟩ | fail
                            try simp only [Act.put, List.setIfInBounds_toArray, List.set_cons_zero, List.set_cons_succ]
                            refine wpAnyH_take (i := 28) (oi := ?oi2028) (v := ?v2028) ?hi2028 (by kernel_rfl) (by kernel_rfl) (by kernel_rfl) ?hq2028 ?hy2028 (by assumption) ?hr2028
                            case hi2028 => (simp only [List.getElem?_toArray, List.getElem?_cons_succ, List.getElem?_cons_zero]; rfl)
                            case hq2028 => exact fun _ _ _ h => h
                            case hy2028 => first | exact Or.inl ⟨by rfl, by intro whSw hSw'; (try dsimp only at hSw'); (first | (go_simp; done) | (go_simp; with_reducible rfl))⟩ | exact Or.inr ⟨by rfl, by with_reducible rfl⟩ | fail
                            try simp only [Act.put, List.setIfInBounds_toArray, List.set_cons_zero, List.set_cons_succ]
                            refine wpAnyH_take (i := 29) (oi := ?oi2029) (v := ?v2029) ?hi2029 (by kernel_rfl) (by kernel_rfl) (by kernel_rfl) ?hq2029 ?hy2029 (by assumption) ?hr2029
                            case hi2029 => (simp only [List.getElem?_toArray, List.getElem?_cons_succ, List.getElem?_cons_zero]; rfl)
                            case hq2029 => exact fun _ _ _ h => h
                            case hy2029 => first | exact Or.inl ⟨by rfl, by intro whSw hSw'; (try dsimp only at hSw'); (first | (go_simp; done) | (go_simp; with_reducible rfl))⟩ | exact Or.inr ⟨by rfl, by with_reducible rfl⟩ | fail
                            try simp only [Act.put, List.setIfInBounds_toArray, List.set_cons_zero, List.set_cons_succ]
                            refine wpAnyH_ready (rs := [26]) (by kernel_rfl) (by simp) ?_
                            refine AllReadyH.cons (o := ?oo2030) ?hi2030 (fun K hK => ?hs2030) ?hm2030
                            case hi2030 => (simp only [List.getElem?_toArray, List.getElem?_cons_succ, List.getElem?_cons_zero]; rfl)
                            · go_simp
                              refine (HTJ.out _ HX4.out).mono ?_
                              rintro e x5 ⟨⟨u5, rfl, hr5⟩, hb5⟩
                              have HX5 := Lib.hid (below_chain HX4.out HX4.out.size hb5)
                              have HR5 := Lib.hid hr5
                              obtain ⟨A5, d5, rfl, -⟩ := hr5.form
                              clear hr5 hb5
                              (try go_wp2_with fail)
                              refine hK.out _ _ ?_ (fun hHeld => ?_)
                              · (try dsimp only); (first | (with_reducible exact HQ.out _ HX8.out) | (with_reducible exact HQ.out _ HX7.out) | (with_reducible exact HQ.out _ HX6.out) | (with_reducible exact HQ.out _ HX5.out) | (with_reducible exact HQ.out _ HX4.out) | (with_reducible exact HQ.out _ HX3.out) | (with_reducible exact HQ.out _ HX2.out) | (with_reducible exact HQ.out _ HX1.out) | (with_reducible exact HQ.out _ HX0.out) | fail)
                              clear hK K
                              try simp only [Act.put, List.setIfInBounds_toArray, List.set_cons_zero, List.set_cons_succ]
                              refine wpAnyH_ready (rs := [30]) (by kernel_rfl) (by simp) ?_
                              refine AllReadyH.cons (o := ?oo2031) ?hi2031 (fun K hK => ?hs2031) ?hm2031
                              case hi2031 => (simp only [List.getElem?_toArray, List.getElem?_cons_succ, List.getElem?_cons_zero]; rfl)
                              · go_simp
                                refine (HTI.out _ HX5.out).mono ?_
                                rintro e x6 ⟨⟨u6, rfl, hr6⟩, hb6⟩
                                have HX6 := Lib.hid (below_chain HX5.out HX5.out.size hb6)
                                have HSM2 := Lib.hid (sameInts_any (HR5.out.below stays_int hb6) hr6 HLM.out.2 HLM.out.2)
                                rw [decide_eq_true (rfl : ys = ys)] at HSM2
                                obtain ⟨A6, d6, rfl, -⟩ := hr6.form
                                clear hr6 hb6
                                (try go_wp2_with fail)
                                refine hK.out _ _ ?_ (fun hHeld => ?_)
                                · (try dsimp only); (first | (with_reducible exact HQ.out _ HX8.out) | (with_reducible exact HQ.out _ HX7.out) | (with_reducible exact HQ.out _ HX6.out) | (with_reducible exact HQ.out _ HX5.out) | (with_reducible exact HQ.out _ HX4.out) | (with_reducible exact HQ.out _ HX3.out) | (with_reducible exact HQ.out _ HX2.out) | (with_reducible exact HQ.out _ HX1.out) | (with_reducible exact HQ.out _ HX0.out) | fail)
                                clear hK K
                                try simp only [Act.put, List.setIfInBounds_toArray, List.set_cons_zero, List.set_cons_succ]
                                refine wpAnyH_ready (rs := [31]) (by kernel_rfl) (by simp) ?_
                                refine AllReadyH.cons (o := ?oo2032) ?hi2032 (fun K hK => ?hs2032) ?hm2032
                                case hi2032 => (simp only [List.getElem?_toArray, List.getElem?_cons_succ, List.getElem?_cons_zero]; rfl)
                                · go_simp
                                  refine HSM2.out.mono ?_
                                  rintro e x7 ⟨rfl, hb7⟩
                                  have HX7 := Lib.hid (below_chain HX6.out HX6.out.size hb7)
                                  clear hb7
                                  (try go_wp2_with fail)
                                  refine hK.out _ _ ?_ (fun hHeld => ?_)
                                  · (try dsimp only); (first | (with_reducible exact HQ.out _ HX8.out) | (with_reducible exact HQ.out _ HX7.out) | (with_reducible exact HQ.out _ HX6.out) | (with_reducible exact HQ.out _ HX5.out) | (with_reducible exact HQ.out _ HX4.out) | (with_reducible exact HQ.out _ HX3.out) | (with_reducible exact HQ.out _ HX2.out) | (with_reducible exact HQ.out _ HX1.out) | (with_reducible exact HQ.out _ HX0.out) | fail)
                                  clear hK K
                                  try simp only [Act.put, List.setIfInBounds_toArray, List.set_cons_zero, List.set_cons_succ]
                                  refine wpAnyH_take (i := 32) (oi := ?oi2033) (v := ?v2033) ?hi2033 (by kernel_rfl) (by kernel_rfl) (by kernel_rfl) ?hq2033 ?hy2033 (by assumption) ?hr2033
                                  case hi2033 => (simp only [List.getElem?_toArray, List.getElem?_cons_succ, List.getElem?_cons_zero]; rfl)
                                  case hq2033 => exact fun _ _ _ h => h
                                  case hy2033 => exact Or.inl ⟨by rfl, by intro whSw hSw'; (try dsimp only at hSw'); (first | (go_simp; done) | (go_simp; with_reducible rfl))⟩
                                  try simp only [Act.put, List.setIfInBounds_toArray, List.set_cons_zero, List.set_cons_succ]
                                  refine wpAnyH_take (i := 33) (oi := ?oi2034) (v := ?v2034) ?hi2034 (by kernel_rfl) (by kernel_rfl) (by kernel_rfl) ?hq2034 ?hy2034 (by assumption) ?hr2034
                                  case hi2034 => (simp only [List.getElem?_toArray, List.getElem?_cons_succ, List.getElem?_cons_zero]; rfl)
                                  case hq2034 => exact fun _ _ _ h => h
                                  case hy2034 => exact Or.inl ⟨by rfl, by intro whSw hSw'; (try dsimp only at hSw'); (first | (go_simp; done) | (go_simp; with_reducible rfl))⟩
                                  try simp only [Act.put, List.setIfInBounds_toArray, List.set_cons_zero, List.set_cons_succ]
                                  refine wpAnyH_ready (rs := [34]) (by kernel_rfl) (by simp) ?_
                                  refine AllReadyH.cons (o := ?oo2035) ?hi2035 (fun K hK => ?hs2035) ?hm2035
                                  case hi2035 => (simp only [List.getElem?_toArray, List.getElem?_cons_succ, List.getElem?_cons_zero]; rfl)
                                  · go_simp
                                    refine (HA.out _).mono ?_
                                    rintro e x8 ⟨rfl, hb8⟩
                                    have HX8 := Lib.hid (below_chain HX7.out HX7.out.size hb8)
                                    clear hb8
                                    (try go_wp2_with fail)
                                    refine hK.out _ _ ?_ (fun hHeld => ?_)
                                    · (try dsimp only); (first | (with_reducible exact HQ.out _ HX8.out) | (with_reducible exact HQ.out _ HX7.out) | (with_reducible exact HQ.out _ HX6.out) | (with_reducible exact HQ.out _ HX5.out) | (with_reducible exact HQ.out _ HX4.out) | (with_reducible exact HQ.out _ HX3.out) | (with_reducible exact HQ.out _ HX2.out) | (with_reducible exact HQ.out _ HX1.out) | (with_reducible exact HQ.out _ HX0.out) | fail)
                                    clear hK K
                                    try simp only [Act.put, List.setIfInBounds_toArray, List.set_cons_zero, List.set_cons_succ]
                                    refine wpAnyH_take (i := 35) (oi := ?oi2036) (v := ?v2036) ?hi2036 (by kernel_rfl) (by kernel_rfl) (by kernel_rfl) ?hq2036 ?hy2036 (by assumption) ?hr2036
                                    case hi2036 => (simp only [List.getElem?_toArray, List.getElem?_cons_succ, List.getElem?_cons_zero]; rfl)
                                    case hq2036 => exact fun _ _ _ h => h
                                    case hy2036 => exact Or.inl ⟨by rfl, by intro whSw hSw'; (try dsimp only at hSw'); (first | (go_simp; done) | (go_simp; with_reducible rfl))⟩
                                    try simp only [Act.put, List.setIfInBounds_toArray, List.set_cons_zero, List.set_cons_succ]
                                    refine wpAnyH_take (i := 36) (oi := ?oi2037) (v := ?v2037) ?hi2037 (by kernel_rfl) (by kernel_rfl) (by kernel_rfl) ?hq2037 ?hy2037 (by assumption) ?hr2037
                                    case hi2037 => (simp only [List.getElem?_toArray, List.getElem?_cons_succ, List.getElem?_cons_zero]; rfl)
                                    case hq2037 => exact fun _ _ _ h => h
                                    case hy2037 => exact Or.inl ⟨by rfl, by intro whSw hSw'; (try dsimp only at hSw'); (first | (go_simp; done) | (go_simp; with_reducible rfl))⟩
                                    try simp only [Act.put, List.setIfInBounds_toArray, List.set_cons_zero, List.set_cons_succ]
                                    refine wpAnyH_done (by kernel_rfl) ?_ _
                                    have HFIN := Lib.hid (HB0.out.trans ((HBD0.out.trans (HX8.out.mono HBD0.out.size)).mono HNX.out))
                                    go_wp2_with fail
                                    go_ret
                                    exact ⟨rfl, HFIN.out⟩
                                  exact AllReadyH.nil
                                exact AllReadyH.nil
                              exact AllReadyH.nil
                            exact AllReadyH.nil
                          exact AllReadyH.nil
                        exact AllReadyH.nil
                      exact AllReadyH.nil
                    exact AllReadyH.nil
                  refine AllReadyH.cons (o := ?oo2038) ?hi2038 (fun K hK => ?hs2038) ?hm2038
                  case hi2038 => (simp only [List.getElem?_toArray, List.getElem?_cons_succ, List.getElem?_cons_zero]; rfl)
                  · go_simp
                    refine hK.out _ _ ?_ (fun hHeld => ?_)
                    · (try dsimp only); (first | (with_reducible exact HQ.out _ HX8.out) | (with_reducible exact HQ.out _ HX7.out) | (with_reducible exact HQ.out _ HX6.out) | (with_reducible exact HQ.out _ HX5.out) | (with_reducible exact HQ.out _ HX4.out) | (with_reducible exact HQ.out _ HX3.out) | (with_reducible exact HQ.out _ HX2.out) | (with_reducible exact HQ.out _ HX1.out) | (with_reducible exact HQ.out _ HX0.out) | fail)
                    clear hK K
                    try simp only [Act.put, List.setIfInBounds_toArray, List.set_cons_zero, List.set_cons_succ]
                    refine wpAnyH_ready (rs := [8]) (by kernel_rfl) (by simp) ?_
                    refine AllReadyH.cons (o := ?oo2039) ?hi2039 (fun K hK => ?hs2039) ?hm2039
                    case hi2039 => (simp only [List.getElem?_toArray, List.getElem?_cons_succ, List.getElem?_cons_zero]; rfl)
                    · go_simp
                      refine hK.out _ _ ?_ (fun hHeld => ?_)
                      · (try dsimp only); (first | (with_reducible exact HQ.out _ HX8.out) | (with_reducible exact HQ.out _ HX7.out) | (with_reducible exact HQ.out _ HX6.out) | (with_reducible exact HQ.out _ HX5.out) | (with_reducible exact HQ.out _ HX4.out) | (with_reducible exact HQ.out _ HX3.out) | (with_reducible exact HQ.out _ HX2.out) | (with_reducible exact HQ.out _ HX1.out) | (with_reducible exact HQ.out _ HX0.out) | fail)
                      clear hK K
                      try simp only [Act.put, List.setIfInBounds_toArray, List.set_cons_zero, List.set_cons_succ]
                      refine wpAnyH_take (i := 11) (oi := ?oi2040) (v := ?v2040) ?hi2040 (by kernel_rfl) (by kernel_rfl) (by kernel_rfl) ?hq2040 ?hy2040 (by assumption) ?hr2040
                      case hi2040 => (simp only [List.getElem?_toArray, List.getElem?_cons_succ, List.getElem?_cons_zero]; rfl)
                      case hq2040 => exact fun _ _ _ h => h
                      case hy2040 => first | exact Or.inl ⟨by rfl, by intro whSw hSw'; (try dsimp only at hSw'); (first | (go_simp; done) | (go_simp; with_reducible rfl))⟩ | exact Or.inr ⟨by rfl, by with_reducible rfl⟩ | fail
                      try simp only [Act.put, List.setIfInBounds_toArray, List.set_cons_zero, List.set_cons_succ]
                      refine wpAnyH_take (i := 12) (oi := ?oi2041) (v := ?v2041) ?hi2041 (by kernel_rfl) (by kernel_rfl) (by kernel_rfl) ?hq2041 ?hy2041 (by assumption) ?hr2041
                      case hi2041 => (simp only [List.getElem?_toArray, List.getElem?_cons_succ, List.getElem?_cons_zero]; rfl)
                      case hq2041 => exact fun _ _ _ h => h
                      case hy2041 => exact Or.inl ⟨by rfl, by intro whSw hSw'; (try dsimp only at hSw'); (first | (go_simp; done) | (go_simp; with_reducible rfl))⟩
                      try simp only [Act.put, List.setIfInBounds_toArray, List.set_cons_zero, List.set_cons_succ]
                      refine wpAnyH_take (i := 13) (oi := ?oi2042) (v := ?v2042) ?hi2042 (by kernel_rfl) (by kernel_rfl) (by kernel_rfl) ?hq2042 ?hy2042 (by assumption) ?hr2042
                      case hi2042 => (simp only [List.getElem?_toArray, List.getElem?_cons_succ, List.getElem?_cons_zero]; rfl)
                      case hq2042 => exact fun _ _ _ h => h
                      case hy2042 => exact Or.inl ⟨by rfl, by intro whSw hSw'; (try dsimp only at hSw'); (first | (go_simp; done) | (go_simp; with_reducible rfl))⟩
                      try simp only [Act.put, List.setIfInBounds_toArray, List.set_cons_zero, List.set_cons_succ]
                      refine wpAnyH_take (i := 14) (oi := ?oi2043) (v := ?v2043) ?hi2043 (by kernel_rfl) (by kernel_rfl) (by kernel_rfl) ?hq2043 ?hy2043 (by assumption) ?hr2043
                      case hi2043 => (simp only [List.getElem?_toArray, List.getElem?_cons_succ, List.getElem?_cons_zero]; rfl)
                      case hq2043 => exact fun _ _ _ h => h
                      case hy2043 => first | exact Or.inl ⟨by rfl, by intro whSw hSw'; (try dsimp only at hSw'); (first | (go_simp; done) | (go_simp; with_reducible rfl))⟩ | exact Or.inr ⟨by rfl, by with_reducible rfl⟩ | fail
                      try simp only [Act.put, List.setIfInBounds_toArray, List.set_cons_zero, List.set_cons_succ]
                      refine wpAnyH_take (i := 15) (oi := ?oi2044) (v := ?v2044) ?hi2044 (by kernel_rfl) (by kernel_rfl) (by kernel_rfl) ?hq2044 ?hy2044 (by assumption) ?hr2044
                      case hi2044 => (simp only [List.getElem?_toArray, List.getElem?_cons_succ, List.getElem?_cons_zero]; rfl)
                      case hq2044 => exact fun _ _ _ h => h
                      case hy2044 => first | exact Or.inl ⟨by rfl, by intro whSw hSw'; (try dsimp only at hSw'); (first | (go_simp; done) | (go_simp; with_reducible rfl))⟩ | exact Or.inr ⟨by rfl, by with_reducible rfl⟩ | fail
                      try simp only [Act.put, List.setIfInBounds_toArray, List.set_cons_zero, List.set_cons_succ]
                      refine wpAnyH_take (i := 17) (oi := ?oi2045) (v := ?v2045) ?hi2045 (by kernel_rfl) (by kernel_rfl) (by kernel_rfl) ?hq2045 ?hy2045 (by assumption) ?hr2045
                      case hi2045 => (simp only [List.getElem?_toArray, List.getElem?_cons_succ, List.getElem?_cons_zero]; rfl)
                      case hq2045 => exact fun _ _ _ h => h
                      case hy2045 => first | exact Or.inl ⟨by rfl, by intro whSw hSw'; (try dsimp only at hSw'); (first | (go_simp; done) | (go_simp; with_reducible rfl))⟩ | exact Or.inr ⟨by rfl, by with_reducible rfl⟩ | fail
                      try simp only [Act.put, List.setIfInBounds_toArray, List.set_cons_zero, List.set_cons_succ]
                      refine wpAnyH_take (i := 18) (oi := ?oi2046) (v := ?v2046) ?hi2046 (by kernel_rfl) (by kernel_rfl) (by kernel_rfl) ?hq2046 ?hy2046 (by assumption) ?hr2046
                      case hi2046 => (simp only [List.getElem?_toArray, List.getElem?_cons_succ, List.getElem?_cons_zero]; rfl)
                      case hq2046 => exact fun _ _ _ h => h
                      case hy2046 => first | exact Or.inl ⟨by rfl, by intro whSw hSw'; (try dsimp only at hSw'); (first | (go_simp; done) | (go_simp; with_reducible rfl))⟩ | exact Or.inr ⟨by rfl, by with_reducible rfl⟩ | fail
                      try simp only [Act.put, List.setIfInBounds_toArray, List.set_cons_zero, List.set_cons_succ]
                      refine wpAnyH_ready (rs := [16]) (by kernel_rfl) (by simp) ?_
                      refine AllReadyH.cons (o := ?oo2047) ?hi2047 (fun K hK => ?hs2047) ?hm2047
                      case hi2047 => (simp only [List.getElem?_toArray, List.getElem?_cons_succ, List.getElem?_cons_zero]; rfl)
                      · go_simp
                        refine (HPJ.out _ HX1.out).mono ?_
                        rintro e x2 ⟨⟨u2, rfl, hr2⟩, hb2⟩
                        have HX2 := Lib.hid (below_chain HX1.out HX1.out.size hb2)
                        have HR2 := Lib.hid hr2
                        obtain ⟨A2, d2, rfl, -⟩ := hr2.form
                        clear hr2 hb2
                        (try go_wp2_with fail)
                        refine hK.out _ _ ?_ (fun hHeld => ?_)
                        · (try dsimp only); (first | (with_reducible exact HQ.out _ HX8.out) | (with_reducible exact HQ.out _ HX7.out) | (with_reducible exact HQ.out _ HX6.out) | (with_reducible exact HQ.out _ HX5.out) | (with_reducible exact HQ.out _ HX4.out) | (with_reducible exact HQ.out _ HX3.out) | (with_reducible exact HQ.out _ HX2.out) | (with_reducible exact HQ.out _ HX1.out) | (with_reducible exact HQ.out _ HX0.out) | fail)
                        clear hK K
                        try simp only [Act.put, List.setIfInBounds_toArray, List.set_cons_zero, List.set_cons_succ]
                        refine wpAnyH_ready (rs := [19]) (by kernel_rfl) (by simp) ?_
                        refine AllReadyH.cons (o := ?oo2048) ?hi2048 (fun K hK => ?hs2048) ?hm2048
                        case hi2048 => (simp only [List.getElem?_toArray, List.getElem?_cons_succ, List.getElem?_cons_zero]; rfl)
                        · go_simp
                          refine (HPI.out _ HX2.out).mono ?_
                          rintro e x3 ⟨⟨u3, rfl, hr3⟩, hb3⟩
                          have HX3 := Lib.hid (below_chain HX2.out HX2.out.size hb3)
                          have HSM1 := Lib.hid (sameInts_any (HR2.out.below stays_int hb3) hr3 HLM.out.1 HLM.out.1)
                          rw [decide_eq_true (rfl : xs = xs)] at HSM1
                          obtain ⟨A3, d3, rfl, -⟩ := hr3.form
                          clear hr3 hb3
                          (try go_wp2_with fail)
                          refine hK.out _ _ ?_ (fun hHeld => ?_)
                          · (try dsimp only); (first | (with_reducible exact HQ.out _ HX8.out) | (with_reducible exact HQ.out _ HX7.out) | (with_reducible exact HQ.out _ HX6.out) | (with_reducible exact HQ.out _ HX5.out) | (with_reducible exact HQ.out _ HX4.out) | (with_reducible exact HQ.out _ HX3.out) | (with_reducible exact HQ.out _ HX2.out) | (with_reducible exact HQ.out _ HX1.out) | (with_reducible exact HQ.out _ HX0.out) | fail)
                          clear hK K
                          try simp only [Act.put, List.setIfInBounds_toArray, List.set_cons_zero, List.set_cons_succ]
                          refine wpAnyH_ready (rs := [20]) (by kernel_rfl) (by simp) ?_
                          refine AllReadyH.cons (o := ?oo2049) ?hi2049 (fun K hK => ?hs2049) ?hm2049
                          case hi2049 => (simp only [List.getElem?_toArray, List.getElem?_cons_succ, List.getElem?_cons_zero]; rfl)
                          · go_simp
                            refine HSM1.out.mono ?_
                            rintro e x4 ⟨rfl, hb4⟩
                            have HX4 := Lib.hid (below_chain HX3.out HX3.out.size hb4)
                            clear hb4
                            (try go_wp2_with fail)
                            refine hK.out _ _ ?_ (fun hHeld => ?_)
                            · (try dsimp only); (first | (with_reducible exact HQ.out _ HX8.out) | (with_reducible exact HQ.out _ HX7.out) | (with_reducible exact HQ.out _ HX6.out) | (with_reducible exact HQ.out _ HX5.out) | (with_reducible exact HQ.out _ HX4.out) | (with_reducible exact HQ.out _ HX3.out) | (with_reducible exact HQ.out _ HX2.out) | (with_reducible exact HQ.out _ HX1.out) | (with_reducible exact HQ.out _ HX0.out) | fail)
                            clear hK K
                            try simp only [Act.put, List.setIfInBounds_toArray, List.set_cons_zero, List.set_cons_succ]
                            refine wpAnyH_take (i := 21) (oi := ?oi2050) (v := ?v2050) ?hi2050 (by kernel_rfl) (by kernel_rfl) (by kernel_rfl) ?hq2050 ?hy2050 (by assumption) ?hr2050
                            case hi2050 => (simp only [List.getElem?_toArray, List.getElem?_cons_succ, List.getElem?_cons_zero]; rfl)
                            case hq2050 => exact fun _ _ _ h => h
                            case hy2050 => exact Or.inl ⟨by rfl, by intro whSw hSw'; (try dsimp only at hSw'); (first | (go_simp; done) | (go_simp; with_reducible rfl))⟩
                            try simp only [Act.put, List.setIfInBounds_toArray, List.set_cons_zero, List.set_cons_succ]
                            refine wpAnyH_take (i := 22) (oi := ?oi2051) (v := ?v2051) ?hi2051 (by kernel_rfl) (by kernel_rfl) (by kernel_rfl) ?hq2051 ?hy2051 (by assumption) ?hr2051
                            case hi2051 => (simp only [List.getElem?_toArray, List.getElem?_cons_succ, List.getElem?_cons_zero]; rfl)
                            case hq2051 => exact fun _ _ _ h => h
                            case hy2051 => exact Or.inl ⟨by rfl, by intro whSw hSw'; (try dsimp only at hSw'); (first | (go_simp; done) | (go_simp; with_reducible rfl))⟩
                            try simp only [Act.put, List.setIfInBounds_toArray, List.set_cons_zero, List.set_cons_succ]
                            refine wpAnyH_take (i := 23) (oi := ?oi2052) (v := ?v2052) ?hi2052 (by kernel_rfl) (by kernel_rfl) (by kernel_rfl) ?hq2052 ?hy2052 (by assumption) ?hr2052
                            case hi2052 => (simp only [List.getElem?_toArray, List.getElem?_cons_succ, List.getElem?_cons_zero]; rfl)
                            case hq2052 => exact fun _ _ _ h => h
                            case hy2052 => first | exact Or.inl ⟨by rfl, by intro whSw hSw'; (try dsimp only at hSw'); (first | (go_simp; done) | (go_simp; with_reducible rfl))⟩ | exact Or.inr ⟨by rfl, by with_reducible rfl⟩ | fail
                            try simp only [Act.put, List.setIfInBounds_toArray, List.set_cons_zero, List.set_cons_succ]
                            refine wpAnyH_take (i := 24) (oi := ?oi2053) (v := ?v2053) ?hi2053 (by kernel_rfl) (by kernel_rfl) (by kernel_rfl) ?hq2053 ?hy2053 (by assumption) ?hr2053
                            case hi2053 => (simp only [List.getElem?_toArray, List.getElem?_cons_succ, List.getElem?_cons_zero]; rfl)
                            case hq2053 => exact fun _ _ _ h => h
                            case hy2053 => first | exact Or.inl ⟨by rfl, by intro whSw hSw'; (try dsimp only at hSw'); (first | (go_simp; done) | (go_simp; with_reducible rfl))⟩ | exact Or.inr ⟨by rfl, by with_reducible rfl⟩ | fail
                            try simp only [Act.put, List.setIfInBounds_toArray, List.set_cons_zero, List.set_cons_succ]
                            refine wpAnyH_take (i := 25) (oi := ?oi2054) (v := ?v2054) ?hi2054 (by kernel_rfl) (by kernel_rfl) (by kernel_rfl) ?hq2054 ?hy2054 (by assumption) ?hr2054
                            case hi2054 => (simp only [List.getElem?_toArray, List.getElem?_cons_succ, List.getElem?_cons_zero]; rfl)
                            case hq2054 => exact fun _ _ _ h => h
                            case hy2054 => first | exact Or.inl ⟨by rfl, by intro whSw hSw'; (try dsimp only at hSw'); (first | (go_simp; done) | (go_simp; with_reducible rfl))⟩ | exact Or.inr ⟨by rfl, by with_reducible rfl⟩ | fail
                            try simp only [Act.put, List.setIfInBounds_toArray, List.set_cons_zero, List.set_cons_succ]
                            refine wpAnyH_take (i := 27) (oi := ?oi2055) (v := ?v2055) ?hi2055 (by kernel_rfl) (by kernel_rfl) (by kernel_rfl) ?hq2055 ?hy2055 (by assumption) ?hr2055
                            case hi2055 => (simp only [List.getElem?_toArray, List.getElem?_cons_succ, List.getElem?_cons_zero]; rfl)
                            case hq2055 => exact fun _ _ _ h => h
                            case hy2055 => first | exact Or.inl ⟨by rfl, by intro whSw hSw'; (try dsimp only at hSw'); (first | (go_simp; done) | (go_simp; with_reducible rfl))⟩ | exact Or.inr ⟨by rfl, by with_reducible rfl⟩ | fail
                            try simp only [Act.put, List.setIfInBounds_toArray, List.set_cons_zero, List.set_cons_succ]
                            refine wpAnyH_take (i := 28) (oi := ?oi2056) (v := ?v2056) ?hi2056 (by kernel_rfl) (by kernel_rfl) (by kernel_rfl) ?hq2056 ?hy2056 (by assumption) ?hr2056
                            case hi2056 => (simp only [List.getElem?_toArray, List.getElem?_cons_succ, List.getElem?_cons_zero]; rfl)
                            case hq2056 => exact fun _ _ _ h => h
                            case hy2056 => first | exact Or.inl ⟨by rfl, by intro whSw hSw'; (try dsimp only at hSw'); (first | (go_simp; done) | (go_simp; with_reducible rfl))⟩ | exact Or.inr ⟨by rfl, by with_reducible rfl⟩ | fail
                            try simp only [Act.put, List.setIfInBounds_toArray, List.set_cons_zero, List.set_cons_succ]
                            refine wpAnyH_take (i := 29) (oi := ?oi2057) (v := ?v2057) ?hi2057 (by kernel_rfl) (by kernel_rfl) (by kernel_rfl) ?hq2057 ?hy2057 (by assumption) ?hr2057
                            case hi2057 => (simp only [List.getElem?_toArray, List.getElem?_cons_succ, List.getElem?_cons_zero]; rfl)
                            case hq2057 => exact fun _ _ _ h => h
                            case hy2057 => first | exact Or.inl ⟨by rfl, by intro whSw hSw'; (try dsimp only at hSw'); (first | (go_simp; done) | (go_simp; with_reducible rfl))⟩ | exact Or.inr ⟨by rfl, by with_reducible rfl⟩ | fail
                            try simp only [Act.put, List.setIfInBounds_toArray, List.set_cons_zero, List.set_cons_succ]
                            refine wpAnyH_ready (rs := [26]) (by kernel_rfl) (by simp) ?_
                            refine AllReadyH.cons (o := ?oo2058) ?hi2058 (fun K hK => ?hs2058) ?hm2058
                            case hi2058 => (simp only [List.getElem?_toArray, List.getElem?_cons_succ, List.getElem?_cons_zero]; rfl)
                            · go_simp
                              refine (HTJ.out _ HX4.out).mono ?_
                              rintro e x5 ⟨⟨u5, rfl, hr5⟩, hb5⟩
                              have HX5 := Lib.hid (below_chain HX4.out HX4.out.size hb5)
                              have HR5 := Lib.hid hr5
                              obtain ⟨A5, d5, rfl, -⟩ := hr5.form
                              clear hr5 hb5
                              (try go_wp2_with fail)
                              refine hK.out _ _ ?_ (fun hHeld => ?_)
                              · (try dsimp only); (first | (with_reducible exact HQ.out _ HX8.out) | (with_reducible exact HQ.out _ HX7.out) | (with_reducible exact HQ.out _ HX6.out) | (with_reducible exact HQ.out _ HX5.out) | (with_reducible exact HQ.out _ HX4.out) | (with_reducible exact HQ.out _ HX3.out) | (with_reducible exact HQ.out _ HX2.out) | (with_reducible exact HQ.out _ HX1.out) | (with_reducible exact HQ.out _ HX0.out) | fail)
                              clear hK K
                              try simp only [Act.put, List.setIfInBounds_toArray, List.set_cons_zero, List.set_cons_succ]
                              refine wpAnyH_ready (rs := [30]) (by kernel_rfl) (by simp) ?_
                              refine AllReadyH.cons (o := ?oo2059) ?hi2059 (fun K hK => ?hs2059) ?hm2059
                              case hi2059 => (simp only [List.getElem?_toArray, List.getElem?_cons_succ, List.getElem?_cons_zero]; rfl)
                              · go_simp
                                refine (HTI.out _ HX5.out).mono ?_
                                rintro e x6 ⟨⟨u6, rfl, hr6⟩, hb6⟩
                                have HX6 := Lib.hid (below_chain HX5.out HX5.out.size hb6)
                                have HSM2 := Lib.hid (sameInts_any (HR5.out.below stays_int hb6) hr6 HLM.out.2 HLM.out.2)
                                rw [decide_eq_true (rfl : ys = ys)] at HSM2
                                obtain ⟨A6, d6, rfl, -⟩ := hr6.form
                                clear hr6 hb6
                                (try go_wp2_with fail)
                                refine hK.out _ _ ?_ (fun hHeld => ?_)
                                · (try dsimp only); (first | (with_reducible exact HQ.out _ HX8.out) | (with_reducible exact HQ.out _ HX7.out) | (with_reducible exact HQ.out _ HX6.out) | (with_reducible exact HQ.out _ HX5.out) | (with_reducible exact HQ.out _ HX4.out) | (with_reducible exact HQ.out _ HX3.out) | (with_reducible exact HQ.out _ HX2.out) | (with_reducible exact HQ.out _ HX1.out) | (with_reducible exact HQ.out _ HX0.out) | fail)
                                clear hK K
                                try simp only [Act.put, List.setIfInBounds_toArray, List.set_cons_zero, List.set_cons_succ]
                                refine wpAnyH_ready (rs := [31]) (by kernel_rfl) (by simp) ?_
                                refine AllReadyH.cons (o := ?oo2060) ?hi2060 (fun K hK => ?hs2060) ?hm2060
                                case hi2060 => (simp only [List.getElem?_toArray, List.getElem?_cons_succ, List.getElem?_cons_zero]; rfl)
                                · go_simp
                                  refine HSM2.out.mono ?_
                                  rintro e x7 ⟨rfl, hb7⟩
                                  have HX7 := Lib.hid (below_chain HX6.out HX6.out.size hb7)
                                  clear hb7
                                  (try go_wp2_with fail)
                                  refine hK.out _ _ ?_ (fun hHeld => ?_)
                                  · (try dsimp only); (first | (with_reducible exact HQ.out _ HX8.out) | (with_reducible exact HQ.out _ HX7.out) | (with_reducible exact HQ.out _ HX6.out) | (with_reducible exact HQ.out _ HX5.out) | (with_reducible exact HQ.out _ HX4.out) | (with_reducible exact HQ.out _ HX3.out) | (with_reducible exact HQ.out _ HX2.out) | (with_reducible exact HQ.out _ HX1.out) | (with_reducible exact HQ.out _ HX0.out) | fail)
                                  clear hK K
                                  try simp only [Act.put, List.setIfInBounds_toArray, List.set_cons_zero, List.set_cons_succ]
                                  refine wpAnyH_take (i := 32) (oi := ?oi2061) (v := ?v2061) ?hi2061 (by kernel_rfl) (by kernel_rfl) (by kernel_rfl) ?hq2061 ?hy2061 (by assumption) ?hr2061
                                  case hi2061 => (simp only [List.getElem?_toArray, List.getElem?_cons_succ, List.getElem?_cons_zero]; rfl)
                                  case hq2061 => exact fun _ _ _ h => h
                                  case hy2061 => exact Or.inl ⟨by rfl, by intro whSw hSw'; (try dsimp only at hSw'); (first | (go_simp; done) | (go_simp; with_reducible rfl))⟩
                                  try simp only [Act.put, List.setIfInBounds_toArray, List.set_cons_zero, List.set_cons_succ]
                                  refine wpAnyH_take (i := 33) (oi := ?oi2062) (v := ?v2062) ?hi2062 (by kernel_rfl) (by kernel_rfl) (by kernel_rfl) ?hq2062 ?hy2062 (by assumption) ?hr2062
                                  case hi2062 => (simp only [List.getElem?_toArray, List.getElem?_cons_succ, List.getElem?_cons_zero]; rfl)
                                  case hq2062 => exact fun _ _ _ h => h
                                  case hy2062 => exact Or.inl ⟨by rfl, by intro whSw hSw'; (try dsimp only at hSw'); (first | (go_simp; done) | (go_simp; with_reducible rfl))⟩
                                  try simp only [Act.put, List.setIfInBounds_toArray, List.set_cons_zero, List.set_cons_succ]
                                  refine wpAnyH_ready (rs := [34]) (by kernel_rfl) (by simp) ?_
                                  refine AllReadyH.cons (o := ?oo2063) ?hi2063 (fun K hK => ?hs2063) ?hm2063
                                  case hi2063 => (simp only [List.getElem?_toArray, List.getElem?_cons_succ, List.getElem?_cons_zero]; rfl)
                                  · go_simp
                                    refine (HA.out _).mono ?_
                                    rintro e x8 ⟨rfl, hb8⟩
                                    have HX8 := Lib.hid (below_chain HX7.out HX7.out.size hb8)
                                    clear hb8
                                    (try go_wp2_with fail)
                                    refine hK.out _ _ ?_ (fun hHeld => ?_)
                                    · (try dsimp only); (first | (with_reducible exact HQ.out _ HX8.out) | (with_reducible exact HQ.out _ HX7.out) | (with_reducible exact HQ.out _ HX6.out) | (with_reducible exact HQ.out _ HX5.out) | (with_reducible exact HQ.out _ HX4.out) | (with_reducible exact HQ.out _ HX3.out) | (with_reducible exact HQ.out _ HX2.out) | (with_reducible exact HQ.out _ HX1.out) | (with_reducible exact HQ.out _ HX0.out) | fail)
                                    clear hK K
                                    try simp only [Act.put, List.setIfInBounds_toArray, List.set_cons_zero, List.set_cons_succ]
                                    refine wpAnyH_take (i := 35) (oi := ?oi2064) (v := ?v2064) ?hi2064 (by kernel_rfl) (by kernel_rfl) (by kernel_rfl) ?hq2064 ?hy2064 (by assumption) ?hr2064
                                    case hi2064 => (simp only [List.getElem?_toArray, List.getElem?_cons_succ, List.getElem?_cons_zero]; rfl)
                                    case hq2064 => exact fun _ _ _ h => h
                                    case hy2064 => exact Or.inl ⟨by rfl, by intro whSw hSw'; (try dsimp only at hSw'); (first | (go_simp; done) | (go_simp; with_reducible rfl))⟩
                                    try simp only [Act.put, List.setIfInBounds_toArray, List.set_cons_zero, List.set_cons_succ]
                                    refine wpAnyH_take (i := 36) (oi := ?oi2065) (v := ?v2065) ?hi2065 (by kernel_rfl) (by kernel_rfl) (by kernel_rfl) ?hq2065 ?hy2065 (by assumption) ?hr2065
                                    case hi2065 => (simp only [List.getElem?_toArray, List.getElem?_cons_succ, List.getElem?_cons_zero]; rfl)
                                    case hq2065 => exact fun _ _ _ h => h
                                    case hy2065 => exact Or.inl ⟨by rfl, by intro whSw hSw'; (try dsimp only at hSw'); (first | (go_simp; done) | (go_simp; with_reducible rfl))⟩
                                    try simp only [Act.put, List.setIfInBounds_toArray, List.set_cons_zero, List.set_cons_succ]
                                    refine wpAnyH_done (by kernel_rfl) ?_ _
                                    have HFIN := Lib.hid (HB0.out.trans ((HBD0.out.trans (HX8.out.mono HBD0.out.size)).mono HNX.out))
                                    go_wp2_with fail
                                    go_ret
                                    exact ⟨rfl, HFIN.out⟩
                                  exact AllReadyH.nil
                                exact AllReadyH.nil
                              exact AllReadyH.nil
                            exact AllReadyH.nil
                          exact AllReadyH.nil
                        exact AllReadyH.nil
                      exact AllReadyH.nil
                    exact AllReadyH.nil
                  exact AllReadyH.nil
                refine AllReadyH.cons (o := ?oo2066) ?hi2066 (fun K hK => ?hs2066) ?hm2066
                case hi2066 => (simp only [List.getElem?_toArray, List.getElem?_cons_succ, List.getElem?_cons_zero]; rfl)
                · go_simp
                  refine hK.out _ _ ?_ (fun hHeld => ?_)
                  · (try dsimp only); (first | (with_reducible exact HQ.out _ HX8.out) | (with_reducible exact HQ.out _ HX7.out) | (with_reducible exact HQ.out _ HX6.out) | (with_reducible exact HQ.out _ HX5.out) | (with_reducible exact HQ.out _ HX4.out) | (with_reducible exact HQ.out _ HX3.out) | (with_reducible exact HQ.out _ HX2.out) | (with_reducible exact HQ.out _ HX1.out) | (with_reducible exact HQ.out _ HX0.out) | fail)
                  clear hK K
                  try simp only [Act.put, List.setIfInBounds_toArray, List.set_cons_zero, List.set_cons_succ]
                  refine wpAnyH_ready (rs := [7]) (by kernel_rfl) (by simp) ?_
                  refine AllReadyH.cons (o := ?oo2067) ?hi2067 (fun K hK => ?hs2067) ?hm2067
                  case hi2067 => (simp only [List.getElem?_toArray, List.getElem?_cons_succ, List.getElem?_cons_zero]; rfl)
                  · go_simp
                    refine (HEJ.out _ HX0.out).mono ?_
                    rintro e x1 ⟨⟨u1, rfl, hs1⟩, hb1⟩
                    have HX1 := Lib.hid (below_chain HX0.out HX0.out.size hb1)
                    have hku := HCV.out x1 _ _ hs1
                    have hkb1 := HKB.out _ HX1.out
                    clear hs1 hb1
                    (try go_wp2_with fail)
                    refine hK.out _ _ ?_ (fun hHeld => ?_)
                    · (try dsimp only); (first | (with_reducible exact HQ.out _ HX8.out) | (with_reducible exact HQ.out _ HX7.out) | (with_reducible exact HQ.out _ HX6.out) | (with_reducible exact HQ.out _ HX5.out) | (with_reducible exact HQ.out _ HX4.out) | (with_reducible exact HQ.out _ HX3.out) | (with_reducible exact HQ.out _ HX2.out) | (with_reducible exact HQ.out _ HX1.out) | (with_reducible exact HQ.out _ HX0.out) | fail)
                    clear hK K
                    try simp only [Act.put, List.setIfInBounds_toArray, List.set_cons_zero, List.set_cons_succ]
                    refine wpAnyH_ready (rs := [8]) (by kernel_rfl) (by simp) ?_
                    refine AllReadyH.cons (o := ?oo2068) ?hi2068 (fun K hK => ?hs2068) ?hm2068
                    case hi2068 => (simp only [List.getElem?_toArray, List.getElem?_cons_succ, List.getElem?_cons_zero]; rfl)
                    · go_simp
                      refine hK.out _ _ ?_ (fun hHeld => ?_)
                      · (try dsimp only); (first | (with_reducible exact HQ.out _ HX8.out) | (with_reducible exact HQ.out _ HX7.out) | (with_reducible exact HQ.out _ HX6.out) | (with_reducible exact HQ.out _ HX5.out) | (with_reducible exact HQ.out _ HX4.out) | (with_reducible exact HQ.out _ HX3.out) | (with_reducible exact HQ.out _ HX2.out) | (with_reducible exact HQ.out _ HX1.out) | (with_reducible exact HQ.out _ HX0.out) | fail)
                      clear hK K
                      try simp only [Act.put, List.setIfInBounds_toArray, List.set_cons_zero, List.set_cons_succ]
                      refine wpAnyH_take (i := 11) (oi := ?oi2069) (v := ?v2069) ?hi2069 (by kernel_rfl) (by kernel_rfl) (by kernel_rfl) ?hq2069 ?hy2069 (by assumption) ?hr2069
                      case hi2069 => (simp only [List.getElem?_toArray, List.getElem?_cons_succ, List.getElem?_cons_zero]; rfl)
                      case hq2069 => exact fun _ _ _ h => h
                      case hy2069 => first | exact Or.inl ⟨by rfl, by intro whSw hSw'; (try dsimp only at hSw'); (first | (go_simp; done) | (go_simp; with_reducible rfl))⟩ | exact Or.inr ⟨by rfl, by with_reducible rfl⟩ | fail
                      try simp only [Act.put, List.setIfInBounds_toArray, List.set_cons_zero, List.set_cons_succ]
                      refine wpAnyH_take (i := 12) (oi := ?oi2070) (v := ?v2070) ?hi2070 (by kernel_rfl) (by kernel_rfl) (by kernel_rfl) ?hq2070 ?hy2070 (by assumption) ?hr2070
                      case hi2070 => (simp only [List.getElem?_toArray, List.getElem?_cons_succ, List.getElem?_cons_zero]; rfl)
                      case hq2070 => exact fun _ _ _ h => h
                      case hy2070 => exact Or.inl ⟨by rfl, by intro whSw hSw'; (try dsimp only at hSw'); (first | (go_simp; done) | (go_simp; with_reducible rfl))⟩
                      try simp only [Act.put, List.setIfInBounds_toArray, List.set_cons_zero, List.set_cons_succ]
                      refine wpAnyH_take (i := 13) (oi := ?oi2071) (v := ?v2071) ?hi2071 (by kernel_rfl) (by kernel_rfl) (by kernel_rfl) ?hq2071 ?hy2071 (by assumption) ?hr2071
                      case hi2071 => (simp only [List.getElem?_toArray, List.getElem?_cons_succ, List.getElem?_cons_zero]; rfl)
                      case hq2071 => exact fun _ _ _ h => h
                      case hy2071 => exact Or.inl ⟨by rfl, by intro whSw hSw'; (try dsimp only at hSw'); (first | (go_simp; done) | (go_simp; with_reducible rfl))⟩
                      try simp only [Act.put, List.setIfInBounds_toArray, List.set_cons_zero, List.set_cons_succ]
                      refine wpAnyH_take (i := 14) (oi := ?oi2072) (v := ?v2072) ?hi2072 (by kernel_rfl) (by kernel_rfl) (by kernel_rfl) ?hq2072 ?hy2072 (by assumption) ?hr2072
                      case hi2072 => (simp only [List.getElem?_toArray, List.getElem?_cons_succ, List.getElem?_cons_zero]; rfl)
                      case hq2072 => exact fun _ _ _ h => h
                      case hy2072 => first | exact Or.inl ⟨by rfl, by intro whSw hSw'; (try dsimp only at hSw'); (first | (go_simp; done) | (go_simp; with_reducible rfl))⟩ | exact Or.inr ⟨by rfl, by with_reducible rfl⟩ | fail
                      try simp only [Act.put, List.setIfInBounds_toArray, List.set_cons_zero, List.set_cons_succ]
                      refine wpAnyH_take (i := 15) (oi := ?oi2073) (v := ?v2073) ?hi2073 (by kernel_rfl) (by kernel_rfl) (by kernel_rfl) ?hq2073 ?hy2073 (by assumption) ?hr2073
                      case hi2073 => (simp only [List.getElem?_toArray, List.getElem?_cons_succ, List.getElem?_cons_zero]; rfl)
                      case hq2073 => exact fun _ _ _ h => h
                      case hy2073 => first | exact Or.inl ⟨by rfl, by intro whSw hSw'; (try dsimp only at hSw'); (first | (go_simp; done) | (go_simp; with_reducible rfl))⟩ | exact Or.inr ⟨by rfl, by with_reducible rfl⟩ | fail
                      try simp only [Act.put, List.setIfInBounds_toArray, List.set_cons_zero, List.set_cons_succ]
                      refine wpAnyH_take (i := 17) (oi := ?oi2074) (v := ?v2074) ?hi2074 (by kernel_rfl) (by kernel_rfl) (by kernel_rfl) ?hq2074 ?hy2074 (by assumption) ?hr2074
                      case hi2074 => (simp only [List.getElem?_toArray, List.getElem?_cons_succ, List.getElem?_cons_zero]; rfl)
                      case hq2074 => exact fun _ _ _ h => h
                      case hy2074 => first | exact Or.inl ⟨by rfl, by intro whSw hSw'; (try dsimp only at hSw'); (first | (go_simp; done) | (go_simp; with_reducible rfl))⟩ | exact Or.inr ⟨by rfl, by with_reducible rfl⟩ | fail
                      try simp only [Act.put, List.setIfInBounds_toArray, List.set_cons_zero, List.set_cons_succ]
                      refine wpAnyH_take (i := 18) (oi := ?oi2075) (v := ?v2075) ?hi2075 (by kernel_rfl) (by kernel_rfl) (by kernel_rfl) ?hq2075 ?hy2075 (by assumption) ?hr2075
                      case hi2075 => (simp only [List.getElem?_toArray, List.getElem?_cons_succ, List.getElem?_cons_zero]; rfl)
                      case hq2075 => exact fun _ _ _ h => h
                      case hy2075 => first | exact Or.inl ⟨by rfl, by intro whSw hSw'; (try dsimp only at hSw'); (first | (go_simp; done) | (go_simp; with_reducible rfl))⟩ | exact Or.inr ⟨by rfl, by with_reducible rfl⟩ | fail
                      try simp only [Act.put, List.setIfInBounds_toArray, List.set_cons_zero, List.set_cons_succ]
                      refine wpAnyH_ready (rs := [16]) (by kernel_rfl) (by simp) ?_
                      refine AllReadyH.cons (o := ?oo2076) ?hi2076 (fun K hK => ?hs2076) ?hm2076
                      case hi2076 => (simp only [List.getElem?_toArray, List.getElem?_cons_succ, List.getElem?_cons_zero]; rfl)
                      · go_simp
                        refine (HPJ.out _ HX1.out).mono ?_
                        rintro e x2 ⟨⟨u2, rfl, hr2⟩, hb2⟩
                        have HX2 := Lib.hid (below_chain HX1.out HX1.out.size hb2)
                        have HR2 := Lib.hid hr2
                        obtain ⟨A2, d2, rfl, -⟩ := hr2.form
                        clear hr2 hb2
                        (try go_wp2_with fail)
                        refine hK.out _ _ ?_ (fun hHeld => ?_)
                        · (try dsimp only); (first | (with_reducible exact HQ.out _ HX8.out) | (with_reducible exact HQ.out _ HX7.out) | (with_reducible exact HQ.out _ HX6.out) | (with_reducible exact HQ.out _ HX5.out) | (with_reducible exact HQ.out _ HX4.out) | (with_reducible exact HQ.out _ HX3.out) | (with_reducible exact HQ.out _ HX2.out) | (with_reducible exact HQ.out _ HX1.out) | (with_reducible exact HQ.out _ HX0.out) | fail)
                        clear hK K
                        try simp only [Act.put, List.setIfInBounds_toArray, List.set_cons_zero, List.set_cons_succ]
                        refine wpAnyH_ready (rs := [19]) (by kernel_rfl) (by simp) ?_
                        refine AllReadyH.cons (o := ?oo2077) ?hi2077 (fun K hK => ?hs2077) ?hm2077
                        case hi2077 => (simp only [List.getElem?_toArray, List.getElem?_cons_succ, List.getElem?_cons_zero]; rfl)
                        · go_simp
                          refine (HPI.out _ HX2.out).mono ?_
                          rintro e x3 ⟨⟨u3, rfl, hr3⟩, hb3⟩
                          have HX3 := Lib.hid (below_chain HX2.out HX2.out.size hb3)
                          have HSM1 := Lib.hid (sameInts_any (HR2.out.below stays_int hb3) hr3 HLM.out.1 HLM.out.1)
                          rw [decide_eq_true (rfl : xs = xs)] at HSM1
                          obtain ⟨A3, d3, rfl, -⟩ := hr3.form
                          clear hr3 hb3
                          (try go_wp2_with fail)
                          refine hK.out _ _ ?_ (fun hHeld => ?_)
                          · (try dsimp only); (first | (with_reducible exact HQ.out _ HX8.out) | (with_reducible exact HQ.out _ HX7.out) | (with_reducible exact HQ.out _ HX6.out) | (with_reducible exact HQ.out _ HX5.out) | (with_reducible exact HQ.out _ HX4.out) | (with_reducible exact HQ.out _ HX3.out) | (with_reducible exact HQ.out _ HX2.out) | (with_reducible exact HQ.out _ HX1.out) | (with_reducible exact HQ.out _ HX0.out) | fail)
                          clear hK K
                          try simp only [Act.put, List.setIfInBounds_toArray, List.set_cons_zero, List.set_cons_succ]
                          refine wpAnyH_ready (rs := [20]) (by kernel_rfl) (by simp) ?_
                          refine AllReadyH.cons (o := ?oo2078) ?hi2078 (fun K hK => ?hs2078) ?hm2078
                          case hi2078 => (simp only [List.getElem?_toArray, List.getElem?_cons_succ, List.getElem?_cons_zero]; rfl)
                          · go_simp
                            refine HSM1.out.mono ?_
                            rintro e x4 ⟨rfl, hb4⟩
                            have HX4 := Lib.hid (below_chain HX3.out HX3.out.size hb4)
                            clear hb4
                            (try go_wp2_with fail)
                            refine hK.out _ _ ?_ (fun hHeld => ?_)
                            · (try dsimp only); (first | (with_reducible exact HQ.out _ HX8.out) | (with_reducible exact HQ.out _ HX7.out) | (with_reducible exact HQ.out _ HX6.out) | (with_reducible exact HQ.out _ HX5.out) | (with_reducible exact HQ.out _ HX4.out) | (with_reducible exact HQ.out _ HX3.out) | (with_reducible exact HQ.out _ HX2.out) | (with_reducible exact HQ.out _ HX1.out) | (with_reducible exact HQ.out _ HX0.out) | fail)
                            clear hK K
                            try simp only [Act.put, List.setIfInBounds_toArray, List.set_cons_zero, List.set_cons_succ]
                            refine wpAnyH_take (i := 21) (oi := ?oi2079) (v := ?v2079) ?hi2079 (by kernel_rfl) (by kernel_rfl) (by kernel_rfl) ?hq2079 ?hy2079 (by assumption) ?hr2079
                            case hi2079 => (simp only [List.getElem?_toArray, List.getElem?_cons_succ, List.getElem?_cons_zero]; rfl)
                            case hq2079 => exact fun _ _ _ h => h
                            case hy2079 => exact Or.inl ⟨by rfl, by intro whSw hSw'; (try dsimp only at hSw'); (first | (go_simp; done) | (go_simp; with_reducible rfl))⟩
                            try simp only [Act.put, List.setIfInBounds_toArray, List.set_cons_zero, List.set_cons_succ]
                            refine wpAnyH_take (i := 22) (oi := ?oi2080) (v := ?v2080) ?hi2080 (by kernel_rfl) (by kernel_rfl) (by kernel_rfl) ?hq2080 ?hy2080 (by assumption) ?hr2080
                            case hi2080 => (simp only [List.getElem?_toArray, List.getElem?_cons_succ, List.getElem?_cons_zero]; rfl)
                            case hq2080 => exact fun _ _ _ h => h
                            case hy2080 => exact Or.inl ⟨by rfl, by intro whSw hSw'; (try dsimp only at hSw'); (first | (go_simp; done) | (go_simp; with_reducible rfl))⟩
                            try simp only [Act.put, List.setIfInBounds_toArray, List.set_cons_zero, List.set_cons_succ]
                            refine wpAnyH_take (i := 23) (oi := ?oi2081) (v := ?v2081) ?hi2081 (by kernel_rfl) (by kernel_rfl) (by kernel_rfl) ?hq2081 ?hy2081 (by assumption) ?hr2081
                            case hi2081 => (simp only [List.getElem?_toArray, List.getElem?_cons_succ, List.getElem?_cons_zero]; rfl)
                            case hq2081 => exact fun _ _ _ h => h
                            case hy2081 => first | exact Or.inl ⟨by rfl, by intro whSw hSw'; (try dsimp only at hSw'); (first | (go_simp; done) | (go_simp; with_reducible rfl))⟩ | exact Or.inr ⟨by rfl, by with_reducible rfl⟩ | fail
                            try simp only [Act.put, List.setIfInBounds_toArray, List.set_cons_zero, List.set_cons_succ]
                            refine wpAnyH_take (i := 24) (oi := ?oi2082) (v := ?v2082) ?hi2082 (by kernel_rfl) (by kernel_rfl) (by kernel_rfl) ?hq2082 ?hy2082 (by assumption) ?hr2082
                            case hi2082 => (simp only [List.getElem?_toArray, List.getElem?_cons_succ, List.getElem?_cons_zero]; rfl)
                            case hq2082 => exact fun _ _ _ h => h
                            case hy2082 => first | exact Or.inl ⟨by rfl, by intro whSw hSw'; (try dsimp only at hSw'); (first | (go_simp; done) | (go_simp; with_reducible rfl))⟩ | exact Or.inr ⟨by rfl, by with_reducible rfl⟩ | fail
                            try simp only [Act.put, List.setIfInBounds_toArray, List.set_cons_zero, List.set_cons_succ]
                            refine wpAnyH_take (i := 25) (oi := ?oi2083) (v := ?v2083) ?hi2083 (by kernel_rfl) (by kernel_rfl) (by kernel_rfl) ?hq2083 ?hy2083 (by assumption) ?hr2083
                            case hi2083 => (simp only [List.getElem?_toArray, List.getElem?_cons_succ, List.getElem?_cons_zero]; rfl)
                            case hq2083 => exact fun _ _ _ h => h
                            case hy2083 => first | exact Or.inl ⟨by rfl, by intro whSw hSw'; (try dsimp only at hSw'); (first | (go_simp; done) | (go_simp; with_reducible rfl))⟩ | exact Or.inr ⟨by rfl, by with_reducible rfl⟩ | fail
                            try simp only [Act.put, List.setIfInBounds_toArray, List.set_cons_zero, List.set_cons_succ]
                            refine wpAnyH_take (i := 27) (oi := ?oi2084) (v := ?v2084) ?hi2084 (by kernel_rfl) (by kernel_rfl) (by kernel_rfl) ?hq2084 ?hy2084 (by assumption) ?hr2084
                            case hi2084 => (simp only [List.getElem?_toArray, List.getElem?_cons_succ, List.getElem?_cons_zero]; rfl)
                            case hq2084 => exact fun _ _ _ h => h
                            case hy2084 => first | exact Or.inl ⟨by rfl, by intro whSw hSw'; (try dsimp only at hSw'); (first | (go_simp; done) | (go_simp; with_reducible rfl))⟩ | exact Or.inr ⟨by rfl, by with_reducible rfl⟩ | fail
                            try simp only [Act.put, List.setIfInBounds_toArray, List.set_cons_zero, List.set_cons_succ]
                            refine wpAnyH_take (i := 28) (oi := ?oi2085) (v := ?v2085) ?hi2085 (by kernel_rfl) (by kernel_rfl) (by kernel_rfl) ?hq2085 ?hy2085 (by assumption) ?hr2085
                            case hi2085 => (simp only [List.getElem?_toArray, List.getElem?_cons_succ, List.getElem?_cons_zero]; rfl)
                            case hq2085 => exact fun _ _ _ h => h
                            case hy2085 => first | exact Or.inl ⟨by rfl, by intro whSw hSw'; (try dsimp only at hSw'); (first | (go_simp; done) | (go_simp; with_reducible rfl))⟩ | exact Or.inr ⟨by rfl, by with_reducible rfl⟩ | fail
                            try simp only [Act.put, List.setIfInBounds_toArray, List.set_cons_zero, List.set_cons_succ]
                            refine wpAnyH_take (i := 29) (oi := ?oi2086) (v := ?v2086) ?hi2086 (by kernel_rfl) (by kernel_rfl) (by kernel_rfl) ?hq2086 ?hy2086 (by assumption) ?hr2086
                            case hi2086 => (simp only [List.getElem?_toArray, List.getElem?_cons_succ, List.getElem?_cons_zero]; rfl)
                            case hq2086 => exact fun _ _ _ h => h
                            case hy2086 => first | exact Or.inl ⟨by rfl, by intro whSw hSw'; (try dsimp only at hSw'); (first | (go_simp; done) | (go_simp; with_reducible rfl))⟩ | exact Or.inr ⟨by rfl, by with_reducible rfl⟩ | fail
                            try simp only [Act.put, List.setIfInBounds_toArray, List.set_cons_zero, List.set_cons_succ]
                            refine wpAnyH_ready (rs := [26]) (by kernel_rfl) (by simp) ?_
                            refine AllReadyH.cons (o := ?oo2087) ?hi2087 (fun K hK => ?hs2087) ?hm2087
                            case hi2087 => (simp only [List.getElem?_toArray, List.getElem?_cons_succ, List.getElem?_cons_zero]; rfl)
                            · go_simp
                              refine (HTJ.out _ HX4.out).mono ?_
                              rintro e x5 ⟨⟨u5, rfl, hr5⟩, hb5⟩
                              have HX5 := Lib.hid (below_chain HX4.out HX4.out.size hb5)
                              have HR5 := Lib.hid hr5
                              obtain ⟨A5, d5, rfl, -⟩ := hr5.form
                              clear hr5 hb5
                              (try go_wp2_with fail)
                              refine hK.out _ _ ?_ (fun hHeld => ?_)
                              · (try dsimp only); (first | (with_reducible exact HQ.out _ HX8.out) | (with_reducible exact HQ.out _ HX7.out) | (with_reducible exact HQ.out _ HX6.out) | (with_reducible exact HQ.out _ HX5.out) | (with_reducible exact HQ.out _ HX4.out) | (with_reducible exact HQ.out _ HX3.out) | (with_reducible exact HQ.out _ HX2.out) | (with_reducible exact HQ.out _ HX1.out) | (with_reducible exact HQ.out _ HX0.out) | fail)
                              clear hK K
                              try simp only [Act.put, List.setIfInBounds_toArray, List.set_cons_zero, List.set_cons_succ]
                              refine wpAnyH_ready (rs := [30]) (by kernel_rfl) (by simp) ?_
                              refine AllReadyH.cons (o := ?oo2088) ?hi2088 (fun K hK => ?hs2088) ?hm2088
                              case hi2088 => (simp only [List.getElem?_toArray, List.getElem?_cons_succ, List.getElem?_cons_zero]; rfl)
                              · go_simp
                                refine (HTI.out _ HX5.out).mono ?_
                                rintro e x6 ⟨⟨u6, rfl, hr6⟩, hb6⟩
                                have HX6 := Lib.hid (below_chain HX5.out HX5.out.size hb6)
                                have HSM2 := Lib.hid (sameInts_any (HR5.out.below stays_int hb6) hr6 HLM.out.2 HLM.out.2)
                                rw [decide_eq_true (rfl : ys = ys)] at HSM2
                                obtain ⟨A6, d6, rfl, -⟩ := hr6.form
                                clear hr6 hb6
                                (try go_wp2_with fail)
                                refine hK.out _ _ ?_ (fun hHeld => ?_)
                                · (try dsimp only); (first | (with_reducible exact HQ.out _ HX8.out) | (with_reducible exact HQ.out _ HX7.out) | (with_reducible exact HQ.out _ HX6.out) | (with_reducible exact HQ.out _ HX5.out) | (with_reducible exact HQ.out _ HX4.out) | (with_reducible exact HQ.out _ HX3.out) | (with_reducible exact HQ.out _ HX2.out) | (with_reducible exact HQ.out _ HX1.out) | (with_reducible exact HQ.out _ HX0.out) | fail)
                                clear hK K
                                try simp only [Act.put, List.setIfInBounds_toArray, List.set_cons_zero, List.set_cons_succ]
                                refine wpAnyH_ready (rs := [31]) (by kernel_rfl) (by simp) ?_
                                refine AllReadyH.cons (o := ?oo2089) ?hi2089 (fun K hK => ?hs2089) ?hm2089
                                case hi2089 => (simp only [List.getElem?_toArray, List.getElem?_cons_succ, List.getElem?_cons_zero]; rfl)
                                · go_simp
                                  refine HSM2.out.mono ?_
                                  rintro e x7 ⟨rfl, hb7⟩
                                  have HX7 := Lib.hid (below_chain HX6.out HX6.out.size hb7)
                                  clear hb7
                                  (try go_wp2_with fail)
                                  refine hK.out _ _ ?_ (fun hHeld => ?_)
                                  · (try dsimp only); (first | (with_reducible exact HQ.out _ HX8.out) | (with_reducible exact HQ.out _ HX7.out) | (with_reducible exact HQ.out _ HX6.out) | (with_reducible exact HQ.out _ HX5.out) | (with_reducible exact HQ.out _ HX4.out) | (with_reducible exact HQ.out _ HX3.out) | (with_reducible exact HQ.out _ HX2.out) | (with_reducible exact HQ.out _ HX1.out) | (with_reducible exact HQ.out _ HX0.out) | fail)
                                  clear hK K
                                  try simp only [Act.put, List.setIfInBounds_toArray, List.set_cons_zero, List.set_cons_succ]
                                  refine wpAnyH_take (i := 32) (oi := ?oi2090) (v := ?v2090) ?hi2090 (by kernel_rfl) (by kernel_rfl) (by kernel_rfl) ?hq2090 ?hy2090 (by assumption) ?hr2090
                                  case hi2090 => (simp only [List.getElem?_toArray, List.getElem?_cons_succ, List.getElem?_cons_zero]; rfl)
                                  case hq2090 => exact fun _ _ _ h => h
                                  case hy2090 => exact Or.inl ⟨by rfl, by intro whSw hSw'; (try dsimp only at hSw'); (first | (go_simp; done) | (go_simp; with_reducible rfl))⟩
                                  try simp only [Act.put, List.setIfInBounds_toArray, List.set_cons_zero, List.set_cons_succ]
                                  refine wpAnyH_take (i := 33) (oi := ?oi2091) (v := ?v2091) ?hi2091 (by kernel_rfl) (by kernel_rfl) (by kernel_rfl) ?hq2091 ?hy2091 (by assumption) ?hr2091
                                  case hi2091 => (simp only [List.getElem?_toArray, List.getElem?_cons_succ, List.getElem?_cons_zero]; rfl)
                                  case hq2091 => exact fun _ _ _ h => h
                                  case hy2091 => exact Or.inl ⟨by rfl, by intro whSw hSw'; (try dsimp only at hSw'); (first | (go_simp; done) | (go_simp; with_reducible rfl))⟩
                                  try simp only [Act.put, List.setIfInBounds_toArray, List.set_cons_zero, List.set_cons_succ]
                                  refine wpAnyH_ready (rs := [34]) (by kernel_rfl) (by simp) ?_
                                  refine AllReadyH.cons (o := ?oo2092) ?hi2092 (fun K hK => ?hs2092) ?hm2092
                                  case hi2092 => (simp only [List.getElem?_toArray, List.getElem?_cons_succ, List.getElem?_cons_zero]; rfl)
                                  · go_simp
                                    refine (HA.out _).mono ?_
                                    rintro e x8 ⟨rfl, hb8⟩
                                    have HX8 := Lib.hid (below_chain HX7.out HX7.out.size hb8)
                                    clear hb8
                                    (try go_wp2_with fail)
                                    refine hK.out _ _ ?_ (fun hHeld => ?_)
                                    · (try dsimp only); (first | (with_reducible exact HQ.out _ HX8.out) | (with_reducible exact HQ.out _ HX7.out) | (with_reducible exact HQ.out _ HX6.out) | (with_reducible exact HQ.out _ HX5.out) | (with_reducible exact HQ.out _ HX4.out) | (with_reducible exact HQ.out _ HX3.out) | (with_reducible exact HQ.out _ HX2.out) | (with_reducible exact HQ.out _ HX1.out) | (with_reducible exact HQ.out _ HX0.out) | fail)
                                    clear hK K
                                    try simp only [Act.put, List.setIfInBounds_toArray, List.set_cons_zero, List.set_cons_succ]
                                    refine wpAnyH_take (i := 35) (oi := ?oi2093) (v := ?v2093) ?hi2093 (by kernel_rfl) (by kernel_rfl) (by kernel_rfl) ?hq2093 ?hy2093 (by assumption) ?hr2093
                                    case hi2093 => (simp only [List.getElem?_toArray, List.getElem?_cons_succ, List.getElem?_cons_zero]; rfl)
                                    case hq2093 => exact fun _ _ _ h => h
                                    case hy2093 => exact Or.inl ⟨by rfl, by intro whSw hSw'; (try dsimp only at hSw'); (first | (go_simp; done) | (go_simp; with_reducible rfl))⟩
                                    try simp only [Act.put, List.setIfInBounds_toArray, List.set_cons_zero, List.set_cons_succ]
                                    refine wpAnyH_take (i := 36) (oi := ?oi2094) (v := ?v2094) ?hi2094 (by kernel_rfl) (by kernel_rfl) (by kernel_rfl) ?hq2094 ?hy2094 (by assumption) ?hr2094
                                    case hi2094 => (simp only [List.getElem?_toArray, List.getElem?_cons_succ, List.getElem?_cons_zero]; rfl)
                                    case hq2094 => exact fun _ _ _ h => h
                                    case hy2094 => exact Or.inl ⟨by rfl, by intro whSw hSw'; (try dsimp only at hSw'); (first | (go_simp; done) | (go_simp; with_reducible rfl))⟩
                                    try simp only [Act.put, List.setIfInBounds_toArray, List.set_cons_zero, List.set_cons_succ]
                                    refine wpAnyH_done (by kernel_rfl) ?_ _
                                    have HFIN := Lib.hid (HB0.out.trans ((HBD0.out.trans (HX8.out.mono HBD0.out.size)).mono HNX.out))
                                    go_wp2_with fail
                                    go_ret
                                    exact ⟨rfl, HFIN.out⟩
                                  exact AllReadyH.nil
                                exact AllReadyH.nil
                              exact AllReadyH.nil
                            exact AllReadyH.nil
                          exact AllReadyH.nil
                        exact AllReadyH.nil
                      exact AllReadyH.nil
                    exact AllReadyH.nil
                  exact AllReadyH.nil
                exact AllReadyH.nil
              exact AllReadyH.nil
            exact AllReady.nil
          refine AllReady.cons (o := ?oo27) ?hi27 (fun K hK => ?hs27) ?hm27
          case hi27 => (simp only [List.getElem?_toArray, List.getElem?_cons_succ, List.getElem?_cons_zero]; rfl)
          · go_simp
            refine hK _ _ ?_; clear hK K
            try simp only [Act.put, List.setIfInBounds_toArray, List.set_cons_zero, List.set_cons_succ]
            refine wpAny_ready (rs := [1]) (by kernel_rfl) (by simp) ?_
            refine AllReady.cons (o := ?oo28) ?hi28 (fun K hK => ?hs28) ?hm28
            case hi28 => (simp only [List.getElem?_toArray, List.getElem?_cons_succ, List.getElem?_cons_zero]; rfl)
            · go_simp
              refine hK _ _ ?_; clear hK K
              try simp only [Act.put, List.setIfInBounds_toArray, List.set_cons_zero, List.set_cons_succ]
              refine wpAny_take (i := 5) (oi := ?oi29) (v := ?v29) ?hi29 (by kernel_rfl) (by kernel_rfl) (by kernel_rfl) ?hq29 ?hy29 ?hr29
              case hi29 => (simp only [List.getElem?_toArray, List.getElem?_cons_succ, List.getElem?_cons_zero]; rfl)
              case hq29 => exact fun _ _ _ h => h
              case hy29 => exact Or.inl ⟨by rfl, by intro w; (first | (go_simp; done) | (go_simp; with_reducible rfl))⟩
              try simp only [Act.put, List.setIfInBounds_toArray, List.set_cons_zero, List.set_cons_succ]
              refine wpAny_take (i := 6) (oi := ?oi30) (v := ?v30) ?hi30 (by kernel_rfl) (by kernel_rfl) (by kernel_rfl) ?hq30 ?hy30 ?hr30
              case hi30 => (simp only [List.getElem?_toArray, List.getElem?_cons_succ, List.getElem?_cons_zero]; rfl)
              case hq30 => exact fun _ _ _ h => h
              case hy30 => exact Or.inl ⟨by rfl, by intro w; (first | (go_simp; done) | (go_simp; with_reducible rfl))⟩
              try simp only [Act.put, List.setIfInBounds_toArray, List.set_cons_zero, List.set_cons_succ]
              refine wpAny_take (i := 7) (oi := ?oi31) (v := ?v31) ?hi31 (by kernel_rfl) (by kernel_rfl) (by kernel_rfl) ?hq31 ?hy31 ?hr31
              case hi31 => (simp only [List.getElem?_toArray, List.getElem?_cons_succ, List.getElem?_cons_zero]; rfl)
              case hq31 => exact fun _ _ _ h => h
              case hy31 => first | exact Or.inl ⟨by rfl, by intro w; (first | (go_simp; done) | (go_simp; with_reducible rfl))⟩ | exact Or.inr ⟨by rfl, by with_reducible rfl⟩ | fail
              try simp only [Act.put, List.setIfInBounds_toArray, List.set_cons_zero, List.set_cons_succ]
              refine wpAny_take (i := 8) (oi := ?oi32) (v := ?v32) ?hi32 (by kernel_rfl) (by kernel_rfl) (by kernel_rfl) ?hq32 ?hy32 ?hr32
              case hi32 => (simp only [List.getElem?_toArray, List.getElem?_cons_succ, List.getElem?_cons_zero]; rfl)
              case hq32 => exact fun _ _ _ h => h
              case hy32 => first | exact Or.inl ⟨by rfl, by intro w; (first | (go_simp; done) | (go_simp; with_reducible rfl))⟩ | exact Or.inr ⟨by rfl, by with_reducible rfl⟩ | fail
              try simp only [Act.put, List.setIfInBounds_toArray, List.set_cons_zero, List.set_cons_succ]
              refine wpAny_take (i := 9) (oi := ?oi33) (v := ?v33) ?hi33 (by kernel_rfl) (by kernel_rfl) (by kernel_rfl) ?hq33 ?hy33 ?hr33
              case hi33 => (simp only [List.getElem?_toArray, List.getElem?_cons_succ, List.getElem?_cons_zero]; rfl)
              case hq33 => exact fun _ _ _ h => h
              case hy33 => exact Or.inl ⟨by rfl, by intro w; (first | (go_simp; done) | (go_simp; with_reducible rfl))⟩
              try simp only [Act.put, List.setIfInBounds_toArray, List.set_cons_zero, List.set_cons_succ]
              refine wpAny_take (i := 10) (oi := ?oi34) (v := ?v34) ?hi34 (by kernel_rfl) (by kernel_rfl) (by kernel_rfl) ?hq34 ?hy34 ?hr34
              case hi34 => (simp only [List.getElem?_toArray, List.getElem?_cons_succ, List.getElem?_cons_zero]; rfl)
              case hq34 => exact fun _ _ _ h => h
              case hy34 => exact Or.inl ⟨by rfl, by intro w; (first | (go_simp; done) | (go_simp; with_reducible rfl))⟩
              try simp only [Act.put, List.setIfInBounds_toArray, List.set_cons_zero, List.set_cons_succ]
              refine wpAny_take (i := 11) (oi := ?oi35) (v := ?v35) ?hi35 (by kernel_rfl) (by kernel_rfl) (by kernel_rfl) ?hq35 ?hy35 ?hr35
              case hi35 => (simp only [List.getElem?_toArray, List.getElem?_cons_succ, List.getElem?_cons_zero]; rfl)
              case hq35 => exact fun _ _ _ h => h
              case hy35 => first | exact Or.inl ⟨by rfl, by intro w; (first | (go_simp; done) | (go_simp; with_reducible rfl))⟩ | exact Or.inr ⟨by rfl, by with_reducible rfl⟩ | fail
              try simp only [Act.put, List.setIfInBounds_toArray, List.set_cons_zero, List.set_cons_succ]
              refine wpAny_take (i := 12) (oi := ?oi36) (v := ?v36) ?hi36 (by kernel_rfl) (by kernel_rfl) (by kernel_rfl) ?hq36 ?hy36 ?hr36
              case hi36 => (simp only [List.getElem?_toArray, List.getElem?_cons_succ, List.getElem?_cons_zero]; rfl)
              case hq36 => exact fun _ _ _ h => h
              case hy36 => first | exact Or.inl ⟨by rfl, by intro w; (first | (go_simp; done) | (go_simp; with_reducible rfl))⟩ | exact Or.inr ⟨by rfl, by with_reducible rfl⟩ | fail
              try simp only [Act.put, List.setIfInBounds_toArray, List.set_cons_zero, List.set_cons_succ]
              refine wpAny_take (i := 13) (oi := ?oi37) (v := ?v37) ?hi37 (by kernel_rfl) (by kernel_rfl) (by kernel_rfl) ?hq37 ?hy37 ?hr37
              case hi37 => (simp only [List.getElem?_toArray, List.getElem?_cons_succ, List.getElem?_cons_zero]; rfl)
              case hq37 => exact fun _ _ _ h => h
              case hy37 => exact Or.inl ⟨by rfl, by intro w; (first | (go_simp; done) | (go_simp; with_reducible rfl))⟩
              try simp only [Act.put, List.setIfInBounds_toArray, List.set_cons_zero, List.set_cons_succ]
              refine wpAny_done (by kernel_rfl) ?_ _
              go_wp2_with fail
              have hI0 := HI4.out.below (Below.refl _ _).drew
              have hJ0 := HJ4.out.below (Below.refl _ _).drew
              have hbd := HB4.out.drew
              have hs0 := (HS4.out.below (Below.refl _ _).drew).mono (Below.refl w4.heap.size w4).drew.size
              have hb4 := Below.refl w4.drew.heap.size w4.drew
              obtain ⟨W0, hW0⟩ : ∃ W, w4.drew = W := ⟨_, rfl⟩
              rw [hW0] at hI0 hJ0 hbd hs0 hb4
              have HPI := Lib.hid (fun W (h : Below W0.heap.size W0 W) => HC1.out W B (hI0.below h))
              have HPJ := Lib.hid (fun W (h : Below W0.heap.size W0 W) => HC1.out W B' (hJ0.below h))
              have HTI := Lib.hid (fun W (h : Below W0.heap.size W0 W) => HC2.out W B (hI0.below h))
              have HTJ := Lib.hid (fun W (h : Below W0.heap.size W0 W) => HC2.out W B' (hJ0.below h))
              have HLJ := Lib.hid (fun W (h : Below W0.heap.size W0 W) => HLE.out W B' (hJ0.below h))
              have HEJ := Lib.hid (fun W (h : Below W0.heap.size W0 W) => HEN.out W B' (hJ0.below h) H0.out (below_chain hbd hbd.size h))
              have HKB := Lib.hid (fun W (h : Below W0.heap.size W0 W) => HCV.out W _ _ (hs0.below h))
              have HQ := Lib.hid (fun W (h : Below W0.heap.size W0 W) => HD.out W (below_chain hbd hbd.size h))
              have HX0 := Lib.hid hb4
              have HBD0 := Lib.hid hbd
              have hkb0 := HKB.out _ HX0.out
              clear hI0 hJ0 hbd hs0 hb4 HI4 HJ4 HS4 HI3 HJ3 HS3 HB3 HRF HC1 HC2 HLE HEN HRE HD
              refine wp_region_held_drew (S := (fun W' => W'.cell? ⟨N, 0, none⟩ = some (.int .i64 b) ∧ W'.cell? ⟨N, 1, none⟩ = some (.int .i64 e))) (by kernel_rfl) ?_ (fun hHeld => ?_)
              · (try dsimp only); rw [hW0]; exact HQ.out _ HX0.out
              rw [hW0] at hHeld ⊢
              refine wpAnyH_take (i := 0) (oi := ?oi3001) (v := ?v3001) ?hi3001 (by kernel_rfl) (by kernel_rfl) (by kernel_rfl) ?hq3001 ?hy3001 (by assumption) ?hr3001
              case hi3001 => (simp only [List.getElem?_toArray, List.getElem?_cons_zero]; rfl)
              case hq3001 => exact fun _ _ _ h => h
              case hy3001 => exact Or.inl ⟨by rfl, by intro whSw hSw'; (try dsimp only at hSw'); (first | (go_simp; done) | (go_simp; with_reducible rfl))⟩
              try simp only [Act.put, List.setIfInBounds_toArray, List.set_cons_zero, List.set_cons_succ]
              refine wpAnyH_take (i := 2) (oi := ?oi3002) (v := ?v3002) ?hi3002 (by kernel_rfl) (by kernel_rfl) (by kernel_rfl) ?hq3002 ?hy3002 (by assumption) ?hr3002
              case hi3002 => (simp only [List.getElem?_toArray, List.getElem?_cons_succ, List.getElem?_cons_zero]; rfl)
              case hq3002 => exact fun _ _ _ h => h
              case hy3002 => exact Or.inl ⟨by rfl, by intro whSw hSw'; (try dsimp only at hSw'); (first | (go_simp; done) | (go_simp; with_reducible rfl))⟩
              try simp only [Act.put, List.setIfInBounds_toArray, List.set_cons_zero, List.set_cons_succ]
              refine wpAnyH_take (i := 3) (oi := ?oi3003) (v := ?v3003) ?hi3003 (by kernel_rfl) (by kernel_rfl) (by kernel_rfl) ?hq3003 ?hy3003 (by assumption) ?hr3003
              case hi3003 => (simp only [List.getElem?_toArray, List.getElem?_cons_succ, List.getElem?_cons_zero]; rfl)
              case hq3003 => exact fun _ _ _ h => h
              case hy3003 => exact Or.inl ⟨by rfl, by intro whSw hSw'; (try dsimp only at hSw'); (first | (go_simp; done) | (go_simp; with_reducible rfl))⟩
              try simp only [Act.put, List.setIfInBounds_toArray, List.set_cons_zero, List.set_cons_succ]
              refine wpAnyH_ready (rs := [1]) (by kernel_rfl) (by simp) ?_
              refine AllReadyH.cons (o := ?oo3004) ?hi3004 (fun K hK => ?hs3004) ?hm3004
              case hi3004 => (simp only [List.getElem?_toArray, List.getElem?_cons_succ, List.getElem?_cons_zero]; rfl)
              · go_simp
                refine (HLJ.out _ HX0.out).mono ?_
                rintro e x0 ⟨rfl, rfl⟩
                (try go_wp2_with fail)
                refine hK.out _ _ ?_ (fun hHeld => ?_)
                · (try dsimp only); (first | (with_reducible exact HQ.out _ HX8.out) | (with_reducible exact HQ.out _ HX7.out) | (with_reducible exact HQ.out _ HX6.out) | (with_reducible exact HQ.out _ HX5.out) | (with_reducible exact HQ.out _ HX4.out) | (with_reducible exact HQ.out _ HX3.out) | (with_reducible exact HQ.out _ HX2.out) | (with_reducible exact HQ.out _ HX1.out) | (with_reducible exact HQ.out _ HX0.out) | fail)
                clear hK K
                try simp only [Act.put, List.setIfInBounds_toArray, List.set_cons_zero, List.set_cons_succ]
                refine wpAnyH_take (i := 4) (oi := ?oi3005) (v := ?v3005) ?hi3005 (by kernel_rfl) (by kernel_rfl) (by kernel_rfl) ?hq3005 ?hy3005 (by assumption) ?hr3005
                case hi3005 => (simp only [List.getElem?_toArray, List.getElem?_cons_succ, List.getElem?_cons_zero]; rfl)
                case hq3005 => exact fun _ _ _ h => h
                case hy3005 => exact Or.inl ⟨by rfl, by intro whSw hSw'; (try dsimp only at hSw'); (first | (go_simp; done) | (go_simp; with_reducible rfl))⟩
                try simp only [Act.put, List.setIfInBounds_toArray, List.set_cons_zero, List.set_cons_succ]
                refine wpAnyH_take (i := 5) (oi := ?oi3006) (v := ?v3006) ?hi3006 (by kernel_rfl) (by kernel_rfl) (by kernel_rfl) ?hq3006 ?hy3006 (by assumption) ?hr3006
                case hi3006 => (simp only [List.getElem?_toArray, List.getElem?_cons_succ, List.getElem?_cons_zero]; rfl)
                case hq3006 => exact fun _ _ _ h => h
                case hy3006 => exact Or.inl ⟨by rfl, by intro whSw hSw'; (try dsimp only at hSw'); (first | (go_simp; done) | (go_simp; with_reducible rfl))⟩
                try simp only [Act.put, List.setIfInBounds_toArray, List.set_cons_zero, List.set_cons_succ]
                refine wpAnyH_take (i := 6) (oi := ?oi3007) (v := ?v3007) ?hi3007 (by kernel_rfl) (by kernel_rfl) (by kernel_rfl) ?hq3007 ?hy3007 (by assumption) ?hr3007
                case hi3007 => (simp only [List.getElem?_toArray, List.getElem?_cons_succ, List.getElem?_cons_zero]; rfl)
                case hq3007 => exact fun _ _ _ h => h
                case hy3007 => first | exact Or.inl ⟨by rfl, by intro whSw hSw'; (try dsimp only at hSw'); (first | (go_simp; done) | (go_simp; with_reducible rfl))⟩ | exact Or.inr ⟨by rfl, by with_reducible rfl⟩ | fail
                try simp only [Act.put, List.setIfInBounds_toArray, List.set_cons_zero, List.set_cons_succ]
                refine wpAnyH_take (i := 9) (oi := ?oi3008) (v := ?v3008) ?hi3008 (by kernel_rfl) (by kernel_rfl) (by kernel_rfl) ?hq3008 ?hy3008 (by assumption) ?hr3008
                case hi3008 => (simp only [List.getElem?_toArray, List.getElem?_cons_succ, List.getElem?_cons_zero]; rfl)
                case hq3008 => exact fun _ _ _ h => h
                case hy3008 => first | exact Or.inl ⟨by rfl, by intro whSw hSw'; (try dsimp only at hSw'); (first | (go_simp; done) | (go_simp; with_reducible rfl))⟩ | exact Or.inr ⟨by rfl, by with_reducible rfl⟩ | fail
                try simp only [Act.put, List.setIfInBounds_toArray, List.set_cons_zero, List.set_cons_succ]
                refine wpAnyH_ready (rs := [7, 10]) (by kernel_rfl) (by simp) ?_
                refine AllReadyH.cons (o := ?oo3009) ?hi3009 (fun K hK => ?hs3009) ?hm3009
                case hi3009 => (simp only [List.getElem?_toArray, List.getElem?_cons_succ, List.getElem?_cons_zero]; rfl)
                · go_simp
                  refine (HEJ.out _ HX0.out).mono ?_
                  rintro e x1 ⟨⟨u1, rfl, hs1⟩, hb1⟩
                  have HX1 := Lib.hid (below_chain HX0.out HX0.out.size hb1)
                  have hku := HCV.out x1 _ _ hs1
                  have hkb1 := HKB.out _ HX1.out
                  clear hs1 hb1
                  (try go_wp2_with fail)
                  refine hK.out _ _ ?_ (fun hHeld => ?_)
                  · (try dsimp only); (first | (with_reducible exact HQ.out _ HX8.out) | (with_reducible exact HQ.out _ HX7.out) | (with_reducible exact HQ.out _ HX6.out) | (with_reducible exact HQ.out _ HX5.out) | (with_reducible exact HQ.out _ HX4.out) | (with_reducible exact HQ.out _ HX3.out) | (with_reducible exact HQ.out _ HX2.out) | (with_reducible exact HQ.out _ HX1.out) | (with_reducible exact HQ.out _ HX0.out) | fail)
                  clear hK K
                  try simp only [Act.put, List.setIfInBounds_toArray, List.set_cons_zero, List.set_cons_succ]
                  refine wpAnyH_ready (rs := [8, 10]) (by kernel_rfl) (by simp) ?_
                  refine AllReadyH.cons (o := ?oo3010) ?hi3010 (fun K hK => ?hs3010) ?hm3010
                  case hi3010 => (simp only [List.getElem?_toArray, List.getElem?_cons_succ, List.getElem?_cons_zero]; rfl)
                  · go_simp
                    refine hK.out _ _ ?_ (fun hHeld => ?_)
                    · (try dsimp only); (first | (with_reducible exact HQ.out _ HX8.out) | (with_reducible exact HQ.out _ HX7.out) | (with_reducible exact HQ.out _ HX6.out) | (with_reducible exact HQ.out _ HX5.out) | (with_reducible exact HQ.out _ HX4.out) | (with_reducible exact HQ.out _ HX3.out) | (with_reducible exact HQ.out _ HX2.out) | (with_reducible exact HQ.out _ HX1.out) | (with_reducible exact HQ.out _ HX0.out) | fail)
                    clear hK K
                    try simp only [Act.put, List.setIfInBounds_toArray, List.set_cons_zero, List.set_cons_succ]
                    refine wpAnyH_ready (rs := [10]) (by kernel_rfl) (by simp) ?_
                    refine AllReadyH.cons (o := ?oo3011) ?hi3011 (fun K hK => ?hs3011) ?hm3011
                    case hi3011 => (simp only [List.getElem?_toArray, List.getElem?_cons_succ, List.getElem?_cons_zero]; rfl)
                    · go_simp
                      refine hK.out _ _ ?_ (fun hHeld => ?_)
                      · (try dsimp only); (first | (with_reducible exact HQ.out _ HX8.out) | (with_reducible exact HQ.out _ HX7.out) | (with_reducible exact HQ.out _ HX6.out) | (with_reducible exact HQ.out _ HX5.out) | (with_reducible exact HQ.out _ HX4.out) | (with_reducible exact HQ.out _ HX3.out) | (with_reducible exact HQ.out _ HX2.out) | (with_reducible exact HQ.out _ HX1.out) | (with_reducible exact HQ.out _ HX0.out) | fail)
                      clear hK K
                      try simp only [Act.put, List.setIfInBounds_toArray, List.set_cons_zero, List.set_cons_succ]
                      refine wpAnyH_take (i := 11) (oi := ?oi3012) (v := ?v3012) ?hi3012 (by kernel_rfl) (by kernel_rfl) (by kernel_rfl) ?hq3012 ?hy3012 (by assumption) ?hr3012
                      case hi3012 => (simp only [List.getElem?_toArray, List.getElem?_cons_succ, List.getElem?_cons_zero]; rfl)
                      case hq3012 => exact fun _ _ _ h => h
                      case hy3012 => first | exact Or.inl ⟨by rfl, by intro whSw hSw'; (try dsimp only at hSw'); (first | (go_simp; done) | (go_simp; with_reducible rfl))⟩ | exact Or.inr ⟨by rfl, by with_reducible rfl⟩ | fail
                      try simp only [Act.put, List.setIfInBounds_toArray, List.set_cons_zero, List.set_cons_succ]
                      refine wpAnyH_take (i := 12) (oi := ?oi3013) (v := ?v3013) ?hi3013 (by kernel_rfl) (by kernel_rfl) (by kernel_rfl) ?hq3013 ?hy3013 (by assumption) ?hr3013
                      case hi3013 => (simp only [List.getElem?_toArray, List.getElem?_cons_succ, List.getElem?_cons_zero]; rfl)
                      case hq3013 => exact fun _ _ _ h => h
                      case hy3013 => exact Or.inl ⟨by rfl, by intro whSw hSw'; (try dsimp only at hSw'); (first | (go_simp; done) | (go_simp; with_reducible rfl))⟩
                      try simp only [Act.put, List.setIfInBounds_toArray, List.set_cons_zero, List.set_cons_succ]
                      refine wpAnyH_take (i := 13) (oi := ?oi3014) (v := ?v3014) ?hi3014 (by kernel_rfl) (by kernel_rfl) (by kernel_rfl) ?hq3014 ?hy3014 (by assumption) ?hr3014
                      case hi3014 => (simp only [List.getElem?_toArray, List.getElem?_cons_succ, List.getElem?_cons_zero]; rfl)
                      case hq3014 => exact fun _ _ _ h => h
                      case hy3014 => exact Or.inl ⟨by rfl, by intro whSw hSw'; (try dsimp only at hSw'); (first | (go_simp; done) | (go_simp; with_reducible rfl))⟩
                      try simp only [Act.put, List.setIfInBounds_toArray, List.set_cons_zero, List.set_cons_succ]
                      refine wpAnyH_take (i := 14) (oi := ?oi3015) (v := ?v3015) ?hi3015 (by kernel_rfl) (by kernel_rfl) (by kernel_rfl) ?hq3015 ?hy3015 (by assumption) ?hr3015
                      case hi3015 => (simp only [List.getElem?_toArray, List.getElem?_cons_succ, List.getElem?_cons_zero]; rfl)
                      case hq3015 => exact fun _ _ _ h => h
                      case hy3015 => first | exact Or.inl ⟨by rfl, by intro whSw hSw'; (try dsimp only at hSw'); (first | (go_simp; done) | (go_simp; with_reducible rfl))⟩ | exact Or.inr ⟨by rfl, by with_reducible rfl⟩ | fail
                      try simp only [Act.put, List.setIfInBounds_toArray, List.set_cons_zero, List.set_cons_succ]
                      refine wpAnyH_take (i := 15) (oi := ?oi3016) (v := ?v3016) ?hi3016 (by kernel_rfl) (by kernel_rfl) (by kernel_rfl) ?hq3016 ?hy3016 (by assumption) ?hr3016
                      case hi3016 => (simp only [List.getElem?_toArray, List.getElem?_cons_succ, List.getElem?_cons_zero]; rfl)
                      case hq3016 => exact fun _ _ _ h => h
                      case hy3016 => first | exact Or.inl ⟨by rfl, by intro whSw hSw'; (try dsimp only at hSw'); (first | (go_simp; done) | (go_simp; with_reducible rfl))⟩ | exact Or.inr ⟨by rfl, by with_reducible rfl⟩ | fail
                      try simp only [Act.put, List.setIfInBounds_toArray, List.set_cons_zero, List.set_cons_succ]
                      refine wpAnyH_take (i := 17) (oi := ?oi3017) (v := ?v3017) ?hi3017 (by kernel_rfl) (by kernel_rfl) (by kernel_rfl) ?hq3017 ?hy3017 (by assumption) ?hr3017
                      case hi3017 => (simp only [List.getElem?_toArray, List.getElem?_cons_succ, List.getElem?_cons_zero]; rfl)
                      case hq3017 => exact fun _ _ _ h => h
                      case hy3017 => first | exact Or.inl ⟨by rfl, by intro whSw hSw'; (try dsimp only at hSw'); (first | (go_simp; done) | (go_simp; with_reducible rfl))⟩ | exact Or.inr ⟨by rfl, by with_reducible rfl⟩ | fail
                      try simp only [Act.put, List.setIfInBounds_toArray, List.set_cons_zero, List.set_cons_succ]
                      refine wpAnyH_take (i := 18) (oi := ?oi3018) (v := ?v3018) ?hi3018 (by kernel_rfl) (by kernel_rfl) (by kernel_rfl) ?hq3018 ?hy3018 (by assumption) ?hr3018
                      case hi3018 => (simp only [List.getElem?_toArray, List.getElem?_cons_succ, List.getElem?_cons_zero]; rfl)
                      case hq3018 => exact fun _ _ _ h => h
                      case hy3018 => first | exact Or.inl ⟨by rfl, by intro whSw hSw'; (try dsimp only at hSw'); (first | (go_simp; done) | (go_simp; with_reducible rfl))⟩ | exact Or.inr ⟨by rfl, by with_reducible rfl⟩ | fail
                      try simp only [Act.put, List.setIfInBounds_toArray, List.set_cons_zero, List.set_cons_succ]
                      refine wpAnyH_ready (rs := [16]) (by kernel_rfl) (by simp) ?_
                      refine AllReadyH.cons (o := ?oo3019) ?hi3019 (fun K hK => ?hs3019) ?hm3019
                      case hi3019 => (simp only [List.getElem?_toArray, List.getElem?_cons_succ, List.getElem?_cons_zero]; rfl)
                      · go_simp
                        refine (HPJ.out _ HX1.out).mono ?_
                        rintro e x2 ⟨⟨u2, rfl, hr2⟩, hb2⟩
                        have HX2 := Lib.hid (below_chain HX1.out HX1.out.size hb2)
                        have HR2 := Lib.hid hr2
                        obtain ⟨A2, d2, rfl, -⟩ := hr2.form
                        clear hr2 hb2
                        (try go_wp2_with fail)
                        refine hK.out _ _ ?_ (fun hHeld => ?_)
                        · (try dsimp only); (first | (with_reducible exact HQ.out _ HX8.out) | (with_reducible exact HQ.out _ HX7.out) | (with_reducible exact HQ.out _ HX6.out) | (with_reducible exact HQ.out _ HX5.out) | (with_reducible exact HQ.out _ HX4.out) | (with_reducible exact HQ.out _ HX3.out) | (with_reducible exact HQ.out _ HX2.out) | (with_reducible exact HQ.out _ HX1.out) | (with_reducible exact HQ.out _ HX0.out) | fail)
                        clear hK K
                        try simp only [Act.put, List.setIfInBounds_toArray, List.set_cons_zero, List.set_cons_succ]
                        refine wpAnyH_ready (rs := [19]) (by kernel_rfl) (by simp) ?_
                        refine AllReadyH.cons (o := ?oo3020) ?hi3020 (fun K hK => ?hs3020) ?hm3020
                        case hi3020 => (simp only [List.getElem?_toArray, List.getElem?_cons_succ, List.getElem?_cons_zero]; rfl)
                        · go_simp
                          refine (HPI.out _ HX2.out).mono ?_
                          rintro e x3 ⟨⟨u3, rfl, hr3⟩, hb3⟩
                          have HX3 := Lib.hid (below_chain HX2.out HX2.out.size hb3)
                          have HSM1 := Lib.hid (sameInts_any (HR2.out.below stays_int hb3) hr3 HLM.out.1 HLM.out.1)
                          rw [decide_eq_true (rfl : xs = xs)] at HSM1
                          obtain ⟨A3, d3, rfl, -⟩ := hr3.form
                          clear hr3 hb3
                          (try go_wp2_with fail)
                          refine hK.out _ _ ?_ (fun hHeld => ?_)
                          · (try dsimp only); (first | (with_reducible exact HQ.out _ HX8.out) | (with_reducible exact HQ.out _ HX7.out) | (with_reducible exact HQ.out _ HX6.out) | (with_reducible exact HQ.out _ HX5.out) | (with_reducible exact HQ.out _ HX4.out) | (with_reducible exact HQ.out _ HX3.out) | (with_reducible exact HQ.out _ HX2.out) | (with_reducible exact HQ.out _ HX1.out) | (with_reducible exact HQ.out _ HX0.out) | fail)
                          clear hK K
                          try simp only [Act.put, List.setIfInBounds_toArray, List.set_cons_zero, List.set_cons_succ]
                          refine wpAnyH_ready (rs := [20]) (by kernel_rfl) (by simp) ?_
                          refine AllReadyH.cons (o := ?oo3021) ?hi3021 (fun K hK => ?hs3021) ?hm3021
                          case hi3021 => (simp only [List.getElem?_toArray, List.getElem?_cons_succ, List.getElem?_cons_zero]; rfl)
                          · go_simp
                            refine HSM1.out.mono ?_
                            rintro e x4 ⟨rfl, hb4⟩
                            have HX4 := Lib.hid (below_chain HX3.out HX3.out.size hb4)
                            clear hb4
                            (try go_wp2_with fail)
                            refine hK.out _ _ ?_ (fun hHeld => ?_)
                            · (try dsimp only); (first | (with_reducible exact HQ.out _ HX8.out) | (with_reducible exact HQ.out _ HX7.out) | (with_reducible exact HQ.out _ HX6.out) | (with_reducible exact HQ.out _ HX5.out) | (with_reducible exact HQ.out _ HX4.out) | (with_reducible exact HQ.out _ HX3.out) | (with_reducible exact HQ.out _ HX2.out) | (with_reducible exact HQ.out _ HX1.out) | (with_reducible exact HQ.out _ HX0.out) | fail)
                            clear hK K
                            try simp only [Act.put, List.setIfInBounds_toArray, List.set_cons_zero, List.set_cons_succ]
                            refine wpAnyH_take (i := 21) (oi := ?oi3022) (v := ?v3022) ?hi3022 (by kernel_rfl) (by kernel_rfl) (by kernel_rfl) ?hq3022 ?hy3022 (by assumption) ?hr3022
                            case hi3022 => (simp only [List.getElem?_toArray, List.getElem?_cons_succ, List.getElem?_cons_zero]; rfl)
                            case hq3022 => exact fun _ _ _ h => h
                            case hy3022 => exact Or.inl ⟨by rfl, by intro whSw hSw'; (try dsimp only at hSw'); (first | (go_simp; done) | (go_simp; with_reducible rfl))⟩
                            try simp only [Act.put, List.setIfInBounds_toArray, List.set_cons_zero, List.set_cons_succ]
                            refine wpAnyH_take (i := 22) (oi := ?oi3023) (v := ?v3023) ?hi3023 (by kernel_rfl) (by kernel_rfl) (by kernel_rfl) ?hq3023 ?hy3023 (by assumption) ?hr3023
                            case hi3023 => (simp only [List.getElem?_toArray, List.getElem?_cons_succ, List.getElem?_cons_zero]; rfl)
                            case hq3023 => exact fun _ _ _ h => h
                            case hy3023 => exact Or.inl ⟨by rfl, by intro whSw hSw'; (try dsimp only at hSw'); (first | (go_simp; done) | (go_simp; with_reducible rfl))⟩
                            try simp only [Act.put, List.setIfInBounds_toArray, List.set_cons_zero, List.set_cons_succ]
                            refine wpAnyH_take (i := 23) (oi := ?oi3024) (v := ?v3024) ?hi3024 (by kernel_rfl) (by kernel_rfl) (by kernel_rfl) ?hq3024 ?hy3024 (by assumption) ?hr3024
                            case hi3024 => (simp only [List.getElem?_toArray, List.getElem?_cons_succ, List.getElem?_cons_zero]; rfl)
                            case hq3024 => exact fun _ _ _ h => h
                            case hy3024 => first | exact Or.inl ⟨by rfl, by intro whSw hSw'; (try dsimp only at hSw'); (first | (go_simp; done) | (go_simp; with_reducible rfl))⟩ | exact Or.inr ⟨by rfl, by with_reducible rfl⟩ | fail
                            try simp only [Act.put, List.setIfInBounds_toArray, List.set_cons_zero, List.set_cons_succ]
                            refine wpAnyH_take (i := 24) (oi := ?oi3025) (v := ?v3025) ?hi3025 (by kernel_rfl) (by kernel_rfl) (by kernel_rfl) ?hq3025 ?hy3025 (by assumption) ?hr3025
                            case hi3025 => (simp only [List.getElem?_toArray, List.getElem?_cons_succ, List.getElem?_cons_zero]; rfl)
                            case hq3025 => exact fun _ _ _ h => h
                            case hy3025 => first | exact Or.inl ⟨by rfl, by intro whSw hSw'; (try dsimp only at hSw'); (first | (go_simp; done) | (go_simp; with_reducible rfl))⟩ | exact Or.inr ⟨by rfl, by with_reducible rfl⟩ | fail
                            try simp only [Act.put, List.setIfInBounds_toArray, List.set_cons_zero, List.set_cons_succ]
                            refine wpAnyH_take (i := 25) (oi := ?oi3026) (v := ?v3026) ?hi3026 (by kernel_rfl) (by kernel_rfl) (by kernel_rfl) ?hq3026 ?hy3026 (by assumption) ?hr3026
                            case hi3026 => (simp only [List.getElem?_toArray, List.getElem?_cons_succ, List.getElem?_cons_zero]; rfl)
                            case hq3026 => exact fun _ _ _ h => h
                            case hy3026 => first | exact Or.inl ⟨by rfl, by intro whSw hSw'; (try dsimp only at hSw'); (first | (go_simp; done) | (go_simp; with_reducible rfl))⟩ | exact Or.inr ⟨by rfl, by with_reducible rfl⟩ | fail
                            try simp only [Act.put, List.setIfInBounds_toArray, List.set_cons_zero, List.set_cons_succ]
                            refine wpAnyH_take (i := 27) (oi := ?oi3027) (v := ?v3027) ?hi3027 (by kernel_rfl) (by kernel_rfl) (by kernel_rfl) ?hq3027 ?hy3027 (by assumption) ?hr3027
                            case hi3027 => (simp only [List.getElem?_toArray, List.getElem?_cons_succ, List.getElem?_cons_zero]; rfl)
                            case hq3027 => exact fun _ _ _ h => h
                            case hy3027 => first | exact Or.inl ⟨by rfl, by intro whSw hSw'; (try dsimp only at hSw'); (first | (go_simp; done) | (go_simp; with_reducible rfl))⟩ | exact Or.inr ⟨by rfl, by with_reducible rfl⟩ | fail
                            try simp only [Act.put, List.setIfInBounds_toArray, List.set_cons_zero, List.set_cons_succ]
                            refine wpAnyH_take (i := 28) (oi := ?oi3028) (v := ?v3028) ?hi3028 (by kernel_rfl) (by kernel_rfl) (by kernel_rfl) ?hq3028 ?hy3028 (by assumption) ?hr3028
                            case hi3028 => (simp only [List.getElem?_toArray, List.getElem?_cons_succ, List.getElem?_cons_zero]; rfl)
                            case hq3028 => exact fun _ _ _ h => h
                            case hy3028 => first | exact Or.inl ⟨by rfl, by intro whSw hSw'; (try dsimp only at hSw'); (first | (go_simp; done) | (go_simp; with_reducible rfl))⟩ | exact Or.inr ⟨by rfl, by with_reducible rfl⟩ | fail
                            try simp only [Act.put, List.setIfInBounds_toArray, List.set_cons_zero, List.set_cons_succ]
                            refine wpAnyH_take (i := 29) (oi := ?oi3029) (v := ?v3029) ?hi3029 (by kernel_rfl) (by kernel_rfl) (by kernel_rfl) ?hq3029 ?hy3029 (by assumption) ?hr3029
                            case hi3029 => (simp only [List.getElem?_toArray, List.getElem?_cons_succ, List.getElem?_cons_zero]; rfl)
                            case hq3029 => exact fun _ _ _ h => h
                            case hy3029 => first | exact Or.inl ⟨by rfl, by intro whSw hSw'; (try dsimp only at hSw'); (first | (go_simp; done) | (go_simp; with_reducible rfl))⟩ | exact Or.inr ⟨by rfl, by with_reducible rfl⟩ | fail
                            try simp only [Act.put, List.setIfInBounds_toArray, List.set_cons_zero, List.set_cons_succ]
                            refine wpAnyH_ready (rs := [26]) (by kernel_rfl) (by simp) ?_
                            refine AllReadyH.cons (o := ?oo3030) ?hi3030 (fun K hK => ?hs3030) ?hm3030
                            case hi3030 => (simp only [List.getElem?_toArray, List.getElem?_cons_succ, List.getElem?_cons_zero]; rfl)
                            · go_simp
                              refine (HTJ.out _ HX4.out).mono ?_
                              rintro e x5 ⟨⟨u5, rfl, hr5⟩, hb5⟩
                              have HX5 := Lib.hid (below_chain HX4.out HX4.out.size hb5)
                              have HR5 := Lib.hid hr5
                              obtain ⟨A5, d5, rfl, -⟩ := hr5.form
                              clear hr5 hb5
                              (try go_wp2_with fail)
                              refine hK.out _ _ ?_ (fun hHeld => ?_)
                              · (try dsimp only); (first | (with_reducible exact HQ.out _ HX8.out) | (with_reducible exact HQ.out _ HX7.out) | (with_reducible exact HQ.out _ HX6.out) | (with_reducible exact HQ.out _ HX5.out) | (with_reducible exact HQ.out _ HX4.out) | (with_reducible exact HQ.out _ HX3.out) | (with_reducible exact HQ.out _ HX2.out) | (with_reducible exact HQ.out _ HX1.out) | (with_reducible exact HQ.out _ HX0.out) | fail)
                              clear hK K
                              try simp only [Act.put, List.setIfInBounds_toArray, List.set_cons_zero, List.set_cons_succ]
                              refine wpAnyH_ready (rs := [30]) (by kernel_rfl) (by simp) ?_
                              refine AllReadyH.cons (o := ?oo3031) ?hi3031 (fun K hK => ?hs3031) ?hm3031
                              case hi3031 => (simp only [List.getElem?_toArray, List.getElem?_cons_succ, List.getElem?_cons_zero]; rfl)
                              · go_simp
                                refine (HTI.out _ HX5.out).mono ?_
                                rintro e x6 ⟨⟨u6, rfl, hr6⟩, hb6⟩
                                have HX6 := Lib.hid (below_chain HX5.out HX5.out.size hb6)
                                have HSM2 := Lib.hid (sameInts_any (HR5.out.below stays_int hb6) hr6 HLM.out.2 HLM.out.2)
                                rw [decide_eq_true (rfl : ys = ys)] at HSM2
                                obtain ⟨A6, d6, rfl, -⟩ := hr6.form
                                clear hr6 hb6
                                (try go_wp2_with fail)
                                refine hK.out _ _ ?_ (fun hHeld => ?_)
                                · (try dsimp only); (first | (with_reducible exact HQ.out _ HX8.out) | (with_reducible exact HQ.out _ HX7.out) | (with_reducible exact HQ.out _ HX6.out) | (with_reducible exact HQ.out _ HX5.out) | (with_reducible exact HQ.out _ HX4.out) | (with_reducible exact HQ.out _ HX3.out) | (with_reducible exact HQ.out _ HX2.out) | (with_reducible exact HQ.out _ HX1.out) | (with_reducible exact HQ.out _ HX0.out) | fail)
                                clear hK K
                                try simp only [Act.put, List.setIfInBounds_toArray, List.set_cons_zero, List.set_cons_succ]
                                refine wpAnyH_ready (rs := [31]) (by kernel_rfl) (by simp) ?_
                                refine AllReadyH.cons (o := ?oo3032) ?hi3032 (fun K hK => ?hs3032) ?hm3032
                                case hi3032 => (simp only [List.getElem?_toArray, List.getElem?_cons_succ, List.getElem?_cons_zero]; rfl)
                                · go_simp
                                  refine HSM2.out.mono ?_
                                  rintro e x7 ⟨rfl, hb7⟩
                                  have HX7 := Lib.hid (below_chain HX6.out HX6.out.size hb7)
                                  clear hb7
                                  (try go_wp2_with fail)
                                  refine hK.out _ _ ?_ (fun hHeld => ?_)
                                  · (try dsimp only); (first | (with_reducible exact HQ.out _ HX8.out) | (with_reducible exact HQ.out _ HX7.out) | (with_reducible exact HQ.out _ HX6.out) | (with_reducible exact HQ.out _ HX5.out) | (with_reducible exact HQ.out _ HX4.out) | (with_reducible exact HQ.out _ HX3.out) | (with_reducible exact HQ.out _ HX2.out) | (with_reducible exact HQ.out _ HX1.out) | (with_reducible exact HQ.out _ HX0.out) | fail)
                                  clear hK K
                                  try simp only [Act.put, List.setIfInBounds_toArray, List.set_cons_zero, List.set_cons_succ]
                                  refine wpAnyH_take (i := 32) (oi := ?oi3033) (v := ?v3033) ?hi3033 (by kernel_rfl) (by kernel_rfl) (by kernel_rfl) ?hq3033 ?hy3033 (by assumption) ?hr3033
                                  case hi3033 => (simp only [List.getElem?_toArray, List.getElem?_cons_succ, List.getElem?_cons_zero]; rfl)
                                  case hq3033 => exact fun _ _ _ h => h
                                  case hy3033 => exact Or.inl ⟨by rfl, by intro whSw hSw'; (try dsimp only at hSw'); (first | (go_simp; done) | (go_simp; with_reducible rfl))⟩
                                  try simp only [Act.put, List.setIfInBounds_toArray, List.set_cons_zero, List.set_cons_succ]
                                  refine wpAnyH_take (i := 33) (oi := ?oi3034) (v := ?v3034) ?hi3034 (by kernel_rfl) (by kernel_rfl) (by kernel_rfl) ?hq3034 ?hy3034 (by assumption) ?hr3034
                                  case hi3034 => (simp only [List.getElem?_toArray, List.getElem?_cons_succ, List.getElem?_cons_zero]; rfl)
                                  case hq3034 => exact fun _ _ _ h => h
                                  case hy3034 => exact Or.inl ⟨by rfl, by intro whSw hSw'; (try dsimp only at hSw'); (first | (go_simp; done) | (go_simp; with_reducible rfl))⟩
                                  try simp only [Act.put, List.setIfInBounds_toArray, List.set_cons_zero, List.set_cons_succ]
                                  refine wpAnyH_ready (rs := [34]) (by kernel_rfl) (by simp) ?_
                                  refine AllReadyH.cons (o := ?oo3035) ?hi3035 (fun K hK => ?hs3035) ?hm3035
                                  case hi3035 => (simp only [List.getElem?_toArray, List.getElem?_cons_succ, List.getElem?_cons_zero]; rfl)
                                  · go_simp
                                    refine (HA.out _).mono ?_
                                    rintro e x8 ⟨rfl, hb8⟩
                                    have HX8 := Lib.hid (below_chain HX7.out HX7.out.size hb8)
                                    clear hb8
                                    (try go_wp2_with fail)
                                    refine hK.out _ _ ?_ (fun hHeld => ?_)
                                    · (try dsimp only); (first | (with_reducible exact HQ.out _ HX8.out) | (with_reducible exact HQ.out _ HX7.out) | (with_reducible exact HQ.out _ HX6.out) | (with_reducible exact HQ.out _ HX5.out) | (with_reducible exact HQ.out _ HX4.out) | (with_reducible exact HQ.out _ HX3.out) | (with_reducible exact HQ.out _ HX2.out) | (with_reducible exact HQ.out _ HX1.out) | (with_reducible exact HQ.out _ HX0.out) | fail)
                                    clear hK K
                                    try simp only [Act.put, List.setIfInBounds_toArray, List.set_cons_zero, List.set_cons_succ]
                                    refine wpAnyH_take (i := 35) (oi := ?oi3036) (v := ?v3036) ?hi3036 (by kernel_rfl) (by kernel_rfl) (by kernel_rfl) ?hq3036 ?hy3036 (by assumption) ?hr3036
                                    case hi3036 => (simp only [List.getElem?_toArray, List.getElem?_cons_succ, List.getElem?_cons_zero]; rfl)
                                    case hq3036 => exact fun _ _ _ h => h
                                    case hy3036 => exact Or.inl ⟨by rfl, by intro whSw hSw'; (try dsimp only at hSw'); (first | (go_simp; done) | (go_simp; with_reducible rfl))⟩
                                    try simp only [Act.put, List.setIfInBounds_toArray, List.set_cons_zero, List.set_cons_succ]
                                    refine wpAnyH_take (i := 36) (oi := ?oi3037) (v := ?v3037) ?hi3037 (by kernel_rfl) (by kernel_rfl) (by kernel_rfl) ?hq3037 ?hy3037 (by assumption) ?hr3037
                                    case hi3037 => (simp only [List.getElem?_toArray, List.getElem?_cons_succ, List.getElem?_cons_zero]; rfl)
                                    case hq3037 => exact fun _ _ _ h => h
                                    case hy3037 => exact Or.inl ⟨by rfl, by intro whSw hSw'; (try dsimp only at hSw'); (first | (go_simp; done) | (go_simp; with_reducible rfl))⟩
                                    try simp only [Act.put, List.setIfInBounds_toArray, List.set_cons_zero, List.set_cons_succ]
                                    refine wpAnyH_done (by kernel_rfl) ?_ _
                                    have HFIN := Lib.hid (HB0.out.trans ((HBD0.out.trans (HX8.out.mono HBD0.out.size)).mono HNX.out))
                                    go_wp2_with fail
                                    go_ret
                                    exact ⟨rfl, HFIN.out⟩
                                  exact AllReadyH.nil
                                exact AllReadyH.nil
                              exact AllReadyH.nil
                            exact AllReadyH.nil
                          exact AllReadyH.nil
                        exact AllReadyH.nil
                      exact AllReadyH.nil
                    exact AllReadyH.nil
                  refine AllReadyH.cons (o := ?oo3038) ?hi3038 (fun K hK => ?hs3038) ?hm3038
                  case hi3038 => (simp only [List.getElem?_toArray, List.getElem?_cons_succ, List.getElem?_cons_zero]; rfl)
                  · go_simp
                    refine hK.out _ _ ?_ (fun hHeld => ?_)
                    · (try dsimp only); (first | (with_reducible exact HQ.out _ HX8.out) | (with_reducible exact HQ.out _ HX7.out) | (with_reducible exact HQ.out _ HX6.out) | (with_reducible exact HQ.out _ HX5.out) | (with_reducible exact HQ.out _ HX4.out) | (with_reducible exact HQ.out _ HX3.out) | (with_reducible exact HQ.out _ HX2.out) | (with_reducible exact HQ.out _ HX1.out) | (with_reducible exact HQ.out _ HX0.out) | fail)
                    clear hK K
                    try simp only [Act.put, List.setIfInBounds_toArray, List.set_cons_zero, List.set_cons_succ]
                    refine wpAnyH_ready (rs := [8]) (by kernel_rfl) (by simp) ?_
                    refine AllReadyH.cons (o := ?oo3039) ?hi3039 (fun K hK => ?hs3039) ?hm3039
                    case hi3039 => (simp only [List.getElem?_toArray, List.getElem?_cons_succ, List.getElem?_cons_zero]; rfl)
                    · go_simp
                      refine hK.out _ _ ?_ (fun hHeld => ?_)
                      · (try dsimp only); (first | (with_reducible exact HQ.out _ HX8.out) | (with_reducible exact HQ.out _ HX7.out) | (with_reducible exact HQ.out _ HX6.out) | (with_reducible exact HQ.out _ HX5.out) | (with_reducible exact HQ.out _ HX4.out) | (with_reducible exact HQ.out _ HX3.out) | (with_reducible exact HQ.out _ HX2.out) | (with_reducible exact HQ.out _ HX1.out) | (with_reducible exact HQ.out _ HX0.out) | fail)
                      clear hK K
                      try simp only [Act.put, List.setIfInBounds_toArray, List.set_cons_zero, List.set_cons_succ]
                      refine wpAnyH_take (i := 11) (oi := ?oi3040) (v := ?v3040) ?hi3040 (by kernel_rfl) (by kernel_rfl) (by kernel_rfl) ?hq3040 ?hy3040 (by assumption) ?hr3040
                      case hi3040 => (simp only [List.getElem?_toArray, List.getElem?_cons_succ, List.getElem?_cons_zero]; rfl)
                      case hq3040 => exact fun _ _ _ h => h
                      case hy3040 => first | exact Or.inl ⟨by rfl, by intro whSw hSw'; (try dsimp only at hSw'); (first | (go_simp; done) | (go_simp; with_reducible rfl))⟩ | exact Or.inr ⟨by rfl, by with_reducible rfl⟩ | fail
                      try simp only [Act.put, List.setIfInBounds_toArray, List.set_cons_zero, List.set_cons_succ]
                      refine wpAnyH_take (i := 12) (oi := ?oi3041) (v := ?v3041) ?hi3041 (by kernel_rfl) (by kernel_rfl) (by kernel_rfl) ?hq3041 ?hy3041 (by assumption) ?hr3041
                      case hi3041 => (simp only [List.getElem?_toArray, List.getElem?_cons_succ, List.getElem?_cons_zero]; rfl)
                      case hq3041 => exact fun _ _ _ h => h
                      case hy3041 => exact Or.inl ⟨by rfl, by intro whSw hSw'; (try dsimp only at hSw'); (first | (go_simp; done) | (go_simp; with_reducible rfl))⟩
                      try simp only [Act.put, List.setIfInBounds_toArray, List.set_cons_zero, List.set_cons_succ]
                      refine wpAnyH_take (i := 13) (oi := ?oi3042) (v := ?v3042) ?hi3042 (by kernel_rfl) (by kernel_rfl) (by kernel_rfl) ?hq3042 ?hy3042 (by assumption) ?hr3042
                      case hi3042 => (simp only [List.getElem?_toArray, List.getElem?_cons_succ, List.getElem?_cons_zero]; rfl)
                      case hq3042 => exact fun _ _ _ h => h
                      case hy3042 => exact Or.inl ⟨by rfl, by intro whSw hSw'; (try dsimp only at hSw'); (first | (go_simp; done) | (go_simp; with_reducible rfl))⟩
                      try simp only [Act.put, List.setIfInBounds_toArray, List.set_cons_zero, List.set_cons_succ]
                      refine wpAnyH_take (i := 14) (oi := ?oi3043) (v := ?v3043) ?hi3043 (by kernel_rfl) (by kernel_rfl) (by kernel_rfl) ?hq3043 ?hy3043 (by assumption) ?hr3043
                      case hi3043 => (simp only [List.getElem?_toArray, List.getElem?_cons_succ, List.getElem?_cons_zero]; rfl)
                      case hq3043 => exact fun _ _ _ h => h
                      case hy3043 => first | exact Or.inl ⟨by rfl, by intro whSw hSw'; (try dsimp only at hSw'); (first | (go_simp; done) | (go_simp; with_reducible rfl))⟩ | exact Or.inr ⟨by rfl, by with_reducible rfl⟩ | fail
                      try simp only [Act.put, List.setIfInBounds_toArray, List.set_cons_zero, List.set_cons_succ]
                      refine wpAnyH_take (i := 15) (oi := ?oi3044) (v := ?v3044) ?hi3044 (by kernel_rfl) (by kernel_rfl) (by kernel_rfl) ?hq3044 ?hy3044 (by assumption) ?hr3044
                      case hi3044 => (simp only [List.getElem?_toArray, List.getElem?_cons_succ, List.getElem?_cons_zero]; rfl)
                      case hq3044 => exact fun _ _ _ h => h
                      case hy3044 => first | exact Or.inl ⟨by rfl, by intro whSw hSw'; (try dsimp only at hSw'); (first | (go_simp; done) | (go_simp; with_reducible rfl))⟩ | exact Or.inr ⟨by rfl, by with_reducible rfl⟩ | fail
                      try simp only [Act.put, List.setIfInBounds_toArray, List.set_cons_zero, List.set_cons_succ]
                      refine wpAnyH_take (i := 17) (oi := ?oi3045) (v := ?v3045) ?hi3045 (by kernel_rfl) (by kernel_rfl) (by kernel_rfl) ?hq3045 ?hy3045 (by assumption) ?hr3045
                      case hi3045 => (simp only [List.getElem?_toArray, List.getElem?_cons_succ, List.getElem?_cons_zero]; rfl)
                      case hq3045 => exact fun _ _ _ h => h
                      case hy3045 => first | exact Or.inl ⟨by rfl, by intro whSw hSw'; (try dsimp only at hSw'); (first | (go_simp; done) | (go_simp; with_reducible rfl))⟩ | exact Or.inr ⟨by rfl, by with_reducible rfl⟩ | fail
                      try simp only [Act.put, List.setIfInBounds_toArray, List.set_cons_zero, List.set_cons_succ]
                      refine wpAnyH_take (i := 18) (oi := ?oi3046) (v := ?v3046) ?hi3046 (by kernel_rfl) (by kernel_rfl) (by kernel_rfl) ?hq3046 ?hy3046 (by assumption) ?hr3046
                      case hi3046 => (simp only [List.getElem?_toArray, List.getElem?_cons_succ, List.getElem?_cons_zero]; rfl)
                      case hq3046 => exact fun _ _ _ h => h
                      case hy3046 => first | exact Or.inl ⟨by rfl, by intro whSw hSw'; (try dsimp only at hSw'); (first | (go_simp; done) | (go_simp; with_reducible rfl))⟩ | exact Or.inr ⟨by rfl, by with_reducible rfl⟩ | fail
                      try simp only [Act.put, List.setIfInBounds_toArray, List.set_cons_zero, List.set_cons_succ]
                      refine wpAnyH_ready (rs := [16]) (by kernel_rfl) (by simp) ?_
                      refine AllReadyH.cons (o := ?oo3047) ?hi3047 (fun K hK => ?hs3047) ?hm3047
                      case hi3047 => (simp only [List.getElem?_toArray, List.getElem?_cons_succ, List.getElem?_cons_zero]; rfl)
                      · go_simp
                        refine (HPJ.out _ HX1.out).mono ?_
                        rintro e x2 ⟨⟨u2, rfl, hr2⟩, hb2⟩
                        have HX2 := Lib.hid (below_chain HX1.out HX1.out.size hb2)
                        have HR2 := Lib.hid hr2
                        obtain ⟨A2, d2, rfl, -⟩ := hr2.form
                        clear hr2 hb2
                        (try go_wp2_with fail)
                        refine hK.out _ _ ?_ (fun hHeld => ?_)
                        · (try dsimp only); (first | (with_reducible exact HQ.out _ HX8.out) | (with_reducible exact HQ.out _ HX7.out) | (with_reducible exact HQ.out _ HX6.out) | (with_reducible exact HQ.out _ HX5.out) | (with_reducible exact HQ.out _ HX4.out) | (with_reducible exact HQ.out _ HX3.out) | (with_reducible exact HQ.out _ HX2.out) | (with_reducible exact HQ.out _ HX1.out) | (with_reducible exact HQ.out _ HX0.out) | fail)
                        clear hK K
                        try simp only [Act.put, List.setIfInBounds_toArray, List.set_cons_zero, List.set_cons_succ]
                        refine wpAnyH_ready (rs := [19]) (by kernel_rfl) (by simp) ?_
                        refine AllReadyH.cons (o := ?oo3048) ?hi3048 (fun K hK => ?hs3048) ?hm3048
                        case hi3048 => (simp only [List.getElem?_toArray, List.getElem?_cons_succ, List.getElem?_cons_zero]; rfl)
                        · go_simp
                          refine (HPI.out _ HX2.out).mono ?_
                          rintro e x3 ⟨⟨u3, rfl, hr3⟩, hb3⟩
                          have HX3 := Lib.hid (below_chain HX2.out HX2.out.size hb3)
                          have HSM1 := Lib.hid (sameInts_any (HR2.out.below stays_int hb3) hr3 HLM.out.1 HLM.out.1)
                          rw [decide_eq_true (rfl : xs = xs)] at HSM1
                          obtain ⟨A3, d3, rfl, -⟩ := hr3.form
                          clear hr3 hb3
                          (try go_wp2_with fail)
                          refine hK.out _ _ ?_ (fun hHeld => ?_)
                          · (try dsimp only); (first | (with_reducible exact HQ.out _ HX8.out) | (with_reducible exact HQ.out _ HX7.out) | (with_reducible exact HQ.out _ HX6.out) | (with_reducible exact HQ.out _ HX5.out) | (with_reducible exact HQ.out _ HX4.out) | (with_reducible exact HQ.out _ HX3.out) | (with_reducible exact HQ.out _ HX2.out) | (with_reducible exact HQ.out _ HX1.out) | (with_reducible exact HQ.out _ HX0.out) | fail)
                          clear hK K
                          try simp only [Act.put, List.setIfInBounds_toArray, List.set_cons_zero, List.set_cons_succ]
                          refine wpAnyH_ready (rs := [20]) (by kernel_rfl) (by simp) ?_
                          refine AllReadyH.cons (o := ?oo3049) ?hi3049 (fun K hK => ?hs3049) ?hm3049
                          case hi3049 => (simp only [List.getElem?_toArray, List.getElem?_cons_succ, List.getElem?_cons_zero]; rfl)
                          · go_simp
                            refine HSM1.out.mono ?_
                            rintro e x4 ⟨rfl, hb4⟩
                            have HX4 := Lib.hid (below_chain HX3.out HX3.out.size hb4)
                            clear hb4
                            (try go_wp2_with fail)
                            refine hK.out _ _ ?_ (fun hHeld => ?_)
                            · (try dsimp only); (first | (with_reducible exact HQ.out _ HX8.out) | (with_reducible exact HQ.out _ HX7.out) | (with_reducible exact HQ.out _ HX6.out) | (with_reducible exact HQ.out _ HX5.out) | (with_reducible exact HQ.out _ HX4.out) | (with_reducible exact HQ.out _ HX3.out) | (with_reducible exact HQ.out _ HX2.out) | (with_reducible exact HQ.out _ HX1.out) | (with_reducible exact HQ.out _ HX0.out) | fail)
                            clear hK K
                            try simp only [Act.put, List.setIfInBounds_toArray, List.set_cons_zero, List.set_cons_succ]
                            refine wpAnyH_take (i := 21) (oi := ?oi3050) (v := ?v3050) ?hi3050 (by kernel_rfl) (by kernel_rfl) (by kernel_rfl) ?hq3050 ?hy3050 (by assumption) ?hr3050
                            case hi3050 => (simp only [List.getElem?_toArray, List.getElem?_cons_succ, List.getElem?_cons_zero]; rfl)
                            case hq3050 => exact fun _ _ _ h => h
                            case hy3050 => exact Or.inl ⟨by rfl, by intro whSw hSw'; (try dsimp only at hSw'); (first | (go_simp; done) | (go_simp; with_reducible rfl))⟩
                            try simp only [Act.put, List.setIfInBounds_toArray, List.set_cons_zero, List.set_cons_succ]
                            refine wpAnyH_take (i := 22) (oi := ?oi3051) (v := ?v3051) ?hi3051 (by kernel_rfl) (by kernel_rfl) (by kernel_rfl) ?hq3051 ?hy3051 (by assumption) ?hr3051
                            case hi3051 => (simp only [List.getElem?_toArray, List.getElem?_cons_succ, List.getElem?_cons_zero]; rfl)
                            case hq3051 => exact fun _ _ _ h => h
                            case hy3051 => exact Or.inl ⟨by rfl, by intro whSw hSw'; (try dsimp only at hSw'); (first | (go_simp; done) | (go_simp; with_reducible rfl))⟩
                            try simp only [Act.put, List.setIfInBounds_toArray, List.set_cons_zero, List.set_cons_succ]
                            refine wpAnyH_take (i := 23) (oi := ?oi3052) (v := ?v3052) ?hi3052 (by kernel_rfl) (by kernel_rfl) (by kernel_rfl) ?hq3052 ?hy3052 (by assumption) ?hr3052
                            case hi3052 => (simp only [List.getElem?_toArray, List.getElem?_cons_succ, List.getElem?_cons_zero]; rfl)
                            case hq3052 => exact fun _ _ _ h => h
                            case hy3052 => first | exact Or.inl ⟨by rfl, by intro whSw hSw'; (try dsimp only at hSw'); (first | (go_simp; done) | (go_simp; with_reducible rfl))⟩ | exact Or.inr ⟨by rfl, by with_reducible rfl⟩ | fail
                            try simp only [Act.put, List.setIfInBounds_toArray, List.set_cons_zero, List.set_cons_succ]
                            refine wpAnyH_take (i := 24) (oi := ?oi3053) (v := ?v3053) ?hi3053 (by kernel_rfl) (by kernel_rfl) (by kernel_rfl) ?hq3053 ?hy3053 (by assumption) ?hr3053
                            case hi3053 => (simp only [List.getElem?_toArray, List.getElem?_cons_succ, List.getElem?_cons_zero]; rfl)
                            case hq3053 => exact fun _ _ _ h => h
                            case hy3053 => first | exact Or.inl ⟨by rfl, by intro whSw hSw'; (try dsimp only at hSw'); (first | (go_simp; done) | (go_simp; with_reducible rfl))⟩ | exact Or.inr ⟨by rfl, by with_reducible rfl⟩ | fail
                            try simp only [Act.put, List.setIfInBounds_toArray, List.set_cons_zero, List.set_cons_succ]
                            refine wpAnyH_take (i := 25) (oi := ?oi3054) (v := ?v3054) ?hi3054 (by kernel_rfl) (by kernel_rfl) (by kernel_rfl) ?hq3054 ?hy3054 (by assumption) ?hr3054
                            case hi3054 => (simp only [List.getElem?_toArray, List.getElem?_cons_succ, List.getElem?_cons_zero]; rfl)
                            case hq3054 => exact fun _ _ _ h => h
                            case hy3054 => first | exact Or.inl ⟨by rfl, by intro whSw hSw'; (try dsimp only at hSw'); (first | (go_simp; done) | (go_simp; with_reducible rfl))⟩ | exact Or.inr ⟨by rfl, by with_reducible rfl⟩ | fail
                            try simp only [Act.put, List.setIfInBounds_toArray, List.set_cons_zero, List.set_cons_succ]
                            refine wpAnyH_take (i := 27) (oi := ?oi3055) (v := ?v3055) ?hi3055 (by kernel_rfl) (by kernel_rfl) (by kernel_rfl) ?hq3055 ?hy3055 (by assumption) ?hr3055
                            case hi3055 => (simp only [List.getElem?_toArray, List.getElem?_cons_succ, List.getElem?_cons_zero]; rfl)
                            case hq3055 => exact fun _ _ _ h => h
                            case hy3055 => first | exact Or.inl ⟨by rfl, by intro whSw hSw'; (try dsimp only at hSw'); (first | (go_simp; done) | (go_simp; with_reducible rfl))⟩ | exact Or.inr ⟨by rfl, by with_reducible rfl⟩ | fail
                            try simp only [Act.put, List.setIfInBounds_toArray, List.set_cons_zero, List.set_cons_succ]
                            refine wpAnyH_take (i := 28) (oi := ?oi3056) (v := ?v3056) ?hi3056 (by kernel_rfl) (by kernel_rfl) (by kernel_rfl) ?hq3056 ?hy3056 (by assumption) ?hr3056
                            case hi3056 => (simp only [List.getElem?_toArray, List.getElem?_cons_succ, List.getElem?_cons_zero]; rfl)
                            case hq3056 => exact fun _ _ _ h => h
                            case hy3056 => first | exact Or.inl ⟨by rfl, by intro whSw hSw'; (try dsimp only at hSw'); (first | (go_simp; done) | (go_simp; with_reducible rfl))⟩ | exact Or.inr ⟨by rfl, by with_reducible rfl⟩ | fail
                            try simp only [Act.put, List.setIfInBounds_toArray, List.set_cons_zero, List.set_cons_succ]
                            refine wpAnyH_take (i := 29) (oi := ?oi3057) (v := ?v3057) ?hi3057 (by kernel_rfl) (by kernel_rfl) (by kernel_rfl) ?hq3057 ?hy3057 (by assumption) ?hr3057
                            case hi3057 => (simp only [List.getElem?_toArray, List.getElem?_cons_succ, List.getElem?_cons_zero]; rfl)
                            case hq3057 => exact fun _ _ _ h => h
                            case hy3057 => first | exact Or.inl ⟨by rfl, by intro whSw hSw'; (try dsimp only at hSw'); (first | (go_simp; done) | (go_simp; with_reducible rfl))⟩ | exact Or.inr ⟨by rfl, by with_reducible rfl⟩ | fail
                            try simp only [Act.put, List.setIfInBounds_toArray, List.set_cons_zero, List.set_cons_succ]
                            refine wpAnyH_ready (rs := [26]) (by kernel_rfl) (by simp) ?_
                            refine AllReadyH.cons (o := ?oo3058) ?hi3058 (fun K hK => ?hs3058) ?hm3058
                            case hi3058 => (simp only [List.getElem?_toArray, List.getElem?_cons_succ, List.getElem?_cons_zero]; rfl)
                            · go_simp
                              refine (HTJ.out _ HX4.out).mono ?_
                              rintro e x5 ⟨⟨u5, rfl, hr5⟩, hb5⟩
                              have HX5 := Lib.hid (below_chain HX4.out HX4.out.size hb5)
                              have HR5 := Lib.hid hr5
                              obtain ⟨A5, d5, rfl, -⟩ := hr5.form
                              clear hr5 hb5
                              (try go_wp2_with fail)
                              refine hK.out _ _ ?_ (fun hHeld => ?_)
                              · (try dsimp only); (first | (with_reducible exact HQ.out _ HX8.out) | (with_reducible exact HQ.out _ HX7.out) | (with_reducible exact HQ.out _ HX6.out) | (with_reducible exact HQ.out _ HX5.out) | (with_reducible exact HQ.out _ HX4.out) | (with_reducible exact HQ.out _ HX3.out) | (with_reducible exact HQ.out _ HX2.out) | (with_reducible exact HQ.out _ HX1.out) | (with_reducible exact HQ.out _ HX0.out) | fail)
                              clear hK K
                              try simp only [Act.put, List.setIfInBounds_toArray, List.set_cons_zero, List.set_cons_succ]
                              refine wpAnyH_ready (rs := [30]) (by kernel_rfl) (by simp) ?_
                              refine AllReadyH.cons (o := ?oo3059) ?hi3059 (fun K hK => ?hs3059) ?hm3059
                              case hi3059 => (simp only [List.getElem?_toArray, List.getElem?_cons_succ, List.getElem?_cons_zero]; rfl)
                              · go_simp
                                refine (HTI.out _ HX5.out).mono ?_
                                rintro e x6 ⟨⟨u6, rfl, hr6⟩, hb6⟩
                                have HX6 := Lib.hid (below_chain HX5.out HX5.out.size hb6)
                                have HSM2 := Lib.hid (sameInts_any (HR5.out.below stays_int hb6) hr6 HLM.out.2 HLM.out.2)
                                rw [decide_eq_true (rfl : ys = ys)] at HSM2
                                obtain ⟨A6, d6, rfl, -⟩ := hr6.form
                                clear hr6 hb6
                                (try go_wp2_with fail)
                                refine hK.out _ _ ?_ (fun hHeld => ?_)
                                · (try dsimp only); (first | (with_reducible exact HQ.out _ HX8.out) | (with_reducible exact HQ.out _ HX7.out) | (with_reducible exact HQ.out _ HX6.out) | (with_reducible exact HQ.out _ HX5.out) | (with_reducible exact HQ.out _ HX4.out) | (with_reducible exact HQ.out _ HX3.out) | (with_reducible exact HQ.out _ HX2.out) | (with_reducible exact HQ.out _ HX1.out) | (with_reducible exact HQ.out _ HX0.out) | fail)
                                clear hK K
                                try simp only [Act.put, List.setIfInBounds_toArray, List.set_cons_zero, List.set_cons_succ]
                                refine wpAnyH_ready (rs := [31]) (by kernel_rfl) (by simp) ?_
                                refine AllReadyH.cons (o := ?oo3060) ?hi3060 (fun K hK => ?hs3060) ?hm3060
                                case hi3060 => (simp only [List.getElem?_toArray, List.getElem?_cons_succ, List.getElem?_cons_zero]; rfl)
                                · go_simp
                                  refine HSM2.out.mono ?_
                                  rintro e x7 ⟨rfl, hb7⟩
                                  have HX7 := Lib.hid (below_chain HX6.out HX6.out.size hb7)
                                  clear hb7
                                  (try go_wp2_with fail)
                                  refine hK.out _ _ ?_ (fun hHeld => ?_)
                                  · (try dsimp only); (first | (with_reducible exact HQ.out _ HX8.out) | (with_reducible exact HQ.out _ HX7.out) | (with_reducible exact HQ.out _ HX6.out) | (with_reducible exact HQ.out _ HX5.out) | (with_reducible exact HQ.out _ HX4.out) | (with_reducible exact HQ.out _ HX3.out) | (with_reducible exact HQ.out _ HX2.out) | (with_reducible exact HQ.out _ HX1.out) | (with_reducible exact HQ.out _ HX0.out) | fail)
                                  clear hK K
                                  try simp only [Act.put, List.setIfInBounds_toArray, List.set_cons_zero, List.set_cons_succ]
                                  refine wpAnyH_take (i := 32) (oi := ?oi3061) (v := ?v3061) ?hi3061 (by kernel_rfl) (by kernel_rfl) (by kernel_rfl) ?hq3061 ?hy3061 (by assumption) ?hr3061
                                  case hi3061 => (simp only [List.getElem?_toArray, List.getElem?_cons_succ, List.getElem?_cons_zero]; rfl)
                                  case hq3061 => exact fun _ _ _ h => h
                                  case hy3061 => exact Or.inl ⟨by rfl, by intro whSw hSw'; (try dsimp only at hSw'); (first | (go_simp; done) | (go_simp; with_reducible rfl))⟩
                                  try simp only [Act.put, List.setIfInBounds_toArray, List.set_cons_zero, List.set_cons_succ]
                                  refine wpAnyH_take (i := 33) (oi := ?oi3062) (v := ?v3062) ?hi3062 (by kernel_rfl) (by kernel_rfl) (by kernel_rfl) ?hq3062 ?hy3062 (by assumption) ?hr3062
                                  case hi3062 => (simp only [List.getElem?_toArray, List.getElem?_cons_succ, List.getElem?_cons_zero]; rfl)
                                  case hq3062 => exact fun _ _ _ h => h
                                  case hy3062 => exact Or.inl ⟨by rfl, by intro whSw hSw'; (try dsimp only at hSw'); (first | (go_simp; done) | (go_simp; with_reducible rfl))⟩
                                  try simp only [Act.put, List.setIfInBounds_toArray, List.set_cons_zero, List.set_cons_succ]
                                  refine wpAnyH_ready (rs := [34]) (by kernel_rfl) (by simp) ?_
                                  refine AllReadyH.cons (o := ?oo3063) ?hi3063 (fun K hK => ?hs3063) ?hm3063
                                  case hi3063 => (simp only [List.getElem?_toArray, List.getElem?_cons_succ, List.getElem?_cons_zero]; rfl)
                                  · go_simp
                                    refine (HA.out _).mono ?_
                                    rintro e x8 ⟨rfl, hb8⟩
                                    have HX8 := Lib.hid (below_chain HX7.out HX7.out.size hb8)
                                    clear hb8
                                    (try go_wp2_with fail)
                                    refine hK.out _ _ ?_ (fun hHeld => ?_)
                                    · (try dsimp only); (first | (with_reducible exact HQ.out _ HX8.out) | (with_reducible exact HQ.out _ HX7.out) | (with_reducible exact HQ.out _ HX6.out) | (with_reducible exact HQ.out _ HX5.out) | (with_reducible exact HQ.out _ HX4.out) | (with_reducible exact HQ.out _ HX3.out) | (with_reducible exact HQ.out _ HX2.out) | (with_reducible exact HQ.out _ HX1.out) | (with_reducible exact HQ.out _ HX0.out) | fail)
                                    clear hK K
                                    try simp only [Act.put, List.setIfInBounds_toArray, List.set_cons_zero, List.set_cons_succ]
                                    refine wpAnyH_take (i := 35) (oi := ?oi3064) (v := ?v3064) ?hi3064 (by kernel_rfl) (by kernel_rfl) (by kernel_rfl) ?hq3064 ?hy3064 (by assumption) ?hr3064
                                    case hi3064 => (simp only [List.getElem?_toArray, List.getElem?_cons_succ, List.getElem?_cons_zero]; rfl)
                                    case hq3064 => exact fun _ _ _ h => h
                                    case hy3064 => exact Or.inl ⟨by rfl, by intro whSw hSw'; (try dsimp only at hSw'); (first | (go_simp; done) | (go_simp; with_reducible rfl))⟩
                                    try simp only [Act.put, List.setIfInBounds_toArray, List.set_cons_zero, List.set_cons_succ]
                                    refine wpAnyH_take (i := 36) (oi := ?oi3065) (v := ?v3065) ?hi3065 (by kernel_rfl) (by kernel_rfl) (by kernel_rfl) ?hq3065 ?hy3065 (by assumption) ?hr3065
                                    case hi3065 => (simp only [List.getElem?_toArray, List.getElem?_cons_succ, List.getElem?_cons_zero]; rfl)
                                    case hq3065 => exact fun _ _ _ h => h
                                    case hy3065 => exact Or.inl ⟨by rfl, by intro whSw hSw'; (try dsimp only at hSw'); (first | (go_simp; done) | (go_simp; with_reducible rfl))⟩
                                    try simp only [Act.put, List.setIfInBounds_toArray, List.set_cons_zero, List.set_cons_succ]
                                    refine wpAnyH_done (by kernel_rfl) ?_ _
                                    have HFIN := Lib.hid (HB0.out.trans ((HBD0.out.trans (HX8.out.mono HBD0.out.size)).mono HNX.out))
                                    go_wp2_with fail
                                    go_ret
                                    exact ⟨rfl, HFIN.out⟩
                                  exact AllReadyH.nil
                                exact AllReadyH.nil
                              exact AllReadyH.nil
                            exact AllReadyH.nil
                          exact AllReadyH.nil
                        exact AllReadyH.nil
                      exact AllReadyH.nil
                    exact AllReadyH.nil
                  exact AllReadyH.nil
                refine AllReadyH.cons (o := ?oo3066) ?hi3066 (fun K hK => ?hs3066) ?hm3066
                case hi3066 => (simp only [List.getElem?_toArray, List.getElem?_cons_succ, List.getElem?_cons_zero]; rfl)
                · go_simp
                  refine hK.out _ _ ?_ (fun hHeld => ?_)
                  · (try dsimp only); (first | (with_reducible exact HQ.out _ HX8.out) | (with_reducible exact HQ.out _ HX7.out) | (with_reducible exact HQ.out _ HX6.out) | (with_reducible exact HQ.out _ HX5.out) | (with_reducible exact HQ.out _ HX4.out) | (with_reducible exact HQ.out _ HX3.out) | (with_reducible exact HQ.out _ HX2.out) | (with_reducible exact HQ.out _ HX1.out) | (with_reducible exact HQ.out _ HX0.out) | fail)
                  clear hK K
                  try simp only [Act.put, List.setIfInBounds_toArray, List.set_cons_zero, List.set_cons_succ]
                  refine wpAnyH_ready (rs := [7]) (by kernel_rfl) (by simp) ?_
                  refine AllReadyH.cons (o := ?oo3067) ?hi3067 (fun K hK => ?hs3067) ?hm3067
                  case hi3067 => (simp only [List.getElem?_toArray, List.getElem?_cons_succ, List.getElem?_cons_zero]; rfl)
                  · go_simp
                    refine (HEJ.out _ HX0.out).mono ?_
                    rintro e x1 ⟨⟨u1, rfl, hs1⟩, hb1⟩
                    have HX1 := Lib.hid (below_chain HX0.out HX0.out.size hb1)
                    have hku := HCV.out x1 _ _ hs1
                    have hkb1 := HKB.out _ HX1.out
                    clear hs1 hb1
                    (try go_wp2_with fail)
                    refine hK.out _ _ ?_ (fun hHeld => ?_)
                    · (try dsimp only); (first | (with_reducible exact HQ.out _ HX8.out) | (with_reducible exact HQ.out _ HX7.out) | (with_reducible exact HQ.out _ HX6.out) | (with_reducible exact HQ.out _ HX5.out) | (with_reducible exact HQ.out _ HX4.out) | (with_reducible exact HQ.out _ HX3.out) | (with_reducible exact HQ.out _ HX2.out) | (with_reducible exact HQ.out _ HX1.out) | (with_reducible exact HQ.out _ HX0.out) | fail)
                    clear hK K
                    try simp only [Act.put, List.setIfInBounds_toArray, List.set_cons_zero, List.set_cons_succ]
                    refine wpAnyH_ready (rs := [8]) (by kernel_rfl) (by simp) ?_
                    refine AllReadyH.cons (o := ?oo3068) ?hi3068 (fun K hK => ?hs3068) ?hm3068
                    case hi3068 => (simp only [List.getElem?_toArray, List.getElem?_cons_succ, List.getElem?_cons_zero]; rfl)
                    · go_simp
                      refine hK.out _ _ ?_ (fun hHeld => ?_)
                      · (try dsimp only); (first | (with_reducible exact HQ.out _ HX8.out) | (with_reducible exact HQ.out _ HX7.out) | (with_reducible exact HQ.out _ HX6.out) | (with_reducible exact HQ.out _ HX5.out) | (with_reducible exact HQ.out _ HX4.out) | (with_reducible exact HQ.out _ HX3.out) | (with_reducible exact HQ.out _ HX2.out) | (with_reducible exact HQ.out _ HX1.out) | (with_reducible exact HQ.out _ HX0.out) | fail)
                      clear hK K
                      try simp only [Act.put, List.setIfInBounds_toArray, List.set_cons_zero, List.set_cons_succ]
                      refine wpAnyH_take (i := 11) (oi := ?oi3069) (v := ?v3069) ?hi3069 (by kernel_rfl) (by kernel_rfl) (by kernel_rfl) ?hq3069 ?hy3069 (by assumption) ?hr3069
                      case hi3069 => (simp only [List.getElem?_toArray, List.getElem?_cons_succ, List.getElem?_cons_zero]; rfl)
                      case hq3069 => exact fun _ _ _ h => h
                      case hy3069 => first | exact Or.inl ⟨by rfl, by intro whSw hSw'; (try dsimp only at hSw'); (first | (go_simp; done) | (go_simp; with_reducible rfl))⟩ | exact Or.inr ⟨by rfl, by with_reducible rfl⟩ | fail
                      try simp only [Act.put, List.setIfInBounds_toArray, List.set_cons_zero, List.set_cons_succ]
                      refine wpAnyH_take (i := 12) (oi := ?oi3070) (v := ?v3070) ?hi3070 (by kernel_rfl) (by kernel_rfl) (by kernel_rfl) ?hq3070 ?hy3070 (by assumption) ?hr3070
                      case hi3070 => (simp only [List.getElem?_toArray, List.getElem?_cons_succ, List.getElem?_cons_zero]; rfl)
                      case hq3070 => exact fun _ _ _ h => h
                      case hy3070 => exact Or.inl ⟨by rfl, by intro whSw hSw'; (try dsimp only at hSw'); (first | (go_simp; done) | (go_simp; with_reducible rfl))⟩
                      try simp only [Act.put, List.setIfInBounds_toArray, List.set_cons_zero, List.set_cons_succ]
                      refine wpAnyH_take (i := 13) (oi := ?oi3071) (v := ?v3071) ?hi3071 (by kernel_rfl) (by kernel_rfl) (by kernel_rfl) ?hq3071 ?hy3071 (by assumption) ?hr3071
                      case hi3071 => (simp only [List.getElem?_toArray, List.getElem?_cons_succ, List.getElem?_cons_zero]; rfl)
                      case hq3071 => exact fun _ _ _ h => h
                      case hy3071 => exact Or.inl ⟨by rfl, by intro whSw hSw'; (try dsimp only at hSw'); (first | (go_simp; done) | (go_simp; with_reducible rfl))⟩
                      try simp only [Act.put, List.setIfInBounds_toArray, List.set_cons_zero, List.set_cons_succ]
                      refine wpAnyH_take (i := 14) (oi := ?oi3072) (v := ?v3072) ?hi3072 (by kernel_rfl) (by kernel_rfl) (by kernel_rfl) ?hq3072 ?hy3072 (by assumption) ?hr3072
                      case hi3072 => (simp only [List.getElem?_toArray, List.getElem?_cons_succ, List.getElem?_cons_zero]; rfl)
                      case hq3072 => exact fun _ _ _ h => h
                      case hy3072 => first | exact Or.inl ⟨by rfl, by intro whSw hSw'; (try dsimp only at hSw'); (first | (go_simp; done) | (go_simp; with_reducible rfl))⟩ | exact Or.inr ⟨by rfl, by with_reducible rfl⟩ | fail
                      try simp only [Act.put, List.setIfInBounds_toArray, List.set_cons_zero, List.set_cons_succ]
                      refine wpAnyH_take (i := 15) (oi := ?oi3073) (v := ?v3073) ?hi3073 (by kernel_rfl) (by kernel_rfl) (by kernel_rfl) ?hq3073 ?hy3073 (by assumption) ?hr3073
                      case hi3073 => (simp only [List.getElem?_toArray, List.getElem?_cons_succ, List.getElem?_cons_zero]; rfl)
                      case hq3073 => exact fun _ _ _ h => h
                      case hy3073 => first | exact Or.inl ⟨by rfl, by intro whSw hSw'; (try dsimp only at hSw'); (first | (go_simp; done) | (go_simp; with_reducible rfl))⟩ | exact Or.inr ⟨by rfl, by with_reducible rfl⟩ | fail
                      try simp only [Act.put, List.setIfInBounds_toArray, List.set_cons_zero, List.set_cons_succ]
                      refine wpAnyH_take (i := 17) (oi := ?oi3074) (v := ?v3074) ?hi3074 (by kernel_rfl) (by kernel_rfl) (by kernel_rfl) ?hq3074 ?hy3074 (by assumption) ?hr3074
                      case hi3074 => (simp only [List.getElem?_toArray, List.getElem?_cons_succ, List.getElem?_cons_zero]; rfl)
                      case hq3074 => exact fun _ _ _ h => h
                      case hy3074 => first | exact Or.inl ⟨by rfl, by intro whSw hSw'; (try dsimp only at hSw'); (first | (go_simp; done) | (go_simp; with_reducible rfl))⟩ | exact Or.inr ⟨by rfl, by with_reducible rfl⟩ | fail
                      try simp only [Act.put, List.setIfInBounds_toArray, List.set_cons_zero, List.set_cons_succ]
                      refine wpAnyH_take (i := 18) (oi := ?oi3075) (v := ?v3075) ?hi3075 (by kernel_rfl) (by kernel_rfl) (by kernel_rfl) ?hq3075 ?hy3075 (by assumption) ?hr3075
                      case hi3075 => (simp only [List.getElem?_toArray, List.getElem?_cons_succ, List.getElem?_cons_zero]; rfl)
                      case hq3075 => exact fun _ _ _ h => h
                      case hy3075 => first | exact Or.inl ⟨by rfl, by intro whSw hSw'; (try dsimp only at hSw'); (first | (go_simp; done) | (go_simp; with_reducible rfl))⟩ | exact Or.inr ⟨by rfl, by with_reducible rfl⟩ | fail
                      try simp only [Act.put, List.setIfInBounds_toArray, List.set_cons_zero, List.set_cons_succ]
                      refine wpAnyH_ready (rs := [16]) (by kernel_rfl) (by simp) ?_
                      refine AllReadyH.cons (o := ?oo3076) ?hi3076 (fun K hK => ?hs3076) ?hm3076
                      case hi3076 => (simp only [List.getElem?_toArray, List.getElem?_cons_succ, List.getElem?_cons_zero]; rfl)
                      · go_simp
                        refine (HPJ.out _ HX1.out).mono ?_
                        rintro e x2 ⟨⟨u2, rfl, hr2⟩, hb2⟩
                        have HX2 := Lib.hid (below_chain HX1.out HX1.out.size hb2)
                        have HR2 := Lib.hid hr2
                        obtain ⟨A2, d2, rfl, -⟩ := hr2.form
                        clear hr2 hb2
                        (try go_wp2_with fail)
                        refine hK.out _ _ ?_ (fun hHeld => ?_)
                        · (try dsimp only); (first | (with_reducible exact HQ.out _ HX8.out) | (with_reducible exact HQ.out _ HX7.out) | (with_reducible exact HQ.out _ HX6.out) | (with_reducible exact HQ.out _ HX5.out) | (with_reducible exact HQ.out _ HX4.out) | (with_reducible exact HQ.out _ HX3.out) | (with_reducible exact HQ.out _ HX2.out) | (with_reducible exact HQ.out _ HX1.out) | (with_reducible exact HQ.out _ HX0.out) | fail)
                        clear hK K
                        try simp only [Act.put, List.setIfInBounds_toArray, List.set_cons_zero, List.set_cons_succ]
                        refine wpAnyH_ready (rs := [19]) (by kernel_rfl) (by simp) ?_
                        refine AllReadyH.cons (o := ?oo3077) ?hi3077 (fun K hK => ?hs3077) ?hm3077
                        case hi3077 => (simp only [List.getElem?_toArray, List.getElem?_cons_succ, List.getElem?_cons_zero]; rfl)
                        · go_simp
                          refine (HPI.out _ HX2.out).mono ?_
                          rintro e x3 ⟨⟨u3, rfl, hr3⟩, hb3⟩
                          have HX3 := Lib.hid (below_chain HX2.out HX2.out.size hb3)
                          have HSM1 := Lib.hid (sameInts_any (HR2.out.below stays_int hb3) hr3 HLM.out.1 HLM.out.1)
                          rw [decide_eq_true (rfl : xs = xs)] at HSM1
                          obtain ⟨A3, d3, rfl, -⟩ := hr3.form
                          clear hr3 hb3
                          (try go_wp2_with fail)
                          refine hK.out _ _ ?_ (fun hHeld => ?_)
                          · (try dsimp only); (first | (with_reducible exact HQ.out _ HX8.out) | (with_reducible exact HQ.out _ HX7.out) | (with_reducible exact HQ.out _ HX6.out) | (with_reducible exact HQ.out _ HX5.out) | (with_reducible exact HQ.out _ HX4.out) | (with_reducible exact HQ.out _ HX3.out) | (with_reducible exact HQ.out _ HX2.out) | (with_reducible exact HQ.out _ HX1.out) | (with_reducible exact HQ.out _ HX0.out) | fail)
                          clear hK K
                          try simp only [Act.put, List.setIfInBounds_toArray, List.set_cons_zero, List.set_cons_succ]
                          refine wpAnyH_ready (rs := [20]) (by kernel_rfl) (by simp) ?_
                          refine AllReadyH.cons (o := ?oo3078) ?hi3078 (fun K hK => ?hs3078) ?hm3078
                          case hi3078 => (simp only [List.getElem?_toArray, List.getElem?_cons_succ, List.getElem?_cons_zero]; rfl)
                          · go_simp
                            refine HSM1.out.mono ?_
                            rintro e x4 ⟨rfl, hb4⟩
                            have HX4 := Lib.hid (below_chain HX3.out HX3.out.size hb4)
                            clear hb4
                            (try go_wp2_with fail)
                            refine hK.out _ _ ?_ (fun hHeld => ?_)
                            · (try dsimp only); (first | (with_reducible exact HQ.out _ HX8.out) | (with_reducible exact HQ.out _ HX7.out) | (with_reducible exact HQ.out _ HX6.out) | (with_reducible exact HQ.out _ HX5.out) | (with_reducible exact HQ.out _ HX4.out) | (with_reducible exact HQ.out _ HX3.out) | (with_reducible exact HQ.out _ HX2.out) | (with_reducible exact HQ.out _ HX1.out) | (with_reducible exact HQ.out _ HX0.out) | fail)
                            clear hK K
                            try simp only [Act.put, List.setIfInBounds_toArray, List.set_cons_zero, List.set_cons_succ]
                            refine wpAnyH_take (i := 21) (oi := ?oi3079) (v := ?v3079) ?hi3079 (by kernel_rfl) (by kernel_rfl) (by kernel_rfl) ?hq3079 ?hy3079 (by assumption) ?hr3079
                            case hi3079 => (simp only [List.getElem?_toArray, List.getElem?_cons_succ, List.getElem?_cons_zero]; rfl)
                            case hq3079 => exact fun _ _ _ h => h
                            case hy3079 => exact Or.inl ⟨by rfl, by intro whSw hSw'; (try dsimp only at hSw'); (first | (go_simp; done) | (go_simp; with_reducible rfl))⟩
                            try simp only [Act.put, List.setIfInBounds_toArray, List.set_cons_zero, List.set_cons_succ]
                            refine wpAnyH_take (i := 22) (oi := ?oi3080) (v := ?v3080) ?hi3080 (by kernel_rfl) (by kernel_rfl) (by kernel_rfl) ?hq3080 ?hy3080 (by assumption) ?hr3080
                            case hi3080 => (simp only [List.getElem?_toArray, List.getElem?_cons_succ, List.getElem?_cons_zero]; rfl)
                            case hq3080 => exact fun _ _ _ h => h
                            case hy3080 => exact Or.inl ⟨by rfl, by intro whSw hSw'; (try dsimp only at hSw'); (first | (go_simp; done) | (go_simp; with_reducible rfl))⟩
                            try simp only [Act.put, List.setIfInBounds_toArray, List.set_cons_zero, List.set_cons_succ]
                            refine wpAnyH_take (i := 23) (oi := ?oi3081) (v := ?v3081) ?hi3081 (by kernel_rfl) (by kernel_rfl) (by kernel_rfl) ?hq3081 ?hy3081 (by assumption) ?hr3081
                            case hi3081 => (simp only [List.getElem?_toArray, List.getElem?_cons_succ, List.getElem?_cons_zero]; rfl)
                            case hq3081 => exact fun _ _ _ h => h
                            case hy3081 => first | exact Or.inl ⟨by rfl, by intro whSw hSw'; (try dsimp only at hSw'); (first | (go_simp; done) | (go_simp; with_reducible rfl))⟩ | exact Or.inr ⟨by rfl, by with_reducible rfl⟩ | fail
                            try simp only [Act.put, List.setIfInBounds_toArray, List.set_cons_zero, List.set_cons_succ]
                            refine wpAnyH_take (i := 24) (oi := ?oi3082) (v := ?v3082) ?hi3082 (by kernel_rfl) (by kernel_rfl) (by kernel_rfl) ?hq3082 ?hy3082 (by assumption) ?hr3082
                            case hi3082 => (simp only [List.getElem?_toArray, List.getElem?_cons_succ, List.getElem?_cons_zero]; rfl)
                            case hq3082 => exact fun _ _ _ h => h
                            case hy3082 => first | exact Or.inl ⟨by rfl, by intro whSw hSw'; (try dsimp only at hSw'); (first | (go_simp; done) | (go_simp; with_reducible rfl))⟩ | exact Or.inr ⟨by rfl, by with_reducible rfl⟩ | fail
                            try simp only [Act.put, List.setIfInBounds_toArray, List.set_cons_zero, List.set_cons_succ]
                            refine wpAnyH_take (i := 25) (oi := ?oi3083) (v := ?v3083) ?hi3083 (by kernel_rfl) (by kernel_rfl) (by kernel_rfl) ?hq3083 ?hy3083 (by assumption) ?hr3083
                            case hi3083 => (simp only [List.getElem?_toArray, List.getElem?_cons_succ, List.getElem?_cons_zero]; rfl)
                            case hq3083 => exact fun _ _ _ h => h
                            case hy3083 => first | exact Or.inl ⟨by rfl, by intro whSw hSw'; (try dsimp only at hSw'); (first | (go_simp; done) | (go_simp; with_reducible rfl))⟩ | exact Or.inr ⟨by rfl, by with_reducible rfl⟩ | fail
                            try simp only [Act.put, List.setIfInBounds_toArray, List.set_cons_zero, List.set_cons_succ]
                            refine wpAnyH_take (i := 27) (oi := ?oi3084) (v := ?v3084) ?hi3084 (by kernel_rfl) (by kernel_rfl) (by kernel_rfl) ?hq3084 ?hy3084 (by assumption) ?hr3084
                            case hi3084 => (simp only [List.getElem?_toArray, List.getElem?_cons_succ, List.getElem?_cons_zero]; rfl)
                            case hq3084 => exact fun _ _ _ h => h
                            case hy3084 => first | exact Or.inl ⟨by rfl, by intro whSw hSw'; (try dsimp only at hSw'); (first | (go_simp; done) | (go_simp; with_reducible rfl))⟩ | exact Or.inr ⟨by rfl, by with_reducible rfl⟩ | fail
                            try simp only [Act.put, List.setIfInBounds_toArray, List.set_cons_zero, List.set_cons_succ]
                            refine wpAnyH_take (i := 28) (oi := ?oi3085) (v := ?v3085) ?hi3085 (by kernel_rfl) (by kernel_rfl) (by kernel_rfl) ?hq3085 ?hy3085 (by assumption) ?hr3085
                            case hi3085 => (simp only [List.getElem?_toArray, List.getElem?_cons_succ, List.getElem?_cons_zero]; rfl)
                            case hq3085 => exact fun _ _ _ h => h
                            case hy3085 => first | exact Or.inl ⟨by rfl, by intro whSw hSw'; (try dsimp only at hSw'); (first | (go_simp; done) | (go_simp; with_reducible rfl))⟩ | exact Or.inr ⟨by rfl, by with_reducible rfl⟩ | fail
                            try simp only [Act.put, List.setIfInBounds_toArray, List.set_cons_zero, List.set_cons_succ]
                            refine wpAnyH_take (i := 29) (oi := ?oi3086) (v := ?v3086) ?hi3086 (by kernel_rfl) (by kernel_rfl) (by kernel_rfl) ?hq3086 ?hy3086 (by assumption) ?hr3086
                            case hi3086 => (simp only [List.getElem?_toArray, List.getElem?_cons_succ, List.getElem?_cons_zero]; rfl)
                            case hq3086 => exact fun _ _ _ h => h
                            case hy3086 => first | exact Or.inl ⟨by rfl, by intro whSw hSw'; (try dsimp only at hSw'); (first | (go_simp; done) | (go_simp; with_reducible rfl))⟩ | exact Or.inr ⟨by rfl, by with_reducible rfl⟩ | fail
                            try simp only [Act.put, List.setIfInBounds_toArray, List.set_cons_zero, List.set_cons_succ]
                            refine wpAnyH_ready (rs := [26]) (by kernel_rfl) (by simp) ?_
                            refine AllReadyH.cons (o := ?oo3087) ?hi3087 (fun K hK => ?hs3087) ?hm3087
                            case hi3087 => (simp only [List.getElem?_toArray, List.getElem?_cons_succ, List.getElem?_cons_zero]; rfl)
                            · go_simp
                              refine (HTJ.out _ HX4.out).mono ?_
                              rintro e x5 ⟨⟨u5, rfl, hr5⟩, hb5⟩
                              have HX5 := Lib.hid (below_chain HX4.out HX4.out.size hb5)
                              have HR5 := Lib.hid hr5
                              obtain ⟨A5, d5, rfl, -⟩ := hr5.form
                              clear hr5 hb5
                              (try go_wp2_with fail)
                              refine hK.out _ _ ?_ (fun hHeld => ?_)
                              · (try dsimp only); (first | (with_reducible exact HQ.out _ HX8.out) | (with_reducible exact HQ.out _ HX7.out) | (with_reducible exact HQ.out _ HX6.out) | (with_reducible exact HQ.out _ HX5.out) | (with_reducible exact HQ.out _ HX4.out) | (with_reducible exact HQ.out _ HX3.out) | (with_reducible exact HQ.out _ HX2.out) | (with_reducible exact HQ.out _ HX1.out) | (with_reducible exact HQ.out _ HX0.out) | fail)
                              clear hK K
                              try simp only [Act.put, List.setIfInBounds_toArray, List.set_cons_zero, List.set_cons_succ]
                              refine wpAnyH_ready (rs := [30]) (by kernel_rfl) (by simp) ?_
                              refine AllReadyH.cons (o := ?oo3088) ?hi3088 (fun K hK => ?hs3088) ?hm3088
                              case hi3088 => (simp only [List.getElem?_toArray, List.getElem?_cons_succ, List.getElem?_cons_zero]; rfl)
                              · go_simp
                                refine (HTI.out _ HX5.out).mono ?_
                                rintro e x6 ⟨⟨u6, rfl, hr6⟩, hb6⟩
                                have HX6 := Lib.hid (below_chain HX5.out HX5.out.size hb6)
                                have HSM2 := Lib.hid (sameInts_any (HR5.out.below stays_int hb6) hr6 HLM.out.2 HLM.out.2)
                                rw [decide_eq_true (rfl : ys = ys)] at HSM2
                                obtain ⟨A6, d6, rfl, -⟩ := hr6.form
                                clear hr6 hb6
                                (try go_wp2_with fail)
                                refine hK.out _ _ ?_ (fun hHeld => ?_)
                                · (try dsimp only); (first | (with_reducible exact HQ.out _ HX8.out) | (with_reducible exact HQ.out _ HX7.out) | (with_reducible exact HQ.out _ HX6.out) | (with_reducible exact HQ.out _ HX5.out) | (with_reducible exact HQ.out _ HX4.out) | (with_reducible exact HQ.out _ HX3.out) | (with_reducible exact HQ.out _ HX2.out) | (with_reducible exact HQ.out _ HX1.out) | (with_reducible exact HQ.out _ HX0.out) | fail)
                                clear hK K
                                try simp only [Act.put, List.setIfInBounds_toArray, List.set_cons_zero, List.set_cons_succ]
                                refine wpAnyH_ready (rs := [31]) (by kernel_rfl) (by simp) ?_
                                refine AllReadyH.cons (o := ?oo3089) ?hi3089 (fun K hK => ?hs3089) ?hm3089
                                case hi3089 => (simp only [List.getElem?_toArray, List.getElem?_cons_succ, List.getElem?_cons_zero]; rfl)
                                · go_simp
                                  refine HSM2.out.mono ?_
                                  rintro e x7 ⟨rfl, hb7⟩
                                  have HX7 := Lib.hid (below_chain HX6.out HX6.out.size hb7)
                                  clear hb7
                                  (try go_wp2_with fail)
                                  refine hK.out _ _ ?_ (fun hHeld => ?_)
                                  · (try dsimp only); (first | (with_reducible exact HQ.out _ HX8.out) | (with_reducible exact HQ.out _ HX7.out) | (with_reducible exact HQ.out _ HX6.out) | (with_reducible exact HQ.out _ HX5.out) | (with_reducible exact HQ.out _ HX4.out) | (with_reducible exact HQ.out _ HX3.out) | (with_reducible exact HQ.out _ HX2.out) | (with_reducible exact HQ.out _ HX1.out) | (with_reducible exact HQ.out _ HX0.out) | fail)
                                  clear hK K
                                  try simp only [Act.put, List.setIfInBounds_toArray, List.set_cons_zero, List.set_cons_succ]
                                  refine wpAnyH_take (i := 32) (oi := ?oi3090) (v := ?v3090) ?hi3090 (by kernel_rfl) (by kernel_rfl) (by kernel_rfl) ?hq3090 ?hy3090 (by assumption) ?hr3090
                                  case hi3090 => (simp only [List.getElem?_toArray, List.getElem?_cons_succ, List.getElem?_cons_zero]; rfl)
                                  case hq3090 => exact fun _ _ _ h => h
                                  case hy3090 => exact Or.inl ⟨by rfl, by intro whSw hSw'; (try dsimp only at hSw'); (first | (go_simp; done) | (go_simp; with_reducible rfl))⟩
                                  try simp only [Act.put, List.setIfInBounds_toArray, List.set_cons_zero, List.set_cons_succ]
                                  refine wpAnyH_take (i := 33) (oi := ?oi3091) (v := ?v3091) ?hi3091 (by kernel_rfl) (by kernel_rfl) (by kernel_rfl) ?hq3091 ?hy3091 (by assumption) ?hr3091
                                  case hi3091 => (simp only [List.getElem?_toArray, List.getElem?_cons_succ, List.getElem?_cons_zero]; rfl)
                                  case hq3091 => exact fun _ _ _ h => h
                                  case hy3091 => exact Or.inl ⟨by rfl, by intro whSw hSw'; (try dsimp only at hSw'); (first | (go_simp; done) | (go_simp; with_reducible rfl))⟩
                                  try simp only [Act.put, List.setIfInBounds_toArray, List.set_cons_zero, List.set_cons_succ]
                                  refine wpAnyH_ready (rs := [34]) (by kernel_rfl) (by simp) ?_
                                  refine AllReadyH.cons (o := ?oo3092) ?hi3092 (fun K hK => ?hs3092) ?hm3092
                                  case hi3092 => (simp only [List.getElem?_toArray, List.getElem?_cons_succ, List.getElem?_cons_zero]; rfl)
                                  · go_simp
                                    refine (HA.out _).mono ?_
                                    rintro e x8 ⟨rfl, hb8⟩
                                    have HX8 := Lib.hid (below_chain HX7.out HX7.out.size hb8)
                                    clear hb8
                                    (try go_wp2_with fail)
                                    refine hK.out _ _ ?_ (fun hHeld => ?_)
                                    · (try dsimp only); (first | (with_reducible exact HQ.out _ HX8.out) | (with_reducible exact HQ.out _ HX7.out) | (with_reducible exact HQ.out _ HX6.out) | (with_reducible exact HQ.out _ HX5.out) | (with_reducible exact HQ.out _ HX4.out) | (with_reducible exact HQ.out _ HX3.out) | (with_reducible exact HQ.out _ HX2.out) | (with_reducible exact HQ.out _ HX1.out) | (with_reducible exact HQ.out _ HX0.out) | fail)
                                    clear hK K
                                    try simp only [Act.put, List.setIfInBounds_toArray, List.set_cons_zero, List.set_cons_succ]
                                    refine wpAnyH_take (i := 35) (oi := ?oi3093) (v := ?v3093) ?hi3093 (by kernel_rfl) (by kernel_rfl) (by kernel_rfl) ?hq3093 ?hy3093 (by assumption) ?hr3093
                                    case hi3093 => (simp only [List.getElem?_toArray, List.getElem?_cons_succ, List.getElem?_cons_zero]; rfl)
                                    case hq3093 => exact fun _ _ _ h => h
                                    case hy3093 => exact Or.inl ⟨by rfl, by intro whSw hSw'; (try dsimp only at hSw'); (first | (go_simp; done) | (go_simp; with_reducible rfl))⟩
                                    try simp only [Act.put, List.setIfInBounds_toArray, List.set_cons_zero, List.set_cons_succ]
                                    refine wpAnyH_take (i := 36) (oi := ?oi3094) (v := ?v3094) ?hi3094 (by kernel_rfl) (by kernel_rfl) (by kernel_rfl) ?hq3094 ?hy3094 (by assumption) ?hr3094
                                    case hi3094 => (simp only [List.getElem?_toArray, List.getElem?_cons_succ, List.getElem?_cons_zero]; rfl)
                                    case hq3094 => exact fun _ _ _ h => h
                                    case hy3094 => exact Or.inl ⟨by rfl, by intro whSw hSw'; (try dsimp only at hSw'); (first | (go_simp; done) | (go_simp; with_reducible rfl))⟩
                                    try simp only [Act.put, List.setIfInBounds_toArray, List.set_cons_zero, List.set_cons_succ]
                                    refine wpAnyH_done (by kernel_rfl) ?_ _
                                    have HFIN := Lib.hid (HB0.out.trans ((HBD0.out.trans (HX8.out.mono HBD0.out.size)).mono HNX.out))
                                    go_wp2_with fail
                                    go_ret
                                    exact ⟨rfl, HFIN.out⟩
                                  exact AllReadyH.nil
                                exact AllReadyH.nil
                              exact AllReadyH.nil
                            exact AllReadyH.nil
                          exact AllReadyH.nil
                        exact AllReadyH.nil
                      exact AllReadyH.nil
                    exact AllReadyH.nil
                  exact AllReadyH.nil
                exact AllReadyH.nil
              exact AllReadyH.nil
            exact AllReady.nil
          exact AllReady.nil
        exact AllReady.nil
      · exact absurd ⟨l, H0.out, HKE.out⟩ hno
    · clear h0
      go_wp2_with fail
      refine (HA.out _).mono ?_
      rintro e w3 ⟨rfl, hb3⟩
      have HB3 := Lib.hid (HB0.out.trans ((HB1.out.trans (hb3.mono HB1.out.size)).mono HNX.out))
      clear hb3
      go_wp2_with fail
      go_ret
      exact ⟨rfl, HB3.out⟩

theorem own : ownKnob Tryd.prog.godebug = none := by kernel_rfl

set_option maxRecDepth 100000 in
theorem lifted (os : Os) (started : os.Started) (H : Type) (enc : TypeId × Value → H) :
    ReturnsInHanded {} Tryd.checked os 3 .any (fun w args => (Rows.stabEncodesSpec.pre enc Tryd.prog Tryd.f3 [] false w args ∧ laidMetH Tryd.prog Rows.stabEncodesRow.laid w) ∧ sizedMet enc Tryd.prog Tryd.f3 (OpenSpec.ofChange Rows.stabEncodesSpec) false w args)
      (Rows.stabEncodesSpec.post enc Tryd.prog Tryd.f3 false true false false) := by
  refine returnsInHanded_of_change_and (C := Tryd.checked) (X := fun w _ => laidMetH Tryd.prog Rows.stabEncodesRow.laid w) (fun _ _ _ hh h => h.of_heap hh) own started (by kernel_rfl) Tryd.func3
    (ChangeSpec.witness_shaped (enc := enc) (C := Tryd.checked) (os := os) (X := fun w _ => laidMetH Tryd.prog Rows.stabEncodesRow.laid w) false (World.doorLaid Tryd.prog 400 os) #[.slice none 0 0, .agg #[.int .i64 0, .int .i64 0]] 8 rfl (World.shaped_of_RefB (by kernel_rfl) (by kernel_rfl)) (by kernel_rfl) (by kernel_rfl) (by kernel_rfl) (door_met os _)) ?_
  intro W base args ds gs before hval0 hW _ _ hL _
  have hval : ∀ (j : Nat) t v, Tryd.f3.params[j]? = some t → args[j]? = some v → Value.okWide Tryd.prog W .any base t v := hval0
  have hW' := hW
  have hplt : ∀ x ∈ before, x.block < W.heap.size := fun x hx => hW.lt x hx
  obtain ⟨p, q, hA0, hV, rfl, hfz, hnd⟩ := hW
  have hA : DataW.TrodAll enc Tryd.prog W 0 (fun _ => true) true Tryd.f3.params.toList args.toList ds p := hA0
  rw [Tryd.params3] at hA hval
  obtain ⟨v0, vs0, d0, ds0, p0, q0, hargs, rfl, rfl, h0, r0⟩ := trodAll_cons hA
  obtain ⟨v1, vs1, d1, ds1, p1, q1, rfl, rfl, rfl, h1, r1⟩ := trodAll_cons r0
  obtain ⟨rfl, rfl, rfl⟩ := trodAll_nil r1
  obtain rfl : args = #[v0, v1] := by cases args; simp_all
  obtain ⟨rfl, rfl⟩ := trodVars_none hV
  obtain ⟨l0, s0, m0, n0⟩ := open_sps (hval 0 22 v0 rfl rfl) h0
  obtain ⟨x1, rfl, m1⟩ := open_sp (hval 1 24 v1 rfl rfl) h1
  clear hA0 hval0
  refine (walk v0 l0 s0 m0 n0 x1 m1 (tab_of_laid hL)).mono fun e W' ⟨he, bel⟩ => ?_
  subst he
  exact ⟨_, rfl, _, _, _, [], _, [], hW', trodAll_mk1 (shut_bool Tryd.underlying4 _), (trodAll_cons_mk (Below.trod Tryd.laidOut (by kernel_rfl) (of_decide_eq_true (by kernel_rfl)) h0 bel (fun x hx => hplt x (by simp [hx]))) (trodAll_cons_mk (Below.trod Tryd.laidOut (by kernel_rfl) (of_decide_eq_true (by kernel_rfl)) h1 bel (fun x hx => hplt x (by simp [hx]))) trodAll_mk0)), rfl, World.keptBut_mono (fun x hx => ⟨hx, Or.inr (by simpa using hx)⟩) (bel.frame (· ∈ _)), fun h => by cases h⟩

theorem over : Rows.stabEncodesRow.holds Tryd.pinned (OpenSpec.ofChange Rows.stabEncodesSpec) :=
  OpenClaim.holds_of_wide 3 Tryd.f3 rfl rfl rfl rfl rfl rfl rfl ⟨rfl, rfl, rfl, rfl, rfl⟩ rfl rfl rfl rfl rfl (by kernel_rfl) Tryd.func3 (by kernel_rfl)
    (of_decide_eq_true (by kernel_rfl)) (by unfold Func.isWrapper; first | (rw [if_pos (by decide +kernel)]; kernel_rfl) | (rw [if_neg (by decide +kernel)]; exact ⟨rfl, rfl⟩))
    (fun os started H enc _ => lifted os started H enc)

/-- THE STATEMENT: the tied card. -/
theorem proved : Rows.StabEncodesCardSaid :=
  Claim7.holds_tied_plain_at .later [] Rows.stabEncodesCard.laidKinds true Rows.stabEncodesCard.stood.harness Rows.stabEncodesCard.stood.looks
    over (fun _ h => by cases h) (by kernel_rfl) (fun _ h => by cases h) stabEncodes_row_tie rfl ⟨rfl, rfl⟩ (by kernel_rfl) rfl
    (fun f fn hf hfn => by
      obtain rfl : f = 3 := Option.some.inj ((show Tryd.prog.funcNamed "corpora/corporalaw12.StabEncodes" = some 3 by kernel_rfl).symm.trans hf) |>.symm
      obtain rfl : fn = Tryd.f3 := (Option.some.inj (Tryd.func3.symm.trans hfn)).symm
      exact ⟨by kernel_rfl, fun j t ht => by
        rw [Tryd.params3] at ht
        have hm : t ∈ [22, 24] := by simpa using Array.mem_of_getElem? ht
        have hall : ([22, 24].all fun u => !Tryd.prog.wantsStandIn u) = true := by kernel_rfl
        exact (show Tryd.prog.wantsStandIn t = false by simpa using List.all_eq_true.1 hall t hm)⟩)
    (by kernel_rfl)
end Go.Proofs.YtifdencdbpdbfaaDoor.stabEncodes
