/-
  LexiconAffixes is proved: for every list of strings and every string the call of the law returns true, and each argument reads afterwards as it read before. It has no condition.
-/
import Derived.Test.YtfcekoedhbmaeaaRows
import Derived.Test.YtfcekoedhbmaeaaLzO
import Derived.Test.YtfcekoedhbmaeaaLzP
import Derived.Test.YtfcekoedhbmaeaaLxL
import Derived.ProofKit
import Derived.OpenShut
import Derived.Carry
namespace Go.Proofs.Ytfcekoedhbmaeaa.lexiconAffixes
open Go.ChangeShapes Go.WideShapes Go.ChangeAt Go.RowKit Go.Shelf Go.Lib
set_option linter.unusedVariables false

theorem sufL_mem_step {ws : List Wd} {s : Wd} {l : List Nat} {k i : Nat} {x : Wd} (hk : l[k]? = some i) (hx : ws[i]? = some x) (hs : hasS s x = true) : (sufL ws s l)[(sufL ws s (l.take k)).length]? = some i := by
  have e : sufL ws s l = sufL ws s (l.take (k + 1)) ++ sufL ws s (l.drop (k + 1)) := by unfold sufL; rw [← List.filter_append, List.take_append_drop]
  rw [e, sufL_step hk hx, hs, if_pos rfl, List.append_assoc, List.getElem?_append_right (Nat.le_refl _), Nat.sub_self]
  rfl
theorem suf_iff (s x : Wd) : hasS s x = true ↔ s.length ≤ x.length ∧ x.drop (x.length - s.length) = s := by
  unfold hasS
  rw [List.isSuffixOf_iff_suffix]
  constructor
  · rintro ⟨t, rfl⟩
    refine ⟨by simp, ?_⟩
    rw [List.length_append, Nat.add_sub_cancel, List.drop_left' rfl]
  · rintro ⟨h1, h2⟩
    exact ⟨x.take (x.length - s.length), by
      have := List.take_append_drop (x.length - s.length) x
      rw [h2] at this
      exact this⟩
theorem pre_iff2 (s x : Wd) : hasP s x = true ↔ s.length ≤ x.length ∧ x.take s.length = s := by
  rw [hasP_iff]
  exact pre_iff s x
theorem numW_len (vs : List Wd) : (numW vs).length = vs.length := by simp [numW]
theorem keys_asc {ws : List Wd} (ha : Asc ws) (hv : ∀ x ∈ ws, validW x = true) {k i j : Nat} {x y : Wd} (hi : (ordK (kyL ws) ws.length)[k]? = some i) (hj : (ordK (kyL ws) ws.length)[k + 1]? = some j) (hx : ws[i]? = some x) (hy : ws[j]? = some y) : keyW x < keyW y := by
  have h := ordK_asc (kyL ws) ws.length (kyL_inj ha hv)
  have := asc_lt h (Nat.lt_succ_self k) (by rw [List.getElem?_map, hi]; rfl) (by rw [List.getElem?_map, hj]; rfl)
  rw [kyL_at hx, kyL_at hy] at this
  exact this
theorem extract_take (x : Wd) (T : ByteArray) (n : Nat) (hT : (⟨x.toArray⟩ : ByteArray) = T) : (T.extract 0 n).toList = x.take n := by
  rw [← hT, Lib.toList_data, ByteArray.data_extract, Array.toList_extract, List.extract_eq_take_drop]
  simp
theorem extract_drop (x : Wd) (T : ByteArray) (n : Nat) (hT : (⟨x.toArray⟩ : ByteArray) = T) : (T.extract n T.size).toList = x.drop n := by
  have hs : T.size = x.length := by rw [← hT]; rfl
  rw [hs, ← hT, Lib.toList_data, ByteArray.data_extract, Array.toList_extract, List.extract_eq_take_drop]
  show (x.drop n).take (x.length - n) = x.drop n
  rw [List.take_of_length_le]
  simp
/-- What the law finds of one word: whether it begins, and ends, with the string. -/
def beg (S T : ByteArray) : Bool := decide (S.size ≤ T.size) && ((T.extract 0 S.size).toList == S.toList)
def fin (S T : ByteArray) : Bool := decide (S.size ≤ T.size) && ((T.extract (T.size - S.size) T.size).toList == S.toList)
theorem beg_eq {s x : Wd} {S T : ByteArray} (hS : (⟨s.toArray⟩ : ByteArray) = S) (hT : (⟨x.toArray⟩ : ByteArray) = T) : beg S T = hasP s x := by
  have hs : S.size = s.length := by rw [← hS]; rfl
  have ht : T.size = x.length := by rw [← hT]; rfl
  unfold beg
  rw [extract_take x T _ hT, show S.toList = s by rw [← hS, Lib.toList_data], hs, ht, Bool.eq_iff_iff, pre_iff2]
  simp
theorem fin_eq {s x : Wd} {S T : ByteArray} (hS : (⟨s.toArray⟩ : ByteArray) = S) (hT : (⟨x.toArray⟩ : ByteArray) = T) : fin S T = hasS s x := by
  have hs : S.size = s.length := by rw [← hS]; rfl
  have ht : T.size = x.length := by rw [← hT]; rfl
  unfold fin
  rw [extract_drop x T _ hT, show S.toList = s by rw [← hS, Lib.toList_data], hs, ht, Bool.eq_iff_iff, suf_iff]
  simp
set_option maxRecDepth 100000 in
set_option maxHeartbeats 16000000 in
theorem walk {w : World} (v : Value) (vs : Fs) (hv : Rows 1 EStr w v vs) (hm : vs.length ≤ maxLen) (hz : ∀ x ∈ vs, x.length ≤ maxLen) (S : ByteArray) (hS0 : S.size ≤ maxLen) :
    Calls Try.prog 9 #[v, .string S] w fun e w1 => e = .returned (.bool true) ∧ Below w.heap.size w w1 := by
  have HBU := Lib.hid (build_any hv hm hz)
  have HLO := Lib.hid (fun W (hb : Below w.heap.size w W) => long_any (hv.below stays_str hb) hm)
  have HA := Lib.hid (fun (W : World) => awake_any W)
  obtain ⟨s, hs⟩ : ∃ s : Wd, S.data.toList = s := ⟨_, rfl⟩
  have hS : (⟨s.toArray⟩ : ByteArray) = S := by rw [← hs]
  have HS := Lib.hid hS
  obtain ⟨A, cap, rfl, hc⟩ := hv.form
  obtain ⟨n, hn⟩ : ∃ n, vs.length = n := ⟨_, rfl⟩
  rw [hn] at HBU HLO hm ⊢
  have HN := Lib.hid hn
  unfold maxLen at hS0
  clear hv hc hn hz hs hS
  go_enter Try.func9, Try.ntmps9
  go_wp2_with fail
  refine HBU.out.mono ?_
  rintro e w1 ⟨hb1, hans⟩
  have HB1 := Lib.hid hb1
  rcases hans with ⟨hne, rfl⟩ | ⟨h0, p, v5, rfl, hL, hr5⟩
  · obtain ⟨z, hz⟩ : ∃ z, buildE vs = z := ⟨_, rfl⟩
    rw [hz] at hne ⊢
    have hne2 : (z != 0) = true := by simpa using hne
    clear hb1 hz HBU
    go_wp2_with fail
    refine (HLO.out w1 HB1.out).mono ?_
    rintro e w2 ⟨⟨q, rfl, hq⟩, rfl⟩
    clear hq
    cases q with
    | true =>
      go_wp2_with fail
      go_ret
      exact ⟨rfl, HB1.out⟩
    | false =>
      go_wp2_with fail
      go_ret
      exact ⟨rfl, HB1.out⟩
  · have HL1 := Lib.hid hL
    obtain ⟨A5, cap5, rfl, -⟩ := hr5.form
    obtain ⟨l5, hl5⟩ : ∃ l, (intsN (numW vs)).length = l := ⟨_, rfl⟩
    rw [hl5]
    have hwl := lex_len vs
    obtain ⟨ws, hws⟩ : ∃ ws, lexW vs = ws := ⟨_, rfl⟩
    obtain ⟨cs, hcs⟩ : ∃ cs, cntW vs ws = cs := ⟨_, rfl⟩
    rw [hws, hcs] at HL1
    rw [hws] at hwl
    have HL := Lib.hid (fun W (hb : Below w1.heap.size w1 W) => HL1.out.below hb)
    have HOK := Lib.hid HL1.out.ok
    obtain ⟨m, hmm⟩ : ∃ m, ws.length = m := ⟨_, rfl⟩
    have HM := Lib.hid hmm
    rw [hmm, HN.out] at hwl
    have hfew : m ≤ 1024 := by rw [← hmm]; exact HOK.out.few
    clear hb1 HBU h0 hL hr5 hl5 hws hcs hmm
    go_wp2_with fail
    refine (HLO.out w1 HB1.out).mono ?_
    rintro e w2 ⟨⟨q, rfl, hq⟩, rfl⟩
    cases q with
    | true =>
      clear hq
      go_wp2_with fail
      go_ret
      exact ⟨rfl, HB1.out⟩
    | false =>
      have hn80 : n ≤ 80 := hq rfl
      obtain ⟨w1, rfl⟩ : ∃ w1, w1 = w2 := ⟨_, rfl⟩
      have hmn : ¬ (n : Int) < (m : Int) := by omega
      have hmd : decide (n < m) = false := decide_eq_false (by omega)
      have HSZ := Lib.hid (fun W (hb : Below w1.heap.size w1 W) => size_any (HL.out W hb))
      rw [HM.out] at HSZ
      have HSZ0 := Lib.hid (HSZ.out w1 (Below.refl _ _))
      have HPX := Lib.hid (prefix_any HL1.out s)
      rw [HS.out] at HPX
      obtain ⟨fr, hfr⟩ : ∃ x, (preP ws s).1 = x := ⟨_, rfl⟩
      obtain ⟨tu, hto⟩ : ∃ x, (preP ws s).2 = x := ⟨_, rfl⟩
      have HRG := Lib.hid (show ∀ (o : Nat) (x : Wd), ws[o]? = some x → (hasP s x = true ↔ fr ≤ o ∧ o < tu) from fun o x hx => by
        rw [← hfr, ← hto, hasP_iff, pre_range HOK.out.asc s hx]
        unfold preP
        by_cases h : manyP ws s = 0
        · rw [if_pos h]; simp only; omega
        · rw [if_neg h])
      unfold PreV at HPX
      rw [hfr, hto] at HPX
      clear hq HL1 HLO hfr hto
      go_wp2_with fail
      refine HSZ0.out.mono ?_
      rintro e w2 ⟨rfl, rfl⟩
      clear HSZ0
      go_wp2_with fail
      refine HPX.out.mono ?_
      rintro e w3 ⟨rfl, hb3⟩
      have HB3 := Lib.hid (show Below w2.heap.size w2 w3 from hb3)
      have HBR := Lib.hid (byReverse_any (HL.out w3 HB3.out))
      obtain ⟨O, hO⟩ : ∃ O, ordK (kyL ws) ws.length = O := ⟨_, rfl⟩
      rw [hO] at HBR
      have hOl : O.length = m := by rw [← hO, ordK_len, HM.out]
      have HOM := Lib.hid (show ∀ x ∈ O, x < m from fun x hx => by rw [← hO] at hx; rw [← HM.out]; exact (ordK_mem _ _ _).1 hx)
      have HASC := Lib.hid (show ∀ (k i j : Nat) (x y : Wd), O[k]? = some i → O[k + 1]? = some j → ws[i]? = some x → ws[j]? = some y → keyW x < keyW y from fun k i j x y hi hj hx hy => by
        rw [← hO] at hi hj
        exact keys_asc HOK.out.asc (fun x hx => (HOK.out.val x hx).2) hi hj hx hy)
      have HSUF := Lib.hid (fun W (hb : Below w2.heap.size w2 W) => suffix_any (HL.out W hb) s)
      rw [hO, HS.out] at HSUF
      have HOL := Lib.hid hOl
      clear hb3 HPX hO hOl
      go_wp2_with fail
      refine HBR.out.mono ?_
      rintro e w4 ⟨vo, rfl, hro, hb4⟩
      have HB4 := Lib.hid (show Below w2.heap.size w2 w4 from HB3.out.trans (hb4.mono HB3.out.size))
      obtain ⟨Ao, capo, rfl, -⟩ := hro.form
      have hol : (List.map (fun (j : Nat) => (j : Int)) O).length = m := by rw [List.length_map, HOL.out]
      rw [hol] at hro ⊢
      have HRO := Lib.hid (fun W (hb : Below w4.heap.size w4 W) => hro.below stays_int hb)
      have HSU4 := Lib.hid (HSUF.out w4 HB4.out)
      clear hb4 hro hol HBR HSUF
      go_wp2_with fail
      refine HSU4.out.mono ?_
      rintro e w5 ⟨ve, rfl, hre, hb5⟩
      have HB5 := Lib.hid (show Below w2.heap.size w2 w5 from HB4.out.trans (hb5.mono HB4.out.size))
      have HRO5 := Lib.hid (HRO.out w5 hb5)
      obtain ⟨Ae, cape, rfl, -⟩ := hre.form
      have hle : (sufL ws s O).length ≤ m := by rw [← HOL.out]; exact sufL_len _ _ _
      have hel0 : (List.map (fun (j : Nat) => (j : Int)) (sufL ws s O)).length = (sufL ws s O).length := by simp
      rw [hel0] at hre ⊢
      obtain ⟨el, hel⟩ : ∃ el, (sufL ws s O).length = el := ⟨_, rfl⟩
      rw [hel] at hle hre ⊢
      have HEL := Lib.hid hel
      have HRE := Lib.hid hre
      have HSZ5 := Lib.hid (HSZ.out w5 HB5.out)
      have hm3 : ((m : Int) != (m : Int)) = false := by simp
      have hle2 : ¬ (m : Int) < (el : Int) := by omega
      have hle3 : decide (m < el) = false := decide_eq_false (by omega)
      clear hb5 hre hel0 hel HSU4 HRO
      go_wp2_with fail
      refine HSZ5.out.mono ?_
      rintro e w6 ⟨rfl, rfl⟩
      obtain ⟨w5, rfl⟩ : ∃ w5, w5 = w6 := ⟨_, rfl⟩
      clear HSZ5 HSZ
      go_wp2_with fail
      go_loopg [12, 13, 66] m (fun gg lv kv sv wr => ∃ (i k : Nat) (L : ByteArray), lv = .string L ∧ kv = .int .i64 k ∧ sv = .int .i64 i ∧ i ≤ m ∧ m - i ≤ gg ∧ Hid ((k = (sufL ws s (O.take i)).length ∧ (∀ (j o : Nat) (y : Wd), i = j + 1 → O[j]? = some o → ws[o]? = some y → L.toList = keyW y)) ∧ Below w5.heap.size w5 wr))
      case atStart => exact ⟨0, 0, ⟨#[]⟩, rfl, rfl, rfl, Nat.zero_le _, Nat.le_refl _, Lib.hid ⟨⟨rfl, fun j o y h => absurd h (by omega)⟩, Below.refl _ _⟩⟩
      case round =>
        obtain ⟨i, k, L, rfl, rfl, rfl, him, hgg, HR⟩ := hrel
        have HBX := Lib.hid (show Below w2.heap.size w2 wr from HB5.out.trans (HR.out.2.mono HB5.out.size))
        by_cases hlt : i < m
        · have hlti : (i : Int) < (m : Int) := by omega
          obtain ⟨o, ho⟩ : ∃ o, O[i]? = some o := ⟨_, List.getElem?_eq_getElem (by rw [HOL.out]; exact hlt)⟩
          have hom := HOM.out o (List.mem_of_getElem? ho)
          obtain ⟨x, hx⟩ : ∃ x, ws[o]? = some x := ⟨_, List.getElem?_eq_getElem (by rw [HM.out]; exact hom)⟩
          have HO := Lib.hid ho
          have HX := Lib.hid hx
          obtain ⟨b1, o1, rfl, -, hj1⟩ := at_int (HRO5.out.below stays_int HR.out.2) (by rw [List.length_map, HOL.out]; omega)
          have u0 := hj1 i (o : Int) (by rw [List.getElem?_map, ho]; rfl)
          have hW := word_any (HL.out wr HBX.out) (o : Int)
          rw [wordP_at hx] at hW
          have hxl := (HOK.out.val x (List.mem_of_getElem? hx)).1
          have hrv := fun W => reverse_any ⟨x.toArray⟩ (by show x.toArray.size ≤ _; simp only [List.size_toArray]; omega) W
          obtain ⟨K, hK⟩ : ∃ K : ByteArray, (⟨(keyW x).toArray⟩ : ByteArray) = K := ⟨_, rfl⟩
          have hrv' : ∀ W, Calls Try.prog 29 #[.string ⟨x.toArray⟩] W fun e w' => e = .returned (.string K) ∧ Below W.heap.size W w' := fun W => (hrv W).mono fun _ _ q => ⟨by rw [q.1, ← hK]; rfl, q.2⟩
          obtain ⟨T, hT⟩ : ∃ T : ByteArray, (⟨x.toArray⟩ : ByteArray) = T := ⟨_, rfl⟩
          have hTs : T.size ≤ 120 := by rw [← hT]; show x.toArray.size ≤ _; simp only [List.size_toArray]; omega
          simp only at hW
          rw [hT] at hW hrv'
          have HKK := Lib.hid (show K.toList = keyW x by rw [← hK, Lib.toList_data])
          have HW := Lib.hid hW
          have HRV := Lib.hid (hrv' wr)
          have hbeg := beg_eq HS.out hT
          have hfin := fin_eq HS.out hT
          have hrng := HRG.out o x hx
          obtain ⟨q, hq⟩ : ∃ q, hasP s x = q := ⟨_, rfl⟩
          obtain ⟨r, hr⟩ : ∃ r, hasS s x = r := ⟨_, rfl⟩
          rw [hq] at hbeg hrng
          rw [hr] at hfin
          have hsl := sufL_step (s := s) ho hx
          rw [hr] at hsl
          have HSL := Lib.hid hsl
          have HSM := Lib.hid (fun (h : r = true) => sufL_mem_step ho hx (hr.trans h))
          have HBEG := Lib.hid hbeg
          have HFIN := Lib.hid hfin
          have HRN := Lib.hid hrng
          have HTS := Lib.hid hTs
          have HJ := Lib.hid (And.intro hlt hgg)
          have HAS2 := Lib.hid (fun (j o' : Nat) (y : Wd) (hij : i = j + 1) (h1 : O[j]? = some o') (h2 : ws[o']? = some y) => HASC.out j o' o y x h1 (by rw [← hij]; exact ho) h2 hx)
          have HORDL := Lib.hid (show 0 < i → Op.bytesLess K.toList L.toList = false ∧ (K.toList == L.toList) = false from fun hpos => by
            obtain ⟨j, rfl⟩ : ∃ j, i = j + 1 := ⟨i - 1, by omega⟩
            obtain ⟨o', ho'⟩ : ∃ o', O[j]? = some o' := ⟨_, List.getElem?_eq_getElem (by rw [HOL.out]; omega)⟩
            have hom' := HOM.out o' (List.mem_of_getElem? ho')
            obtain ⟨y, hy⟩ : ∃ y, ws[o']? = some y := ⟨_, List.getElem?_eq_getElem (by rw [HM.out]; exact hom')⟩
            have e1 := HR.out.1.2 j o' y rfl ho' hy
            have e2 := HAS2.out j o' y rfl ho' hy
            rw [bytesLess_eq, HKK.out, e1]
            refine ⟨decide_eq_false (wd_as e2), ?_⟩
            rw [beq_eq_false_iff_ne]
            intro e
            rw [e] at e2
            exact wd_irr _ e2)
          have HBr := Lib.hid HR.out.2
          have HKE := Lib.hid HR.out.1.1
          have HLAST := Lib.hid (show ∀ (j o' : Nat) (y : Wd), i + 1 = j + 1 → O[j]? = some o' → ws[o']? = some y → K.toList = keyW y from fun j o' y hij h1 h2 => by
            have : j = i := by omega
            subst this
            rw [ho] at h1
            cases h1
            rw [hx] at h2
            cases h2
            exact HKK.out)
          clear hj1 hW hrv hrv' hK hT hTs hbeg hfin hrng hq hr hsl hx ho hxl hom hlt hgg him HR HBX
          go_wp2_with fail
          refine HW.out.mono ?_
          rintro e w6 ⟨rfl, rfl⟩
          go_wp2_with fail
          refine HRV.out.mono ?_
          rintro e w7 ⟨rfl, hb7⟩
          have HB7 := Lib.hid (show Below w5.heap.size w5 w7 from HBr.out.trans (hb7.mono HBr.out.size))
          clear hb7 HRV HW u0 HBr
          by_cases hi0 : i = 0
          · have hpos : ¬ (0 : Int) < (i : Int) := by omega
            clear hi0 HORDL
            by_cases hsz : S.size ≤ T.size
            · have hszI : (S.size : Int) ≤ (T.size : Int) := by omega
              have hbq : ((T.extract 0 S.size).toList == S.toList) = q := by have := HBEG.out; unfold beg at this; rw [decide_eq_true hsz, Bool.true_and] at this; exact this
              have hfr2 : ((T.extract (T.size - S.size) T.size).toList == S.toList) = r := by have := HFIN.out; unfold fin at this; rw [decide_eq_true hsz, Bool.true_and] at this; exact this
              have hTs := HTS.out
              have hdw : IntKind.i64.wrap ((T.size : Int) - (S.size : Int)) = ((T.size - S.size : Nat) : Int) := by rw [IntKind.wrap_i64]; omega
              obtain ⟨d, hd⟩ : ∃ d, d = T.size - S.size := ⟨_, rfl⟩
              rw [← hd] at hdw hfr2
              have hdl : d ≤ T.size := by omega
              have hdI : (d : Int) ≤ (T.size : Int) := by omega
              clear hd hTs
              cases q with
              | true =>
                cases r with
                | true =>
                  have hgg2 := HRN.out.1 rfl
                  have hg1 : (fr : Int) ≤ (o : Int) := by omega
                  have hg2 : (o : Int) < (tu : Int) := by omega
                  clear hgg2
                  have HNX := Lib.hid (show k + 1 = (sufL ws s (O.take (i + 1))).length by rw [HSL.out, HKE.out]; simp)
                  have hmem := HSM.out rfl
                  rw [← HKE.out] at hmem
                  have hkl : k < el := by rw [← HEL.out]; exact (List.getElem?_eq_some_iff.1 hmem).1
                  obtain ⟨b2, o2, rfl, -, hj2⟩ := at_int (HRE.out.below stays_int HB7.out) (by rw [List.length_map, HEL.out]; omega)
                  have u1 := hj2 k (o : Int) (by rw [List.getElem?_map, hmem]; rfl)
                  have hkI : (k : Int) < (el : Int) := by omega
                  have hoo : ((o : Int) != (o : Int)) = false := by simp
                  clear hj2 hmem hkl
                  go_wp2_with fail
                  go_roundg (m - (i + 1))
                  case measure => have := HJ.out; omega
                  case rel => exact ⟨i + 1, k + 1, K, rfl, by go_num, by go_num, by have := HJ.out; omega, Nat.le_refl _, Lib.hid ⟨⟨HNX.out, HLAST.out⟩, HB7.out⟩⟩
                | false =>
                  have hgg2 := HRN.out.1 rfl
                  have hg1 : (fr : Int) ≤ (o : Int) := by omega
                  have hg2 : (o : Int) < (tu : Int) := by omega
                  clear hgg2
                  have HNX := Lib.hid (show k = (sufL ws s (O.take (i + 1))).length by rw [HSL.out, HKE.out]; simp)
                  go_wp2_with fail
                  go_roundg (m - (i + 1))
                  case measure => have := HJ.out; omega
                  case rel => exact ⟨i + 1, k, K, rfl, rfl, by go_num, by have := HJ.out; omega, Nat.le_refl _, Lib.hid ⟨⟨HNX.out, HLAST.out⟩, HB7.out⟩⟩
              | false =>
                cases r with
                | true =>
                  have hno : ¬ (fr ≤ o ∧ o < tu) := fun h => by have := HRN.out.2 h; cases this
                  by_cases hf : fr ≤ o
                  · have hg1 : (fr : Int) ≤ (o : Int) := by omega
                    have hg2 : ¬ (o : Int) < (tu : Int) := by omega
                    clear hno hf
                    have HNX := Lib.hid (show k + 1 = (sufL ws s (O.take (i + 1))).length by rw [HSL.out, HKE.out]; simp)
                    have hmem := HSM.out rfl
                    rw [← HKE.out] at hmem
                    have hkl : k < el := by rw [← HEL.out]; exact (List.getElem?_eq_some_iff.1 hmem).1
                    obtain ⟨b2, o2, rfl, -, hj2⟩ := at_int (HRE.out.below stays_int HB7.out) (by rw [List.length_map, HEL.out]; omega)
                    have u1 := hj2 k (o : Int) (by rw [List.getElem?_map, hmem]; rfl)
                    have hkI : (k : Int) < (el : Int) := by omega
                    have hoo : ((o : Int) != (o : Int)) = false := by simp
                    clear hj2 hmem hkl
                    go_wp2_with fail
                    go_roundg (m - (i + 1))
                    case measure => have := HJ.out; omega
                    case rel => exact ⟨i + 1, k + 1, K, rfl, by go_num, by go_num, by have := HJ.out; omega, Nat.le_refl _, Lib.hid ⟨⟨HNX.out, HLAST.out⟩, HB7.out⟩⟩
                  · have hg1 : ¬ (fr : Int) ≤ (o : Int) := by omega
                    clear hno hf
                    have HNX := Lib.hid (show k + 1 = (sufL ws s (O.take (i + 1))).length by rw [HSL.out, HKE.out]; simp)
                    have hmem := HSM.out rfl
                    rw [← HKE.out] at hmem
                    have hkl : k < el := by rw [← HEL.out]; exact (List.getElem?_eq_some_iff.1 hmem).1
                    obtain ⟨b2, o2, rfl, -, hj2⟩ := at_int (HRE.out.below stays_int HB7.out) (by rw [List.length_map, HEL.out]; omega)
                    have u1 := hj2 k (o : Int) (by rw [List.getElem?_map, hmem]; rfl)
                    have hkI : (k : Int) < (el : Int) := by omega
                    have hoo : ((o : Int) != (o : Int)) = false := by simp
                    clear hj2 hmem hkl
                    go_wp2_with fail
                    go_roundg (m - (i + 1))
                    case measure => have := HJ.out; omega
                    case rel => exact ⟨i + 1, k + 1, K, rfl, by go_num, by go_num, by have := HJ.out; omega, Nat.le_refl _, Lib.hid ⟨⟨HNX.out, HLAST.out⟩, HB7.out⟩⟩
                | false =>
                  have hno : ¬ (fr ≤ o ∧ o < tu) := fun h => by have := HRN.out.2 h; cases this
                  by_cases hf : fr ≤ o
                  · have hg1 : (fr : Int) ≤ (o : Int) := by omega
                    have hg2 : ¬ (o : Int) < (tu : Int) := by omega
                    clear hno hf
                    have HNX := Lib.hid (show k = (sufL ws s (O.take (i + 1))).length by rw [HSL.out, HKE.out]; simp)
                    go_wp2_with fail
                    go_roundg (m - (i + 1))
                    case measure => have := HJ.out; omega
                    case rel => exact ⟨i + 1, k, K, rfl, rfl, by go_num, by have := HJ.out; omega, Nat.le_refl _, Lib.hid ⟨⟨HNX.out, HLAST.out⟩, HB7.out⟩⟩
                  · have hg1 : ¬ (fr : Int) ≤ (o : Int) := by omega
                    clear hno hf
                    have HNX := Lib.hid (show k = (sufL ws s (O.take (i + 1))).length by rw [HSL.out, HKE.out]; simp)
                    go_wp2_with fail
                    go_roundg (m - (i + 1))
                    case measure => have := HJ.out; omega
                    case rel => exact ⟨i + 1, k, K, rfl, rfl, by go_num, by have := HJ.out; omega, Nat.le_refl _, Lib.hid ⟨⟨HNX.out, HLAST.out⟩, HB7.out⟩⟩
            · have hszI : ¬ (S.size : Int) ≤ (T.size : Int) := by omega
              obtain rfl : q = false := by have := HBEG.out; unfold beg at this; rw [decide_eq_false hsz, Bool.false_and] at this; exact this.symm
              obtain rfl : r = false := by have := HFIN.out; unfold fin at this; rw [decide_eq_false hsz, Bool.false_and] at this; exact this.symm
              have hno : ¬ (fr ≤ o ∧ o < tu) := fun h => by have := HRN.out.2 h; cases this
              by_cases hf : fr ≤ o
              · have hg1 : (fr : Int) ≤ (o : Int) := by omega
                have hg2 : ¬ (o : Int) < (tu : Int) := by omega
                clear hno hf
                have HNX := Lib.hid (show k = (sufL ws s (O.take (i + 1))).length by rw [HSL.out, HKE.out]; simp)
                go_wp2_with fail
                go_roundg (m - (i + 1))
                case measure => have := HJ.out; omega
                case rel => exact ⟨i + 1, k, K, rfl, rfl, by go_num, by have := HJ.out; omega, Nat.le_refl _, Lib.hid ⟨⟨HNX.out, HLAST.out⟩, HB7.out⟩⟩
              · have hg1 : ¬ (fr : Int) ≤ (o : Int) := by omega
                clear hno hf
                have HNX := Lib.hid (show k = (sufL ws s (O.take (i + 1))).length by rw [HSL.out, HKE.out]; simp)
                go_wp2_with fail
                go_roundg (m - (i + 1))
                case measure => have := HJ.out; omega
                case rel => exact ⟨i + 1, k, K, rfl, rfl, by go_num, by have := HJ.out; omega, Nat.le_refl _, Lib.hid ⟨⟨HNX.out, HLAST.out⟩, HB7.out⟩⟩
          · have hpos : (0 : Int) < (i : Int) := by omega
            obtain ⟨hk1, hk2⟩ := HORDL.out (by omega)
            clear hi0 HORDL
            by_cases hsz : S.size ≤ T.size
            · have hszI : (S.size : Int) ≤ (T.size : Int) := by omega
              have hbq : ((T.extract 0 S.size).toList == S.toList) = q := by have := HBEG.out; unfold beg at this; rw [decide_eq_true hsz, Bool.true_and] at this; exact this
              have hfr2 : ((T.extract (T.size - S.size) T.size).toList == S.toList) = r := by have := HFIN.out; unfold fin at this; rw [decide_eq_true hsz, Bool.true_and] at this; exact this
              have hTs := HTS.out
              have hdw : IntKind.i64.wrap ((T.size : Int) - (S.size : Int)) = ((T.size - S.size : Nat) : Int) := by rw [IntKind.wrap_i64]; omega
              obtain ⟨d, hd⟩ : ∃ d, d = T.size - S.size := ⟨_, rfl⟩
              rw [← hd] at hdw hfr2
              have hdl : d ≤ T.size := by omega
              have hdI : (d : Int) ≤ (T.size : Int) := by omega
              clear hd hTs
              cases q with
              | true =>
                cases r with
                | true =>
                  have hgg2 := HRN.out.1 rfl
                  have hg1 : (fr : Int) ≤ (o : Int) := by omega
                  have hg2 : (o : Int) < (tu : Int) := by omega
                  clear hgg2
                  have HNX := Lib.hid (show k + 1 = (sufL ws s (O.take (i + 1))).length by rw [HSL.out, HKE.out]; simp)
                  have hmem := HSM.out rfl
                  rw [← HKE.out] at hmem
                  have hkl : k < el := by rw [← HEL.out]; exact (List.getElem?_eq_some_iff.1 hmem).1
                  obtain ⟨b2, o2, rfl, -, hj2⟩ := at_int (HRE.out.below stays_int HB7.out) (by rw [List.length_map, HEL.out]; omega)
                  have u1 := hj2 k (o : Int) (by rw [List.getElem?_map, hmem]; rfl)
                  have hkI : (k : Int) < (el : Int) := by omega
                  have hoo : ((o : Int) != (o : Int)) = false := by simp
                  clear hj2 hmem hkl
                  go_wp2_with fail
                  go_roundg (m - (i + 1))
                  case measure => have := HJ.out; omega
                  case rel => exact ⟨i + 1, k + 1, K, rfl, by go_num, by go_num, by have := HJ.out; omega, Nat.le_refl _, Lib.hid ⟨⟨HNX.out, HLAST.out⟩, HB7.out⟩⟩
                | false =>
                  have hgg2 := HRN.out.1 rfl
                  have hg1 : (fr : Int) ≤ (o : Int) := by omega
                  have hg2 : (o : Int) < (tu : Int) := by omega
                  clear hgg2
                  have HNX := Lib.hid (show k = (sufL ws s (O.take (i + 1))).length by rw [HSL.out, HKE.out]; simp)
                  go_wp2_with fail
                  go_roundg (m - (i + 1))
                  case measure => have := HJ.out; omega
                  case rel => exact ⟨i + 1, k, K, rfl, rfl, by go_num, by have := HJ.out; omega, Nat.le_refl _, Lib.hid ⟨⟨HNX.out, HLAST.out⟩, HB7.out⟩⟩
              | false =>
                cases r with
                | true =>
                  have hno : ¬ (fr ≤ o ∧ o < tu) := fun h => by have := HRN.out.2 h; cases this
                  by_cases hf : fr ≤ o
                  · have hg1 : (fr : Int) ≤ (o : Int) := by omega
                    have hg2 : ¬ (o : Int) < (tu : Int) := by omega
                    clear hno hf
                    have HNX := Lib.hid (show k + 1 = (sufL ws s (O.take (i + 1))).length by rw [HSL.out, HKE.out]; simp)
                    have hmem := HSM.out rfl
                    rw [← HKE.out] at hmem
                    have hkl : k < el := by rw [← HEL.out]; exact (List.getElem?_eq_some_iff.1 hmem).1
                    obtain ⟨b2, o2, rfl, -, hj2⟩ := at_int (HRE.out.below stays_int HB7.out) (by rw [List.length_map, HEL.out]; omega)
                    have u1 := hj2 k (o : Int) (by rw [List.getElem?_map, hmem]; rfl)
                    have hkI : (k : Int) < (el : Int) := by omega
                    have hoo : ((o : Int) != (o : Int)) = false := by simp
                    clear hj2 hmem hkl
                    go_wp2_with fail
                    go_roundg (m - (i + 1))
                    case measure => have := HJ.out; omega
                    case rel => exact ⟨i + 1, k + 1, K, rfl, by go_num, by go_num, by have := HJ.out; omega, Nat.le_refl _, Lib.hid ⟨⟨HNX.out, HLAST.out⟩, HB7.out⟩⟩
                  · have hg1 : ¬ (fr : Int) ≤ (o : Int) := by omega
                    clear hno hf
                    have HNX := Lib.hid (show k + 1 = (sufL ws s (O.take (i + 1))).length by rw [HSL.out, HKE.out]; simp)
                    have hmem := HSM.out rfl
                    rw [← HKE.out] at hmem
                    have hkl : k < el := by rw [← HEL.out]; exact (List.getElem?_eq_some_iff.1 hmem).1
                    obtain ⟨b2, o2, rfl, -, hj2⟩ := at_int (HRE.out.below stays_int HB7.out) (by rw [List.length_map, HEL.out]; omega)
                    have u1 := hj2 k (o : Int) (by rw [List.getElem?_map, hmem]; rfl)
                    have hkI : (k : Int) < (el : Int) := by omega
                    have hoo : ((o : Int) != (o : Int)) = false := by simp
                    clear hj2 hmem hkl
                    go_wp2_with fail
                    go_roundg (m - (i + 1))
                    case measure => have := HJ.out; omega
                    case rel => exact ⟨i + 1, k + 1, K, rfl, by go_num, by go_num, by have := HJ.out; omega, Nat.le_refl _, Lib.hid ⟨⟨HNX.out, HLAST.out⟩, HB7.out⟩⟩
                | false =>
                  have hno : ¬ (fr ≤ o ∧ o < tu) := fun h => by have := HRN.out.2 h; cases this
                  by_cases hf : fr ≤ o
                  · have hg1 : (fr : Int) ≤ (o : Int) := by omega
                    have hg2 : ¬ (o : Int) < (tu : Int) := by omega
                    clear hno hf
                    have HNX := Lib.hid (show k = (sufL ws s (O.take (i + 1))).length by rw [HSL.out, HKE.out]; simp)
                    go_wp2_with fail
                    go_roundg (m - (i + 1))
                    case measure => have := HJ.out; omega
                    case rel => exact ⟨i + 1, k, K, rfl, rfl, by go_num, by have := HJ.out; omega, Nat.le_refl _, Lib.hid ⟨⟨HNX.out, HLAST.out⟩, HB7.out⟩⟩
                  · have hg1 : ¬ (fr : Int) ≤ (o : Int) := by omega
                    clear hno hf
                    have HNX := Lib.hid (show k = (sufL ws s (O.take (i + 1))).length by rw [HSL.out, HKE.out]; simp)
                    go_wp2_with fail
                    go_roundg (m - (i + 1))
                    case measure => have := HJ.out; omega
                    case rel => exact ⟨i + 1, k, K, rfl, rfl, by go_num, by have := HJ.out; omega, Nat.le_refl _, Lib.hid ⟨⟨HNX.out, HLAST.out⟩, HB7.out⟩⟩
            · have hszI : ¬ (S.size : Int) ≤ (T.size : Int) := by omega
              obtain rfl : q = false := by have := HBEG.out; unfold beg at this; rw [decide_eq_false hsz, Bool.false_and] at this; exact this.symm
              obtain rfl : r = false := by have := HFIN.out; unfold fin at this; rw [decide_eq_false hsz, Bool.false_and] at this; exact this.symm
              have hno : ¬ (fr ≤ o ∧ o < tu) := fun h => by have := HRN.out.2 h; cases this
              by_cases hf : fr ≤ o
              · have hg1 : (fr : Int) ≤ (o : Int) := by omega
                have hg2 : ¬ (o : Int) < (tu : Int) := by omega
                clear hno hf
                have HNX := Lib.hid (show k = (sufL ws s (O.take (i + 1))).length by rw [HSL.out, HKE.out]; simp)
                go_wp2_with fail
                go_roundg (m - (i + 1))
                case measure => have := HJ.out; omega
                case rel => exact ⟨i + 1, k, K, rfl, rfl, by go_num, by have := HJ.out; omega, Nat.le_refl _, Lib.hid ⟨⟨HNX.out, HLAST.out⟩, HB7.out⟩⟩
              · have hg1 : ¬ (fr : Int) ≤ (o : Int) := by omega
                clear hno hf
                have HNX := Lib.hid (show k = (sufL ws s (O.take (i + 1))).length by rw [HSL.out, HKE.out]; simp)
                go_wp2_with fail
                go_roundg (m - (i + 1))
                case measure => have := HJ.out; omega
                case rel => exact ⟨i + 1, k, K, rfl, rfl, by go_num, by have := HJ.out; omega, Nat.le_refl _, Lib.hid ⟨⟨HNX.out, HLAST.out⟩, HB7.out⟩⟩
        · obtain rfl : i = m := by omega
          have hlti : ¬ (i : Int) < (i : Int) := by omega
          have hke : k = el := by have := HR.out.1.1; rw [List.take_of_length_le (by rw [HOL.out]; exact Nat.le_refl _), HEL.out] at this; exact this
          subst hke
          have HBW := Lib.hid (show Below w.heap.size w wr from HB1.out.trans (HBX.out.mono HB1.out.size))
          clear HR HBX
          go_wp2_with fail
          refine (HA.out wr).mono ?_
          rintro e w7 ⟨rfl, hb7⟩
          have HB7 := Lib.hid (show Below w.heap.size w w7 from HBW.out.trans (hb7.mono HBW.out.size))
          clear hb7
          go_wp2_with fail
          go_ret
          exact ⟨rfl, HB7.out⟩

theorem own : ownKnob Try.prog.godebug = none := by kernel_rfl

set_option maxRecDepth 100000 in
theorem lifted (os : Os) (started : os.Started) (H : Type) (enc : TypeId × Value → H) :
    ReturnsInHanded {} Try.checked os 9 .any (Rows.lexiconAffixesSpec.pre6 enc Try.prog Try.f9 Rows.lexiconAffixesRow.domain false) (Rows.lexiconAffixesSpec.post enc Try.prog Try.f9 false true false false) := by
  refine returnsInHanded_of_change (C := Try.checked) own started (by kernel_rfl) Try.func9
    (ChangeSpec.witness6 (enc := enc) (C := Try.checked) false ⟨#[], #[.slice none 0 0, .string ⟨#[]⟩], []⟩ 8 (by kernel_rfl) (by kernel_rfl) (by kernel_rfl) (by kernel_rfl)) ?_
  intro W base args ds gs before hval0 hW hcnd _
  have hval : ∀ (j : Nat) t v, Try.f9.params[j]? = some t → args[j]? = some v → Value.okWide Try.prog W .any base t v := hval0
  have hW' := hW
  have hplt : ∀ x ∈ before, x.block < W.heap.size := fun x hx => hW.lt x hx
  obtain ⟨p, q, hA0, hV, rfl, hfz, hnd⟩ := hW
  have hA : DataW.TrodAll enc Try.prog W 0 (fun _ => true) true Try.f9.params.toList args.toList ds p := hA0
  rw [Try.params9] at hA hval
  obtain ⟨v0, vs0, d0, ds0, p0, q0, hargs, rfl, rfl, h0, r0⟩ := trodAll_cons hA
  obtain ⟨v1, vs1, d1, ds1, p1, q1, rfl, rfl, rfl, h1, r1⟩ := trodAll_cons r0
  obtain ⟨rfl, rfl, rfl⟩ := trodAll_nil r1
  obtain rfl : args = #[v0, v1] := by cases args; simp_all
  obtain ⟨rfl, rfl⟩ := trodVars_none hV
  obtain ⟨l0, s0, m0, n0⟩ := open_rowS (hval 0 22 v0 rfl rfl) h0
  obtain ⟨a1, rfl, m1⟩ := open_str (hval 1 9 v1 rfl rfl) h1
  clear hA0 hval0
  refine (walk v0 l0 s0 m0 n0 a1 m1).mono fun e W' ⟨he, bel⟩ => ?_
  subst he
  exact ⟨_, rfl, _, _, _, [], _, [], hW', trodAll_mk1 (shut_bool Try.underlying4 _), (trodAll_cons_mk (Below.trod Try.laidOut (by kernel_rfl) (of_decide_eq_true (by kernel_rfl)) h0 bel (fun x hx => hplt x (by simp [hx]))) (trodAll_cons_mk (Below.trod Try.laidOut (by kernel_rfl) (of_decide_eq_true (by kernel_rfl)) h1 bel (fun x hx => hplt x (by simp [hx]))) trodAll_mk0)), rfl, World.keptBut_mono (fun x hx => ⟨hx, Or.inr (by simpa using hx)⟩) (bel.frame (· ∈ _)), fun h => by cases h⟩

theorem over : Rows.lexiconAffixesRow.holds Try.pinned (OpenSpec.ofChange Rows.lexiconAffixesSpec) :=
  OpenClaim.holds_of_wide 9 Try.f9 rfl rfl rfl rfl rfl rfl rfl ⟨rfl, rfl, rfl, rfl, rfl⟩ rfl rfl rfl rfl rfl (by kernel_rfl) Try.func9 (by kernel_rfl)
    (of_decide_eq_true (by kernel_rfl)) (by unfold Func.isWrapper; first | (rw [if_pos (by decide +kernel)]; kernel_rfl) | (rw [if_neg (by decide +kernel)]; exact ⟨rfl, rfl⟩))
    (fun os started H enc _ => lifted os started H enc)

/-- THE STATEMENT. -/
theorem proved : Rows.LexiconAffixesSaid := over
end Go.Proofs.Ytfcekoedhbmaeaa.lexiconAffixes
