/-
  LexiconSorted is proved: for every list of strings the call of the law returns true, and each argument reads afterwards as it read before. It has no condition.
-/
import Derived.Test.YtfcekoedhbmaeaaRows
import Derived.Test.YtfcekoedhbmaeaaLzO
import Derived.Test.YtfcekoedhbmaeaaLzP
import Derived.Test.YtfcekoedhbmaeaaLxL
import Derived.ProofKit
import Derived.OpenShut
import Derived.Carry
namespace Go.Proofs.Ytfcekoedhbmaeaa.lexiconSorted
open Go.ChangeShapes Go.WideShapes Go.ChangeAt Go.RowKit Go.Shelf Go.Lib
set_option linter.unusedVariables false

theorem numW_len (vs : List Wd) : (numW vs).length = vs.length := by simp [numW]
theorem sum_take {cs : List Nat} {i c : Nat} (h : cs[i]? = some c) : (cs.take (i + 1)).sum = (cs.take i).sum + c := by
  rw [List.take_add_one, h]; simp
theorem sum_take_le (cs : List Nat) (i : Nat) : (cs.take i).sum ≤ cs.sum := by
  have := List.take_append_drop i cs
  have h2 : cs.sum = (cs.take i).sum + (cs.drop i).sum := by rw [← List.sum_append, this]
  omega
/-- What a lexicon's functions answer at one number. -/
theorem at_number {W : World} {p : Nat} {ws : List Wd} {cs : List Nat} (h : LexAt W p ws cs) {i : Nat} {x : Wd} (hx : ws[i]? = some x) :
    Calls Try.prog 16 #[.pointer (some ⟨p, 0, none⟩), .string ⟨x.toArray⟩] W fun e w' => e = .returned (.tuple #[.int .i64 (i : Int), .bool true]) ∧ Below W.heap.size W w' := by
  have e1 := fnd_at h.ok.asc hx
  refine (number_any h x).mono ?_
  rintro e w' ⟨rfl, hb⟩
  rw [e1, if_pos hx, decide_eq_true hx]
  exact ⟨rfl, hb⟩
set_option maxRecDepth 100000 in
set_option maxHeartbeats 8000000 in
theorem walk {w : World} (v : Value) (vs : Fs) (hv : Rows 1 EStr w v vs) (hm : vs.length ≤ maxLen) (hz : ∀ x ∈ vs, x.length ≤ maxLen) :
    Calls Try.prog 8 #[v] w fun e w1 => e = .returned (.bool true) ∧ Below w.heap.size w w1 := by
  have HBU := Lib.hid (build_any hv hm hz)
  have HV := Lib.hid (fun W (hb : Below w.heap.size w W) => hv.below stays_str hb)
  have HLO := Lib.hid (fun W (hb : Below w.heap.size w W) => long_any (hv.below stays_str hb) hm)
  have HA := Lib.hid (fun (W : World) => awake_any W)
  obtain ⟨A, cap, rfl, hc⟩ := hv.form
  obtain ⟨n, hn⟩ : ∃ n, vs.length = n := ⟨_, rfl⟩
  rw [hn] at HV HBU HLO hm ⊢
  have HN := Lib.hid hn
  clear hv hc hn hz
  go_enter Try.func8, Try.ntmps8
  go_wp2_with fail
  refine HBU.out.mono ?_
  rintro e w1 ⟨hb1, hans⟩
  have HB1 := Lib.hid hb1
  rcases hans with ⟨hne, rfl⟩ | ⟨h0, p, v5, rfl, hL, hr5⟩
  · obtain ⟨z, hz⟩ : ∃ z, buildE vs = z := ⟨_, rfl⟩
    rw [hz] at hne ⊢
    have hne2 : (z != 0) = true := by simpa using hne
    clear hb1 hz HBU
    go_wp2_with fail
    refine (HLO.out w1 HB1.out).mono ?_
    rintro e w2 ⟨⟨q, rfl, hq⟩, rfl⟩
    cases q with
    | true =>
      clear hq
      go_wp2_with fail
      go_ret
      exact ⟨rfl, HB1.out⟩
    | false =>
      clear hq
      go_wp2_with fail
      go_ret
      exact ⟨rfl, HB1.out⟩
  · have HL1 := Lib.hid hL
    have hnl : (intsN (numW vs)).length = n := by rw [List.length_map, numW_len, HN.out]
    obtain ⟨A5, cap5, rfl, -⟩ := hr5.form
    rw [hnl] at hr5 ⊢
    have HR5 := Lib.hid (fun W (hb : Below w1.heap.size w1 W) => hr5.below stays_int hb)
    have HNL := Lib.hid hnl
    have HSUM := Lib.hid (lex_sum vs)
    have HNUM := Lib.hid (fun (i : Nat) (x : Wd) (hx : vs[i]? = some x) => num_at hx)
    have hwl := lex_len vs
    obtain ⟨ws, hws⟩ : ∃ ws, lexW vs = ws := ⟨_, rfl⟩
    obtain ⟨cs, hcs⟩ : ∃ cs, cntW vs ws = cs := ⟨_, rfl⟩
    rw [hws, hcs] at HL1 HSUM
    rw [hws] at HNUM hwl
    have HL := Lib.hid (fun W (hb : Below w1.heap.size w1 W) => HL1.out.below hb)
    have HOK := Lib.hid HL1.out.ok
    obtain ⟨m, hmm⟩ : ∃ m, ws.length = m := ⟨_, rfl⟩
    have HM := Lib.hid hmm
    rw [hmm, HN.out] at hwl
    rw [HN.out] at HSUM
    have hfew : m ≤ 1024 := by rw [← hmm]; exact HOK.out.few
    clear hb1 HBU h0 hL hr5 hnl hws hcs hmm
    go_wp2_with fail
    refine (HLO.out w1 HB1.out).mono ?_
    rintro e w2 ⟨⟨q, rfl, hq⟩, rfl⟩
    cases q with
    | true =>
      clear hq
      go_wp2_with fail
      go_ret
      exact ⟨rfl, HB1.out⟩
    | false =>
      have hn80 : n ≤ 80 := hq rfl
      have hnn : ((n : Int) != (n : Int)) = false := by simp
      have hmn : ¬ (n : Int) < (m : Int) := by omega
      have hmd : decide (n < m) = false := decide_eq_false (by omega)
      have HSZ := Lib.hid (fun W (hb : Below w2.heap.size w2 W) => size_any (HL.out W hb))
      rw [HM.out] at HSZ
      have HSZ0 := Lib.hid (HSZ.out w2 (Below.refl _ _))
      clear hq HL1 HLO
      go_wp2_with fail
      refine HSZ0.out.mono ?_
      rintro e w3 ⟨rfl, rfl⟩
      obtain ⟨w1, rfl⟩ : ∃ w1, w1 = w3 := ⟨_, rfl⟩
      clear HSZ0
      go_wp2_with fail
      go_loopg [6, 7] m (fun gg tv sv wr => ∃ i t : Nat, tv = .int .i64 t ∧ sv = .int .i64 i ∧ i ≤ m ∧ m - i ≤ gg ∧ Hid (t = (cs.take i).sum ∧ Below w1.heap.size w1 wr))
      case atStart => exact ⟨0, 0, rfl, rfl, Nat.zero_le _, Nat.le_refl _, Lib.hid ⟨rfl, Below.refl _ _⟩⟩
      case round =>
        obtain ⟨i, t, rfl, rfl, him, hgg, HR⟩ := hrel
        have HS2 := Lib.hid (HSZ.out wr HR.out.2)
        by_cases hlt : i < m
        · have hlti : (i : Int) < (m : Int) := by omega
          obtain ⟨x, hx⟩ : ∃ x, ws[i]? = some x := ⟨_, List.getElem?_eq_getElem (by rw [HM.out]; exact hlt)⟩
          obtain ⟨c, hcx⟩ : ∃ c, cs[i]? = some c := ⟨_, List.getElem?_eq_getElem (by rw [HOK.out.len, HM.out]; exact hlt)⟩
          have hW1 := word_any (HL.out wr HR.out.2) (i : Int)
          rw [wordP_at hx] at hW1
          have HNB := Lib.hid (at_number (HL.out wr HR.out.2) hx)
          obtain ⟨T, hT⟩ : ∃ T : ByteArray, (⟨x.toArray⟩ : ByteArray) = T := ⟨_, rfl⟩
          have HTl : Hid (T.toList = x) := Lib.hid (by rw [← hT, Lib.toList_data])
          simp only at hW1
          rw [hT] at hW1 HNB
          have HW1 := Lib.hid hW1
          have HX := Lib.hid hx
          have HCX := Lib.hid hcx
          have hc1 := HOK.out.pos c (List.mem_of_getElem? hcx)
          have hts := sum_take hcx
          have htle := sum_take_le cs (i + 1)
          have hsum := HSUM.out
          have ht := HR.out.1
          have hnewt : IntKind.i64.wrap ((t : Int) + (c : Int)) = ((t + c : Nat) : Int) := by rw [IntKind.wrap_i64]; omega
          have HNT := Lib.hid (show t + c = (cs.take (i + 1)).sum by omega)
          obtain ⟨t2, ht2⟩ : ∃ t2, t + c = t2 := ⟨_, rfl⟩
          rw [ht2] at hnewt HNT
          have hcn : ¬ (c : Int) < 1 := by omega
          have hC := fun W (hb : Below w1.heap.size w1 W) => count_any' (HL.out W hb) (i : Int)
          rw [countP_at hcx] at hC
          have HC := Lib.hid hC
          have HBr := Lib.hid HR.out.2
          clear hx hcx hW1 hT hts htle hsum ht ht2 hC hc1 HR
          go_wp2_with fail
          refine HS2.out.mono ?_
          rintro e w3 ⟨rfl, rfl⟩
          go_wp2_with fail
          refine HW1.out.mono ?_
          rintro e w4 ⟨rfl, rfl⟩
          go_wp2_with fail
          refine HNB.out.mono ?_
          rintro e w5 ⟨rfl, hb5⟩
          have HB5 := Lib.hid (show Below w1.heap.size w1 w5 from HBr.out.trans (hb5.mono HBr.out.size))
          have HC5 := Lib.hid (HC.out w5 HB5.out)
          clear hb5 HNB HS2 HW1
          by_cases hi0 : i = 0
          · have hw := word_any (HL.out w5 HB5.out) (-1)
            rw [wordP_out (by unfold inR; exact decide_eq_false (by omega))] at hw
            have HW := Lib.hid hw
            have hji : IntKind.i64.wrap ((i : Int) - 1) = -1 := by rw [IntKind.wrap_i64]; omega
            have hpos : ¬ (0 : Int) < (i : Int) := by omega
            have HJM := Lib.hid (And.intro hlt hgg)
            clear hw hi0 hlt him hgg
            go_wp2_with fail
            refine HW.out.mono ?_
            rintro e w6 ⟨rfl, rfl⟩
            go_wp2_with fail
            refine HC5.out.mono ?_
            rintro e w7 ⟨rfl, rfl⟩
            go_wp2_with fail
            refine HC5.out.mono ?_
            rintro e w8 ⟨rfl, rfl⟩
            go_wp2_with fail
            go_roundg (m - (i + 1))
            case measure => have := HJM.out; omega
            case rel => exact ⟨i + 1, t2, rfl, by go_num, by have := HJM.out; omega, Nat.le_refl _, Lib.hid ⟨HNT.out, HB5.out⟩⟩
          · obtain ⟨j, rfl⟩ : ∃ j, i = j + 1 := ⟨i - 1, by omega⟩
            obtain ⟨y, hy⟩ : ∃ y, ws[j]? = some y := ⟨_, List.getElem?_eq_getElem (by rw [HM.out]; omega)⟩
            have hw := word_any (HL.out w5 HB5.out) (j : Int)
            rw [wordP_at hy] at hw
            have hyx := asc_lt HOK.out.asc (Nat.lt_succ_self j) hy HX.out
            obtain ⟨V, hV⟩ : ∃ V : ByteArray, (⟨y.toArray⟩ : ByteArray) = V := ⟨_, rfl⟩
            simp only at hw
            rw [hV] at hw
            have hless : Op.bytesLess V.toList T.toList = true := by rw [bytesLess_eq, HTl.out, ← hV, Lib.toList_data]; exact decide_eq_true hyx
            have HW := Lib.hid hw
            have hji : IntKind.i64.wrap (((j + 1 : Nat) : Int) - 1) = (j : Int) := by rw [IntKind.wrap_i64]; omega
            have hpos : (0 : Int) < ((j + 1 : Nat) : Int) := by omega
            have HJM := Lib.hid (And.intro hlt hgg)
            obtain ⟨k, hk⟩ : ∃ k, k = j + 1 := ⟨_, rfl⟩
            rw [← hk] at hji hpos hlti HC5 HJM HNT ⊢
            clear hw hy hyx hV hlt him hi0 hgg hk
            go_wp2_with fail
            refine HW.out.mono ?_
            rintro e w6 ⟨rfl, rfl⟩
            go_wp2_with fail
            refine HC5.out.mono ?_
            rintro e w7 ⟨rfl, rfl⟩
            go_wp2_with fail
            refine HC5.out.mono ?_
            rintro e w8 ⟨rfl, rfl⟩
            go_wp2_with fail
            go_roundg (m - (k + 1))
            case measure => have := HJM.out; omega
            case rel => exact ⟨k + 1, t2, rfl, by go_num, by have := HJM.out; omega, Nat.le_refl _, Lib.hid ⟨HNT.out, HB5.out⟩⟩
        · obtain rfl : i = m := by omega
          have hlti : ¬ (i : Int) < (i : Int) := by omega
          have htn : t = n := by
            have h1 := HR.out.1
            have h2 := HSUM.out
            rw [List.take_of_length_le (by rw [HOK.out.len, HM.out]; exact Nat.le_refl _)] at h1
            omega
          subst htn
          have HBr := Lib.hid HR.out.2
          clear HR
          go_wp2_with fail
          refine HS2.out.mono ?_
          rintro e w3 ⟨rfl, rfl⟩
          go_wp2_with fail
          go_loopg [104] t (fun gg sv wr => ∃ k : Nat, sv = .int .i64 k ∧ k ≤ t ∧ t - k ≤ gg ∧ Hid (Below w1.heap.size w1 wr))
          case atStart => exact ⟨0, rfl, Nat.zero_le _, Nat.le_refl _, HBr⟩
          case round =>
            clear HBr
            obtain ⟨k, rfl, hkt, hgk, HR⟩ := hrel
            by_cases hlt2 : k < t
            · have hlti2 : (k : Int) < (t : Int) := by omega
              obtain ⟨x, hx⟩ : ∃ x, vs[k]? = some x := ⟨_, List.getElem?_eq_getElem (by rw [HN.out]; exact hlt2)⟩
              have hn2 := HNUM.out k x hx
              obtain ⟨f, hf⟩ : ∃ f, fnd ws x = f := ⟨_, rfl⟩
              rw [hf] at hn2
              have hbw : Below w.heap.size w wr := HB1.out.trans (HR.out.mono HB1.out.size)
              obtain ⟨b1, o1, rfl, -, hj1⟩ := at_str (HV.out wr hbw) (by rw [HN.out]; omega)
              obtain ⟨b2, o2, rfl, -, hj2⟩ := at_int (HR5.out wr HR.out) (by rw [HNL.out]; omega)
              have u0 := hj1 k x hx
              have u1 := hj2 k (f : Int) (by rw [List.getElem?_map, hn2.1]; rfl)
              have hW := word_any (HL.out wr HR.out) (f : Int)
              rw [wordP_at hn2.2] at hW
              obtain ⟨T, hT⟩ : ∃ T : ByteArray, (⟨x.toArray⟩ : ByteArray) = T := ⟨_, rfl⟩
              simp only at hW
              rw [hT] at hW u0
              have HW := Lib.hid hW
              have HBr := Lib.hid HR.out
              have hTT : (T.toList != T.toList) = false := by simp
              have HJ := Lib.hid (And.intro hlt2 hgk)
              clear hx hn2 hf hbw hj1 hj2 hW hT HR hlt2 hgk hkt
              go_wp2_with fail
              refine HW.out.mono ?_
              rintro e w3 ⟨rfl, rfl⟩
              go_wp2_with fail
              go_roundg (t - (k + 1))
              case measure => have := HJ.out; omega
              case rel => exact ⟨k + 1, by go_num, by have := HJ.out; omega, Nat.le_refl _, HBr⟩
            · obtain rfl : k = t := by omega
              have hlti2 : ¬ (k : Int) < (k : Int) := by omega
              have hbw : Below w.heap.size w wr := HB1.out.trans (HR.out.mono HB1.out.size)
              have HBW := Lib.hid hbw
              clear hbw HR
              go_wp2_with fail
              refine (HA.out wr).mono ?_
              rintro e w4 ⟨rfl, hb4⟩
              have HB4 := Lib.hid (show Below w.heap.size w w4 from HBW.out.trans (hb4.mono HBW.out.size))
              clear hb4
              go_wp2_with fail
              go_ret
              exact ⟨rfl, HB4.out⟩

theorem own : ownKnob Try.prog.godebug = none := by kernel_rfl

set_option maxRecDepth 100000 in
theorem lifted (os : Os) (started : os.Started) (H : Type) (enc : TypeId × Value → H) :
    ReturnsInHanded {} Try.checked os 8 .any (Rows.lexiconSortedSpec.pre6 enc Try.prog Try.f8 Rows.lexiconSortedRow.domain false) (Rows.lexiconSortedSpec.post enc Try.prog Try.f8 false true false false) := by
  refine returnsInHanded_of_change (C := Try.checked) own started (by kernel_rfl) Try.func8
    (ChangeSpec.witness6 (enc := enc) (C := Try.checked) false ⟨#[], #[.slice none 0 0], []⟩ 8 (by kernel_rfl) (by kernel_rfl) (by kernel_rfl) (by kernel_rfl)) ?_
  intro W base args ds gs before hval0 hW hcnd _
  have hval : ∀ (j : Nat) t v, Try.f8.params[j]? = some t → args[j]? = some v → Value.okWide Try.prog W .any base t v := hval0
  have hW' := hW
  have hplt : ∀ x ∈ before, x.block < W.heap.size := fun x hx => hW.lt x hx
  obtain ⟨p, q, hA0, hV, rfl, hfz, hnd⟩ := hW
  have hA : DataW.TrodAll enc Try.prog W 0 (fun _ => true) true Try.f8.params.toList args.toList ds p := hA0
  rw [Try.params8] at hA hval
  obtain ⟨v0, vs0, d0, ds0, p0, q0, hargs, rfl, rfl, h0, r0⟩ := trodAll_cons hA
  obtain ⟨rfl, rfl, rfl⟩ := trodAll_nil r0
  obtain rfl : args = #[v0] := by cases args; simp_all
  obtain ⟨rfl, rfl⟩ := trodVars_none hV
  obtain ⟨l0, s0, m0, n0⟩ := open_rowS (hval 0 22 v0 rfl rfl) h0
  clear hA0 hval0
  refine (walk v0 l0 s0 m0 n0).mono fun e W' ⟨he, bel⟩ => ?_
  subst he
  exact ⟨_, rfl, _, _, _, [], _, [], hW', trodAll_mk1 (shut_bool Try.underlying4 _), (trodAll_cons_mk (Below.trod Try.laidOut (by kernel_rfl) (of_decide_eq_true (by kernel_rfl)) h0 bel (fun x hx => hplt x (by simp [hx]))) trodAll_mk0), rfl, World.keptBut_mono (fun x hx => ⟨hx, Or.inr (by simpa using hx)⟩) (bel.frame (· ∈ _)), fun h => by cases h⟩

theorem over : Rows.lexiconSortedRow.holds Try.pinned (OpenSpec.ofChange Rows.lexiconSortedSpec) :=
  OpenClaim.holds_of_wide 8 Try.f8 rfl rfl rfl rfl rfl rfl rfl ⟨rfl, rfl, rfl, rfl, rfl⟩ rfl rfl rfl rfl rfl (by kernel_rfl) Try.func8 (by kernel_rfl)
    (of_decide_eq_true (by kernel_rfl)) (by unfold Func.isWrapper; first | (rw [if_pos (by decide +kernel)]; kernel_rfl) | (rw [if_neg (by decide +kernel)]; exact ⟨rfl, rfl⟩))
    (fun os started H enc _ => lifted os started H enc)

/-- THE STATEMENT. -/
theorem proved : Rows.LexiconSortedSaid := over
end Go.Proofs.Ytfcekoedhbmaeaa.lexiconSorted
