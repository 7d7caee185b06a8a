/-
  FeatureRoundTrips is proved: for every string and every number the call of the law returns true, and each argument reads afterwards as it read before. It has no condition.
-/
import Derived.Test.YthagjdhfngdigaaRows
import Derived.Test.YthagjdhfngdigaaFoM
import Derived.Test.YthagjdhfngdigaaFuM
import Derived.Test.YthagjdhfngdigaaFqM
import Derived.ProofKit
import Derived.BigRegion
import Derived.OpenShut
import Derived.Carry
namespace Go.Proofs.Ythagjdhfngdigaa.featureRoundTrips
open Go.ChangeShapes Go.WideShapes Go.ChangeAt Go.RowKit Go.Shelf Go.Lib
set_option linter.unusedVariables false

theorem own_set {w : World} {base g cap n i : Nat} {e : TypeId} {xs : List Value} (u : Value) (h : w.ownsRow base e 1 (.slice (some ⟨g, 0, none⟩) n cap) n xs) : (w.setCell ⟨g, i, none⟩ u).ownsRow base e 1 (.slice (some ⟨g, 0, none⟩) n cap) n (xs.set i u) := by
  refine ⟨by rw [List.length_set]; exact h.1, ?_⟩
  rcases h.2 with ⟨hn, _⟩ | ⟨g', cap', cur, hv, hb, hg, hc, hm, hs, ht⟩
  · cases hn
  · cases hv
    refine .inr ⟨g, cap, _, rfl, hb, set_of hg u, hc, hm, by rw [Array.size_setIfInBounds]; exact hs, ?_⟩
    rw [Array.toList_setIfInBounds, List.take_set, ht]
theorem swap_mem {M : Fs} {i j : Nat} {a b : Bs} (ha : M[i]? = some a) (hb : M[j]? = some b) (hij : i ≠ j) (x : Bs) : x ∈ (M.set i b).set j a ↔ x ∈ M := by
  have hi := (List.getElem?_eq_some_iff.1 ha).1
  have hj := (List.getElem?_eq_some_iff.1 hb).1
  constructor
  · intro h
    rcases List.mem_or_eq_of_mem_set h with h | rfl
    · rcases List.mem_or_eq_of_mem_set h with h | rfl
      · exact h
      · exact List.mem_of_getElem? hb
    · exact List.mem_of_getElem? ha
  · intro h
    obtain ⟨t, ht⟩ := List.getElem?_of_mem h
    have htl := (List.getElem?_eq_some_iff.1 ht).1
    by_cases h1 : t = i
    · subst h1
      rw [ha] at ht
      cases ht
      exact List.mem_of_getElem? (i := j) (by rw [List.getElem?_set_self (by rw [List.length_set]; exact hj)])
    · by_cases h2 : t = j
      · subst h2
        rw [hb] at ht
        cases ht
        exact List.mem_of_getElem? (i := i) (by rw [List.getElem?_set_ne (Ne.symm hij), List.getElem?_set_self hi])
      · exact List.mem_of_getElem? (i := t) (by rw [List.getElem?_set_ne (fun e => h2 e.symm), List.getElem?_set_ne (fun e => h1 e.symm)]; exact ht)
theorem strs_set (M : Fs) (i : Nat) (b : Bs) : strs (M.set i b) = (strs M).set i (.string ⟨b.toArray⟩) := by
  unfold strs
  rw [List.map_set]
  rfl
/-- A list with the features of a set, in any order: its text is the set's. -/
theorem format_back {s : Bs} (h : (parseL s).2 = 0) {M : Fs} (hm : ∀ x, x ∈ M ↔ x ∈ (parseL s).1) : formatL M = (s, 0) := by
  obtain ⟨hg, hs, hl⟩ := parseL_ok h
  have he : errS M = 0 := (errS_zero M).2 fun f hf => elE_zero.2 ⟨hg.2.1 f ((hm f).1 hf), hg.2.2 f ((hm f).1 hf)⟩
  have hset : setS M = (parseL s).1 := setS_of hg.1 hm
  unfold formatL textT
  rw [if_pos he, hset, ← hs, if_neg (by omega)]

set_option maxRecDepth 100000 in
set_option maxHeartbeats 4000000 in
theorem walk (s : ByteArray) (hs : s.size ≤ maxLen) (turn : Int) (ht0 : -9223372036854775808 ≤ turn) (ht1 : turn ≤ 9223372036854775807) {w : World} :
    Calls Try.prog 5 #[.string s, .int .i64 turn] w fun e w1 => e = .returned (.bool true) ∧ Below w.heap.size w w1 := by
  have hp := parse_any s hs w
  have hfb := fun M h hm => format_back (s := s.data.toList) h (M := M) hm
  obtain ⟨k0, hk0⟩ : ∃ k, (parseL s.data.toList).2 = k := ⟨_, rfl⟩
  obtain ⟨hll, hlf⟩ := parse_small s.data.toList
  unfold ParV at hp
  obtain ⟨l, hl⟩ : ∃ l, (parseL s.data.toList).1 = l := ⟨_, rfl⟩
  rw [hk0, hl] at hp hfb
  rw [hl] at hll hlf
  have HP := Lib.hid hp
  have HFB := Lib.hid hfb
  have HLF := Lib.hid hlf
  clear hp hfb hk0 hl hlf hs
  by_cases h0 : k0 = 0
  · subst h0
    by_cases hneg : turn < 0
    · clear ht0 ht1
      go_enter Try.func5, Try.ntmps5
      go_wp2_with fail
      refine HP.out.mono ?_
      rintro e w1 ⟨⟨v, rfl, -⟩, hb1⟩
      have HB1 := Lib.hid hb1
      clear hb1
      go_wp2_with fail
      go_ret
      exact ⟨rfl, HB1.out⟩
    · by_cases hbig : 100 < turn
      · clear ht0 ht1
        go_enter Try.func5, Try.ntmps5
        go_wp2_with fail
        refine HP.out.mono ?_
        rintro e w1 ⟨⟨v, rfl, -⟩, hb1⟩
        have HB1 := Lib.hid hb1
        clear hb1
        go_wp2_with fail
        go_ret
        exact ⟨rfl, HB1.out⟩
      · obtain ⟨tn, rfl⟩ : ∃ tn : Nat, turn = tn := ⟨turn.toNat, by omega⟩
        have htn : tn ≤ 100 := by omega
        have hbi : ¬ ((100 : Int) < (tn : Int)) := hbig
        have hni : ¬ ((tn : Int) < 0) := hneg
        clear ht0 ht1 hbig hneg
        go_enter Try.func5, Try.ntmps5
        go_wp2_with fail
        refine HP.out.mono ?_
        rintro e w1 ⟨⟨v, rfl, hown⟩, hb1⟩
        have HB1 := Lib.hid hb1
        have HV := Lib.hid (fun W (h : Below w1.heap.size w1 W) => (rs_own hown).1.below h)
        obtain ⟨A, cap, rfl, hc⟩ := own_form hown
        obtain ⟨n, hn⟩ : ∃ n, l.length = n := ⟨_, rfl⟩
        rw [hn] at hll hc
        have HN := Lib.hid hn
        have HSE := Lib.hid (show SeesC w1 w1.heap.size (.slice A l.length cap) (strs l) from (rs_own hown).1)
        rw [hn] at HV HSE ⊢
        have hsl : (strs l).length = n := by rw [strs_len, hn]
        have HSL := Lib.hid hsl
        obtain ⟨i0, hi, hz0, hz1, hz2⟩ := info_parts' Try.infoStr
        clear hb1 hown hn hsl
        go_wp2_with (at_builtin; refine wpList_append_sees rfl (.const (.slice none 0 0)) (.tmp 27) 23 rfl w1.heap.size 9 i0 _ 16 Try.underlying23 hi hz0 hz1 hz2 rfl _ 0 [] rfl (World.ownsRow_nil _ _ _ _) _ _ (strs l) rfl HSE.out (strs_one _) (by rw [HSL.out]; unfold maxLen; omega) (by rw [HSL.out]; omega) (Nat.le_refl _) ?_)
        intro mv w2 h1 h2 _
        rw [HSL.out] at h1
        have HO2 := Lib.hid h1
        have hb2 : Below w1.heap.size w1 w2 := (Below.refl _ w1).grown h2 (Nat.le_refl _) (fun k e => by simp [Value.ownBlock] at e)
        have HB2 := Lib.hid hb2
        clear h1 h2 hb2 HSE
        go_wp2_with fail
        go_loopw [7, 31] (fun mv iv wr => ∃ (k : Nat) (M : Fs), k ≤ n ∧ iv = .int .i64 k ∧ wr.ownsRow w1.heap.size 9 1 mv (n + k) (strs M) ∧ (∀ x, x ∈ M ↔ x ∈ l) ∧ Below w1.heap.size w1 wr) (fun _ i _ => n - (Go.RowKit.intOf i).toNat)
        case atStart => exact ⟨0, l, Nat.zero_le _, rfl, HO2.out, fun x => Iff.rfl, HB2.out⟩
        case round =>
          obtain ⟨k, M, hk, rfl, hown, hmem, hb⟩ := hrel
          by_cases hlt : k < n
          · obtain ⟨r, hr⟩ : ∃ r, (k + tn) % n = r := ⟨_, rfl⟩
            have hrn : r < n := by rw [← hr]; exact Nat.mod_lt _ (by omega)
            obtain ⟨f, hf⟩ : ∃ f, l[r]? = some f := ⟨_, List.getElem?_eq_getElem (by rw [HN.out]; exact hrn)⟩
            obtain ⟨A', cap', he', -, hrr⟩ := (HV.out wr hb).form
            rw [HN.out] at he' hrr
            cases he'
            obtain ⟨bk, off, rfl, -, hj⟩ := hrr (by omega)
            have c0 := hj r f hf
            obtain ⟨F, hF⟩ : ∃ s : ByteArray, (⟨f.toArray⟩ : ByteArray) = s := ⟨_, rfl⟩
            have hFl : F.data.toList = f := by rw [← hF]
            rw [hF] at c0
            have hrem : ((k : Int) + (tn : Int)) % (n : Int) = (r : Int) := by rw [← hr, Int.natCast_emod, Int.natCast_add]
            have hn0 : ¬ ((n : Int) = 0) := by omega
            have HX : Hid (∀ x, x ∈ M ++ [F.data.toList] ↔ x ∈ l) := Lib.hid fun x => by
              rw [List.mem_append, List.mem_singleton, hmem x, hFl]
              exact ⟨fun h => h.elim id (fun e => by rw [e]; exact List.mem_of_getElem? hf), fun h => .inl h⟩
            have HO := Lib.hid hown
            have HB := Lib.hid hb
            have hszb := hb.size
            clear hown hmem hb hF hFl hj hrr hf hr
            go_wp2_with (at_builtin; refine wpList_push rfl (.tmp 34) (.tmp 44) rfl w1.heap.size _ (n + k) M F rfl rfl HO.out (by omega) hszb ?_)
            intro v' w3 h1 h2 _
            have HO3 := Lib.hid h1.out
            have HB3 := Lib.hid (h2.out w1.heap.size w1 HB.out (Nat.le_refl _))
            clear h1 h2
            go_wp2_with fail
            exact ⟨⟨k + 1, _, by omega, by go_num, HO3.out, HX.out, HB3.out⟩, by simp only [Go.RowKit.intOf]; omega⟩
          · obtain rfl : k = n := by omega
            obtain ⟨N, hN⟩ : ∃ N, k + k = N := ⟨_, rfl⟩
            rw [hN] at hown
            obtain ⟨mA, mc, rfl, hmc⟩ := own_form hown
            have HO3 := Lib.hid hown
            have HM3 := Lib.hid hmem
            have HB3 := Lib.hid hb
            have hN240 : N ≤ 240 := by omega
            clear hown hmem hb HO2 HB2 HV
            obtain ⟨wo, rfl⟩ : ∃ wo, wo = wr := ⟨_, rfl⟩
            go_wp2_with fail
            go_loopw [9] (fun iv wr => ∃ (j : Nat) (M : Fs), j ≤ N ∧ iv = .int .i64 j ∧ wr.ownsRow w1.heap.size 9 1 (.slice mA N mc) N (strs M) ∧ (∀ x, x ∈ M ↔ x ∈ l) ∧ Below w1.heap.size w1 wr) (fun i _ => N - (Go.RowKit.intOf i).toNat)
            case atStart => exact ⟨0, M, Nat.zero_le _, rfl, HO3.out, HM3.out, HB3.out⟩
            case round =>
              obtain ⟨j, M', hj, rfl, hown, hmem, hb⟩ := hrel
              by_cases hlt2 : j < N / 2
              · have hMl : M'.length = N := (rs_own hown).2
                rcases id hown.2 with ⟨_, hN0⟩ | ⟨g, gc, cur, hv, hbg, hg, -⟩
                · omega
                cases hv
                obtain ⟨p, hp⟩ : ∃ p, N - 1 - j = p := ⟨_, rfl⟩
                have hpj : j ≠ p := by omega
                have hpN : p < N := by omega
                obtain ⟨a, ha⟩ : ∃ a, M'[j]? = some a := ⟨_, List.getElem?_eq_getElem (by omega)⟩
                obtain ⟨b, hb'⟩ : ∃ b, M'[p]? = some b := ⟨_, List.getElem?_eq_getElem (by omega)⟩
                have c0 := hown.cellAt j (by omega)
                have c1 := hown.cellAt p (by omega)
                rw [strs_get ha] at c0
                rw [strs_get hb'] at c1
                have f0 : wr.frozen? ⟨g, j, none⟩ = false := frozen_of hg
                have f1 : wr.frozen? ⟨g, p, none⟩ = false := frozen_of hg
                have hsw := swap_mem ha hb' hpj
                have hos : ∀ W : World, W.ownsRow w1.heap.size 9 1 (.slice (some ⟨g, 0, none⟩) N mc) N (strs M') → ((W.setCell ⟨g, j, none⟩ (.string ⟨b.toArray⟩)).setCell ⟨g, p, none⟩ (.string ⟨a.toArray⟩)).ownsRow w1.heap.size 9 1 (.slice (some ⟨g, 0, none⟩) N mc) N (strs ((M'.set j b).set p a)) := fun W h => by
                  rw [strs_set, strs_set]
                  exact own_set _ (own_set _ h)
                obtain ⟨P, hP⟩ : ∃ s : ByteArray, (⟨a.toArray⟩ : ByteArray) = s := ⟨_, rfl⟩
                obtain ⟨Q, hQ⟩ : ∃ s : ByteArray, (⟨b.toArray⟩ : ByteArray) = s := ⟨_, rfl⟩
                rw [hP] at c0 hos
                rw [hQ] at c1 hos
                have HOS := Lib.hid hos
                have HSW := Lib.hid (fun x => (hsw x).trans (hmem x))
                have HO := Lib.hid hown
                have HB := Lib.hid hb
                have HBG := Lib.hid hbg
                have hlt3 : (j : Int) < (N : Int) / 2 := by omega
                have hw1 : IntKind.i64.wrap ((N : Int) - 1) = (N : Int) - 1 := by rw [IntKind.wrap_i64]; omega
                have hw2 : IntKind.i64.wrap ((N : Int) - 1 - (j : Int)) = (p : Int) := by rw [IntKind.wrap_i64]; omega
                have hw3 : (N : Int) - 1 - (j : Int) = (p : Int) := by omega
                clear hMl hg hsw hos hown hmem hb hbg ha hb' hP hQ hp
                go_wp2_with fail
                go_region
                go_wp2_with fail
                exact ⟨⟨j + 1, _, by omega, by go_num, HOS.out _ HO.out, HSW.out, ((below_drewN HB.out 1).setCell HBG.out _).setCell HBG.out _⟩, by simp only [Go.RowKit.intOf]; omega⟩
              · have hlt3 : ¬ ((j : Int) < (N : Int) / 2) := by omega
                have hMl : M'.length = N := (rs_own hown).2
                have hf := HFB.out M' (by trivial) hmem
                have hfa := fun W (h : Below wr.heap.size wr W) => format_any (w := W) ((rs_own hown).1.below h) (by unfold maxLen; omega) (fun f hf => by have := HLF.out f ((hmem f).1 hf); unfold maxLen; omega)
                simp only [hf, Lib.mk_data] at hfa
                have HFA := Lib.hid hfa
                have HB := Lib.hid hb
                have HW := Lib.hid (fun W => awake_any W)
                clear hMl hf hfa hown hmem hb HFB HLF HM3 HO3
                go_wp2_with fail
                refine (HFA.out _ (Below.refl _ _)).mono ?_
                rintro e w4 ⟨rfl, hb4⟩
                have HB4 := Lib.hid (HB.out.trans (hb4.mono HB.out.size))
                clear hb4
                go_wp2_with fail
                refine (HW.out _).mono ?_
                rintro e w5 ⟨rfl, hb5⟩
                have HB5 := Lib.hid (HB4.out.trans (hb5.mono HB4.out.size))
                clear hb5
                go_wp2_with fail
                go_ret
                exact ⟨rfl, HB1.out.trans (HB5.out.mono HB1.out.size)⟩
  · have h0i : ¬ ((k0 : Int) = 0) := by omega
    clear h0 ht0 ht1
    go_enter Try.func5, Try.ntmps5
    go_wp2_with fail
    refine HP.out.mono ?_
    rintro e w1 ⟨⟨v, rfl, -⟩, hb1⟩
    have HB1 := Lib.hid hb1
    clear hb1
    go_wp2_with fail
    go_ret
    exact ⟨rfl, HB1.out⟩

theorem own : ownKnob Try.prog.godebug = none := by kernel_rfl

set_option maxRecDepth 100000 in
theorem lifted (os : Os) (started : os.Started) (H : Type) (enc : TypeId × Value → H) :
    ReturnsInHanded {} Try.checked os 5 .any (Rows.featureRoundTripsSpec.pre6 enc Try.prog Try.f5 Rows.featureRoundTripsRow.domain false) (Rows.featureRoundTripsSpec.post enc Try.prog Try.f5 false true false false) := by
  refine returnsInHanded_of_change (C := Try.checked) own started (by kernel_rfl) Try.func5
    (ChangeSpec.witness6 (enc := enc) (C := Try.checked) false ⟨#[], #[.string ⟨#[]⟩, .int .i64 0], []⟩ 8 (by kernel_rfl) (by kernel_rfl) (by kernel_rfl) (by kernel_rfl)) ?_
  intro W base args ds gs before hval0 hW hcnd _
  have hval : ∀ (j : Nat) t v, Try.f5.params[j]? = some t → args[j]? = some v → Value.okWide Try.prog W .any base t v := hval0
  have hW' := hW
  have hplt : ∀ x ∈ before, x.block < W.heap.size := fun x hx => hW.lt x hx
  obtain ⟨p, q, hA0, hV, rfl, hfz, hnd⟩ := hW
  have hA : DataW.TrodAll enc Try.prog W 0 (fun _ => true) true Try.f5.params.toList args.toList ds p := hA0
  rw [Try.params5] at hA hval
  obtain ⟨v0, vs0, d0, ds0, p0, q0, hargs, rfl, rfl, h0, r0⟩ := trodAll_cons hA
  obtain ⟨v1, vs1, d1, ds1, p1, q1, rfl, rfl, rfl, h1, r1⟩ := trodAll_cons r0
  obtain ⟨rfl, rfl, rfl⟩ := trodAll_nil r1
  obtain rfl : args = #[v0, v1] := by cases args; simp_all
  obtain ⟨rfl, rfl⟩ := trodVars_none hV
  obtain ⟨a0, rfl, m0⟩ := open_str (hval 0 9 v0 rfl rfl) h0
  obtain ⟨x1, rfl, m1, n1⟩ := open_i64 (hval 1 3 v1 rfl rfl) h1
  clear hA0 hval0
  refine (walk a0 m0 x1 m1 n1).mono fun e W' ⟨he, bel⟩ => ?_
  subst he
  exact ⟨_, rfl, _, _, _, [], _, [], hW', trodAll_mk1 (shut_bool Try.underlying4 _), (trodAll_cons_mk (Below.trod Try.laidOut (by kernel_rfl) (of_decide_eq_true (by kernel_rfl)) h0 bel (fun x hx => hplt x (by simp [hx]))) (trodAll_cons_mk (Below.trod Try.laidOut (by kernel_rfl) (of_decide_eq_true (by kernel_rfl)) h1 bel (fun x hx => hplt x (by simp [hx]))) trodAll_mk0)), rfl, World.keptBut_mono (fun x hx => ⟨hx, Or.inr (by simpa using hx)⟩) (bel.frame (· ∈ _)), fun h => by cases h⟩

theorem over : Rows.featureRoundTripsRow.holds Try.pinned (OpenSpec.ofChange Rows.featureRoundTripsSpec) :=
  OpenClaim.holds_of_wide 5 Try.f5 rfl rfl rfl rfl rfl rfl rfl ⟨rfl, rfl, rfl, rfl, rfl⟩ rfl rfl rfl rfl rfl (by kernel_rfl) Try.func5 (by kernel_rfl)
    (of_decide_eq_true (by kernel_rfl)) (by unfold Func.isWrapper; first | (rw [if_pos (by decide +kernel)]; kernel_rfl) | (rw [if_neg (by decide +kernel)]; exact ⟨rfl, rfl⟩))
    (fun os started H enc _ => lifted os started H enc)

/-- THE STATEMENT. -/
theorem proved : Rows.FeatureRoundTripsSaid := over
end Go.Proofs.Ythagjdhfngdigaa.featureRoundTrips
