/-
  DependCorpus is proved: for every list of numbers and every list of strings the call of the law returns true, and each argument reads afterwards as it read before. The package-level variables that the row lists hold what the program's text lays in them: this is tied to the text.
-/
import Derived.Test.YtmjmidgfdjcbfaaGreatDoorRows
import Derived.Test.YtmjmidgfdjcbfaaGreatDoorCards
import Derived.Test.YtmjmidgfdjcbfaaGreatDoorTie
import Derived.Test.YtmjmidgfdjcbfaaGreatDoorDgZ
import Derived.ProofKit
import Derived.OpenShut
import Derived.Carry
import Derived.SevenTiedAt
import Derived.LaidMore
import Derived.Stop.Joined
namespace Go.Proofs.YtmjmidgfdjcbfaaGreatDoor.dependCorpus
open Go.ChangeShapes Go.WideShapes Go.ChangeAt Go.RowKit Go.Shelf Go.Lib
set_option linter.unusedVariables false

open Dep (laidAll all_met all_shaped)
theorem Tryz.laidOut : laidOutB Tryz.prog = true := by kernel_rfl
/-- What the law's 'bare' holds between two tokens. -/
def bk (n m : Nat) (H : List Int) (G : Fs) (k : Nat) : Bool := decide (m = n) && bare (H.take k) (G.take k)
theorem bk_zero (n m : Nat) (H : List Int) (G : Fs) : bk n m H G 0 = decide (m = n) := by simp [bk, bare]
theorem bk_ne {n m : Nat} (H : List Int) (G : Fs) (k : Nat) (h : m ≠ n) : bk n m H G k = false := by simp [bk, h]
theorem bk_succ {n m k : Nat} {H : List Int} {G : Fs} {h : Int} {r : Bs} (hh : H[k]? = some h) (hr : G[k]? = some r) : bk n m H G (k + 1) = (bk n m H G k && decide (h = -1) && decide (r = [])) := by
  unfold bk bare
  simp only [List.take_add_one, hh, hr, Option.toList_some, List.all_append, List.all_cons, List.all_nil, Bool.and_true]
  cases decide (m = n) <;> cases (H.take k).all (fun x => decide (x = -1)) <;> cases (G.take k).all (fun x => decide (x = [])) <;> cases decide (h = -1) <;> cases decide (r = []) <;> rfl
theorem bk_end {n m : Nat} {H : List Int} {G : Fs} (hn : H.length = n) (hm : G.length = m) : bk n m H G n = bareL n H G := by
  unfold bk bareL
  rw [hm]
  by_cases h : m = n
  · rw [List.take_of_length_le (by omega), List.take_of_length_le (by omega)]
  · rw [decide_eq_false h, Bool.false_and, Bool.false_and]
set_option maxRecDepth 100000 in
set_option maxHeartbeats 8000000 in
theorem walk {w : World} (vh : Value) (H : List Int) (hv : Dep.Rows 1 Dep.EInt w vh H) (hl : H.length ≤ maxLen) (_ : ∀ x ∈ H, -9223372036854775808 ≤ x ∧ x ≤ 9223372036854775807) (vr : Value) (G : Fs) (hr : Dep.Rows 1 Dep.EStr w vr G) (hl2 : G.length ≤ maxLen) (hz : ∀ f ∈ G, f.length ≤ maxLen) (hL : Dep.LaidAt w) :
    Calls Tryz.prog 3 #[vh, vr] w fun e w1 => e = .returned (.bool true) ∧ Below w.heap.size w w1 := by
  have HF := Lib.hid (fun (W : World) (hb : Below w.heap.size w W) => Dep.format_any (hL.below hb).tab (hv.below Dep.stays_int hb) (hr.below Dep.stays_str hb) hl hl2 hz)
  have HA := Lib.hid (fun (W : World) (hb : Below w.heap.size w W) => Dep.awake_any (w := W) (hL.below hb).err)
  have HV := Lib.hid (fun (W : World) (hb : Below w.heap.size w W) => show Rows 1 EInt W vh H from hv.below Dep.stays_int hb)
  have HR := Lib.hid (fun (W : World) (hb : Below w.heap.size w W) => show Rows 1 EStr W vr G from hr.below Dep.stays_str hb)
  obtain ⟨A, cap, rfl, hc⟩ := hv.form
  obtain ⟨A2, cap2, rfl, hc2⟩ := hr.form
  have HVA := Lib.hid (fun (n : Nat) (h4 : n ≤ 4096) (W : World) (v : Value) (xs : List Value) (h : LI w.heap.size n (.slice A H.length cap) (.slice A2 G.length cap2) w n v xs W) =>
    validate_any _ (h.cor (HV.out W h.be) (HR.out W h.be)) (fits_cor h4 hl hl2 hz))
  obtain ⟨n, hn⟩ : ∃ n, H.length = n := ⟨_, rfl⟩
  obtain ⟨m, hm⟩ : ∃ m, G.length = m := ⟨_, rfl⟩
  rw [hn] at hl hc HF HV HVA
  rw [hm] at hl2 hc2 HF HR HVA
  rw [hn, hm]
  unfold maxLen at hl hl2
  have HN := Lib.hid hn
  have HM := Lib.hid hm
  clear hv hr hL hz hn hm
  by_cases c0 : n = 0
  · have c0' : (n : Int) = 0 := by omega
    clear HF HA HV HR HVA HN HM
    go_enter Tryz.func3, Tryz.ntmps3
    go_wp2_with fail
    go_ret
    exact ⟨rfl, Below.refl _ _⟩
  have c0' : ¬ (n : Int) = 0 := by omega
  by_cases c1 : 60 < n
  · have c1' : (n : Int) > 60 := by omega
    clear HF HA HV HR HVA HN HM
    go_enter Tryz.func3, Tryz.ntmps3
    go_wp2_with fail
    go_ret
    exact ⟨rfl, Below.refl _ _⟩
  have c1' : ¬ (n : Int) > 60 := by omega
  by_cases c2 : 70 < m
  · have c2' : (m : Int) > 70 := by omega
    clear HF HA HV HR HVA HN HM
    go_enter Tryz.func3, Tryz.ntmps3
    go_wp2_with fail
    go_ret
    exact ⟨rfl, Below.refl _ _⟩
  have c2' : ¬ (m : Int) > 70 := by omega
  have HVA2 := Lib.hid (HVA.out n (by omega))
  obtain ⟨va, hva⟩ : ∃ v, validate (corH n H G) = v := ⟨_, rfl⟩
  obtain ⟨⟨TX, ER⟩, hf⟩ : ∃ f, Dep.formatH H G = f := ⟨_, rfl⟩
  obtain ⟨a1, a2, a3⟩ := va
  have HZ := Lib.hid (fun hb => validate_bare (H := H) (G := G) (show 1 ≤ n by omega) (show n ≤ 4096 by omega) HN.out hb)
  have HB0 := Lib.hid (fun hb => bare_format (H := H) (G := G) (show n ≤ 4096 by omega) HN.out hb)
  have HZ2 := Lib.hid (fun hb => validate_zero (H := H) (G := G) (show 1 ≤ n by omega) (show n ≤ 4096 by omega) HN.out hb)
  rw [hva] at HVA2 HZ HZ2
  rw [hf] at HF HB0 HZ2
  simp only at HVA2 HF HZ HB0 HZ2
  clear hva hf HVA
  go_enter Tryz.func3, Tryz.ntmps3
  go_wp2_with fail
  obtain ⟨w3, hw3⟩ : ∃ w3, ((w.alloc (.cells #[.string ⟨#[119, 111, 114, 100]⟩, .bool false] 25)).alloc (.cells #[.string ⟨#[116]⟩, .int .i64 0, .int .i64 (n : Int), .slice none 0 0] 29)).alloc
      (.cells #[.slice (some ⟨w.heap.size, 0, none⟩) 1 1, .slice none 0 0, .slice (some ⟨w.heap.size + 1, 0, none⟩) 1 1, .slice none 0 0, .slice none 0 0, .slice A n cap, .slice A2 m cap2] 35) = w3 := ⟨_, rfl⟩
  have HST := Lib.hid (LI.start hw3)
  rw [hw3]
  clear hw3
  have hb0 : ((m : Int) == (n : Int)) = bk n m H G 0 := by
    rw [bk_zero, Bool.eq_iff_iff]
    simp only [beq_iff_eq, decide_eq_true_iff]
    omega
  rw [hb0]
  clear hb0
  obtain ⟨N, hN⟩ : ∃ N, w.heap.size = N := ⟨_, rfl⟩
  have HNN := Lib.hid hN
  rw [hN] at HST HVA2 ⊢
  rw [show N + 1 + 1 = N + 2 from rfl]
  go_loopw [7, 42] (fun b i wr => ∃ (k : Nat) (vt : Value) (xs : List Value), k ≤ n ∧ i = .int .i64 k ∧ b = .bool (bk n m H G k) ∧ Hid (LI N n (.slice A n cap) (.slice A2 m cap2) w k vt xs wr)) (fun _ i _ => n - (Go.RowKit.intOf i).toNat)
  case atStart => exact ⟨0, _, _, Nat.zero_le _, rfl, rfl, HST⟩
  case round =>
    obtain ⟨k, vt, xs, hk, rfl, rfl, HLI⟩ := hrel
    obtain ⟨At, ct, rfl, -⟩ := own_form HLI.out.own
    by_cases hlt : k < n
    · obtain ⟨h, hh⟩ : ∃ h, H[k]? = some h := ⟨_, List.getElem?_eq_getElem (by rw [HN.out]; omega)⟩
      have hbe := HLI.out.be
      obtain ⟨b1, o1, rfl, hl1, hj1⟩ := (HV.out w (Below.refl _ _)).at' (by rw [HN.out]; omega)
      rw [hN] at hl1
      obtain ⟨cs1, hcl1, hec1, hcell1⟩ := hj1 k h hh
      cases hec1
      have e0 := (hbe.cell (p := ⟨b1, o1 + k * 1 + 0, none⟩) hl1).trans (hcell1 0 _ rfl)
      rw [Nat.mul_one, Nat.add_zero] at e0
      have hki : (k : Int) < (n : Int) := by omega
      clear hbe hj1 hcl1 hcell1 hl1
      obtain ⟨q, hq⟩ : ∃ q, bk n m H G k = q := ⟨_, rfl⟩
      rw [hq]
      cases q with
      | false =>
        have HBK := Lib.hid (show bk n m H G (k + 1) = false by
          by_cases hmn : m = n
          · obtain ⟨r, hr⟩ : ∃ r, G[k]? = some r := ⟨_, List.getElem?_eq_getElem (by rw [HM.out]; omega)⟩
            rw [bk_succ hh hr, hq]
            rfl
          · exact bk_ne H G (k + 1) hmn)
        have e1 := cell_of (i := 1) HLI.out.box rfl
        have f1 : wr.frozen? ⟨N + 2, 1, none⟩ = false := frozen_of (i := 1) HLI.out.box
        have hsz := HLI.out.sz
        have hxl : k ≤ 1000000 := by omega
        clear hq hh
        go_wp2_with (at_builtin; refine wpList_pushC rfl (.tmp 48) (.tmp 50) rfl (N + 3) _ _ _ (.slice (some ⟨wr.heap.size, 0, none⟩) 1 1) rfl (by first | rfl | (show Value.slice (some ⟨wr.heap.size + 1, 0, none⟩) 1 1 = Value.slice (some ⟨(wr.alloc _).heap.size, 0, none⟩) 1 1; rw [World.size_alloc])) (HLI.out.own.alloc _) rfl hxl (by rw [World.size_alloc]; omega) ?_; intro vt' w2 h1 h2 h3; obtain ⟨At', ct', rfl, -⟩ := own_form h1.out; have HL2 := Lib.hid (HLI.out.push h1.out h2.out h3.out); have f2 : w2.frozen? ⟨N + 2, 1, none⟩ = false := frozen_of (i := 1) (HLI.out.boxAt h3.out); have e2' := cell_of (i := 1) (HLI.out.boxAt h3.out) rfl; skip; clear h1 h2 h3 e1 f1)
        exact ⟨⟨k + 1, _, _, by omega, by go_num, by rw [HBK.out], HL2⟩, by simp only [Go.RowKit.intOf]; omega⟩
      | true =>
        have hmn : m = n := by
          rcases Nat.decEq m n with g | g
          · rw [bk_ne H G k g] at hq
            cases hq
          · exact g
        obtain ⟨r, hr⟩ : ∃ r, G[k]? = some r := ⟨_, List.getElem?_eq_getElem (by rw [HM.out]; omega)⟩
        have hbs := bk_succ (n := n) (m := m) hh hr
        rw [hq, Bool.true_and] at hbs
        by_cases hm1 : h = -1
        · subst hm1
          rw [decide_eq_true rfl, Bool.true_and] at hbs
          have hbe := HLI.out.be
          obtain ⟨b2, o2, rfl, hl2', hj2⟩ := (HR.out w (Below.refl _ _)).at' (by rw [HM.out]; omega)
          rw [hN] at hl2'
          obtain ⟨cs2, hcl2, hec2, hcell2⟩ := hj2 k r hr
          cases hec2
          have e2 := hcell2 0 _ rfl
          rw [Nat.mul_one, Nat.add_zero] at e2
          obtain ⟨R, hR⟩ : ∃ R : ByteArray, (⟨r.toArray⟩ : ByteArray) = R := ⟨_, rfl⟩
          have hRd : R.data.toList = r := by rw [← hR]
          rw [hR] at e2
          have HE2 := Lib.hid e2
          have HL2' := Lib.hid hl2'
          have hkm : (k : Int) < (m : Int) := by omega
          clear hbe hj2 hcl2 hcell2 hl2' e2 hR
          by_cases hr0 : r = []
          · have he : R.toList.isEmpty = true := by rw [Lib.toList_data, hRd, hr0]; rfl
            have HBK := Lib.hid (show bk n m H G (k + 1) = true by rw [hbs, decide_eq_true hr0])
            have e1 := cell_of (i := 1) HLI.out.box rfl
            have f1 : wr.frozen? ⟨N + 2, 1, none⟩ = false := frozen_of (i := 1) HLI.out.box
            have hsz := HLI.out.sz
            have hxl : k ≤ 1000000 := by omega
            clear hq hh hbs hr hr0 hRd hmn
            go_wp2_with (at_builtin; refine wpList_pushC rfl (.tmp 48) (.tmp 50) rfl (N + 3) _ _ _ (.slice (some ⟨wr.heap.size, 0, none⟩) 1 1) rfl (by first | rfl | (show Value.slice (some ⟨wr.heap.size + 1, 0, none⟩) 1 1 = Value.slice (some ⟨(wr.alloc _).heap.size, 0, none⟩) 1 1; rw [World.size_alloc])) (HLI.out.own.alloc _) rfl hxl (by rw [World.size_alloc]; omega) ?_; intro vt' w2 h1 h2 h3; obtain ⟨At', ct', rfl, -⟩ := own_form h1.out; have HL2 := Lib.hid (HLI.out.push h1.out h2.out h3.out); have f2 : w2.frozen? ⟨N + 2, 1, none⟩ = false := frozen_of (i := 1) (HLI.out.boxAt h3.out); have e2' := cell_of (i := 1) (HLI.out.boxAt h3.out) rfl; have g2 := (HL2.out.be.cell (p := ⟨b2, o2 + k, none⟩) HL2'.out).trans HE2.out; clear h1 h2 h3 e1 f1)
            exact ⟨⟨k + 1, _, _, by omega, by go_num, by rw [HBK.out], HL2⟩, by simp only [Go.RowKit.intOf]; omega⟩
          · have he : R.toList.isEmpty = false := by
              rw [Lib.toList_data, hRd, Bool.eq_false_iff]
              intro e
              exact hr0 (List.isEmpty_iff.1 e)
            have HBK := Lib.hid (show bk n m H G (k + 1) = false by rw [hbs, decide_eq_false hr0])
            have e1 := cell_of (i := 1) HLI.out.box rfl
            have f1 : wr.frozen? ⟨N + 2, 1, none⟩ = false := frozen_of (i := 1) HLI.out.box
            have hsz := HLI.out.sz
            have hxl : k ≤ 1000000 := by omega
            clear hq hh hbs hr hr0 hRd hmn
            go_wp2_with (at_builtin; refine wpList_pushC rfl (.tmp 48) (.tmp 50) rfl (N + 3) _ _ _ (.slice (some ⟨wr.heap.size, 0, none⟩) 1 1) rfl (by first | rfl | (show Value.slice (some ⟨wr.heap.size + 1, 0, none⟩) 1 1 = Value.slice (some ⟨(wr.alloc _).heap.size, 0, none⟩) 1 1; rw [World.size_alloc])) (HLI.out.own.alloc _) rfl hxl (by rw [World.size_alloc]; omega) ?_; intro vt' w2 h1 h2 h3; obtain ⟨At', ct', rfl, -⟩ := own_form h1.out; have HL2 := Lib.hid (HLI.out.push h1.out h2.out h3.out); have f2 : w2.frozen? ⟨N + 2, 1, none⟩ = false := frozen_of (i := 1) (HLI.out.boxAt h3.out); have e2' := cell_of (i := 1) (HLI.out.boxAt h3.out) rfl; have g2 := (HL2.out.be.cell (p := ⟨b2, o2 + k, none⟩) HL2'.out).trans HE2.out; clear h1 h2 h3 e1 f1)
            exact ⟨⟨k + 1, _, _, by omega, by go_num, by rw [HBK.out], HL2⟩, by simp only [Go.RowKit.intOf]; omega⟩
        · have hb1 : (h == -1) = false := by simpa using hm1
          have HBK := Lib.hid (show bk n m H G (k + 1) = false by rw [hbs, decide_eq_false hm1]; rfl)
          have e1 := cell_of (i := 1) HLI.out.box rfl
          have f1 : wr.frozen? ⟨N + 2, 1, none⟩ = false := frozen_of (i := 1) HLI.out.box
          have hsz := HLI.out.sz
          have hxl : k ≤ 1000000 := by omega
          clear hq hh hbs hr hmn
          go_wp2_with (at_builtin; refine wpList_pushC rfl (.tmp 48) (.tmp 50) rfl (N + 3) _ _ _ (.slice (some ⟨wr.heap.size, 0, none⟩) 1 1) rfl (by first | rfl | (show Value.slice (some ⟨wr.heap.size + 1, 0, none⟩) 1 1 = Value.slice (some ⟨(wr.alloc _).heap.size, 0, none⟩) 1 1; rw [World.size_alloc])) (HLI.out.own.alloc _) rfl hxl (by rw [World.size_alloc]; omega) ?_; intro vt' w2 h1 h2 h3; obtain ⟨At', ct', rfl, -⟩ := own_form h1.out; have HL2 := Lib.hid (HLI.out.push h1.out h2.out h3.out); have f2 : w2.frozen? ⟨N + 2, 1, none⟩ = false := frozen_of (i := 1) (HLI.out.boxAt h3.out); have e2' := cell_of (i := 1) (HLI.out.boxAt h3.out) rfl; skip; clear h1 h2 h3 e1 f1)
          exact ⟨⟨k + 1, _, _, by omega, by go_num, by rw [HBK.out], HL2⟩, by simp only [Go.RowKit.intOf]; omega⟩
    · obtain rfl : k = n := by omega
      have hbe := bk_end HN.out HM.out
      rw [hbe]
      clear hbe
      have hbx := HLI.out.box
      have d0 := cell_of (i := 0) hbx rfl
      have d1 := cell_of (i := 1) hbx rfl
      have d2 := cell_of (i := 2) hbx rfl
      have d3 := cell_of (i := 3) hbx rfl
      have d4 := cell_of (i := 4) hbx rfl
      have d5 := cell_of (i := 5) hbx rfl
      have d6 := cell_of (i := 6) hbx rfl
      have hBE := HLI.out.be
      rw [← hN] at hBE
      have HBE := Lib.hid hBE
      have HVC := Lib.hid (HVA2.out wr _ xs HLI.out)
      obtain ⟨q, hq⟩ : ∃ q, bareL k H G = q := ⟨_, rfl⟩
      rw [hq]
      clear hbx hBE hN
      cases q with
      | true =>
        obtain rfl : a3 = 14 := HZ.out hq
        obtain rfl : ER = 0 := HB0.out hq
        clear hq HZ HZ2 HB0
        go_wp2_with fail
        refine HVC.out.mono ?_
        rintro e w4 ⟨rfl, hb4⟩
        have HB4 := Lib.hid (HBE.out.trans (hb4.mono HBE.out.size))
        clear hb4
        go_wp2_with fail
        refine (HF.out w4 HB4.out).mono ?_
        rintro e w5 ⟨rfl, hb5⟩
        have HB5 := Lib.hid (HB4.out.trans (hb5.mono HB4.out.size))
        clear hb5
        go_wp2_with fail
        refine (HA.out w5 HB5.out).mono ?_
        rintro e w6 ⟨rfl, hb6⟩
        have HB6 := Lib.hid (HB5.out.trans (hb6.mono HB5.out.size))
        clear hb6
        go_wp2_with fail
        go_ret
        exact ⟨rfl, HB6.out⟩
      | false =>
        have hiff := HZ2.out hq
        by_cases ha : a3 = 0
        · obtain rfl : ER = 0 := hiff.1 ha
          subst ha
          clear hiff hq HZ HZ2 HB0
          go_wp2_with fail
          refine HVC.out.mono ?_
          rintro e w4 ⟨rfl, hb4⟩
          have HB4 := Lib.hid (HBE.out.trans (hb4.mono HBE.out.size))
          clear hb4
          go_wp2_with fail
          refine (HF.out w4 HB4.out).mono ?_
          rintro e w5 ⟨rfl, hb5⟩
          have HB5 := Lib.hid (HB4.out.trans (hb5.mono HB4.out.size))
          clear hb5
          go_wp2_with fail
          refine (HA.out w5 HB5.out).mono ?_
          rintro e w6 ⟨rfl, hb6⟩
          have HB6 := Lib.hid (HB5.out.trans (hb6.mono HB5.out.size))
          clear hb6
          go_wp2_with fail
          go_ret
          exact ⟨rfl, HB6.out⟩
        · have hE0 : ¬ ER = 0 := fun e => ha (hiff.2 e)
          have g1 : ((a3 : Int) == 0) = false := by simp; omega
          have g3 : (ER == 0) = false := by simpa using hE0
          have ha' : ¬ (a3 : Int) = 0 := by omega
          clear hiff hq HZ HZ2 HB0 ha
          go_wp2_with fail
          refine HVC.out.mono ?_
          rintro e w4 ⟨rfl, hb4⟩
          have HB4 := Lib.hid (HBE.out.trans (hb4.mono HBE.out.size))
          clear hb4
          go_wp2_with fail
          refine (HF.out w4 HB4.out).mono ?_
          rintro e w5 ⟨rfl, hb5⟩
          have HB5 := Lib.hid (HB4.out.trans (hb5.mono HB4.out.size))
          clear hb5
          go_wp2_with fail
          refine (HA.out w5 HB5.out).mono ?_
          rintro e w6 ⟨rfl, hb6⟩
          have HB6 := Lib.hid (HB5.out.trans (hb6.mono HB5.out.size))
          clear hb6
          go_wp2_with fail
          go_ret
          exact ⟨rfl, HB6.out⟩

theorem own : ownKnob Tryz.prog.godebug = none := by kernel_rfl

set_option maxRecDepth 100000 in
theorem lifted (os : Os) (started : os.Started) (H : Type) (enc : TypeId × Value → H) :
    ReturnsInHanded {} Tryz.checked os 3 .any (fun w args => (Rows.dependCorpusSpec.pre enc Tryz.prog Tryz.f3 [] false w args ∧ laidMetH Tryz.prog Rows.dependCorpusRow.laid w) ∧ sizedMet enc Tryz.prog Tryz.f3 (OpenSpec.ofChange Rows.dependCorpusSpec) false w args)
      (Rows.dependCorpusSpec.post enc Tryz.prog Tryz.f3 false true false false) := by
  refine returnsInHanded_of_change_and (C := Tryz.checked) (X := fun w _ => laidMetH Tryz.prog Rows.dependCorpusRow.laid w) (fun _ _ _ hh h => h.of_heap hh) own started (by kernel_rfl) Tryz.func3
    (ChangeSpec.witness_shaped (enc := enc) (C := Tryz.checked) (os := os) (X := fun w _ => laidMetH Tryz.prog Rows.dependCorpusRow.laid w) false (World.laidAll Tryz.prog os laidAll) #[.slice none 0 0, .slice none 0 0] 8 (World.laidAll_os _ _ _) (all_shaped os) (by kernel_rfl) (by kernel_rfl) (by kernel_rfl) (all_met os _)) ?_
  intro W base args ds gs before hval0 hW _ _ hL _
  have hval : ∀ (j : Nat) t v, Tryz.f3.params[j]? = some t → args[j]? = some v → Value.okWide Tryz.prog W .any base t v := hval0
  have hW' := hW
  have hplt : ∀ x ∈ before, x.block < W.heap.size := fun x hx => hW.lt x hx
  obtain ⟨p, q, hA0, hV, rfl, hfz, hnd⟩ := hW
  have hA : DataW.TrodAll enc Tryz.prog W 0 (fun _ => true) true Tryz.f3.params.toList args.toList ds p := hA0
  rw [Tryz.params3] at hA hval
  obtain ⟨v0, vs0, d0, ds0, p0, q0, hargs, rfl, rfl, h0, r0⟩ := trodAll_cons hA
  obtain ⟨v1, vs1, d1, ds1, p1, q1, rfl, rfl, rfl, h1, r1⟩ := trodAll_cons r0
  obtain ⟨rfl, rfl, rfl⟩ := trodAll_nil r1
  obtain rfl : args = #[v0, v1] := by cases args; simp_all
  obtain ⟨rfl, rfl⟩ := trodVars_none hV
  obtain ⟨l0, s0, m0, n0⟩ := Dep.open_rowI (hval 0 22 v0 rfl rfl) h0
  obtain ⟨l1, s1, m1, n1⟩ := Dep.open_rowS (hval 1 23 v1 rfl rfl) h1
  clear hA0 hval0
  refine (walk v0 l0 s0 m0 n0 v1 l1 s1 m1 n1 (Dep.laid_of_laid hL)).mono fun e W' ⟨he, bel⟩ => ?_
  subst he
  exact ⟨_, rfl, _, _, _, [], _, [], hW', trodAll_mk1 (shut_bool Tryz.underlying4 _), (trodAll_cons_mk (Below.trod Tryz.laidOut (by kernel_rfl) (of_decide_eq_true (by kernel_rfl)) h0 bel (fun x hx => hplt x (by simp [hx]))) (trodAll_cons_mk (Below.trod Tryz.laidOut (by kernel_rfl) (of_decide_eq_true (by kernel_rfl)) h1 bel (fun x hx => hplt x (by simp [hx]))) trodAll_mk0)), rfl, World.keptBut_mono (fun x hx => ⟨hx, Or.inr (by simpa using hx)⟩) (bel.frame (· ∈ _)), fun h => by cases h⟩

theorem over : Rows.dependCorpusRow.holds Tryz.pinned (OpenSpec.ofChange Rows.dependCorpusSpec) :=
  OpenClaim.holds_of_wide 3 Tryz.f3 rfl rfl rfl rfl rfl rfl rfl ⟨rfl, rfl, rfl, rfl, rfl⟩ rfl rfl rfl rfl rfl (by kernel_rfl) Tryz.func3 (by kernel_rfl)
    (of_decide_eq_true (by kernel_rfl)) (by unfold Func.isWrapper; first | (rw [if_pos (by decide +kernel)]; kernel_rfl) | (rw [if_neg (by decide +kernel)]; exact ⟨rfl, rfl⟩))
    (fun os started H enc _ => lifted os started H enc)

/-- THE STATEMENT: the tied card. -/
theorem proved : Rows.DependCorpusCardSaid :=
  Claim7.holds_tied_plain_at .later [] Rows.dependCorpusCard.laidKinds true Rows.dependCorpusCard.stood.harness Rows.dependCorpusCard.stood.looks
    over (fun _ h => by cases h) (by kernel_rfl) (fun _ h => by cases h) dependCorpus_row_tie rfl ⟨rfl, rfl⟩ (by kernel_rfl) rfl
    (fun f fn hf hfn => by
      obtain rfl : f = 3 := Option.some.inj ((show Tryz.prog.funcNamed "corpora/corporalaw09.DependCorpus" = some 3 by kernel_rfl).symm.trans hf) |>.symm
      obtain rfl : fn = Tryz.f3 := (Option.some.inj (Tryz.func3.symm.trans hfn)).symm
      exact ⟨by kernel_rfl, fun j t ht => by
        rw [Tryz.params3] at ht
        have hm : t ∈ [22, 23] := by simpa using Array.mem_of_getElem? ht
        have hall : ([22, 23].all fun u => !Tryz.prog.wantsStandIn u) = true := by kernel_rfl
        exact (show Tryz.prog.wantsStandIn t = false by simpa using List.all_eq_true.1 hall t hm)⟩)
    (by kernel_rfl)
end Go.Proofs.YtmjmidgfdjcbfaaGreatDoor.dependCorpus
