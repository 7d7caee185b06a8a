/-
  WALKS over the reference of depend: Digits.
-/
import Derived.Test.YtpkkebojiengpaaGreatDoorDfF
import Derived.Test.YtpkkebojiengpaaGreatDoorDcK
import Derived.Test.YtpkkebojiengpaaGreatDoorAtV
namespace Go.Proofs.YtpkkebojiengpaaGreatDoor
open Go Go.RowKit Go.Shelf Go.Lib
set_option linter.unusedVariables false
attribute [local go_sem] Oper.semAt_some

theorem enc_dig : ∀ k : Nat, k < 10 → Utf8.encode (48 + (k : Int)) = ⟨#[UInt8.ofNat (48 + k)]⟩ := by decide
set_option maxRecDepth 100000 in
set_option maxHeartbeats 1000000 in
theorem digits_any : ∀ (f n : Nat), n < 10 ^ (f + 1) → f ≤ 10 → n ≤ 1000000 → ∀ W : World, Calls Tryz.prog 14 #[.int .i64 (n : Int)] W fun e w' => e = .returned (.string ⟨(decDigits n).toArray⟩) ∧ w' = W
  | f, n, hf, hf2, hn, W => by
    by_cases h : n < 10
    · have h1 : (n : Int) < 10 := by omega
      have he := enc_dig n h
      have hw : IntKind.i64.wrap (48 + (n : Int)) = 48 + (n : Int) := by rw [IntKind.wrap_i64]; omega
      have hw2 : IntKind.i32.wrap (48 + (n : Int)) = 48 + (n : Int) := by rw [IntKind.wrap_i32]; omega
      rw [decDigits_one h]
      have HE := Lib.hid he
      clear h hf hn he
      go_enter Tryz.func14, Tryz.ntmps14
      go_wp2_with fail
      go_ret
      refine ⟨?_, rfl⟩
      show Ending.returned (.string (Utf8.encode (48 + (n : Int)))) = _
      rw [HE.out]
    · obtain ⟨f', rfl⟩ : ∃ f', f = f' + 1 := ⟨f - 1, by cases f with | zero => omega | succ f => omega⟩
      have ih := digits_any f' (n / 10) (by rw [Nat.pow_succ] at hf; omega) (by omega) (by omega)
      have h1 : ¬ (n : Int) < 10 := by omega
      have hq : (n : Int).tdiv 10 = ((n / 10 : Nat) : Int) := (Int.ofNat_tdiv _ _).symm
      have hr : (n : Int).tmod 10 = ((n % 10 : Nat) : Int) := (Int.ofNat_tmod _ _).symm
      have he := enc_dig (n % 10) (by omega)
      have hw : IntKind.i64.wrap (48 + ((n % 10 : Nat) : Int)) = 48 + ((n % 10 : Nat) : Int) := by rw [IntKind.wrap_i64]; omega
      have hw2 : IntKind.i32.wrap (48 + ((n % 10 : Nat) : Int)) = 48 + ((n % 10 : Nat) : Int) := by rw [IntKind.wrap_i32]; omega
      have hdl := dec_le (n / 10) 8 (by omega)
      rw [decDigits, dif_neg h]
      obtain ⟨q, hq0⟩ : ∃ q, n / 10 = q := ⟨_, rfl⟩
      obtain ⟨r, hr0⟩ : ∃ r, n % 10 = r := ⟨_, rfl⟩
      rw [hq0] at ih hq hdl ⊢
      rw [hr0] at hr he hw hw2 ⊢
      obtain ⟨DQ, hDQ⟩ : ∃ DQ : ByteArray, (⟨(decDigits q).toArray⟩ : ByteArray) = DQ := ⟨_, rfl⟩
      have hqn : q ≤ 1000000 := by omega
      have hrn : r < 10 := by omega
      clear hq0 hr0
      have hT : DQ ++ Utf8.encode (48 + (r : Int)) = ⟨(decDigits q ++ [UInt8.ofNat (48 + r)]).toArray⟩ := by
        rw [he, ← hDQ]
        apply ByteArray.ext
        simp
      have hz0 : DQ.size ≤ 9 := by rw [← hDQ, Lib.size_mk]; omega
      have hz1 : (Utf8.encode (48 + (r : Int))).size = 1 := by rw [he]; rfl
      have z1 : ¬ (9223372036854775807 < DQ.size + (Utf8.encode (48 + (r : Int))).size) := by omega
      have hq64 : wrap64 (q : Int) = (q : Int) := by unfold wrap64; omega
      have hr64 : wrap64 (r : Int) = (r : Int) := by unfold wrap64; omega
      rw [hDQ] at ih
      rw [← hT]
      have IH := Lib.hid ih
      clear ih hf hT hDQ hz0 hz1 hdl he h hn
      go_enter Tryz.func14, Tryz.ntmps14
      go_wp2_with fail
      refine (IH.out W).mono ?_
      rintro e w1 ⟨rfl, rfl⟩
      go_wp2_with fail
      go_ret
      exact ⟨rfl, rfl⟩
theorem rels_not {G : Fs} {r : Bs} (h : r ∈ G) (hr : relB r = false) : relsB G = false := by
  unfold relsB
  rw [Bool.eq_false_iff]
  intro ha
  rw [List.all_eq_true] at ha
  have := ha r h
  rw [hr] at this
  cases this
set_option maxRecDepth 100000 in
set_option maxHeartbeats 4000000 in
theorem refFormat_any {w : World} {vh vr : Value} {H : List Int} {G : Fs} (hv : Rows 1 EInt w vh H) (hr : Rows 1 EStr w vr G) (hl : H.length ≤ maxLen) (hl2 : G.length ≤ maxLen) (hz : ∀ x ∈ G, x.length ≤ maxLen) :
    Calls Tryz.prog 5 #[vh, vr] w fun e w' => e = .returned (.tuple #[.string ⟨(formatH H G).1.toArray⟩, .int .i64 (formatH H G).2]) ∧ Below w.heap.size w w' := by
  have HC := Lib.hid (refCheck_any hv hl)
  obtain ⟨A, cap, rfl, hc⟩ := hv.form
  obtain ⟨A2, cap2, rfl, hc2⟩ := hr.form
  have hfm : formatH H G = if (checkH H).2 ≠ 0 then ([], (checkH H).2) else if H.length ≠ G.length then ([], 15) else if relsB G = false then ([], 4) else (txtF H G, 0) := rfl
  have hck : (checkH H).2 = 0 → H.length ≤ 4096 ∧ ∀ h ∈ H, -1 ≤ h ∧ h < (H.length : Int) := fun h => by
    have hok := okh_iff.1 (show okH H = true by unfold okH; exact decide_eq_true h)
    exact ⟨hok.len, fun x hx => by rcases hok.inn x hx with e | ⟨e1, e2⟩ <;> omega⟩
  rw [hfm]
  obtain ⟨z, hzz⟩ : ∃ z, checkH H = z := ⟨_, rfl⟩
  obtain ⟨z1, z2⟩ := z
  rw [hzz] at HC hck ⊢
  simp only at HC hck ⊢
  obtain ⟨n, hn⟩ : ∃ n, H.length = n := ⟨_, rfl⟩
  obtain ⟨m, hm⟩ : ∃ m, G.length = m := ⟨_, rfl⟩
  rw [hn] at hl hc HC hck ⊢
  rw [hm] at hl2 hc2 ⊢
  unfold maxLen at hl hl2
  have HV := Lib.hid hv
  have HR := Lib.hid hr
  have HN := Lib.hid hn
  have HM := Lib.hid hm
  have HCK := Lib.hid hck
  have HZ := Lib.hid hz
  clear hv hr hz hzz hn hm hfm hck
  by_cases c1 : z2 ≠ 0
  · rw [if_pos c1]
    clear HV HR HN HM HCK HZ
    go_enter Tryz.func5, Tryz.ntmps5
    go_wp2_with fail
    refine HC.out.mono ?_
    rintro e w1 ⟨rfl, hb1⟩
    have HB1 := Lib.hid hb1
    clear hb1
    go_wp2_with fail
    go_ret2
    exact ⟨rfl, HB1.out⟩
  obtain rfl : z2 = 0 := by omega
  rw [if_neg (by omega)]
  by_cases c2 : n ≠ m
  · rw [if_pos c2]
    have c2i : ¬ ((n : Int) = (m : Int)) := by omega
    clear HV HR HN HM HCK HZ
    go_enter Tryz.func5, Tryz.ntmps5
    go_wp2_with fail
    refine HC.out.mono ?_
    rintro e w1 ⟨rfl, hb1⟩
    have HB1 := Lib.hid hb1
    clear hb1
    go_wp2_with fail
    go_ret2
    exact ⟨rfl, HB1.out⟩
  obtain rfl : n = m := by omega
  rw [if_neg (by omega)]
  obtain ⟨hn4, hH⟩ := HCK.out rfl
  have HH := Lib.hid hH
  obtain ⟨⟨TX, ER⟩, hres⟩ : ∃ p : Bs × Int, (if relsB G = false then (([] : Bs), (4 : Int)) else (txtF H G, 0)) = p := ⟨_, rfl⟩
  rw [hres]
  have HRES := Lib.hid hres
  clear HCK hH hres
  go_enter Tryz.func5, Tryz.ntmps5
  go_wp2_with fail
  refine HC.out.mono ?_
  rintro e w1 ⟨rfl, hb1⟩
  have HB1 := Lib.hid hb1
  clear hb1 HC
  go_wp2_with fail
  go_loopw [8, 26] (fun s i wr => ∃ k : Nat, k ≤ n ∧ i = .int .i64 k ∧ s = .string ⟨(txtF (H.take k) (G.take k)).toArray⟩ ∧ Hid (∀ x ∈ G.take k, relB x = true) ∧ Hid (Below w.heap.size w wr)) (fun _ i _ => n - (Go.RowKit.intOf i).toNat)
  case atStart => exact ⟨0, Nat.zero_le _, rfl, rfl, Lib.hid (fun x hx => by rw [List.take_zero] at hx; cases hx), HB1⟩
  case round =>
    obtain ⟨k, hk, rfl, rfl, HG, HB⟩ := hrel
    by_cases hlt : k < n
    · obtain ⟨h, hh⟩ : ∃ h, H[k]? = some h := ⟨_, List.getElem?_eq_getElem (by rw [HN.out]; omega)⟩
      obtain ⟨r, hhr⟩ : ∃ r, G[k]? = some r := ⟨_, List.getElem?_eq_getElem (by rw [HM.out]; omega)⟩
      have hhm := HH.out h (List.mem_of_getElem? hh)
      have hm1 : r ∈ G := List.mem_of_getElem? hhr
      obtain ⟨b1, o1, rfl, hl1, hj1⟩ := (HV.out.below stays_int HB.out).at' (by rw [HN.out]; omega)
      obtain ⟨b2, o2, rfl, hl2', hj2⟩ := (HR.out.below stays_str HB.out).at' (by rw [HM.out]; omega)
      obtain ⟨cs1, hcl1, hec1, hcell1⟩ := hj1 k h hh
      cases hec1
      obtain ⟨cs2, hcl2, hec2, hcell2⟩ := hj2 k r hhr
      cases hec2
      have e1 := hcell1 0 _ rfl
      have e2 := hcell2 0 _ rfl
      rw [Nat.mul_one, Nat.add_zero] at e1 e2
      have hw : IntKind.i64.wrap (h + 1) = h + 1 := by rw [IntKind.wrap_i64]; omega
      obtain ⟨D, hD⟩ : ∃ D : ByteArray, (⟨(decDigits (h + 1).toNat).toArray⟩ : ByteArray) = D := ⟨_, rfl⟩
      obtain ⟨R, hR⟩ : ∃ R : ByteArray, (⟨r.toArray⟩ : ByteArray) = R := ⟨_, rfl⟩
      have hdg : ∀ W : World, Calls Tryz.prog 14 #[.int .i64 (h + 1)] W fun e w' => e = .returned (.string D) ∧ w' = W := fun W => by
        have := digits_any 5 (h + 1).toNat (by omega) (by decide) (by omega) W
        rw [show (((h + 1).toNat : Nat) : Int) = h + 1 by omega, hD] at this
        exact this
      have HDG := Lib.hid hdg
      have hRd : R.data.toList = r := by rw [← hR]
      have HNM := Lib.hid (fun (W : World) => refName_any R (by rw [Lib.size_eq, hRd]; exact HZ.out r hm1) W)
      rw [hRd] at HNM
      rw [hR] at e2
      have HCL := Lib.hid (fun (W : World) (hb : Below wr.heap.size wr W) => (hb.cell (p := ⟨b2, o2 + k, none⟩) hl2').trans e2)
      have hki : (k : Int) < (n : Int) := by omega
      clear hdg hj1 hj2 hcl1 hcl2 hcell1 hcell2 hl1 hl2'
      by_cases hr0 : r = []
      · have he : R.toList.isEmpty = true := by rw [Lib.toList_data, hRd, hr0]; rfl
        clear hRd HNM
        have hrg : relB r = true := by rw [hr0]; rfl
        have htx := txtF_take (show H.length = G.length by rw [HN.out, HM.out]) hh hhr
        have htl := txtF_len (H.take k) (G.take k) (fun x hx => by have := HH.out x (List.mem_of_mem_take hx); omega) HG.out
        rw [List.length_take, HN.out, Nat.min_eq_left (by omega)] at htl
        have hll := lnF_len (h := h) (r := r) (by omega) hrg
        have hsz : D.size + 1 + R.size ≤ 40 := by
          have : (lnF h r).length = (decDigits (h + 1).toNat).length + (r.length + 1) := by unfold lnF; rw [List.length_append, List.length_cons]
          rw [← hD, ← hR, Lib.size_mk, Lib.size_mk]
          omega
        obtain ⟨X, hX⟩ : ∃ X : ByteArray, (⟨(txtF (H.take k) (G.take k)).toArray⟩ : ByteArray) = X := ⟨_, rfl⟩
        have hXs : X.size = (txtF (H.take k) (G.take k)).length := by rw [← hX, Lib.size_mk]
        have z1 : ¬ (9223372036854775807 < D.size + 1) := by omega
        have z2 : ¬ (9223372036854775807 < D.size + 1 + R.size) := by omega
        have z3 : ¬ (9223372036854775807 < D.size + 1 + R.size + 1) := by omega
        have z4 : ¬ (9223372036854775807 < X.size + (D.size + 1 + R.size + 1)) := by omega
        have hT : X ++ (D ++ ⟨#[9]⟩ ++ R ++ ⟨#[10]⟩) = ⟨(txtF (H.take (k + 1)) (G.take (k + 1))).toArray⟩ := by
          rw [htx, ← hX, ← hD, ← hR]
          apply ByteArray.ext
          simp [lnF]
        have HG2 := Lib.hid (show ∀ x ∈ G.take (k + 1), relB x = true from fun x hx => by
          rw [List.take_add_one, hhr] at hx
          rcases List.mem_append.1 hx with hx | hx
          · exact HG.out x hx
          · rw [Option.mem_toList] at hx
            cases hx
            exact hrg)
        have HT := Lib.hid hT
        rw [hX]
        clear hrg htx htl hll hsz hX hXs hT hD hR hh hhr HG hm1 hr0
        go_wp2_with fail
        go_region_held3 (fun w' => w'.cell? ⟨b2, o2 + k, none⟩ = some (.string R))
          (first
            | go_keep
            | (exact HCL.out _ (Below.refl _ wr).drew)
            | fail)
          ((first
            | (go_at_call 14; (with_reducible refine (HDG.out _).mono ?_); rintro e w3 ⟨rfl, rfl⟩)
            | fail))
        go_wp2_with fail
        exact ⟨⟨k + 1, by omega, by go_num, by rw [HT.out], HG2, Lib.hid HB.out.drew⟩, by simp only [Go.RowKit.intOf]; omega⟩
      · have he : R.toList.isEmpty = false := by
          rw [Lib.toList_data, hRd, Bool.eq_false_iff]
          intro e
          exact hr0 (List.isEmpty_iff.1 e)
        clear hRd
        obtain ⟨q, hq⟩ : ∃ q, nameB r = q := ⟨_, rfl⟩
        rw [hq] at HNM
        cases q with
        | true =>
          have hrg : relB r = true := by unfold relB; rw [hq, Bool.or_true]
          have htx := txtF_take (show H.length = G.length by rw [HN.out, HM.out]) hh hhr
          have htl := txtF_len (H.take k) (G.take k) (fun x hx => by have := HH.out x (List.mem_of_mem_take hx); omega) HG.out
          rw [List.length_take, HN.out, Nat.min_eq_left (by omega)] at htl
          have hll := lnF_len (h := h) (r := r) (by omega) hrg
          have hsz : D.size + 1 + R.size ≤ 40 := by
            have : (lnF h r).length = (decDigits (h + 1).toNat).length + (r.length + 1) := by unfold lnF; rw [List.length_append, List.length_cons]
            rw [← hD, ← hR, Lib.size_mk, Lib.size_mk]
            omega
          obtain ⟨X, hX⟩ : ∃ X : ByteArray, (⟨(txtF (H.take k) (G.take k)).toArray⟩ : ByteArray) = X := ⟨_, rfl⟩
          have hXs : X.size = (txtF (H.take k) (G.take k)).length := by rw [← hX, Lib.size_mk]
          have z1 : ¬ (9223372036854775807 < D.size + 1) := by omega
          have z2 : ¬ (9223372036854775807 < D.size + 1 + R.size) := by omega
          have z3 : ¬ (9223372036854775807 < D.size + 1 + R.size + 1) := by omega
          have z4 : ¬ (9223372036854775807 < X.size + (D.size + 1 + R.size + 1)) := by omega
          have hT : X ++ (D ++ ⟨#[9]⟩ ++ R ++ ⟨#[10]⟩) = ⟨(txtF (H.take (k + 1)) (G.take (k + 1))).toArray⟩ := by
            rw [htx, ← hX, ← hD, ← hR]
            apply ByteArray.ext
            simp [lnF]
          have HG2 := Lib.hid (show ∀ x ∈ G.take (k + 1), relB x = true from fun x hx => by
            rw [List.take_add_one, hhr] at hx
            rcases List.mem_append.1 hx with hx | hx
            · exact HG.out x hx
            · rw [Option.mem_toList] at hx
              cases hx
              exact hrg)
          have HT := Lib.hid hT
          rw [hX]
          clear hrg htx htl hll hsz hX hXs hT hD hR hh hhr HG hm1 hr0 hq
          go_wp2_with (refine (HNM.out _).mono ?_; rintro e w2 ⟨rfl, rfl⟩)
          go_region_held3 (fun w' => w'.cell? ⟨b2, o2 + k, none⟩ = some (.string R))
            (first
              | go_keep
              | (exact HCL.out _ (Below.refl _ wr).drew)
              | fail)
            ((first
              | (go_at_call 14; (with_reducible refine (HDG.out _).mono ?_); rintro e w3 ⟨rfl, rfl⟩)
              | fail))
          go_wp2_with fail
          exact ⟨⟨k + 1, by omega, by go_num, by rw [HT.out], HG2, Lib.hid HB.out.drew⟩, by simp only [Go.RowKit.intOf]; omega⟩
        | false =>
          have hrf := rels_not hm1 (by unfold relB; rw [hq, Bool.or_false]; exact decide_eq_false hr0)
          have hres := HRES.out
          rw [if_pos hrf] at hres
          have g1 : TX = [] := (congrArg Prod.fst hres).symm
          have g2 : ER = 4 := (congrArg Prod.snd hres).symm
          have HRS := Lib.hid (show Ending.returned (.tuple #[.string ⟨#[]⟩, .int .i64 4]) = Ending.returned (.tuple #[.string ⟨TX.toArray⟩, .int .i64 ER]) by rw [g1, g2])
          clear hrf hr0 hq hm1 hD hR hh hhr HG HDG hres g1 g2
          go_wp2_with fail
          refine (HNM.out _).mono ?_
          rintro e w2 ⟨rfl, rfl⟩
          go_wp2_with fail
          go_ret2
          exact ⟨HRS.out, HB.out⟩
    · obtain rfl : k = n := by omega
      have h1 : H.take k = H := List.take_of_length_le (by rw [HN.out]; exact Nat.le_refl _)
      have h2 : G.take k = G := List.take_of_length_le (by rw [HM.out]; exact Nat.le_refl _)
      have hg := HG.out
      rw [h2] at hg
      have hrt : relsB G = true := by unfold relsB; exact List.all_eq_true.2 hg
      have hres := HRES.out
      rw [if_neg (by rw [hrt]; decide)] at hres
      have g1 : TX = txtF H G := (congrArg Prod.fst hres).symm
      have g2 : ER = 0 := (congrArg Prod.snd hres).symm
      rw [h1, h2, ← g1]
      have HRS := Lib.hid g2
      clear h1 h2 hg hrt HG hres g1 g2
      go_wp2_with fail
      go_ret2
      exact ⟨by rw [HRS.out]; rfl, HB.out⟩
end Go.Proofs.YtpkkebojiengpaaGreatDoor
