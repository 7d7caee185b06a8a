/-
  WALKS over package depend: Format.
-/
import Derived.Test.YtpkkebojiengpaaGreatDoorBdN
import Derived.Test.YtpkkebojiengpaaGreatDoorDfM
import Derived.Test.YtpkkebojiengpaaGreatDoorDaD
import Derived.Deep.RegionHeld3
namespace Go.Proofs.YtpkkebojiengpaaGreatDoor
open Go Go.RowKit Go.Shelf Go.Lib
set_option linter.unusedVariables false
attribute [local go_sem] Oper.semAt_some

/-- The table of the powers of ten. -/
abbrev TabAt (w : World) : Prop := Lib.TabIs Tryz.prog w "internal/strconv.uint64pow10" .u64 Lib.pow10Tab
theorem Tryz.gPow : Tryz.prog.globalNamed "internal/strconv.uint64pow10" = some 0 := by kernel_rfl
theorem tab_below {w w' : World} (h : TabAt w) (hb : Below w.heap.size w w') : TabAt w' := by
  unfold TabAt Lib.TabIs World.var? at h ⊢
  rw [Tryz.gPow] at h ⊢
  simp only [Option.bind_some] at h ⊢
  have hlt : 0 < w.heap.size := by
    rcases Nat.lt_or_ge 0 w.heap.size with hlt | hge
    · exact hlt
    · rw [Array.getElem?_eq_none hge] at h
      cases h
  rw [hb.block _ hlt]
  exact h
theorem grow_below (w : World) (k : Nat) (os : Array Obj) : Below w.heap.size w (Go.Sort.grow (w.drewN k) os) :=
  (below_drewN (Below.refl _ w) k).trans ⟨rfl, rfl, rfl, by show _ ≤ (_ ++ os).size; rw [Array.size_append]; exact Nat.le_add_right _ _, fun i hi => by show (_ ++ os)[i]? = _; exact Array.getElem?_append_left hi⟩
/-- The decimal digits of a head's number. -/
theorem itoa_any {W : World} (hT : TabAt W) {h : Int} (h0 : -1 ≤ h) (h1 : h < 1000000) :
    Calls Tryz.prog 10 #[.int .i64 (h + 1)] W fun e w' => e = .returned (.string ⟨(decDigits (h + 1).toNat).toArray⟩) ∧ Below W.heap.size W w' := by
  obtain ⟨m, hm⟩ : ∃ m : Nat, h + 1 = (m : Int) := ⟨(h + 1).toNat, by omega⟩
  refine (Tryz.strconv_Itoa (h + 1) (by omega) (by omega) W hT).mono ?_
  rintro e w' ⟨rfl, k, os, rfl⟩
  refine ⟨?_, grow_below _ _ _⟩
  rw [hm, itoa_nonneg, Int.toNat_natCast]

set_option maxRecDepth 100000 in
set_option maxHeartbeats 4000000 in
theorem format_any {w : World} (hT : TabAt w) {vh vr : Value} {H : List Int} {G : Fs} (hv : Rows 1 EInt w vh H) (hr : Rows 1 EStr w vr G) (hl : H.length ≤ maxLen) (hl2 : G.length ≤ maxLen) (hz : ∀ x ∈ G, x.length ≤ maxLen) :
    Calls Tryz.prog 4 #[vh, vr] w fun e w' => e = .returned (.tuple #[.string ⟨(formatH H G).1.toArray⟩, .int .i64 (formatH H G).2]) ∧ Below w.heap.size w w' := by
  have HC := Lib.hid (check_any hv hl)
  have HVR := Lib.hid (fun (W : World) (hb : Below w.heap.size w W) => validRelations_any (hr.below stays_str hb) hl2 hz)
  have HTB := Lib.hid (fun (W : World) (hb : Below w.heap.size w W) => tab_below hT hb)
  obtain ⟨A, cap, rfl, hc⟩ := hv.form
  obtain ⟨A2, cap2, rfl, hc2⟩ := hr.form
  have hfm : formatH H G = if (checkH H).2 ≠ 0 then ([], (checkH H).2) else if H.length ≠ G.length then ([], 15) else if relsB G = false then ([], 4) else (txtF H G, 0) := rfl
  have hck : (checkH H).2 = 0 → H.length ≤ 4096 ∧ ∀ h ∈ H, -1 ≤ h ∧ h < (H.length : Int) := fun h => by
    have hok := okh_iff.1 (show okH H = true by unfold okH; exact decide_eq_true h)
    exact ⟨hok.len, fun x hx => by rcases hok.inn x hx with e | ⟨e1, e2⟩ <;> omega⟩
  rw [hfm]
  obtain ⟨z, hzz⟩ : ∃ z, checkH H = z := ⟨_, rfl⟩
  obtain ⟨z1, z2⟩ := z
  rw [hzz] at HC hck ⊢
  simp only at HC hck ⊢
  obtain ⟨n, hn⟩ : ∃ n, H.length = n := ⟨_, rfl⟩
  obtain ⟨m, hm⟩ : ∃ m, G.length = m := ⟨_, rfl⟩
  rw [hn] at hl hc HC hck ⊢
  rw [hm] at hl2 hc2 HVR ⊢
  unfold maxLen at hl hl2
  have HV := Lib.hid hv
  have HR := Lib.hid hr
  have HN := Lib.hid hn
  have HM := Lib.hid hm
  have HCK := Lib.hid hck
  clear hv hr hz hzz hn hm hfm hck hT
  by_cases c1 : z2 ≠ 0
  · rw [if_pos c1]
    clear HVR HTB HV HR HN HM HCK
    go_enter Tryz.func4, Tryz.ntmps4
    go_wp2_with fail
    refine HC.out.mono ?_
    rintro e w1 ⟨rfl, hb1⟩
    have HB1 := Lib.hid hb1
    clear hb1
    go_wp2_with fail
    go_ret2
    exact ⟨rfl, HB1.out⟩
  obtain rfl : z2 = 0 := by omega
  rw [if_neg (by omega)]
  by_cases c2 : n ≠ m
  · rw [if_pos c2]
    have c2i : ¬ ((n : Int) = (m : Int)) := by omega
    clear HVR HTB HV HR HN HM HCK
    go_enter Tryz.func4, Tryz.ntmps4
    go_wp2_with fail
    refine HC.out.mono ?_
    rintro e w1 ⟨rfl, hb1⟩
    have HB1 := Lib.hid hb1
    clear hb1
    go_wp2_with fail
    go_ret2
    exact ⟨rfl, HB1.out⟩
  obtain rfl : n = m := by omega
  rw [if_neg (by omega)]
  obtain ⟨q, hq⟩ : ∃ q, relsB G = q := ⟨_, rfl⟩
  rw [hq] at HVR ⊢
  cases q with
  | false =>
    rw [if_pos rfl]
    clear HTB HV HR HN HM HCK hq
    go_enter Tryz.func4, Tryz.ntmps4
    go_wp2_with fail
    refine HC.out.mono ?_
    rintro e w1 ⟨rfl, hb1⟩
    have HVR1 := Lib.hid (HVR.out w1 hb1)
    have HB1 := Lib.hid hb1
    clear hb1
    go_wp2_with fail
    refine HVR1.out.mono ?_
    rintro e w2 ⟨rfl, hb2⟩
    have HB2 := Lib.hid (HB1.out.trans (hb2.mono HB1.out.size))
    clear hb2
    go_wp2_with fail
    go_ret2
    exact ⟨rfl, HB2.out⟩
  | true =>
    rw [if_neg (by decide)]
    obtain ⟨hn4, hH⟩ := HCK.out rfl
    have HH := Lib.hid hH
    have HG := Lib.hid (show ∀ r ∈ G, relB r = true from List.all_eq_true.1 hq)
    clear HCK hq hH
    go_enter Tryz.func4, Tryz.ntmps4
    go_wp2_with fail
    refine HC.out.mono ?_
    rintro e w1 ⟨rfl, hb1⟩
    have HVR1 := Lib.hid (HVR.out w1 hb1)
    have HB1 := Lib.hid hb1
    clear hb1
    go_wp2_with fail
    refine HVR1.out.mono ?_
    rintro e w2 ⟨rfl, hb2⟩
    have HB2 := Lib.hid (HB1.out.trans (hb2.mono HB1.out.size))
    clear hb2 HVR HVR1 HC
    go_wp2_with fail
    obtain ⟨w3, hw3⟩ : ∃ w3, w2.alloc (Obj.cells #[Value.pointer none, Value.slice none 0 0] 35) = w3 := ⟨_, rfl⟩
    have hbd3 : Bd w2.heap.size [] w3 := by rw [← hw3]; exact bd_new w2
    have hb3 : Below w2.heap.size w2 w3 := by rw [← hw3]; exact below_box _ _
    have HBD3 := Lib.hid hbd3
    have HB3 := Lib.hid (HB2.out.trans (hb3.mono HB2.out.size))
    have hz2 := HB2.out.size
    rw [hw3]
    obtain ⟨B, hB⟩ : ∃ B, w2.heap.size = B := ⟨_, rfl⟩
    rw [hB] at HBD3 hz2 ⊢
    clear hw3 hbd3 hb3 hB
    go_loopw [31] (fun i wr => ∃ k : Nat, k ≤ n ∧ i = .int .i64 k ∧ Hid (Bd B (txtF (H.take k) (G.take k)) wr) ∧ Hid (Below w.heap.size w wr)) (fun i _ => n - (Go.RowKit.intOf i).toNat)
    case atStart => exact ⟨0, Nat.zero_le _, rfl, HBD3, HB3⟩
    case round =>
      obtain ⟨k, hk, rfl, HBD, HB⟩ := hrel
      by_cases hlt : k < n
      · obtain ⟨h, hh⟩ : ∃ h, H[k]? = some h := ⟨_, List.getElem?_eq_getElem (by rw [HN.out]; omega)⟩
        obtain ⟨r, hhr⟩ : ∃ r, G[k]? = some r := ⟨_, List.getElem?_eq_getElem (by rw [HM.out]; omega)⟩
        have hhm := HH.out h (List.mem_of_getElem? hh)
        have hrg := HG.out r (List.mem_of_getElem? hhr)
        have htx := txtF_take (show H.length = G.length by rw [HN.out, HM.out]) hh hhr
        have htl := txtF_len (H.take k) (G.take k) (fun x hx => by have := HH.out x (List.mem_of_mem_take hx); omega) (fun x hx => HG.out x (List.mem_of_mem_take hx))
        rw [List.length_take, HN.out, Nat.min_eq_left (by omega)] at htl
        have hll := lnF_len (h := h) (r := r) (by omega) hrg
        obtain ⟨b1, o1, rfl, hl1, hj1⟩ := (HV.out.below stays_int HB.out).at' (by rw [HN.out]; omega)
        obtain ⟨b2, o2, rfl, hl2', hj2⟩ := HR.out.at' (by rw [HM.out]; omega)
        have hb2B : b2 < B := by omega
        have hbz := HB.out.size
        obtain ⟨cs1, hcl1, hec1, hcell1⟩ := hj1 k h hh
        cases hec1
        obtain ⟨cs2, hcl2, hec2, hcell2⟩ := hj2 k r hhr
        cases hec2
        have e1 := hcell1 0 _ rfl
        have e2 := hcell2 0 _ rfl
        rw [Nat.mul_one, Nat.add_zero] at e1 e2
        have hw : IntKind.i64.wrap (h + 1) = h + 1 := by rw [IntKind.wrap_i64]; omega
        have hit := itoa_any (W := wr.drew) (tab_below (HTB.out wr HB.out) (Below.refl _ wr).drew) (h := h) (by omega) (by omega)
        obtain ⟨D, hD⟩ : ∃ D : ByteArray, (⟨(decDigits (h + 1).toNat).toArray⟩ : ByteArray) = D := ⟨_, rfl⟩
        obtain ⟨R, hR⟩ : ∃ R : ByteArray, (⟨r.toArray⟩ : ByteArray) = R := ⟨_, rfl⟩
        have hT : D ++ ⟨#[9]⟩ ++ R ++ ⟨#[10]⟩ = ⟨(lnF h r ++ [10]).toArray⟩ := by
          rw [← hD, ← hR]
          apply ByteArray.ext
          simp [lnF]
        have hsz : D.size + 1 + R.size ≤ 40 := by
          have : (lnF h r).length = (decDigits (h + 1).toNat).length + (r.length + 1) := by unfold lnF; rw [List.length_append, List.length_cons]
          rw [← hD, ← hR, Lib.size_mk, Lib.size_mk]
          omega
        have z1 : ¬ (9223372036854775807 < D.size + 1) := by omega
        have z2 : ¬ (9223372036854775807 < D.size + 1 + R.size) := by omega
        have z3 : ¬ (9223372036854775807 < D.size + 1 + R.size + 1) := by omega
        rw [hD] at hit
        rw [hR] at e2
        have HIT : Hid (Calls Tryz.prog 10 #[.int .i64 (h + 1)] wr.drew fun e w' => e = .returned (.string D) ∧ Below wr.heap.size wr w') := Lib.hid (hit.mono fun _ _ q => And.intro q.1 ((Below.refl _ wr).drew.trans q.2))
        have HWR := Lib.hid (fun (W : World) (hb : Below wr.heap.size wr W) => write_bd (bd_below HBD.out hb) (lnF h r ++ [10]) (by simp only [List.length_append, List.length_cons, List.length_nil]; omega))
        rw [← hT, ← htx] at HWR
        obtain ⟨L, hL⟩ : ∃ L : Nat, (lnF h r ++ [10]).length = L := ⟨_, rfl⟩
        rw [hL] at HWR
        have HCL := Lib.hid (fun (W : World) (hb : Below wr.heap.size wr W) => (hb.cell (p := ⟨b2, o2 + k, none⟩) (show b2 < wr.heap.size by omega)).trans ((HB.out.cell (p := ⟨b2, o2 + k, none⟩) hl2').trans e2))
        have g2 : wr.cell? ⟨b2, o2 + k, none⟩ = some (.string R) := (HB.out.cell (p := ⟨b2, o2 + k, none⟩) hl2').trans e2
        have hBl := bd_lt HBD.out
        have HBl := Lib.hid hBl
        have hki : (k : Int) < (n : Int) := by omega
        clear hit hD hR hT hsz hL htx htl hll hrg hh hhr hj1 hj2 hcl1 hcl2 hcell1 hcell2 hl1 hl2' e2 HTB HBD hBl hbz
        go_wp2_with fail
        go_region_held3 (fun w' => w'.cell? ⟨b2, o2 + k, none⟩ = some (.string R))
          (first
            | go_keep
            | (exact HCL.out _ hb3)
            | (exact (hb4.cell (p := ⟨b2, o2 + k, none⟩) hb2B).trans (HCL.out _ hb3))
            | fail)
          ((first
            | (go_at_call 10; (with_reducible refine HIT.out.mono ?_); rintro e w3 ⟨rfl, hb3⟩)
            | (go_at_call 9; (with_reducible refine (HWR.out _ hb3).mono ?_); rintro e w4 ⟨rfl, bd4, hb4, ho4⟩)
            | fail))
        have HBD4 := Lib.hid bd4
        have HB4 := Lib.hid ((HB.out.trans (hb3.mono HB.out.size)).trans (hb4.mono hz2))
        clear hb3 bd4 hb4 ho4
        go_wp2_with fail
        exact ⟨⟨k + 1, by omega, by go_num, HBD4, HB4⟩, by simp only [Go.RowKit.intOf]; omega⟩
      · obtain rfl : k = n := by omega
        have hfull : txtF (H.take k) (G.take k) = txtF H G := by rw [List.take_of_length_le (by rw [HN.out]; exact Nat.le_refl _), List.take_of_length_le (by rw [HM.out]; exact Nat.le_refl _)]
        rw [hfull] at HBD
        clear hfull
        have HS := Lib.hid (string_bd HBD.out)
        have hbl := bd_lt HBD.out
        go_wp2_with fail
        refine HS.out.mono ?_
        rintro e w5 ⟨rfl, hb5⟩
        have HB5 := Lib.hid (HB.out.trans (hb5.mono (by omega)))
        clear hb5
        go_wp2_with fail
        go_ret2
        exact ⟨rfl, HB5.out⟩
end Go.Proofs.YtpkkebojiengpaaGreatDoor
