/-
  WALKS over the reference of depend: cyclic, Check (for a seat without Valid).
-/
import Derived.Test.YtpkkebojiengpaaGreatDoorDaD
namespace Go.Proofs.YtpkkebojiengpaaGreatDoor
open Go Go.RowKit Go.Shelf Go.Lib
set_option linter.unusedVariables false
attribute [local go_sem] Oper.semAt_some

theorem itN_none2 {h : List Int} {m i : Nat} (e : itN h m i = none) (d : Nat) : itN h (m + d) i = none := by rw [itN_add, e]; rfl
set_option maxRecDepth 100000 in
set_option maxHeartbeats 8000000 in
theorem refCyclic_any {w : World} {v1 : Value} {h : List Int} (hv : Rows 1 EInt w v1 h) (hl : h.length ≤ maxLen) (i : Nat) (hi : i < h.length) (hin : ∀ x ∈ h, x = -1 ∨ (0 ≤ x ∧ x < h.length)) :
    Calls Tryz.prog 29 #[v1, .int .i64 i] w fun e w' => e = .returned (.bool (cyc h i)) ∧ Below w.heap.size w w' := by
  obtain ⟨A, cap, rfl, hc⟩ := hv.form
  obtain ⟨n, hn⟩ : ∃ n, h.length = n := ⟨_, rfl⟩
  obtain ⟨q, hq⟩ : ∃ q, cyc h i = q := ⟨_, rfl⟩
  rw [hq]
  have hci := cyc_iff2 h i
  rw [hq] at hci
  have HV := Lib.hid (fun W (hb : Below w.heap.size w W) => hv.below stays_int hb)
  rw [hn] at hc hl hi HV hci hin ⊢
  unfold maxLen at hl
  have HN := Lib.hid hn
  have HIN := Lib.hid hin
  have HCI := Lib.hid hci
  clear hq hv hn hci hin
  have i0 : (0 : Int) ≤ (i : Int) := by omega
  have in0 : (i : Int) < (n : Int) := by omega
  go_enter Tryz.func29, Tryz.ntmps29
  go_wp2_with fail
  go_loopw [5, 9] (fun a m wr => ∃ (k t : Nat), k ≤ n ∧ a = .int .i64 t ∧ t < n ∧ m = .int .i64 k ∧ Hid (itN h k i = some t) ∧ Hid (∀ j, j < k → itN h (j + 1) i ≠ some i) ∧ Below w.heap.size w wr) (fun _ m _ => n - (Go.RowKit.intOf m).toNat)
  case atStart => exact ⟨0, i, Nat.zero_le _, rfl, hi, rfl, Lib.hid rfl, Lib.hid (fun j h => absurd h (by omega)), Below.refl _ _⟩
  case round =>
    obtain ⟨k, t, hk, rfl, ht, rfl, hit, hno, hb⟩ := hrel
    by_cases hlt : k < n
    · obtain ⟨x, hx⟩ : ∃ x, h[t]? = some x := ⟨_, List.getElem?_eq_getElem (by rw [HN.out]; exact ht)⟩
      obtain ⟨b1, o1, rfl, -, hj1⟩ := at_int (HV.out wr hb) (by rw [HN.out]; omega)
      have u0 := hj1 t x hx
      have HB := Lib.hid hb
      have t0 : (0 : Int) ≤ (t : Int) := by omega
      have t1 : (t : Int) < (n : Int) := by omega
      have hsn := itN_snoc hit.out
      have hxr := HIN.out x (List.mem_of_getElem? hx)
      by_cases hr : 0 ≤ x ∧ x < n
      · obtain ⟨y, rfl⟩ : ∃ y : Nat, x = (y : Int) := ⟨x.toNat, by omega⟩
        have y0 : ¬ (y : Int) < 0 := by omega
        have y1 : ¬ (n : Int) ≤ (y : Int) := by omega
        have hst : stN h t = some y := by
          unfold stN
          rw [hx]
          simp only
          rw [if_pos ⟨hr.1, by rw [HN.out]; exact hr.2⟩, Int.toNat_natCast]
        rw [hst] at hsn
        by_cases hy : y = i
        · subst hy
          have hqt : q = true := HCI.out.2 ⟨k, hlt, hsn⟩
          subst hqt
          clear hj1 hx hb hsn hst hr hxr
          go_wp2_with fail
          go_ret
          exact ⟨rfl, HB.out⟩
        · have hyb : ((y : Int) == (i : Int)) = false := by simp; omega
          have hyi : ¬ ((y : Int) = (i : Int)) := by omega
          have HSN := Lib.hid hsn
          have hno' : Hid (∀ j, j < k + 1 → itN h (j + 1) i ≠ some i) := Lib.hid fun j hj => by
            by_cases e : j = k
            · subst e
              rw [hsn]
              intro h
              exact hy (Option.some.inj h)
            · exact hno.out j (by omega)
          have hyn : y < n := by omega
          clear hj1 hx hb hsn hst hr hy hxr
          go_wp2_with fail
          exact ⟨⟨k + 1, y, by omega, rfl, hyn, by go_num, HSN, hno', HB.out⟩, by simp only [Go.RowKit.intOf]; omega⟩
      · have hst : stN h t = none := stN_none hx (by rw [HN.out]; exact hr)
        rw [hst] at hsn
        have hqf : q = false := by
          rw [← Bool.not_eq_true]
          intro hq
          obtain ⟨j, hj, e⟩ := HCI.out.1 hq
          by_cases hjk : j < k
          · exact hno.out j hjk e
          · have := itN_none2 hsn (j - k)
            rw [show k + 1 + (j - k) = j + 1 by omega, e] at this
            cases this
        subst hqf
        have x0 : x < 0 := by omega
        clear hj1 hx hb hsn hst hr hxr
        go_wp2_with fail
        go_ret
        exact ⟨rfl, HB.out⟩
    · obtain rfl : k = n := by omega
      have hqf : q = false := by
        rw [← Bool.not_eq_true]
        intro hq
        obtain ⟨j, hj, e⟩ := HCI.out.1 hq
        exact hno.out j hj e
      subst hqf
      have HB := Lib.hid hb
      clear hb
      go_wp2_with fail
      go_ret
      exact ⟨rfl, HB.out⟩


theorem checkH_big {h : List Int} (hn : 4096 < h.length) : checkH h = (0, 2) := by unfold checkH; rw [if_pos hn]
theorem checkH_out {h : List Int} (hn : h.length ≤ 4096) {k : Nat} {x : Int} (hx : h[k]? = some x) (ho : outH h.length x = true) (hb : ∀ (j : Nat) (y : Int), j < k → h[j]? = some y → outH h.length y = false) : checkH h = ((k : Int), 8) := by
  unfold checkH
  rw [if_neg (by omega), findZ_at hx ho hb, if_pos (by omega)]
theorem checkH_in {h : List Int} (hn : h.length ≤ 4096) (hb : ∀ (j : Nat) (y : Int), j < h.length → h[j]? = some y → outH h.length y = false) :
    (∀ x ∈ h, x = -1 ∨ (0 ≤ x ∧ x < h.length)) ∧ (∀ k, k < h.length → cyc h k = true → (∀ j, j < k → cyc h j = false) → checkH h = ((k : Int), 12)) ∧ ((∀ j, j < h.length → cyc h j = false) → checkH h = (0, 0)) := by
  have hz := findZ_miss (p := outH h.length) (xs := h) rfl hb
  refine ⟨fun x hx => ?_, fun k hk hc hj => ?_, fun hj => ?_⟩
  · obtain ⟨j, hj, e⟩ := List.getElem_of_mem hx
    exact outH_false.1 (hb j x hj (by rw [List.getElem?_eq_getElem hj, e]))
  · unfold checkH
    rw [if_neg (by omega), hz, if_neg (by omega), findZ_at (l := List.range h.length) (i := k) (x := k) (by rw [List.getElem?_range hk]) hc (fun j y hjk hy => by
      rw [List.getElem?_range (by omega)] at hy
      cases hy
      exact hj j hjk), if_pos (by omega)]
  · unfold checkH
    rw [if_neg (by omega), hz, if_neg (by omega), findZ_miss (p := cyc h) (xs := List.range h.length) (k := h.length) (by simp) (fun j y hjk hy => by
      rw [List.getElem?_range (by omega)] at hy
      cases hy
      exact hj j hjk), if_neg (by omega)]

set_option maxRecDepth 100000 in
set_option maxHeartbeats 8000000 in
theorem refCheck_any {w : World} {v : Value} {h : List Int} (hv : Rows 1 EInt w v h) (hl : h.length ≤ maxLen) :
    Calls Tryz.prog 12 #[v] w fun e w' => e = .returned (.tuple #[.int .i64 (checkH h).1, .int .i64 (checkH h).2]) ∧ Below w.heap.size w w' := by
  by_cases h4 : 4096 < h.length
  · rw [checkH_big h4]
    obtain ⟨A, cap, rfl, hc⟩ := hv.form
    obtain ⟨n, hn⟩ : ∃ n, h.length = n := ⟨_, rfl⟩
    rw [hn] at h4 hl hc ⊢
    unfold maxLen at hl
    have e4 : (n : Int) > 4096 := by omega
    clear hv hn
    go_enter Tryz.func12, Tryz.ntmps12
    go_wp2_with fail
    go_ret2
    exact ⟨rfl, Below.refl _ _⟩
  · have hl4 : h.length ≤ 4096 := by omega
    have hout := fun (k : Nat) (x : Int) => checkH_out hl4 (k := k) (x := x)
    have hin := checkH_in hl4
    have hcy := fun (hi : ∀ x ∈ h, x = -1 ∨ (0 ≤ x ∧ x < h.length)) (k : Nat) (hk : k < h.length) (W : World) (hb : Below w.heap.size w W) => refCyclic_any (hv.below stays_int hb) hl k hk hi
    obtain ⟨A, cap, rfl, hc⟩ := hv.form
    obtain ⟨n, hn⟩ : ∃ n, h.length = n := ⟨_, rfl⟩
    obtain ⟨⟨r1, r2⟩, hr⟩ : ∃ r, checkH h = r := ⟨_, rfl⟩
    rw [hr]
    simp only [hr] at hout hin
    have HV := Lib.hid (fun W (hb : Below w.heap.size w W) => hv.below stays_int hb)
    rw [hn] at hc hl h4 hl4 hout hin HV hcy ⊢
    have HOUT := Lib.hid hout
    have HIN := Lib.hid hin
    have HCY := Lib.hid hcy
    have HN := Lib.hid hn
    have e4 : ¬ ((n : Int) > 4096) := by omega
    clear hv hn hr hout hin hcy h4 hl
    go_enter Tryz.func12, Tryz.ntmps12
    go_wp2_with fail
    go_loopw [12] (fun m wr => ∃ k : Nat, k ≤ n ∧ m = .int .i64 k ∧ Hid (∀ (j : Nat) (y : Int), j < k → h[j]? = some y → outH n y = false) ∧ Below w.heap.size w wr) (fun m _ => n - (Go.RowKit.intOf m).toNat)
    case atStart => exact ⟨0, Nat.zero_le _, rfl, Lib.hid (fun j _ h => absurd h (by omega)), Below.refl _ _⟩
    case round =>
      obtain ⟨k, hk, rfl, hno, hb⟩ := hrel
      by_cases hlt : k < n
      · obtain ⟨x, hx⟩ : ∃ x, h[k]? = some x := ⟨_, List.getElem?_eq_getElem (by rw [HN.out]; exact hlt)⟩
        obtain ⟨b1, o1, rfl, -, hj1⟩ := at_int (HV.out wr hb) (by rw [HN.out]; omega)
        have u0 := hj1 k x hx
        have HB := Lib.hid hb
        have hox : outH n x = (decide (x < -1) || decide (x ≥ (n : Int))) := by
          unfold outH
          rw [Bool.eq_iff_iff]
          simp only [Bool.not_eq_true', Bool.or_eq_false_iff, Bool.and_eq_false_iff, decide_eq_false_iff_not, Bool.or_eq_true, decide_eq_true_iff]
          omega
        by_cases ho : outH n x = true
        · have hee := HOUT.out k x hx ho hno.out
          obtain ⟨rfl, rfl⟩ : r1 = (k : Int) ∧ r2 = 8 := by
            injection hee with h1 h2
            exact ⟨h1, h2⟩
          rw [ho] at hox
          by_cases x1 : x < -1
          · clear hj1 hx hb ho hox hee hno
            go_wp2_with fail
            go_ret2
            exact ⟨rfl, HB.out⟩
          · have x2 : x ≥ (n : Int) := by simpa [x1] using hox
            clear hj1 hx hb ho hox hee hno
            go_wp2_with fail
            go_ret2
            exact ⟨rfl, HB.out⟩
        · have ho2 : outH n x = false := by simpa using ho
          rw [ho2] at hox
          have x1 : ¬ x < -1 := by
            intro h
            simp [h] at hox
          have x2 : ¬ x ≥ (n : Int) := by
            intro h
            simp [h] at hox
          have hno' : Hid (∀ (j : Nat) (y : Int), j < k + 1 → h[j]? = some y → outH n y = false) := Lib.hid fun j y hj hy => by
            by_cases e : j = k
            · subst e
              rw [hx] at hy
              cases hy
              exact ho2
            · exact hno.out j y (by omega) hy
          clear hj1 hx hb ho ho2 hox hno
          go_wp2_with fail
          exact ⟨⟨k + 1, by omega, by go_num, hno', HB.out⟩, by simp only [Go.RowKit.intOf]; omega⟩
      · obtain rfl : k = n := by omega
        obtain ⟨hi, hc1, hc0⟩ := HIN.out hno.out
        have HB := Lib.hid hb
        have HC1 := Lib.hid hc1
        have HC0 := Lib.hid hc0
        have HI := Lib.hid (HCY.out hi)
        clear hb hno hi hc1 hc0 HIN HCY HOUT HV
        go_wp2_with fail
        go_loopw [29] (fun m wr2 => ∃ j : Nat, j ≤ k ∧ m = .int .i64 j ∧ Hid (∀ i, i < j → cyc h i = false) ∧ Below w.heap.size w wr2) (fun m _ => k - (Go.RowKit.intOf m).toNat)
        case atStart => exact ⟨0, Nat.zero_le _, rfl, Lib.hid (fun i h => absurd h (by omega)), HB.out⟩
        case round =>
          obtain ⟨j, hj, rfl, hno, hb⟩ := hrel
          by_cases hlt2 : j < k
          · have HCJ := Lib.hid (HI.out j hlt2 _ hb)
            have HB2 := Lib.hid hb
            obtain ⟨q, hq⟩ : ∃ q, cyc h j = q := ⟨_, rfl⟩
            rw [hq] at HCJ
            have HQ := Lib.hid hq
            clear hq hb
            go_wp2_with fail
            refine HCJ.out.mono ?_
            rintro e w1 ⟨rfl, hb1⟩
            have HB3 := Lib.hid (HB2.out.trans (hb1.mono HB2.out.size))
            clear hb1
            cases q with
            | true =>
              obtain ⟨rfl, rfl⟩ : r1 = (j : Int) ∧ r2 = 12 := by
                have := HC1.out j hlt2 HQ.out hno.out
                injection this with h1 h2
                exact ⟨h1, h2⟩
              go_wp2_with fail
              go_ret2
              exact ⟨rfl, HB3.out⟩
            | false =>
              have hno' : Hid (∀ i, i < j + 1 → cyc h i = false) := Lib.hid fun i hi => by
                by_cases e : i = j
                · subst e; exact HQ.out
                · exact hno.out i (by omega)
              go_wp2_with fail
              exact ⟨⟨j + 1, by omega, by go_num, hno', HB3.out⟩, by simp only [Go.RowKit.intOf]; omega⟩
          · obtain rfl : j = k := by omega
            obtain ⟨rfl, rfl⟩ : r1 = 0 ∧ r2 = 0 := by
              have := HC0.out hno.out
              injection this with h1 h2
              exact ⟨h1, h2⟩
            have HB2 := Lib.hid hb
            clear hb
            go_wp2_with fail
            go_ret2
            exact ⟨rfl, HB2.out⟩

end Go.Proofs.YtpkkebojiengpaaGreatDoor
