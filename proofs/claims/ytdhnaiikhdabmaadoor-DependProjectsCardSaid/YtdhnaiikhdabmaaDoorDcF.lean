/-
  WALKS over the reference of depend: Projective.
-/
import Derived.Test.YtdhnaiikhdabmaaDoorDcC
namespace Go.Proofs.YtdhnaiikhdabmaaDoor
open Go Go.RowKit Go.Shelf Go.Lib
set_option linter.unusedVariables false
attribute [local go_sem] Oper.semAt_some

theorem sliceI_from1 (g m cap : Nat) (hm : 1 ≤ m) (hc : m ≤ cap) : ∃ A', (0 < m - 1 → A' = some ⟨g, 1, none⟩) ∧ ∀ w, (Instr.slice 22 (.slice (some ⟨g, 0, none⟩) m cap) (some (.int .i64 1)) none none).run Tryd.prog w = .ok (.slice A' (m - 1) (cap - 1)) w := by
  refine ⟨if cap = 1 then some ⟨g, 0, none⟩ else some ⟨g, 1, none⟩, fun h => by rw [if_neg (by omega)], fun w => ?_⟩
  rw [run_slice_l w 22 _ _ _ (by kernel_rfl) .i64 1 (by omega) (by omega)]
  have hz1 : (sizeOf (Tryd.prog.elem 22)).run Tryd.prog w = .ok 1 w := by kernel_rfl
  rw [hz1]
  by_cases h1 : cap = 1
  · subst h1
    simp [Result.andThen, sliced]
  · simp [Result.andThen, sliced, h1, add_plain]
theorem way_tail {h : List Int} {k g : Nat} (hO : Okh h) (hne : g ≠ k) : g ∈ way h k ↔ g ∈ (way h k).tail := by
  obtain ⟨r, hr⟩ := way_cons hO k
  rw [hr]
  simp [hne]
theorem tail_take {L : List Nat} {i y : Nat} (hy : L[i + 1]? = some y) : L.tail.take (i + 1) = L.tail.take i ++ [y] := by
  rw [List.take_add_one, List.getElem?_tail, hy]; rfl

set_option maxRecDepth 100000 in
set_option maxHeartbeats 8000000 in
theorem refProjective_any {w : World} {v : Value} {h : List Int} (hv : Rows 1 EInt w v h) (hl : h.length ≤ maxLen) :
    Calls Tryd.prog 21 #[v] w fun e w' => e = .returned (.bool (projH h)) ∧ Below w.heap.size w w' := by
  have HVA := Lib.hid (refValid_any hv hl)
  by_cases hok : okH h = true
  · rw [hok] at HVA
    have hO := okh_iff.1 hok
    have hl4 := hO.len
    have hpi := projH_iff (h := h)
    obtain ⟨q, hq⟩ : ∃ q, projH h = q := ⟨_, rfl⟩
    rw [hq] at hpi ⊢
    have HWAY := Lib.hid (fun (W : World) (hb : Below w.heap.size w W) (k : Nat) (hk : k < h.length) => refWay_any (hv.below stays_int hb) hO k hk)
    have HV := Lib.hid (fun W (hb : Below w.heap.size w W) => hv.below stays_int hb)
    obtain ⟨A, cap, rfl, hc⟩ := hv.form
    obtain ⟨n, hn⟩ : ∃ n, h.length = n := ⟨_, rfl⟩
    rw [hn] at HVA HWAY HV hl hl4 hc ⊢
    have HN := Lib.hid hn
    have HO := Lib.hid hO
    have HPI := Lib.hid hpi
    clear hok hq hv hn hl hO hpi
    go_enter Tryd.func21, Tryd.ntmps21
    go_wp2_with fail
    refine HVA.out.mono ?_
    rintro e w1 ⟨rfl, hb1⟩
    have HB1 := Lib.hid hb1
    clear hb1 HVA
    go_wp2_with fail
    go_loopw [14] (fun sv wr => ∃ d : Nat, d ≤ n ∧ sv = .int .i64 d ∧ Hid (∀ d' g k : Nat, d' < d → stN h d' = some g → min d' g < k → k < max d' g → g ∈ way h k) ∧ Hid (Below w.heap.size w wr)) (fun sv _ => n - (Go.RowKit.intOf sv).toNat)
    case atStart => exact ⟨0, Nat.zero_le _, rfl, Lib.hid (fun d' g k hd => absurd hd (by omega)), HB1⟩
    case round =>
      clear HB1
      obtain ⟨d, hd, rfl, HZ, HB⟩ := hrel
      by_cases hlt : d < n
      · obtain ⟨x, hx⟩ : ∃ x, h[d]? = some x := ⟨_, List.getElem?_eq_getElem (by rw [HN.out]; exact hlt)⟩
        obtain ⟨b1, o1, rfl, hbl, hj1⟩ := at_int (HV.out _ HB.out) (by rw [HN.out]; omega)
        have u0 := hj1 d x hx
        have d0 : (0 : Int) ≤ (d : Int) := by omega
        have dn : (d : Int) < (n : Int) := by omega
        rcases HO.out.at (i := d) (by rw [HN.out]; exact hlt) with ⟨h3, h5⟩ | ⟨g, h3, h4, h5⟩
        · obtain rfl : x = -1 := by rw [h3] at hx; exact (Option.some.inj hx).symm
          have HZ2 := Lib.hid (show ∀ d' g k : Nat, d' < d + 1 → stN h d' = some g → min d' g < k → k < max d' g → g ∈ way h k from fun d' g k hd' hs h1 h2 => by
            by_cases e : d' = d
            · subst e; rw [h5] at hs; cases hs
            · exact HZ.out d' g k (by omega) hs h1 h2)
          clear hj1 hx h3 h5
          go_wp2_with fail
          exact ⟨⟨d + 1, by omega, by go_num, HZ2, HB⟩, by simp only [Go.RowKit.intOf]; omega⟩
        · obtain rfl : x = (g : Int) := by rw [h3] at hx; exact (Option.some.inj hx).symm
          have hgn : g < n := by rw [← HN.out]; exact h4
          have hg0 : ¬ (g : Int) < 0 := by omega
          obtain ⟨mn, hmn⟩ : ∃ m, min d g = m := ⟨_, rfl⟩
          obtain ⟨mx, hmx⟩ : ∃ m, max d g = m := ⟨_, rfl⟩
          have em : min (d : Int) (g : Int) = (mn : Int) := by omega
          have ex : max (d : Int) (g : Int) = (mx : Int) := by omega
          have hmm : mn ≤ mx ∧ mx < n := by omega
          have hw1 : IntKind.i64.wrap ((mn : Int) + 1) = (mn : Int) + 1 := by rw [IntKind.wrap_i64]; omega
          have HST := Lib.hid h5
          have HMM := Lib.hid (And.intro hmn hmx)
          have HLT := Lib.hid hlt
          clear hj1 hx h3 h4 h5 hmn hmx hlt
          go_wp2_with fail
          go_loopw [5] (fun kv wr => ∃ k : Nat, mn + 1 ≤ k ∧ k ≤ mx + 1 ∧ kv = .int .i64 k ∧ Hid (∀ k' : Nat, mn < k' → k' < k → g ∈ way h k') ∧ Hid (Below w.heap.size w wr)) (fun kv _ => mx + 1 - (Go.RowKit.intOf kv).toNat)
          case atStart =>
            refine ⟨mn + 1, Nat.le_refl _, by omega, ?_, Lib.hid (fun k' h1 h2 => absurd h1 (by omega)), HB⟩
            go_num
          case round =>
            clear HB u0
            obtain ⟨k, hk1, hk2, rfl, HK, HB⟩ := hrel
            by_cases hlt2 : k < mx
            · have hkx : (k : Int) < (mx : Int) := by omega
              have hne : g ≠ k := by have := HMM.out; omega
              have hkn : k < n := by omega
              have HW := Lib.hid (HWAY.out _ HB.out k hkn)
              have HT := Lib.hid (way_tail HO.out hne)
              obtain ⟨L, hL⟩ : ∃ L, way h k = L := ⟨_, rfl⟩
              have HL := Lib.hid hL
              rw [hL] at HW HT
              obtain ⟨m, hm⟩ : ∃ m, L.length = m := ⟨_, rfl⟩
              have hm1 : 1 ≤ m ∧ m ≤ n := by
                obtain ⟨r, hr⟩ := way_cons HO.out k
                have := way_len HO.out (i := k) (by rw [HN.out]; exact hkn)
                rw [hL, hm, HN.out] at this
                rw [hL] at hr
                rw [← hm, hr] at *
                simp only [List.length_cons] at *
                omega
              have HM := Lib.hid hm
              rw [hm] at HW
              have HKN := Lib.hid (And.intro hkn hlt2)
              clear hL hm hlt2
              go_wp2_with fail
              refine HW.out.mono ?_
              rintro e w2 ⟨⟨vr, rfl, ho⟩, hb2⟩
              obtain ⟨Ar, cr, rfl, hcr⟩ := own_form ho
              obtain ⟨gb, rfl, hgb1, hgb2, hgc⟩ := own_blk ho (by omega)
              obtain ⟨A', hA', hsl⟩ := sliceI_from1 gb m cr hm1.1 hcr
              obtain ⟨m', hm'⟩ : ∃ x, m - 1 = x := ⟨_, rfl⟩
              rw [hm'] at hA' hsl
              have hcell : ∀ (i y : Nat), L[i + 1]? = some y → w2.cell? ⟨gb, 1 + i, none⟩ = some (.int .i64 (y : Int)) := fun i y hy => by
                obtain ⟨_, _, he, _, hj⟩ := at_int (rn_own ho).1.rows (by rw [intsN_len, HM.out]; omega)
                cases he
                have h1 := hj (i + 1) y (intsN_get hy)
                rw [show (0 + (i + 1)) = 1 + i by omega] at h1
                exact h1
              have HA' := Lib.hid hA'
              have HSL := Lib.hid hsl
              have HCELL := Lib.hid hcell
              have HB2 := Lib.hid (HB.out.trans (hb2.mono HB.out.size))
              have HM' := Lib.hid hm'
              have hs1 := HSL.out
              clear hb2 ho hcell hA' hsl hgc hgb1 hgb2 hm'
              go_wp2_with fail
              go_loop [6, 37] (fun bv iv => ∃ (i : Nat) (bb : Bool), i ≤ m' ∧ bv = .bool bb ∧ iv = .int .i64 i ∧ Hid (bb = true ↔ g ∈ L.tail.take i)) (fun _ iv => m' - (Go.RowKit.intOf iv).toNat)
              case atStart => exact ⟨0, false, Nat.zero_le _, rfl, rfl, Lib.hid (by simp)⟩
              case round =>
                obtain ⟨i, bb, hi, rfl, rfl, hbb⟩ := hrel
                by_cases hli : i < m'
                · obtain rfl := HA'.out (by omega)
                  obtain ⟨y, hy⟩ : ∃ y, L[i + 1]? = some y := ⟨_, List.getElem?_eq_getElem (by rw [HM.out]; have := HM'.out; omega)⟩
                  have u1 := HCELL.out i y hy
                  have i0 : (0 : Int) ≤ (i : Int) := by omega
                  have im : (i : Int) < (m' : Int) := by omega
                  have HNX := Lib.hid (tail_take hy)
                  have hmn' : m' ≤ 4096 := by have := HM'.out; omega
                  clear hy
                  cases bb with
                  | true =>
                    have hb' : Hid (true = true ↔ g ∈ L.tail.take (i + 1)) := Lib.hid (by rw [HNX.out]; exact ⟨fun _ => List.mem_append_left _ (hbb.out.1 rfl), fun _ => rfl⟩)
                    clear hbb
                    go_wp2_with fail
                    go_round
                    case rel => exact ⟨i + 1, true, by omega, rfl, by go_num, hb'⟩
                    case measure => simp [Go.RowKit.intOf]; omega
                  | false =>
                    have hno : g ∉ L.tail.take i := fun h => by have := hbb.out.2 h; cases this
                    by_cases hyg : y = g
                    · subst hyg
                      have hyb : ((y : Int) == (y : Int)) = true := by simp
                      have hb' : Hid (true = true ↔ y ∈ L.tail.take (i + 1)) := Lib.hid (by rw [HNX.out]; exact ⟨fun _ => by simp, fun _ => rfl⟩)
                      clear hbb hno
                      go_wp2_with fail
                      go_round
                      case rel => exact ⟨i + 1, true, by omega, rfl, by go_num, hb'⟩
                      case measure => simp [Go.RowKit.intOf]; omega
                    · have hyb : ((y : Int) == (g : Int)) = false := by simp; omega
                      have hyi : ¬ (y : Int) = (g : Int) := by omega
                      have hb' : Hid (false = true ↔ g ∈ L.tail.take (i + 1)) := Lib.hid (by
                        rw [HNX.out]
                        refine ⟨fun h => (by cases h), fun h => ?_⟩
                        rcases List.mem_append.1 h with h | h
                        · exact absurd h hno
                        · exact absurd (List.mem_singleton.1 h).symm hyg)
                      clear hbb hno hyg
                      go_wp2_with fail
                      go_round
                      case rel => exact ⟨i + 1, false, by omega, rfl, by go_num, hb'⟩
                      case measure => simp [Go.RowKit.intOf]; omega
                · obtain rfl : i = m' := by omega
                  have hfull : L.tail.take i = L.tail := List.take_of_length_le (by rw [List.length_tail, HM.out]; have := HM'.out; omega)
                  have hbf := hbb.out
                  rw [hfull, ← HT.out] at hbf
                  have HBF := Lib.hid hbf
                  clear hbb hfull hbf
                  cases bb with
                  | true =>
                    have HK' := Lib.hid (show ∀ k' : Nat, mn < k' → k' < k + 1 → g ∈ way h k' from fun k' h1 h2 => by
                      by_cases e : k' = k
                      · subst e; rw [HL.out]; exact HBF.out.1 rfl
                      · exact HK.out k' h1 (by omega))
                    have hk64 : IntKind.i64.wrap ((k : Int) + 1) = (k : Int) + 1 := by rw [IntKind.wrap_i64]; omega
                    clear HK
                    go_wp2_with fail
                    exact ⟨⟨k + 1, by omega, by have := HKN.out; omega, by go_num, HK', HB2⟩, by simp only [Go.RowKit.intOf]; have := HKN.out; omega⟩
                  | false =>
                    have hqf : q = false := by
                      rw [← Bool.not_eq_true]
                      intro hq
                      have hm := (HPI.out.1 hq).2 d g k HST.out (by have := HMM.out; omega) (by have := HMM.out; have := HKN.out; omega)
                      rw [HL.out] at hm
                      have := HBF.out.2 hm
                      cases this
                    subst hqf
                    go_wp2_with fail
                    go_ret
                    exact ⟨rfl, HB2.out⟩
            · have HZ2 := Lib.hid (show ∀ d' g k : Nat, d' < d + 1 → stN h d' = some g → min d' g < k → k < max d' g → g ∈ way h k from fun d' g' k' hd' hs h1 h2 => by
                by_cases e : d' = d
                · subst e
                  rw [HST.out] at hs
                  cases hs
                  exact HK.out k' (by have := HMM.out; omega) (by have := HMM.out; omega)
                · exact HZ.out d' g' k' (by omega) hs h1 h2)
              have hkx : ¬ (k : Int) < (mx : Int) := by omega
              have hd64 : IntKind.i64.wrap ((d : Int) + 1) = (d : Int) + 1 := by rw [IntKind.wrap_i64]; omega
              clear HZ HK
              go_wp2_with fail
              exact ⟨⟨d + 1, by have := HLT.out; omega, by go_num, HZ2, HB⟩, by simp only [Go.RowKit.intOf]; have := HLT.out; omega⟩
      · obtain rfl : d = n := by omega
        have hqt : q = true := HPI.out.2 ⟨HO.out, fun d' g k hs h1 h2 => HZ.out d' g k (by have := stN_lt hs; rw [← HN.out]; omega) hs h1 h2⟩
        subst hqt
        go_wp2_with fail
        go_ret
        exact ⟨rfl, HB.out⟩
  · have hok2 : okH h = false := by simpa using hok
    rw [hok2] at HVA
    have hpf : projH h = false := by unfold projH; rw [hok2]; rfl
    rw [hpf]
    obtain ⟨A, cap, rfl, hc⟩ := hv.form
    clear hok hok2 hv hl hc hpf
    go_enter Tryd.func21, Tryd.ntmps21
    go_wp2_with fail
    refine HVA.out.mono ?_
    rintro e w1 ⟨rfl, hb1⟩
    have HB1 := Lib.hid hb1
    clear hb1
    go_wp2_with fail
    go_ret
    exact ⟨rfl, HB1.out⟩
end Go.Proofs.YtdhnaiikhdabmaaDoor
