/-
  WALKS over package treelabel, fourth part: Assign.
-/
import Derived.Test.YtjialelklnjcfaaEbC
namespace Go.Proofs.Ytjialelklnjcfaa
open Go.RowKit Go.Shelf Go.Lib
set_option linter.unusedVariables false
set_option linter.unusedSimpArgs false

theorem Blk.below {W W' : World} {b : Nat} {F : List Int} (h : Blk W b F) (hb : Below W.heap.size W W') : Blk W' b F := h.keep (hb.block _ h.lt)
theorem set_five {W : World} {p : Nat} {a b c d e a' b' c' d' e' : Value} {t : TypeId} {f : Nat × Nat} (h : W.heap[p]? = some (.cells #[a, b, c, d, e] t f)) :
    (((((W.setCell ⟨p, 0, none⟩ a').setCell ⟨p, 1, none⟩ b').setCell ⟨p, 2, none⟩ c').setCell ⟨p, 3, none⟩ d').setCell ⟨p, 4, none⟩ e').heap[p]? = some (.cells #[a', b', c', d', e'] t f) := by
  rw [set_of (set_of (set_of (set_of (set_of h _) _) _) _) _]
  rfl
theorem set_five_other {W : World} {p k : Nat} (hk : k ≠ p) (a b c d e : Value) : (((((W.setCell ⟨p, 0, none⟩ a).setCell ⟨p, 1, none⟩ b).setCell ⟨p, 2, none⟩ c).setCell ⟨p, 3, none⟩ d).setCell ⟨p, 4, none⟩ e).heap[k]? = W.heap[k]? := by
  rw [Below.heap_setCell _ ⟨p, 4, none⟩ _ k hk, Below.heap_setCell _ ⟨p, 3, none⟩ _ k hk, Below.heap_setCell _ ⟨p, 2, none⟩ _ k hk, Below.heap_setCell _ ⟨p, 1, none⟩ _ k hk, Below.heap_setCell _ ⟨p, 0, none⟩ _ k hk]
theorem as_start {N0 : Nat} {w W : World} {p bf bn bl n : Nat} {F X : List Int} (hb : Below N0 w W) (hp : W.heap[p]? = some (.cells #[.slice none 0 0, .slice none 0 0, .slice none 0 0, .int .i64 0, .int .i64 0] 58 (0, 0)))
    (hf : Blk W bf F) (hx : Blk W bn X) (hl : W.heap[bl]? = some (.cells (labRow (lab0 n)) 41 (0, 0))) (hmp : N0 ≤ p) (hmf : N0 ≤ bf ∧ N0 ≤ bn ∧ bf ≠ bn) (hmn : N0 ≤ bl) (hnf : bl ≠ bf ∧ bl ≠ bn) (hpf : p ≠ bf ∧ p ≠ bn) (hpn : p ≠ bl) :
    WC N0 p bf bn bl ∧ WSt N0 w (((((W.setCell ⟨p, 0, none⟩ (.slice (some ⟨bf, 0, none⟩) (n + 1) (n + 1))).setCell ⟨p, 1, none⟩ (.slice (some ⟨bn, 0, none⟩) n n)).setCell ⟨p, 2, none⟩ (.slice (some ⟨bl, 0, none⟩) n n)).setCell ⟨p, 3, none⟩ (.int .i64 0)).setCell ⟨p, 4, none⟩ (.int .i64 0)) p bf (n + 1) bn bl n F X (lab0 n, 0, 0) := by
  refine ⟨⟨hmp, hmn, fun e => hpf.1 e.symm, fun e => hpf.2 e.symm, fun e => hpn e.symm, fun e => hnf.1 e.symm, fun e => hnf.2 e.symm⟩, ?_, ?_, ?_, ?_, ?_⟩
  · exact ((((hb.setCell (p := ⟨p, 0, none⟩) hmp _).setCell (p := ⟨p, 1, none⟩) hmp _).setCell (p := ⟨p, 2, none⟩) hmp _).setCell (p := ⟨p, 3, none⟩) hmp _).setCell (p := ⟨p, 4, none⟩) hmp _
  · rw [set_five hp]
    rfl
  · exact hf.keep (set_five_other (fun e => hpf.1 e.symm) _ _ _ _ _)
  · exact hx.keep (set_five_other (fun e => hpf.2 e.symm) _ _ _ _ _)
  · exact (set_five_other (fun e => hpn e.symm) _ _ _ _ _).trans hl
theorem Try.infoLabel : (Try.prog.info? 41).map (fun i => (i.zero, i.size, i.bytes)) = some (some (.agg #[.int .i64 0, .int .i64 0, .int .i64 0]), 3, 24) := by kernel_rfl
theorem wk_bound {h : List Int} (hO : Okh h) : (wk h (h.length + 1) (-1) 0 (lab0 h.length, 0, 0)).2.1 ≤ 4096 ∧ (wk h (h.length + 1) (-1) 0 (lab0 h.length, 0, 0)).2.2 ≤ 4096 := by
  have h1 := wk_cnt hO (h.length + 1) (-1) 0 (lab0 h.length, 0, 0)
  have h2 := cntB_le h (kids h (-1))
  have h3 := wk_small (h := h) (h.length + 1) (-1) 0 (lab0 h.length, 0, 0)
  have h4 := hO.len
  simp only at h1 h3
  omega

set_option maxRecDepth 100000 in
set_option maxHeartbeats 8000000 in
theorem assign_any {w : World} {v : Value} {h : List Int} (hv : Rows 1 EInt w v h) (hl : h.length ≤ maxLen) :
    Calls Try.prog 11 #[v] w fun e w' => (∃ lv, e = .returned (.tuple #[lv, .int .i64 (assignH h).2.1, .int .i64 (assignH h).2.2]) ∧ Rows 3 ELb w' lv (assignH h).1) ∧ Below w.heap.size w w' := by
  have HCH := Lib.hid (check_any hv hl)
  have HV := Lib.hid (fun W (hb : Below w.heap.size w W) => hv.below stays_int hb)
  obtain ⟨A, cap, rfl, hc⟩ := hv.form
  obtain ⟨N0, hN0⟩ : ∃ N, w.heap.size = N := ⟨_, rfl⟩
  rw [hN0] at HCH HV ⊢
  have HN0 := Lib.hid hN0
  unfold assignH
  by_cases hok : (checkH h).2 = 0
  · rw [if_pos hok]
    have hO := okh_check.1 hok
    rw [check_zero hok] at HCH
    obtain ⟨n, hn⟩ : ∃ n, h.length = n := ⟨_, rfl⟩
    have hn4 := hO.len
    have HARR := Lib.hid (fun W (hb : Below N0 w W ∧ N0 ≤ W.heap.size) => arrange_any (HV.out W hb.1) hO.len (fun x hx => by rcases hO.inn x hx with e | e <;> omega) hn)
    have hbd := wk_bound hO
    have hlab : labH h = (wk h (n + 1) (-1) 0 (lab0 n, 0, 0)).1 := by rw [← hn]; rfl
    rw [hn] at hbd
    have HCD := Lib.hid (fun (p bf bn bl : Nat) (hC : WC N0 p bf bn bl) (W : World) (hw : WSt N0 w W p bf (n + 1) bn bl n (firstL h 0) (nextL h 0) (lab0 n, 0, 0)) =>
      children_any hO hn hC (w := w) (cf := n + 1) (Nat.le_refl _) (n + 1) (-1) 0 (by omega) (.inl ⟨rfl, rfl⟩) (lab0 n, 0, 0) W (by simp [lab0]) hbd.1 hbd.2 hw)
    have hll := labH_len hO
    rw [hn] at hll hn4 hc HV HARR
    rw [hn] at HCH ⊢
    have HL := Lib.hid (And.intro hlab hll)
    obtain ⟨i1, hi1, hy0, hy1, hy2⟩ := info_parts' Try.infoLabel
    have hmk : ∀ W : World, (Instr.makeSlice 23 (.int .i64 n) (.int .i64 n)).run Try.prog W = .ok (.slice (some ⟨W.heap.size, 0, none⟩) n n) (W.alloc (.cells (labRow (lab0 n)) 41)) := fun W => by
      have := run_make (P := Try.prog) W 23 41 i1 _ Try.underlying23 hi1 hy0 .i64 .i64 n n (by omega) (by omega) (by rw [hy2]; omega) (by omega)
      rw [Int.toNat_natCast, hy1] at this
      rw [← made_lab]
      exact this
    clear hok hO hn hbd hlab hll hi1 hy0 hy1 hy2 hv hl hN0
    go_enter Try.func11, Try.ntmps11
    go_wp2_with fail
    refine HCH.out.mono ?_
    rintro e w1 ⟨rfl, hb1⟩
    have HB1 := Lib.hid (show Below N0 w w1 ∧ N0 ≤ w1.heap.size from ⟨hb1, by rw [← HN0.out] at hb1 ⊢; exact hb1.size⟩)
    clear hb1
    go_upto_region 4 with fail
    go_cut [7] from 17 to 22 (fun s7 wx => ∃ (p bf bn bl : Nat), s7 = .pointer (some ⟨p, 0, none⟩) ∧ Hid (WC N0 p bf bn bl ∧ WSt N0 w wx p bf (n + 1) bn bl n (firstL h 0) (nextL h 0) (lab0 n, 0, 0)))
    case first =>
      refine wp_strict ?_
      obtain ⟨X1, hX1⟩ : ∃ X, w1.drew = X := ⟨_, rfl⟩
      have HX1 := Lib.hid hX1
      have HBX1 := Lib.hid (show Below N0 w X1 ∧ N0 ≤ X1.heap.size by rw [← hX1]; exact ⟨below_drewN HB1.out.1 1, HB1.out.2⟩)
      have HB0 := HBX1
      clear hX1
      refine wp_region_held_drew (S := (fun _ => True)) (by kernel_rfl) ?_ (fun hHeld => ?_)
      · (try dsimp only); try exact trivial
      rw [HX1.out]
      refine wpAnyH_take (i := 0) (oi := ?oi1) (v := ?v1) ?hi1 (by kernel_rfl) (by kernel_rfl) (by kernel_rfl) ?hq1 ?hy1 (by assumption) ?hr1
      case hi1 => (simp only [List.getElem?_toArray, List.getElem?_cons_zero]; rfl)
      case hq1 => exact fun _ _ _ h => h
      case hy1 => exact Or.inl ⟨by rfl, by intro whSw hSw'; (try dsimp only at hSw'); (first | (go_simp; done) | (go_simp; with_reducible rfl))⟩
      try simp only [Act.put, List.setIfInBounds_toArray, List.set_cons_zero, List.set_cons_succ]
      refine wpAnyH_take (i := 2) (oi := ?oi2) (v := ?v2) ?hi2 (by kernel_rfl) (by kernel_rfl) (by kernel_rfl) ?hq2 ?hy2 (by assumption) ?hr2
      case hi2 => (simp only [List.getElem?_toArray, List.getElem?_cons_succ, List.getElem?_cons_zero]; rfl)
      case hq2 => exact fun _ _ _ h => h
      case hy2 => exact Or.inl ⟨by rfl, by intro whSw hSw'; (try dsimp only at hSw'); (first | (go_simp; done) | (go_simp; with_reducible rfl))⟩
      try simp only [Act.put, List.setIfInBounds_toArray, List.set_cons_zero, List.set_cons_succ]
      refine wpAnyH_take (i := 3) (oi := ?oi3) (v := ?v3) ?hi3 (by kernel_rfl) (by kernel_rfl) (by kernel_rfl) ?hq3 ?hy3 (by assumption) ?hr3
      case hi3 => (simp only [List.getElem?_toArray, List.getElem?_cons_succ, List.getElem?_cons_zero]; rfl)
      case hq3 => exact fun _ _ _ h => h
      case hy3 => exact Or.inl ⟨by rfl, by intro whSw hSw'; (try dsimp only at hSw'); (first | (go_simp; done) | (go_simp; with_reducible rfl))⟩
      try simp only [Act.put, List.setIfInBounds_toArray, List.set_cons_zero, List.set_cons_succ]
      refine wpAnyH_ready (rs := [1, 4, 6]) (by kernel_rfl) (by simp) ?_
      refine AllReadyH.cons (o := ?oo4) ?hi4 (fun K hK => ?hs4) ?hm4
      case hi4 => (simp only [List.getElem?_toArray, List.getElem?_cons_succ, List.getElem?_cons_zero]; rfl)
      · go_simp
        refine (HARR.out X1 HB0.out).mono ?_
        rintro e y1 ⟨bf, bn, rfl, hfy1, hxy1, hps, hby1⟩
        have HMF := Lib.hid (show N0 ≤ bf ∧ N0 ≤ bn ∧ bf ≠ bn from ⟨Nat.le_trans HB0.out.2 hps.1, Nat.le_trans HB0.out.2 hps.2.1, hps.2.2⟩)
        have HFy1 := Lib.hid (And.intro hfy1 hxy1)
        have HBy1 := Lib.hid (show Below N0 w y1 ∧ N0 ≤ y1.heap.size from ⟨HB0.out.1.trans (hby1.mono HB0.out.2), Nat.le_trans HB0.out.2 hby1.size⟩)
        clear hby1 hfy1 hxy1 hps
        (try go_wp2_with fail)
        refine hK.out _ _ ?_ (fun hHeld => ?_)
        · (try dsimp only); try exact trivial
        clear hK K
        try simp only [Act.put, List.setIfInBounds_toArray, List.set_cons_zero, List.set_cons_succ]
        refine wpAnyH_ready (rs := [4, 6]) (by kernel_rfl) (by simp) ?_
        refine AllReadyH.cons (o := ?oo5) ?hi5 (fun K hK => ?hs5) ?hm5
        case hi5 => (simp only [List.getElem?_toArray, List.getElem?_cons_succ, List.getElem?_cons_zero]; rfl)
        · go_simp
          obtain ⟨y2, hy2⟩ : ∃ W', y1.alloc (.cells (labRow (lab0 n)) 41) = W' := ⟨_, rfl⟩
          rw [hy2]
          have hby2 : Below y1.heap.size y1 y2 := by rw [← hy2]; exact below_box _ _
          have HMN := Lib.hid HBy1.out.2
          have HNy2 := Lib.hid (show y2.heap[y1.heap.size]? = some (.cells (labRow (lab0 n)) 41 (0, 0)) by rw [← hy2]; exact block_new _ _)
          have HNF := Lib.hid (show y1.heap.size ≠ bf ∧ y1.heap.size ≠ bn from (by have := HFy1.out.1.lt; have := HFy1.out.2.lt; omega))
          have HFy2 := Lib.hid (And.intro (HFy1.out.1.below hby2) (HFy1.out.2.below hby2))
          have HBy2 := Lib.hid (show Below N0 w y2 ∧ N0 ≤ y2.heap.size from ⟨HBy1.out.1.trans (hby2.mono HBy1.out.2), Nat.le_trans HBy1.out.2 hby2.size⟩)
          clear hby2
          refine hK.out _ _ ?_ (fun hHeld => ?_)
          · (try dsimp only); try exact trivial
          clear hK K
          try simp only [Act.put, List.setIfInBounds_toArray, List.set_cons_zero, List.set_cons_succ]
          refine wpAnyH_take (i := 5) (oi := ?oi6) (v := ?v6) ?hi6 (by kernel_rfl) (by kernel_rfl) (by kernel_rfl) ?hq6 ?hy6 (by assumption) ?hr6
          case hi6 => (simp only [List.getElem?_toArray, List.getElem?_cons_succ, List.getElem?_cons_zero]; rfl)
          case hq6 => exact fun _ _ _ h => h
          case hy6 => exact Or.inl ⟨by rfl, by intro whSw hSw'; (try dsimp only at hSw'); (first | (go_simp; done) | (go_simp; with_reducible rfl))⟩
          try simp only [Act.put, List.setIfInBounds_toArray, List.set_cons_zero, List.set_cons_succ]
          refine wpAnyH_ready (rs := [6]) (by kernel_rfl) (by simp) ?_
          refine AllReadyH.cons (o := ?oo7) ?hi7 (fun K hK => ?hs7) ?hm7
          case hi7 => (simp only [List.getElem?_toArray, List.getElem?_cons_succ, List.getElem?_cons_zero]; rfl)
          · go_simp
            obtain ⟨y3, hy3⟩ : ∃ W', y2.alloc (.cells #[.slice none 0 0, .slice none 0 0, .slice none 0 0, .int .i64 0, .int .i64 0] 58) = W' := ⟨_, rfl⟩
            rw [hy3]
            have hby3 : Below y2.heap.size y2 y3 := by rw [← hy3]; exact below_box _ _
            have HMP := Lib.hid HBy2.out.2
            have HPy3 := Lib.hid (show y3.heap[y2.heap.size]? = some (.cells #[.slice none 0 0, .slice none 0 0, .slice none 0 0, .int .i64 0, .int .i64 0] 58 (0, 0)) by rw [← hy3]; exact block_new _ _)
            have HPF := Lib.hid (show y2.heap.size ≠ bf ∧ y2.heap.size ≠ bn from (by have := HFy2.out.1.lt; have := HFy2.out.2.lt; omega))
            have HPN := Lib.hid (show y2.heap.size ≠ y1.heap.size from (by have := lt_blk HNy2.out; omega))
            have HFy3 := Lib.hid (And.intro (HFy2.out.1.below hby3) (HFy2.out.2.below hby3))
            have HNy3 := Lib.hid (block_below HNy2.out hby3 (lt_blk HNy2.out))
            have HBy3 := Lib.hid (show Below N0 w y3 ∧ N0 ≤ y3.heap.size from ⟨HBy2.out.1.trans (hby3.mono HBy2.out.2), Nat.le_trans HBy2.out.2 hby3.size⟩)
            clear hby3
            refine hK.out _ _ ?_ (fun hHeld => ?_)
            · (try dsimp only); try exact trivial
            clear hK K
            try simp only [Act.put, List.setIfInBounds_toArray, List.set_cons_zero, List.set_cons_succ]
            refine wpAnyH_ready (rs := [7]) (by kernel_rfl) (by simp) ?_
            refine AllReadyH.cons (o := ?oo8) ?hi8 (fun K hK => ?hs8) ?hm8
            case hi8 => (simp only [List.getElem?_toArray, List.getElem?_cons_succ, List.getElem?_cons_zero]; rfl)
            · have t0 : y3.cell? ⟨y2.heap.size, 0, none⟩ = some (.slice none 0 0) := cell_of HPy3.out rfl
              have f0 : y3.frozen? ⟨y2.heap.size, 0, none⟩ = false := frozen_of HPy3.out
              have t1 : y3.cell? ⟨y2.heap.size, 1, none⟩ = some (.slice none 0 0) := cell_of HPy3.out rfl
              have f1 : y3.frozen? ⟨y2.heap.size, 1, none⟩ = false := frozen_of HPy3.out
              have t2 : y3.cell? ⟨y2.heap.size, 2, none⟩ = some (.slice none 0 0) := cell_of HPy3.out rfl
              have f2 : y3.frozen? ⟨y2.heap.size, 2, none⟩ = false := frozen_of HPy3.out
              have t3 : y3.cell? ⟨y2.heap.size, 3, none⟩ = some (.int .i64 0) := cell_of HPy3.out rfl
              have f3 : y3.frozen? ⟨y2.heap.size, 3, none⟩ = false := frozen_of HPy3.out
              have t4 : y3.cell? ⟨y2.heap.size, 4, none⟩ = some (.int .i64 0) := cell_of HPy3.out rfl
              have f4 : y3.frozen? ⟨y2.heap.size, 4, none⟩ = false := frozen_of HPy3.out
              go_simp
              have HBy4 := HBy3
              have HPy4 := HPy3
              have HFy4 := HFy3
              have HNy4 := HNy3
              refine hK.out _ _ ?_ (fun hHeld => ?_)
              · (try dsimp only); try exact trivial
              clear hK K
              try simp only [Act.put, List.setIfInBounds_toArray, List.set_cons_zero, List.set_cons_succ]
              refine wpAnyH_done (by kernel_rfl) ?_ _
              go_wp2_with fail
              go_meet
              exact ⟨_, bf, bn, _, rfl, Lib.hid (as_start HBy4.out.1 HPy4.out HFy4.out.1 HFy4.out.2 HNy4.out HMP.out HMF.out HMN.out HNF.out HPF.out HPN.out)⟩
            exact AllReadyH.nil
          exact AllReadyH.nil
        refine AllReadyH.cons (o := ?oo9) ?hi9 (fun K hK => ?hs9) ?hm9
        case hi9 => (simp only [List.getElem?_toArray, List.getElem?_cons_succ, List.getElem?_cons_zero]; rfl)
        · go_simp
          obtain ⟨y5, hy5⟩ : ∃ W', y1.alloc (.cells #[.slice none 0 0, .slice none 0 0, .slice none 0 0, .int .i64 0, .int .i64 0] 58) = W' := ⟨_, rfl⟩
          rw [hy5]
          have hby5 : Below y1.heap.size y1 y5 := by rw [← hy5]; exact below_box _ _
          have HMP := Lib.hid HBy1.out.2
          have HPy5 := Lib.hid (show y5.heap[y1.heap.size]? = some (.cells #[.slice none 0 0, .slice none 0 0, .slice none 0 0, .int .i64 0, .int .i64 0] 58 (0, 0)) by rw [← hy5]; exact block_new _ _)
          have HPF := Lib.hid (show y1.heap.size ≠ bf ∧ y1.heap.size ≠ bn from (by have := HFy1.out.1.lt; have := HFy1.out.2.lt; omega))
          have HFy5 := Lib.hid (And.intro (HFy1.out.1.below hby5) (HFy1.out.2.below hby5))
          have HBy5 := Lib.hid (show Below N0 w y5 ∧ N0 ≤ y5.heap.size from ⟨HBy1.out.1.trans (hby5.mono HBy1.out.2), Nat.le_trans HBy1.out.2 hby5.size⟩)
          clear hby5
          refine hK.out _ _ ?_ (fun hHeld => ?_)
          · (try dsimp only); try exact trivial
          clear hK K
          try simp only [Act.put, List.setIfInBounds_toArray, List.set_cons_zero, List.set_cons_succ]
          refine wpAnyH_ready (rs := [4]) (by kernel_rfl) (by simp) ?_
          refine AllReadyH.cons (o := ?oo10) ?hi10 (fun K hK => ?hs10) ?hm10
          case hi10 => (simp only [List.getElem?_toArray, List.getElem?_cons_succ, List.getElem?_cons_zero]; rfl)
          · go_simp
            obtain ⟨y6, hy6⟩ : ∃ W', y5.alloc (.cells (labRow (lab0 n)) 41) = W' := ⟨_, rfl⟩
            rw [hy6]
            have hby6 : Below y5.heap.size y5 y6 := by rw [← hy6]; exact below_box _ _
            have HMN := Lib.hid HBy5.out.2
            have HNy6 := Lib.hid (show y6.heap[y5.heap.size]? = some (.cells (labRow (lab0 n)) 41 (0, 0)) by rw [← hy6]; exact block_new _ _)
            have HNF := Lib.hid (show y5.heap.size ≠ bf ∧ y5.heap.size ≠ bn from (by have := HFy5.out.1.lt; have := HFy5.out.2.lt; omega))
            have HPN := Lib.hid (show y1.heap.size ≠ y5.heap.size from (by have := lt_blk HPy5.out; omega))
            have HFy6 := Lib.hid (And.intro (HFy5.out.1.below hby6) (HFy5.out.2.below hby6))
            have HPy6 := Lib.hid (block_below HPy5.out hby6 (lt_blk HPy5.out))
            have HBy6 := Lib.hid (show Below N0 w y6 ∧ N0 ≤ y6.heap.size from ⟨HBy5.out.1.trans (hby6.mono HBy5.out.2), Nat.le_trans HBy5.out.2 hby6.size⟩)
            clear hby6
            refine hK.out _ _ ?_ (fun hHeld => ?_)
            · (try dsimp only); try exact trivial
            clear hK K
            try simp only [Act.put, List.setIfInBounds_toArray, List.set_cons_zero, List.set_cons_succ]
            refine wpAnyH_take (i := 5) (oi := ?oi11) (v := ?v11) ?hi11 (by kernel_rfl) (by kernel_rfl) (by kernel_rfl) ?hq11 ?hy11 (by assumption) ?hr11
            case hi11 => (simp only [List.getElem?_toArray, List.getElem?_cons_succ, List.getElem?_cons_zero]; rfl)
            case hq11 => exact fun _ _ _ h => h
            case hy11 => exact Or.inl ⟨by rfl, by intro whSw hSw'; (try dsimp only at hSw'); (first | (go_simp; done) | (go_simp; with_reducible rfl))⟩
            try simp only [Act.put, List.setIfInBounds_toArray, List.set_cons_zero, List.set_cons_succ]
            refine wpAnyH_ready (rs := [7]) (by kernel_rfl) (by simp) ?_
            refine AllReadyH.cons (o := ?oo12) ?hi12 (fun K hK => ?hs12) ?hm12
            case hi12 => (simp only [List.getElem?_toArray, List.getElem?_cons_succ, List.getElem?_cons_zero]; rfl)
            · have t0 : y6.cell? ⟨y1.heap.size, 0, none⟩ = some (.slice none 0 0) := cell_of HPy6.out rfl
              have f0 : y6.frozen? ⟨y1.heap.size, 0, none⟩ = false := frozen_of HPy6.out
              have t1 : y6.cell? ⟨y1.heap.size, 1, none⟩ = some (.slice none 0 0) := cell_of HPy6.out rfl
              have f1 : y6.frozen? ⟨y1.heap.size, 1, none⟩ = false := frozen_of HPy6.out
              have t2 : y6.cell? ⟨y1.heap.size, 2, none⟩ = some (.slice none 0 0) := cell_of HPy6.out rfl
              have f2 : y6.frozen? ⟨y1.heap.size, 2, none⟩ = false := frozen_of HPy6.out
              have t3 : y6.cell? ⟨y1.heap.size, 3, none⟩ = some (.int .i64 0) := cell_of HPy6.out rfl
              have f3 : y6.frozen? ⟨y1.heap.size, 3, none⟩ = false := frozen_of HPy6.out
              have t4 : y6.cell? ⟨y1.heap.size, 4, none⟩ = some (.int .i64 0) := cell_of HPy6.out rfl
              have f4 : y6.frozen? ⟨y1.heap.size, 4, none⟩ = false := frozen_of HPy6.out
              go_simp
              have HBy7 := HBy6
              have HPy7 := HPy6
              have HFy7 := HFy6
              have HNy7 := HNy6
              refine hK.out _ _ ?_ (fun hHeld => ?_)
              · (try dsimp only); try exact trivial
              clear hK K
              try simp only [Act.put, List.setIfInBounds_toArray, List.set_cons_zero, List.set_cons_succ]
              refine wpAnyH_done (by kernel_rfl) ?_ _
              go_wp2_with fail
              go_meet
              exact ⟨_, bf, bn, _, rfl, Lib.hid (as_start HBy7.out.1 HPy7.out HFy7.out.1 HFy7.out.2 HNy7.out HMP.out HMF.out HMN.out HNF.out HPF.out HPN.out)⟩
            exact AllReadyH.nil
          exact AllReadyH.nil
        exact AllReadyH.nil
      refine AllReadyH.cons (o := ?oo13) ?hi13 (fun K hK => ?hs13) ?hm13
      case hi13 => (simp only [List.getElem?_toArray, List.getElem?_cons_succ, List.getElem?_cons_zero]; rfl)
      · go_simp
        obtain ⟨y8, hy8⟩ : ∃ W', X1.alloc (.cells (labRow (lab0 n)) 41) = W' := ⟨_, rfl⟩
        rw [hy8]
        have hby8 : Below X1.heap.size X1 y8 := by rw [← hy8]; exact below_box _ _
        have HMN := Lib.hid HB0.out.2
        have HNy8 := Lib.hid (show y8.heap[X1.heap.size]? = some (.cells (labRow (lab0 n)) 41 (0, 0)) by rw [← hy8]; exact block_new _ _)
        have HBy8 := Lib.hid (show Below N0 w y8 ∧ N0 ≤ y8.heap.size from ⟨HB0.out.1.trans (hby8.mono HB0.out.2), Nat.le_trans HB0.out.2 hby8.size⟩)
        clear hby8
        refine hK.out _ _ ?_ (fun hHeld => ?_)
        · (try dsimp only); try exact trivial
        clear hK K
        try simp only [Act.put, List.setIfInBounds_toArray, List.set_cons_zero, List.set_cons_succ]
        refine wpAnyH_ready (rs := [1, 6]) (by kernel_rfl) (by simp) ?_
        refine AllReadyH.cons (o := ?oo14) ?hi14 (fun K hK => ?hs14) ?hm14
        case hi14 => (simp only [List.getElem?_toArray, List.getElem?_cons_succ, List.getElem?_cons_zero]; rfl)
        · go_simp
          refine (HARR.out y8 HBy8.out).mono ?_
          rintro e y9 ⟨bf, bn, rfl, hfy9, hxy9, hps, hby9⟩
          have HMF := Lib.hid (show N0 ≤ bf ∧ N0 ≤ bn ∧ bf ≠ bn from ⟨Nat.le_trans HBy8.out.2 hps.1, Nat.le_trans HBy8.out.2 hps.2.1, hps.2.2⟩)
          have HFy9 := Lib.hid (And.intro hfy9 hxy9)
          have HNF := Lib.hid (show X1.heap.size ≠ bf ∧ X1.heap.size ≠ bn from (by have := lt_blk HNy8.out; omega))
          have HNy9 := Lib.hid (block_below HNy8.out hby9 (lt_blk HNy8.out))
          have HBy9 := Lib.hid (show Below N0 w y9 ∧ N0 ≤ y9.heap.size from ⟨HBy8.out.1.trans (hby9.mono HBy8.out.2), Nat.le_trans HBy8.out.2 hby9.size⟩)
          clear hby9 hfy9 hxy9 hps
          (try go_wp2_with fail)
          refine hK.out _ _ ?_ (fun hHeld => ?_)
          · (try dsimp only); try exact trivial
          clear hK K
          try simp only [Act.put, List.setIfInBounds_toArray, List.set_cons_zero, List.set_cons_succ]
          refine wpAnyH_take (i := 5) (oi := ?oi15) (v := ?v15) ?hi15 (by kernel_rfl) (by kernel_rfl) (by kernel_rfl) ?hq15 ?hy15 (by assumption) ?hr15
          case hi15 => (simp only [List.getElem?_toArray, List.getElem?_cons_succ, List.getElem?_cons_zero]; rfl)
          case hq15 => exact fun _ _ _ h => h
          case hy15 => exact Or.inl ⟨by rfl, by intro whSw hSw'; (try dsimp only at hSw'); (first | (go_simp; done) | (go_simp; with_reducible rfl))⟩
          try simp only [Act.put, List.setIfInBounds_toArray, List.set_cons_zero, List.set_cons_succ]
          refine wpAnyH_ready (rs := [6]) (by kernel_rfl) (by simp) ?_
          refine AllReadyH.cons (o := ?oo16) ?hi16 (fun K hK => ?hs16) ?hm16
          case hi16 => (simp only [List.getElem?_toArray, List.getElem?_cons_succ, List.getElem?_cons_zero]; rfl)
          · go_simp
            obtain ⟨y10, hy10⟩ : ∃ W', y9.alloc (.cells #[.slice none 0 0, .slice none 0 0, .slice none 0 0, .int .i64 0, .int .i64 0] 58) = W' := ⟨_, rfl⟩
            rw [hy10]
            have hby10 : Below y9.heap.size y9 y10 := by rw [← hy10]; exact below_box _ _
            have HMP := Lib.hid HBy9.out.2
            have HPy10 := Lib.hid (show y10.heap[y9.heap.size]? = some (.cells #[.slice none 0 0, .slice none 0 0, .slice none 0 0, .int .i64 0, .int .i64 0] 58 (0, 0)) by rw [← hy10]; exact block_new _ _)
            have HPF := Lib.hid (show y9.heap.size ≠ bf ∧ y9.heap.size ≠ bn from (by have := HFy9.out.1.lt; have := HFy9.out.2.lt; omega))
            have HPN := Lib.hid (show y9.heap.size ≠ X1.heap.size from (by have := lt_blk HNy9.out; omega))
            have HFy10 := Lib.hid (And.intro (HFy9.out.1.below hby10) (HFy9.out.2.below hby10))
            have HNy10 := Lib.hid (block_below HNy9.out hby10 (lt_blk HNy9.out))
            have HBy10 := Lib.hid (show Below N0 w y10 ∧ N0 ≤ y10.heap.size from ⟨HBy9.out.1.trans (hby10.mono HBy9.out.2), Nat.le_trans HBy9.out.2 hby10.size⟩)
            clear hby10
            refine hK.out _ _ ?_ (fun hHeld => ?_)
            · (try dsimp only); try exact trivial
            clear hK K
            try simp only [Act.put, List.setIfInBounds_toArray, List.set_cons_zero, List.set_cons_succ]
            refine wpAnyH_ready (rs := [7]) (by kernel_rfl) (by simp) ?_
            refine AllReadyH.cons (o := ?oo17) ?hi17 (fun K hK => ?hs17) ?hm17
            case hi17 => (simp only [List.getElem?_toArray, List.getElem?_cons_succ, List.getElem?_cons_zero]; rfl)
            · have t0 : y10.cell? ⟨y9.heap.size, 0, none⟩ = some (.slice none 0 0) := cell_of HPy10.out rfl
              have f0 : y10.frozen? ⟨y9.heap.size, 0, none⟩ = false := frozen_of HPy10.out
              have t1 : y10.cell? ⟨y9.heap.size, 1, none⟩ = some (.slice none 0 0) := cell_of HPy10.out rfl
              have f1 : y10.frozen? ⟨y9.heap.size, 1, none⟩ = false := frozen_of HPy10.out
              have t2 : y10.cell? ⟨y9.heap.size, 2, none⟩ = some (.slice none 0 0) := cell_of HPy10.out rfl
              have f2 : y10.frozen? ⟨y9.heap.size, 2, none⟩ = false := frozen_of HPy10.out
              have t3 : y10.cell? ⟨y9.heap.size, 3, none⟩ = some (.int .i64 0) := cell_of HPy10.out rfl
              have f3 : y10.frozen? ⟨y9.heap.size, 3, none⟩ = false := frozen_of HPy10.out
              have t4 : y10.cell? ⟨y9.heap.size, 4, none⟩ = some (.int .i64 0) := cell_of HPy10.out rfl
              have f4 : y10.frozen? ⟨y9.heap.size, 4, none⟩ = false := frozen_of HPy10.out
              go_simp
              have HBy11 := HBy10
              have HPy11 := HPy10
              have HFy11 := HFy10
              have HNy11 := HNy10
              refine hK.out _ _ ?_ (fun hHeld => ?_)
              · (try dsimp only); try exact trivial
              clear hK K
              try simp only [Act.put, List.setIfInBounds_toArray, List.set_cons_zero, List.set_cons_succ]
              refine wpAnyH_done (by kernel_rfl) ?_ _
              go_wp2_with fail
              go_meet
              exact ⟨_, bf, bn, _, rfl, Lib.hid (as_start HBy11.out.1 HPy11.out HFy11.out.1 HFy11.out.2 HNy11.out HMP.out HMF.out HMN.out HNF.out HPF.out HPN.out)⟩
            exact AllReadyH.nil
          exact AllReadyH.nil
        refine AllReadyH.cons (o := ?oo18) ?hi18 (fun K hK => ?hs18) ?hm18
        case hi18 => (simp only [List.getElem?_toArray, List.getElem?_cons_succ, List.getElem?_cons_zero]; rfl)
        · go_simp
          obtain ⟨y12, hy12⟩ : ∃ W', y8.alloc (.cells #[.slice none 0 0, .slice none 0 0, .slice none 0 0, .int .i64 0, .int .i64 0] 58) = W' := ⟨_, rfl⟩
          rw [hy12]
          have hby12 : Below y8.heap.size y8 y12 := by rw [← hy12]; exact below_box _ _
          have HMP := Lib.hid HBy8.out.2
          have HPy12 := Lib.hid (show y12.heap[y8.heap.size]? = some (.cells #[.slice none 0 0, .slice none 0 0, .slice none 0 0, .int .i64 0, .int .i64 0] 58 (0, 0)) by rw [← hy12]; exact block_new _ _)
          have HPN := Lib.hid (show y8.heap.size ≠ X1.heap.size from (by have := lt_blk HNy8.out; omega))
          have HNy12 := Lib.hid (block_below HNy8.out hby12 (lt_blk HNy8.out))
          have HBy12 := Lib.hid (show Below N0 w y12 ∧ N0 ≤ y12.heap.size from ⟨HBy8.out.1.trans (hby12.mono HBy8.out.2), Nat.le_trans HBy8.out.2 hby12.size⟩)
          clear hby12
          refine hK.out _ _ ?_ (fun hHeld => ?_)
          · (try dsimp only); try exact trivial
          clear hK K
          try simp only [Act.put, List.setIfInBounds_toArray, List.set_cons_zero, List.set_cons_succ]
          refine wpAnyH_ready (rs := [1]) (by kernel_rfl) (by simp) ?_
          refine AllReadyH.cons (o := ?oo19) ?hi19 (fun K hK => ?hs19) ?hm19
          case hi19 => (simp only [List.getElem?_toArray, List.getElem?_cons_succ, List.getElem?_cons_zero]; rfl)
          · go_simp
            refine (HARR.out y12 HBy12.out).mono ?_
            rintro e y13 ⟨bf, bn, rfl, hfy13, hxy13, hps, hby13⟩
            have HMF := Lib.hid (show N0 ≤ bf ∧ N0 ≤ bn ∧ bf ≠ bn from ⟨Nat.le_trans HBy12.out.2 hps.1, Nat.le_trans HBy12.out.2 hps.2.1, hps.2.2⟩)
            have HFy13 := Lib.hid (And.intro hfy13 hxy13)
            have HNF := Lib.hid (show X1.heap.size ≠ bf ∧ X1.heap.size ≠ bn from (by have := lt_blk HNy12.out; omega))
            have HPF := Lib.hid (show y8.heap.size ≠ bf ∧ y8.heap.size ≠ bn from (by have := lt_blk HPy12.out; omega))
            have HNy13 := Lib.hid (block_below HNy12.out hby13 (lt_blk HNy12.out))
            have HPy13 := Lib.hid (block_below HPy12.out hby13 (lt_blk HPy12.out))
            have HBy13 := Lib.hid (show Below N0 w y13 ∧ N0 ≤ y13.heap.size from ⟨HBy12.out.1.trans (hby13.mono HBy12.out.2), Nat.le_trans HBy12.out.2 hby13.size⟩)
            clear hby13 hfy13 hxy13 hps
            (try go_wp2_with fail)
            refine hK.out _ _ ?_ (fun hHeld => ?_)
            · (try dsimp only); try exact trivial
            clear hK K
            try simp only [Act.put, List.setIfInBounds_toArray, List.set_cons_zero, List.set_cons_succ]
            refine wpAnyH_take (i := 5) (oi := ?oi20) (v := ?v20) ?hi20 (by kernel_rfl) (by kernel_rfl) (by kernel_rfl) ?hq20 ?hy20 (by assumption) ?hr20
            case hi20 => (simp only [List.getElem?_toArray, List.getElem?_cons_succ, List.getElem?_cons_zero]; rfl)
            case hq20 => exact fun _ _ _ h => h
            case hy20 => exact Or.inl ⟨by rfl, by intro whSw hSw'; (try dsimp only at hSw'); (first | (go_simp; done) | (go_simp; with_reducible rfl))⟩
            try simp only [Act.put, List.setIfInBounds_toArray, List.set_cons_zero, List.set_cons_succ]
            refine wpAnyH_ready (rs := [7]) (by kernel_rfl) (by simp) ?_
            refine AllReadyH.cons (o := ?oo21) ?hi21 (fun K hK => ?hs21) ?hm21
            case hi21 => (simp only [List.getElem?_toArray, List.getElem?_cons_succ, List.getElem?_cons_zero]; rfl)
            · have t0 : y13.cell? ⟨y8.heap.size, 0, none⟩ = some (.slice none 0 0) := cell_of HPy13.out rfl
              have f0 : y13.frozen? ⟨y8.heap.size, 0, none⟩ = false := frozen_of HPy13.out
              have t1 : y13.cell? ⟨y8.heap.size, 1, none⟩ = some (.slice none 0 0) := cell_of HPy13.out rfl
              have f1 : y13.frozen? ⟨y8.heap.size, 1, none⟩ = false := frozen_of HPy13.out
              have t2 : y13.cell? ⟨y8.heap.size, 2, none⟩ = some (.slice none 0 0) := cell_of HPy13.out rfl
              have f2 : y13.frozen? ⟨y8.heap.size, 2, none⟩ = false := frozen_of HPy13.out
              have t3 : y13.cell? ⟨y8.heap.size, 3, none⟩ = some (.int .i64 0) := cell_of HPy13.out rfl
              have f3 : y13.frozen? ⟨y8.heap.size, 3, none⟩ = false := frozen_of HPy13.out
              have t4 : y13.cell? ⟨y8.heap.size, 4, none⟩ = some (.int .i64 0) := cell_of HPy13.out rfl
              have f4 : y13.frozen? ⟨y8.heap.size, 4, none⟩ = false := frozen_of HPy13.out
              go_simp
              have HBy14 := HBy13
              have HPy14 := HPy13
              have HFy14 := HFy13
              have HNy14 := HNy13
              refine hK.out _ _ ?_ (fun hHeld => ?_)
              · (try dsimp only); try exact trivial
              clear hK K
              try simp only [Act.put, List.setIfInBounds_toArray, List.set_cons_zero, List.set_cons_succ]
              refine wpAnyH_done (by kernel_rfl) ?_ _
              go_wp2_with fail
              go_meet
              exact ⟨_, bf, bn, _, rfl, Lib.hid (as_start HBy14.out.1 HPy14.out HFy14.out.1 HFy14.out.2 HNy14.out HMP.out HMF.out HMN.out HNF.out HPF.out HPN.out)⟩
            exact AllReadyH.nil
          exact AllReadyH.nil
        exact AllReadyH.nil
      refine AllReadyH.cons (o := ?oo22) ?hi22 (fun K hK => ?hs22) ?hm22
      case hi22 => (simp only [List.getElem?_toArray, List.getElem?_cons_succ, List.getElem?_cons_zero]; rfl)
      · go_simp
        obtain ⟨y15, hy15⟩ : ∃ W', X1.alloc (.cells #[.slice none 0 0, .slice none 0 0, .slice none 0 0, .int .i64 0, .int .i64 0] 58) = W' := ⟨_, rfl⟩
        rw [hy15]
        have hby15 : Below X1.heap.size X1 y15 := by rw [← hy15]; exact below_box _ _
        have HMP := Lib.hid HB0.out.2
        have HPy15 := Lib.hid (show y15.heap[X1.heap.size]? = some (.cells #[.slice none 0 0, .slice none 0 0, .slice none 0 0, .int .i64 0, .int .i64 0] 58 (0, 0)) by rw [← hy15]; exact block_new _ _)
        have HBy15 := Lib.hid (show Below N0 w y15 ∧ N0 ≤ y15.heap.size from ⟨HB0.out.1.trans (hby15.mono HB0.out.2), Nat.le_trans HB0.out.2 hby15.size⟩)
        clear hby15
        refine hK.out _ _ ?_ (fun hHeld => ?_)
        · (try dsimp only); try exact trivial
        clear hK K
        try simp only [Act.put, List.setIfInBounds_toArray, List.set_cons_zero, List.set_cons_succ]
        refine wpAnyH_ready (rs := [1, 4]) (by kernel_rfl) (by simp) ?_
        refine AllReadyH.cons (o := ?oo23) ?hi23 (fun K hK => ?hs23) ?hm23
        case hi23 => (simp only [List.getElem?_toArray, List.getElem?_cons_succ, List.getElem?_cons_zero]; rfl)
        · go_simp
          refine (HARR.out y15 HBy15.out).mono ?_
          rintro e y16 ⟨bf, bn, rfl, hfy16, hxy16, hps, hby16⟩
          have HMF := Lib.hid (show N0 ≤ bf ∧ N0 ≤ bn ∧ bf ≠ bn from ⟨Nat.le_trans HBy15.out.2 hps.1, Nat.le_trans HBy15.out.2 hps.2.1, hps.2.2⟩)
          have HFy16 := Lib.hid (And.intro hfy16 hxy16)
          have HPF := Lib.hid (show X1.heap.size ≠ bf ∧ X1.heap.size ≠ bn from (by have := lt_blk HPy15.out; omega))
          have HPy16 := Lib.hid (block_below HPy15.out hby16 (lt_blk HPy15.out))
          have HBy16 := Lib.hid (show Below N0 w y16 ∧ N0 ≤ y16.heap.size from ⟨HBy15.out.1.trans (hby16.mono HBy15.out.2), Nat.le_trans HBy15.out.2 hby16.size⟩)
          clear hby16 hfy16 hxy16 hps
          (try go_wp2_with fail)
          refine hK.out _ _ ?_ (fun hHeld => ?_)
          · (try dsimp only); try exact trivial
          clear hK K
          try simp only [Act.put, List.setIfInBounds_toArray, List.set_cons_zero, List.set_cons_succ]
          refine wpAnyH_ready (rs := [4]) (by kernel_rfl) (by simp) ?_
          refine AllReadyH.cons (o := ?oo24) ?hi24 (fun K hK => ?hs24) ?hm24
          case hi24 => (simp only [List.getElem?_toArray, List.getElem?_cons_succ, List.getElem?_cons_zero]; rfl)
          · go_simp
            obtain ⟨y17, hy17⟩ : ∃ W', y16.alloc (.cells (labRow (lab0 n)) 41) = W' := ⟨_, rfl⟩
            rw [hy17]
            have hby17 : Below y16.heap.size y16 y17 := by rw [← hy17]; exact below_box _ _
            have HMN := Lib.hid HBy16.out.2
            have HNy17 := Lib.hid (show y17.heap[y16.heap.size]? = some (.cells (labRow (lab0 n)) 41 (0, 0)) by rw [← hy17]; exact block_new _ _)
            have HNF := Lib.hid (show y16.heap.size ≠ bf ∧ y16.heap.size ≠ bn from (by have := HFy16.out.1.lt; have := HFy16.out.2.lt; omega))
            have HPN := Lib.hid (show X1.heap.size ≠ y16.heap.size from (by have := lt_blk HPy16.out; omega))
            have HFy17 := Lib.hid (And.intro (HFy16.out.1.below hby17) (HFy16.out.2.below hby17))
            have HPy17 := Lib.hid (block_below HPy16.out hby17 (lt_blk HPy16.out))
            have HBy17 := Lib.hid (show Below N0 w y17 ∧ N0 ≤ y17.heap.size from ⟨HBy16.out.1.trans (hby17.mono HBy16.out.2), Nat.le_trans HBy16.out.2 hby17.size⟩)
            clear hby17
            refine hK.out _ _ ?_ (fun hHeld => ?_)
            · (try dsimp only); try exact trivial
            clear hK K
            try simp only [Act.put, List.setIfInBounds_toArray, List.set_cons_zero, List.set_cons_succ]
            refine wpAnyH_take (i := 5) (oi := ?oi25) (v := ?v25) ?hi25 (by kernel_rfl) (by kernel_rfl) (by kernel_rfl) ?hq25 ?hy25 (by assumption) ?hr25
            case hi25 => (simp only [List.getElem?_toArray, List.getElem?_cons_succ, List.getElem?_cons_zero]; rfl)
            case hq25 => exact fun _ _ _ h => h
            case hy25 => exact Or.inl ⟨by rfl, by intro whSw hSw'; (try dsimp only at hSw'); (first | (go_simp; done) | (go_simp; with_reducible rfl))⟩
            try simp only [Act.put, List.setIfInBounds_toArray, List.set_cons_zero, List.set_cons_succ]
            refine wpAnyH_ready (rs := [7]) (by kernel_rfl) (by simp) ?_
            refine AllReadyH.cons (o := ?oo26) ?hi26 (fun K hK => ?hs26) ?hm26
            case hi26 => (simp only [List.getElem?_toArray, List.getElem?_cons_succ, List.getElem?_cons_zero]; rfl)
            · have t0 : y17.cell? ⟨X1.heap.size, 0, none⟩ = some (.slice none 0 0) := cell_of HPy17.out rfl
              have f0 : y17.frozen? ⟨X1.heap.size, 0, none⟩ = false := frozen_of HPy17.out
              have t1 : y17.cell? ⟨X1.heap.size, 1, none⟩ = some (.slice none 0 0) := cell_of HPy17.out rfl
              have f1 : y17.frozen? ⟨X1.heap.size, 1, none⟩ = false := frozen_of HPy17.out
              have t2 : y17.cell? ⟨X1.heap.size, 2, none⟩ = some (.slice none 0 0) := cell_of HPy17.out rfl
              have f2 : y17.frozen? ⟨X1.heap.size, 2, none⟩ = false := frozen_of HPy17.out
              have t3 : y17.cell? ⟨X1.heap.size, 3, none⟩ = some (.int .i64 0) := cell_of HPy17.out rfl
              have f3 : y17.frozen? ⟨X1.heap.size, 3, none⟩ = false := frozen_of HPy17.out
              have t4 : y17.cell? ⟨X1.heap.size, 4, none⟩ = some (.int .i64 0) := cell_of HPy17.out rfl
              have f4 : y17.frozen? ⟨X1.heap.size, 4, none⟩ = false := frozen_of HPy17.out
              go_simp
              have HBy18 := HBy17
              have HPy18 := HPy17
              have HFy18 := HFy17
              have HNy18 := HNy17
              refine hK.out _ _ ?_ (fun hHeld => ?_)
              · (try dsimp only); try exact trivial
              clear hK K
              try simp only [Act.put, List.setIfInBounds_toArray, List.set_cons_zero, List.set_cons_succ]
              refine wpAnyH_done (by kernel_rfl) ?_ _
              go_wp2_with fail
              go_meet
              exact ⟨_, bf, bn, _, rfl, Lib.hid (as_start HBy18.out.1 HPy18.out HFy18.out.1 HFy18.out.2 HNy18.out HMP.out HMF.out HMN.out HNF.out HPF.out HPN.out)⟩
            exact AllReadyH.nil
          exact AllReadyH.nil
        refine AllReadyH.cons (o := ?oo27) ?hi27 (fun K hK => ?hs27) ?hm27
        case hi27 => (simp only [List.getElem?_toArray, List.getElem?_cons_succ, List.getElem?_cons_zero]; rfl)
        · go_simp
          obtain ⟨y19, hy19⟩ : ∃ W', y15.alloc (.cells (labRow (lab0 n)) 41) = W' := ⟨_, rfl⟩
          rw [hy19]
          have hby19 : Below y15.heap.size y15 y19 := by rw [← hy19]; exact below_box _ _
          have HMN := Lib.hid HBy15.out.2
          have HNy19 := Lib.hid (show y19.heap[y15.heap.size]? = some (.cells (labRow (lab0 n)) 41 (0, 0)) by rw [← hy19]; exact block_new _ _)
          have HPN := Lib.hid (show X1.heap.size ≠ y15.heap.size from (by have := lt_blk HPy15.out; omega))
          have HPy19 := Lib.hid (block_below HPy15.out hby19 (lt_blk HPy15.out))
          have HBy19 := Lib.hid (show Below N0 w y19 ∧ N0 ≤ y19.heap.size from ⟨HBy15.out.1.trans (hby19.mono HBy15.out.2), Nat.le_trans HBy15.out.2 hby19.size⟩)
          clear hby19
          refine hK.out _ _ ?_ (fun hHeld => ?_)
          · (try dsimp only); try exact trivial
          clear hK K
          try simp only [Act.put, List.setIfInBounds_toArray, List.set_cons_zero, List.set_cons_succ]
          refine wpAnyH_ready (rs := [1]) (by kernel_rfl) (by simp) ?_
          refine AllReadyH.cons (o := ?oo28) ?hi28 (fun K hK => ?hs28) ?hm28
          case hi28 => (simp only [List.getElem?_toArray, List.getElem?_cons_succ, List.getElem?_cons_zero]; rfl)
          · go_simp
            refine (HARR.out y19 HBy19.out).mono ?_
            rintro e y20 ⟨bf, bn, rfl, hfy20, hxy20, hps, hby20⟩
            have HMF := Lib.hid (show N0 ≤ bf ∧ N0 ≤ bn ∧ bf ≠ bn from ⟨Nat.le_trans HBy19.out.2 hps.1, Nat.le_trans HBy19.out.2 hps.2.1, hps.2.2⟩)
            have HFy20 := Lib.hid (And.intro hfy20 hxy20)
            have HNF := Lib.hid (show y15.heap.size ≠ bf ∧ y15.heap.size ≠ bn from (by have := lt_blk HNy19.out; omega))
            have HPF := Lib.hid (show X1.heap.size ≠ bf ∧ X1.heap.size ≠ bn from (by have := lt_blk HPy19.out; omega))
            have HNy20 := Lib.hid (block_below HNy19.out hby20 (lt_blk HNy19.out))
            have HPy20 := Lib.hid (block_below HPy19.out hby20 (lt_blk HPy19.out))
            have HBy20 := Lib.hid (show Below N0 w y20 ∧ N0 ≤ y20.heap.size from ⟨HBy19.out.1.trans (hby20.mono HBy19.out.2), Nat.le_trans HBy19.out.2 hby20.size⟩)
            clear hby20 hfy20 hxy20 hps
            (try go_wp2_with fail)
            refine hK.out _ _ ?_ (fun hHeld => ?_)
            · (try dsimp only); try exact trivial
            clear hK K
            try simp only [Act.put, List.setIfInBounds_toArray, List.set_cons_zero, List.set_cons_succ]
            refine wpAnyH_take (i := 5) (oi := ?oi29) (v := ?v29) ?hi29 (by kernel_rfl) (by kernel_rfl) (by kernel_rfl) ?hq29 ?hy29 (by assumption) ?hr29
            case hi29 => (simp only [List.getElem?_toArray, List.getElem?_cons_succ, List.getElem?_cons_zero]; rfl)
            case hq29 => exact fun _ _ _ h => h
            case hy29 => exact Or.inl ⟨by rfl, by intro whSw hSw'; (try dsimp only at hSw'); (first | (go_simp; done) | (go_simp; with_reducible rfl))⟩
            try simp only [Act.put, List.setIfInBounds_toArray, List.set_cons_zero, List.set_cons_succ]
            refine wpAnyH_ready (rs := [7]) (by kernel_rfl) (by simp) ?_
            refine AllReadyH.cons (o := ?oo30) ?hi30 (fun K hK => ?hs30) ?hm30
            case hi30 => (simp only [List.getElem?_toArray, List.getElem?_cons_succ, List.getElem?_cons_zero]; rfl)
            · have t0 : y20.cell? ⟨X1.heap.size, 0, none⟩ = some (.slice none 0 0) := cell_of HPy20.out rfl
              have f0 : y20.frozen? ⟨X1.heap.size, 0, none⟩ = false := frozen_of HPy20.out
              have t1 : y20.cell? ⟨X1.heap.size, 1, none⟩ = some (.slice none 0 0) := cell_of HPy20.out rfl
              have f1 : y20.frozen? ⟨X1.heap.size, 1, none⟩ = false := frozen_of HPy20.out
              have t2 : y20.cell? ⟨X1.heap.size, 2, none⟩ = some (.slice none 0 0) := cell_of HPy20.out rfl
              have f2 : y20.frozen? ⟨X1.heap.size, 2, none⟩ = false := frozen_of HPy20.out
              have t3 : y20.cell? ⟨X1.heap.size, 3, none⟩ = some (.int .i64 0) := cell_of HPy20.out rfl
              have f3 : y20.frozen? ⟨X1.heap.size, 3, none⟩ = false := frozen_of HPy20.out
              have t4 : y20.cell? ⟨X1.heap.size, 4, none⟩ = some (.int .i64 0) := cell_of HPy20.out rfl
              have f4 : y20.frozen? ⟨X1.heap.size, 4, none⟩ = false := frozen_of HPy20.out
              go_simp
              have HBy21 := HBy20
              have HPy21 := HPy20
              have HFy21 := HFy20
              have HNy21 := HNy20
              refine hK.out _ _ ?_ (fun hHeld => ?_)
              · (try dsimp only); try exact trivial
              clear hK K
              try simp only [Act.put, List.setIfInBounds_toArray, List.set_cons_zero, List.set_cons_succ]
              refine wpAnyH_done (by kernel_rfl) ?_ _
              go_wp2_with fail
              go_meet
              exact ⟨_, bf, bn, _, rfl, Lib.hid (as_start HBy21.out.1 HPy21.out HFy21.out.1 HFy21.out.2 HNy21.out HMP.out HMF.out HMN.out HNF.out HPF.out HPN.out)⟩
            exact AllReadyH.nil
          exact AllReadyH.nil
        exact AllReadyH.nil
      exact AllReadyH.nil
    case rest =>
      obtain ⟨p, bf, bn, bl, rfl, HW⟩ := hcut
      have HCALL := Lib.hid (HCD.out p bf bn bl HW.out.1 wc HW.out.2)
      clear HCD HARR HCH hmk
      go_wp2_with fail
      refine HCALL.out.mono ?_
      rintro e w3 ⟨rfl, hw3⟩
      have k2 := cell_of (i := 2) hw3.box rfl
      have HW3 := Lib.hid hw3
      clear hw3
      go_wp2_with fail
      go_ret3
      refine ⟨⟨_, rfl, ?_⟩, HW3.out.below⟩
      rw [HL.out.1]
      exact rows_lab (by rw [← HL.out.1]; exact HL.out.2) (Nat.le_refl _) HW3.out.l
  · rw [if_neg hok]
    obtain ⟨ci, ce, hce⟩ : ∃ a b, checkH h = (a, b) := ⟨_, _, rfl⟩
    rw [hce] at HCH hok ⊢
    simp only at HCH hok ⊢
    have hcb : (ce != 0) = true := by simp [hok]
    have hcn : ¬ ce = 0 := hok
    clear hce hv hl hN0
    go_enter Try.func11, Try.ntmps11
    go_wp2_with fail
    refine HCH.out.mono ?_
    rintro e w1 ⟨rfl, hb1⟩
    have HB1 := Lib.hid (show Below N0 w w1 by exact hb1)
    clear hb1
    go_wp2_with fail
    go_ret3
    exact ⟨⟨_, rfl, Rows.nil _⟩, HB1.out⟩
end Go.Proofs.Ytjialelklnjcfaa
