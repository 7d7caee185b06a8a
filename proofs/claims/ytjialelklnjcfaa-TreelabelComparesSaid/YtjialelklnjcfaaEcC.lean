/-
  TreelabelCompares is proved: for every label and every label the call of the law returns true, and each argument reads afterwards as it read before. It has no condition.
-/
import Derived.Test.YtjialelklnjcfaaRows
import Derived.Test.YtjialelklnjcfaaEoO
import Derived.Test.YtjialelklnjcfaaEbN
import Derived.ProofKit
import Derived.OpenShut
import Derived.Carry
namespace Go.Proofs.Ytjialelklnjcfaa.treelabelCompares
open Go.ChangeShapes Go.WideShapes Go.ChangeAt Go.RowKit Go.Shelf Go.Lib
set_option linter.unusedVariables false

/-- The cells of two labels and their conversions, in two boxes each. -/
abbrev CpS (q r s : Nat) (x1 y1 z1 x2 y2 z2 : Int) (W : World) : Prop := W.cell? ⟨q, 0, none⟩ = some (.int .i64 x1) ∧ W.cell? ⟨q, 1, none⟩ = some (.int .i64 y1) ∧ W.cell? ⟨q, 2, none⟩ = some (.int .i64 z1) ∧ W.cell? ⟨q + 1, 0, none⟩ = some (.int .i64 x2) ∧ W.cell? ⟨q + 1, 1, none⟩ = some (.int .i64 y2) ∧ W.cell? ⟨q + 1, 2, none⟩ = some (.int .i64 z2) ∧
  W.cell? ⟨r, 0, none⟩ = some (.int .i64 x1) ∧ W.cell? ⟨r, 1, none⟩ = some (.int .i64 y1) ∧ W.cell? ⟨r, 2, none⟩ = some (.int .i64 z1) ∧ W.cell? ⟨s, 0, none⟩ = some (.int .i64 x2) ∧ W.cell? ⟨s, 1, none⟩ = some (.int .i64 y2) ∧ W.cell? ⟨s, 2, none⟩ = some (.int .i64 z2)
theorem set_three {W : World} {p : Nat} {a b c a' b' c' : Value} {t : TypeId} {f : Nat × Nat} (h : W.heap[p]? = some (.cells #[a, b, c] t f)) :
    (((W.setCell ⟨p, 0, none⟩ a').setCell ⟨p, 1, none⟩ b').setCell ⟨p, 2, none⟩ c').heap[p]? = some (.cells #[a', b', c'] t f) := by
  rw [set_of (set_of (set_of h _) _) _]
  rfl
theorem set_three_other {W : World} {p k : Nat} (hk : k ≠ p) (a b c : Value) : (((W.setCell ⟨p, 0, none⟩ a).setCell ⟨p, 1, none⟩ b).setCell ⟨p, 2, none⟩ c).heap[k]? = W.heap[k]? := by
  rw [Below.heap_setCell _ ⟨p, 2, none⟩ _ k hk, Below.heap_setCell _ ⟨p, 1, none⟩ _ k hk, Below.heap_setCell _ ⟨p, 0, none⟩ _ k hk]
theorem three_below {N p : Nat} {V W : World} {a b c : Value} (h : Below N V W ∧ N ≤ W.heap.size) (hp : N ≤ p) : Below N V (((W.setCell ⟨p, 0, none⟩ a).setCell ⟨p, 1, none⟩ b).setCell ⟨p, 2, none⟩ c) ∧ N ≤ (((W.setCell ⟨p, 0, none⟩ a).setCell ⟨p, 1, none⟩ b).setCell ⟨p, 2, none⟩ c).heap.size :=
  ⟨((h.1.setCell (p := ⟨p, 0, none⟩) hp _).setCell (p := ⟨p, 1, none⟩) hp _).setCell (p := ⟨p, 2, none⟩) hp _, by simp [World.setCell]; exact h.2⟩
theorem cp_strict {P : Program} {c : Code} {K : Act → World → Prop} {Q : Exit → Act → World → Prop} {a : Act} {w : World} (h : c.wp P (Exit.then K (fun _ _ _ => False)) a w) : c.wp P (Exit.then K Q) a w :=
  Code.wp_mono (fun e a w h => by cases e <;> first | exact h | exact h.elim) h
set_option maxRecDepth 100000 in
set_option maxHeartbeats 4000000 in
theorem walk {w : World} (a : Lb) (_ : okLb a) (b : Lb) (_ : okLb b) :
    Calls Try.prog 7 #[.agg #[.int .i64 a.1, .int .i64 a.2.1, .int .i64 a.2.2], .agg #[.int .i64 b.1, .int .i64 b.2.1, .int .i64 b.2.2]] w fun e w1 => e = .returned (.bool true) ∧ Below w.heap.size w w1 := by
  obtain ⟨x1, y1, z1⟩ := a
  obtain ⟨x2, y2, z2⟩ := b
  have HD := Lib.hid (fun W => dominates_any (x1, y1, z1) (x2, y2, z2) W)
  have HRD := Lib.hid (fun W => refDominates_any (x1, y1, z1) (x2, y2, z2) W)
  have HP := Lib.hid (fun W => precedes_any (x1, y1, z1) (x2, y2, z2) W)
  have HRP := Lib.hid (fun W => refPrecedes_any (x1, y1, z1) (x2, y2, z2) W)
  have HA := Lib.hid (fun (W : World) => awake_any W)
  obtain ⟨d, hd⟩ : ∃ d, domL (x1, y1, z1) (x2, y2, z2) = d := ⟨_, rfl⟩
  obtain ⟨p, hp⟩ : ∃ d, precL (x1, y1, z1) (x2, y2, z2) = d := ⟨_, rfl⟩
  rw [hd] at HD HRD
  rw [hp] at HP HRP
  unfold lbA at HD HRD HP HRP
  simp only at HD HRD HP HRP ⊢
  obtain ⟨V, hV⟩ : ∃ V, ((w.alloc (.cells #[.int .i64 x1, .int .i64 y1, .int .i64 z1] 41)).alloc (.cells #[.int .i64 x2, .int .i64 y2, .int .i64 z2] 41)) = V := ⟨_, rfl⟩
  have hbV : Below w.heap.size w V := by
    rw [← hV]
    exact ((Below.refl _ w).alloc (Nat.le_refl _) _).alloc (by simp) _
  have h1 : V.heap[w.heap.size]? = some (.cells #[.int .i64 x1, .int .i64 y1, .int .i64 z1] 41 (0, 0)) := by rw [← hV]; exact block_alloc _ (block_new w _)
  have h2 : V.heap[w.heap.size + 1]? = some (.cells #[.int .i64 x2, .int .i64 y2, .int .i64 z2] 41 (0, 0)) := by
    have := block_new (w.alloc (.cells #[.int .i64 x1, .int .i64 y1, .int .i64 z1] 41)) (.cells #[.int .i64 x2, .int .i64 y2, .int .i64 z2] 41)
    rw [← hV]
    simpa using this
  obtain ⟨q, hq⟩ : ∃ q, w.heap.size = q := ⟨_, rfl⟩
  have hsz : V.heap.size = q + 2 := by rw [← hV, ← hq]; simp
  rw [hq] at h1 h2 hbV ⊢
  have a0 := cell_of (i := 0) h1 rfl
  have a1 := cell_of (i := 1) h1 rfl
  have a2 := cell_of (i := 2) h1 rfl
  have b0 := cell_of (i := 0) h2 rfl
  have b1 := cell_of (i := 1) h2 rfl
  have b2 := cell_of (i := 2) h2 rfl
  have HV := Lib.hid hV
  have HQ := Lib.hid hq
  have HB := Lib.hid hbV
  have H12 := Lib.hid (And.intro h1 (And.intro h2 hsz))
  clear hV hbV h1 h2 hq hd hp hsz
  go_enter Try.func7, Try.ntmps7
  go_wp2_with fail
  rw [HV.out]
  (try rw [HQ.out])
  have HS := Lib.hid (fun (W : World) (hb : Below (q + 2) V W) => show W.cell? ⟨q, 0, none⟩ = some (.int .i64 x1) ∧ W.cell? ⟨q, 1, none⟩ = some (.int .i64 y1) ∧ W.cell? ⟨q, 2, none⟩ = some (.int .i64 z1) ∧ W.cell? ⟨q + 1, 0, none⟩ = some (.int .i64 x2) ∧ W.cell? ⟨q + 1, 1, none⟩ = some (.int .i64 y2) ∧ W.cell? ⟨q + 1, 2, none⟩ = some (.int .i64 z2) from
    ⟨(hb.cell (p := ⟨q, 0, none⟩) (by show q < q + 2; omega)).trans a0, (hb.cell (p := ⟨q, 1, none⟩) (by show q < q + 2; omega)).trans a1, (hb.cell (p := ⟨q, 2, none⟩) (by show q < q + 2; omega)).trans a2, (hb.cell (p := ⟨q + 1, 0, none⟩) (by show q + 1 < q + 2; omega)).trans b0, (hb.cell (p := ⟨q + 1, 1, none⟩) (by show q + 1 < q + 2; omega)).trans b1, (hb.cell (p := ⟨q + 1, 2, none⟩) (by show q + 1 < q + 2; omega)).trans b2⟩)
  clear a0 a1 a2 b0 b1 b2
  go_upto_region 1 with fail
  go_cut [5, 6] from 7 to 8 (fun s5 s6 wx => ∃ (r t : Nat), s5 = .pointer (some ⟨r, 0, none⟩) ∧ s6 = .pointer (some ⟨t, 0, none⟩) ∧ Hid (Below (q + 2) V wx ∧ wx.heap[r]? = some (.cells #[.int .i64 x1, .int .i64 y1, .int .i64 z1] 43 (0, 0)) ∧ wx.heap[t]? = some (.cells #[.int .i64 x2, .int .i64 y2, .int .i64 z2] 43 (0, 0))))
  case first =>
    refine cp_strict ?_
    obtain ⟨X1, hX1⟩ : ∃ X, V.drew = X := ⟨_, rfl⟩
    have HX1 := Lib.hid hX1
    have HB0 := Lib.hid (show Below (q + 2) V X1 ∧ q + 2 ≤ X1.heap.size by rw [← hX1]; exact ⟨(Below.refl _ _).drew, Nat.le_of_eq H12.out.2.2.symm⟩)
    clear hX1
    refine wp_region_held_drew (S := (fun w' => w'.cell? ⟨q, 0, none⟩ = some (.int .i64 x1) ∧ w'.cell? ⟨q, 1, none⟩ = some (.int .i64 y1) ∧ w'.cell? ⟨q, 2, none⟩ = some (.int .i64 z1) ∧ w'.cell? ⟨q + 1, 0, none⟩ = some (.int .i64 x2) ∧ w'.cell? ⟨q + 1, 1, none⟩ = some (.int .i64 y2) ∧ w'.cell? ⟨q + 1, 2, none⟩ = some (.int .i64 z2))) (by kernel_rfl) ?_ (fun hHeld => ?_)
    · (try dsimp only); (rw [HX1.out]; exact HS.out X1 HB0.out.1)
    rw [HX1.out] at hHeld ⊢
    refine wpAnyH_take (i := 0) (oi := ?oi1) (v := ?v1) ?hi1 (by kernel_rfl) (by kernel_rfl) (by kernel_rfl) ?hq1 ?hy1 (by assumption) ?hr1
    case hi1 => (simp only [List.getElem?_toArray, List.getElem?_cons_zero]; rfl)
    case hq1 => exact fun _ _ _ h => h
    case hy1 => exact Or.inl ⟨by rfl, by intro whSw hSw'; (try dsimp only at hSw'); (first | (go_simp; done) | (go_simp; with_reducible rfl))⟩
    try simp only [Act.put, List.setIfInBounds_toArray, List.set_cons_zero, List.set_cons_succ]
    refine wpAnyH_take (i := 1) (oi := ?oi2) (v := ?v2) ?hi2 (by kernel_rfl) (by kernel_rfl) (by kernel_rfl) ?hq2 ?hy2 (by assumption) ?hr2
    case hi2 => (simp only [List.getElem?_toArray, List.getElem?_cons_succ, List.getElem?_cons_zero]; rfl)
    case hq2 => exact fun _ _ _ h => h
    case hy2 => exact Or.inl ⟨by rfl, by intro whSw hSw'; (try dsimp only at hSw'); (first | (go_simp; done) | (go_simp; with_reducible rfl))⟩
    try simp only [Act.put, List.setIfInBounds_toArray, List.set_cons_zero, List.set_cons_succ]
    refine wpAnyH_ready (rs := [2, 3]) (by kernel_rfl) (by simp) ?_
    refine AllReadyH.cons (o := ?oo3) ?hi3 (fun K hK => ?hs3) ?hm3
    case hi3 => (simp only [List.getElem?_toArray, List.getElem?_cons_succ, List.getElem?_cons_zero]; rfl)
    · go_simp
      obtain ⟨zz1, hzz1⟩ : ∃ W', X1.alloc (.cells #[.int .i64 0, .int .i64 0, .int .i64 0] 43) = W' := ⟨_, rfl⟩
      rw [hzz1]
      have hbzz1 : Below X1.heap.size X1 zz1 := by rw [← hzz1]; exact below_box _ _
      have HRzz1 := Lib.hid (show zz1.heap[X1.heap.size]? = some (.cells #[.int .i64 0, .int .i64 0, .int .i64 0] 43 (0, 0)) by rw [← hzz1]; exact block_new _ _)
      have HGR := Lib.hid HB0.out.2
      have HBzz1 := Lib.hid (show Below (q + 2) V zz1 ∧ q + 2 ≤ zz1.heap.size from ⟨HB0.out.1.trans (hbzz1.mono HB0.out.2), Nat.le_trans HB0.out.2 hbzz1.size⟩)
      clear hbzz1
      refine hK.out _ _ ?_ (fun hHeld => ?_)
      · (try dsimp only); exact HS.out zz1 HBzz1.out.1
      clear hK K
      try simp only [Act.put, List.setIfInBounds_toArray, List.set_cons_zero, List.set_cons_succ]
      refine wpAnyH_ready (rs := [3]) (by kernel_rfl) (by simp) ?_
      refine AllReadyH.cons (o := ?oo4) ?hi4 (fun K hK => ?hs4) ?hm4
      case hi4 => (simp only [List.getElem?_toArray, List.getElem?_cons_succ, List.getElem?_cons_zero]; rfl)
      · go_simp
        obtain ⟨zz2, hzz2⟩ : ∃ W', zz1.alloc (.cells #[.int .i64 0, .int .i64 0, .int .i64 0] 43) = W' := ⟨_, rfl⟩
        rw [hzz2]
        have hbzz2 : Below zz1.heap.size zz1 zz2 := by rw [← hzz2]; exact below_box _ _
        have HTzz2 := Lib.hid (show zz2.heap[zz1.heap.size]? = some (.cells #[.int .i64 0, .int .i64 0, .int .i64 0] 43 (0, 0)) by rw [← hzz2]; exact block_new _ _)
        have HNE := Lib.hid (show zz1.heap.size ≠ X1.heap.size from (by have := lt_blk HRzz1.out; omega))
        have HRzz2 := Lib.hid (block_below HRzz1.out hbzz2 (lt_blk HRzz1.out))
        have HGT := Lib.hid HBzz1.out.2
        have HBzz2 := Lib.hid (show Below (q + 2) V zz2 ∧ q + 2 ≤ zz2.heap.size from ⟨HBzz1.out.1.trans (hbzz2.mono HBzz1.out.2), Nat.le_trans HBzz1.out.2 hbzz2.size⟩)
        clear hbzz2
        refine hK.out _ _ ?_ (fun hHeld => ?_)
        · (try dsimp only); exact HS.out zz2 HBzz2.out.1
        clear hK K
        try simp only [Act.put, List.setIfInBounds_toArray, List.set_cons_zero, List.set_cons_succ]
        refine wpAnyH_ready (rs := [4]) (by kernel_rfl) (by simp) ?_
        refine AllReadyH.cons (o := ?oo5) ?hi5 (fun K hK => ?hs5) ?hm5
        case hi5 => (simp only [List.getElem?_toArray, List.getElem?_cons_succ, List.getElem?_cons_zero]; rfl)
        · have t0 : zz2.cell? ⟨X1.heap.size, 0, none⟩ = some (.int .i64 0) := cell_of HRzz2.out rfl
          have f0 : zz2.frozen? ⟨X1.heap.size, 0, none⟩ = false := frozen_of HRzz2.out
          have t1 : zz2.cell? ⟨X1.heap.size, 1, none⟩ = some (.int .i64 0) := cell_of HRzz2.out rfl
          have f1 : zz2.frozen? ⟨X1.heap.size, 1, none⟩ = false := frozen_of HRzz2.out
          have t2 : zz2.cell? ⟨X1.heap.size, 2, none⟩ = some (.int .i64 0) := cell_of HRzz2.out rfl
          have f2 : zz2.frozen? ⟨X1.heap.size, 2, none⟩ = false := frozen_of HRzz2.out
          go_simp
          obtain ⟨zz3, hzz3⟩ : ∃ W', (((zz2.setCell ⟨X1.heap.size, 0, none⟩ (.int .i64 x1)).setCell ⟨X1.heap.size, 1, none⟩ (.int .i64 y1)).setCell ⟨X1.heap.size, 2, none⟩ (.int .i64 z1)) = W' := ⟨_, rfl⟩
          rw [hzz3]
          have HRzz3 := Lib.hid (show zz3.heap[X1.heap.size]? = some (.cells #[.int .i64 x1, .int .i64 y1, .int .i64 z1] 43 (0, 0)) by rw [← hzz3]; exact set_three HRzz2.out)
          have HTzz3 := Lib.hid (((by rw [← hzz3]; exact set_three_other (HNE.out) _ _ _) : zz3.heap[zz1.heap.size]? = zz2.heap[zz1.heap.size]?).trans HTzz2.out)
          have HBzz3 := Lib.hid (show Below (q + 2) V zz3 ∧ q + 2 ≤ zz3.heap.size by rw [← hzz3]; exact three_below HBzz2.out HGR.out)
          clear t0 f0 t1 f1 t2 f2
          refine hK.out _ _ ?_ (fun hHeld => ?_)
          · (try dsimp only); exact HS.out zz3 HBzz3.out.1
          clear hK K
          try simp only [Act.put, List.setIfInBounds_toArray, List.set_cons_zero, List.set_cons_succ]
          refine wpAnyH_ready (rs := [5]) (by kernel_rfl) (by simp) ?_
          refine AllReadyH.cons (o := ?oo6) ?hi6 (fun K hK => ?hs6) ?hm6
          case hi6 => (simp only [List.getElem?_toArray, List.getElem?_cons_succ, List.getElem?_cons_zero]; rfl)
          · have t0 : zz3.cell? ⟨zz1.heap.size, 0, none⟩ = some (.int .i64 0) := cell_of HTzz3.out rfl
            have f0 : zz3.frozen? ⟨zz1.heap.size, 0, none⟩ = false := frozen_of HTzz3.out
            have t1 : zz3.cell? ⟨zz1.heap.size, 1, none⟩ = some (.int .i64 0) := cell_of HTzz3.out rfl
            have f1 : zz3.frozen? ⟨zz1.heap.size, 1, none⟩ = false := frozen_of HTzz3.out
            have t2 : zz3.cell? ⟨zz1.heap.size, 2, none⟩ = some (.int .i64 0) := cell_of HTzz3.out rfl
            have f2 : zz3.frozen? ⟨zz1.heap.size, 2, none⟩ = false := frozen_of HTzz3.out
            go_simp
            obtain ⟨zz4, hzz4⟩ : ∃ W', (((zz3.setCell ⟨zz1.heap.size, 0, none⟩ (.int .i64 x2)).setCell ⟨zz1.heap.size, 1, none⟩ (.int .i64 y2)).setCell ⟨zz1.heap.size, 2, none⟩ (.int .i64 z2)) = W' := ⟨_, rfl⟩
            rw [hzz4]
            have HTzz4 := Lib.hid (show zz4.heap[zz1.heap.size]? = some (.cells #[.int .i64 x2, .int .i64 y2, .int .i64 z2] 43 (0, 0)) by rw [← hzz4]; exact set_three HTzz3.out)
            have HRzz4 := Lib.hid (((by rw [← hzz4]; exact set_three_other (fun e => HNE.out e.symm) _ _ _) : zz4.heap[X1.heap.size]? = zz3.heap[X1.heap.size]?).trans HRzz3.out)
            have HBzz4 := Lib.hid (show Below (q + 2) V zz4 ∧ q + 2 ≤ zz4.heap.size by rw [← hzz4]; exact three_below HBzz3.out HGT.out)
            clear t0 f0 t1 f1 t2 f2
            refine hK.out _ _ ?_ (fun hHeld => ?_)
            · (try dsimp only); exact HS.out zz4 HBzz4.out.1
            clear hK K
            try simp only [Act.put, List.setIfInBounds_toArray, List.set_cons_zero, List.set_cons_succ]
            refine wpAnyH_done (by kernel_rfl) ?_ _
            go_wp2_with fail
            go_meet
            exact ⟨X1.heap.size, zz1.heap.size, rfl, rfl, Lib.hid ⟨HBzz4.out.1, HRzz4.out, HTzz4.out⟩⟩
          exact AllReadyH.nil
        exact AllReadyH.nil
      exact AllReadyH.nil
    refine AllReadyH.cons (o := ?oo7) ?hi7 (fun K hK => ?hs7) ?hm7
    case hi7 => (simp only [List.getElem?_toArray, List.getElem?_cons_succ, List.getElem?_cons_zero]; rfl)
    · go_simp
      obtain ⟨zz5, hzz5⟩ : ∃ W', X1.alloc (.cells #[.int .i64 0, .int .i64 0, .int .i64 0] 43) = W' := ⟨_, rfl⟩
      rw [hzz5]
      have hbzz5 : Below X1.heap.size X1 zz5 := by rw [← hzz5]; exact below_box _ _
      have HTzz5 := Lib.hid (show zz5.heap[X1.heap.size]? = some (.cells #[.int .i64 0, .int .i64 0, .int .i64 0] 43 (0, 0)) by rw [← hzz5]; exact block_new _ _)
      have HGT := Lib.hid HB0.out.2
      have HBzz5 := Lib.hid (show Below (q + 2) V zz5 ∧ q + 2 ≤ zz5.heap.size from ⟨HB0.out.1.trans (hbzz5.mono HB0.out.2), Nat.le_trans HB0.out.2 hbzz5.size⟩)
      clear hbzz5
      refine hK.out _ _ ?_ (fun hHeld => ?_)
      · (try dsimp only); exact HS.out zz5 HBzz5.out.1
      clear hK K
      try simp only [Act.put, List.setIfInBounds_toArray, List.set_cons_zero, List.set_cons_succ]
      refine wpAnyH_ready (rs := [2]) (by kernel_rfl) (by simp) ?_
      refine AllReadyH.cons (o := ?oo8) ?hi8 (fun K hK => ?hs8) ?hm8
      case hi8 => (simp only [List.getElem?_toArray, List.getElem?_cons_succ, List.getElem?_cons_zero]; rfl)
      · go_simp
        obtain ⟨zz6, hzz6⟩ : ∃ W', zz5.alloc (.cells #[.int .i64 0, .int .i64 0, .int .i64 0] 43) = W' := ⟨_, rfl⟩
        rw [hzz6]
        have hbzz6 : Below zz5.heap.size zz5 zz6 := by rw [← hzz6]; exact below_box _ _
        have HRzz6 := Lib.hid (show zz6.heap[zz5.heap.size]? = some (.cells #[.int .i64 0, .int .i64 0, .int .i64 0] 43 (0, 0)) by rw [← hzz6]; exact block_new _ _)
        have HNE := Lib.hid (show X1.heap.size ≠ zz5.heap.size from (by have := lt_blk HTzz5.out; omega))
        have HTzz6 := Lib.hid (block_below HTzz5.out hbzz6 (lt_blk HTzz5.out))
        have HGR := Lib.hid HBzz5.out.2
        have HBzz6 := Lib.hid (show Below (q + 2) V zz6 ∧ q + 2 ≤ zz6.heap.size from ⟨HBzz5.out.1.trans (hbzz6.mono HBzz5.out.2), Nat.le_trans HBzz5.out.2 hbzz6.size⟩)
        clear hbzz6
        refine hK.out _ _ ?_ (fun hHeld => ?_)
        · (try dsimp only); exact HS.out zz6 HBzz6.out.1
        clear hK K
        try simp only [Act.put, List.setIfInBounds_toArray, List.set_cons_zero, List.set_cons_succ]
        refine wpAnyH_ready (rs := [4]) (by kernel_rfl) (by simp) ?_
        refine AllReadyH.cons (o := ?oo9) ?hi9 (fun K hK => ?hs9) ?hm9
        case hi9 => (simp only [List.getElem?_toArray, List.getElem?_cons_succ, List.getElem?_cons_zero]; rfl)
        · have t0 : zz6.cell? ⟨zz5.heap.size, 0, none⟩ = some (.int .i64 0) := cell_of HRzz6.out rfl
          have f0 : zz6.frozen? ⟨zz5.heap.size, 0, none⟩ = false := frozen_of HRzz6.out
          have t1 : zz6.cell? ⟨zz5.heap.size, 1, none⟩ = some (.int .i64 0) := cell_of HRzz6.out rfl
          have f1 : zz6.frozen? ⟨zz5.heap.size, 1, none⟩ = false := frozen_of HRzz6.out
          have t2 : zz6.cell? ⟨zz5.heap.size, 2, none⟩ = some (.int .i64 0) := cell_of HRzz6.out rfl
          have f2 : zz6.frozen? ⟨zz5.heap.size, 2, none⟩ = false := frozen_of HRzz6.out
          go_simp
          obtain ⟨zz7, hzz7⟩ : ∃ W', (((zz6.setCell ⟨zz5.heap.size, 0, none⟩ (.int .i64 x1)).setCell ⟨zz5.heap.size, 1, none⟩ (.int .i64 y1)).setCell ⟨zz5.heap.size, 2, none⟩ (.int .i64 z1)) = W' := ⟨_, rfl⟩
          rw [hzz7]
          have HRzz7 := Lib.hid (show zz7.heap[zz5.heap.size]? = some (.cells #[.int .i64 x1, .int .i64 y1, .int .i64 z1] 43 (0, 0)) by rw [← hzz7]; exact set_three HRzz6.out)
          have HTzz7 := Lib.hid (((by rw [← hzz7]; exact set_three_other (HNE.out) _ _ _) : zz7.heap[X1.heap.size]? = zz6.heap[X1.heap.size]?).trans HTzz6.out)
          have HBzz7 := Lib.hid (show Below (q + 2) V zz7 ∧ q + 2 ≤ zz7.heap.size by rw [← hzz7]; exact three_below HBzz6.out HGR.out)
          clear t0 f0 t1 f1 t2 f2
          refine hK.out _ _ ?_ (fun hHeld => ?_)
          · (try dsimp only); exact HS.out zz7 HBzz7.out.1
          clear hK K
          try simp only [Act.put, List.setIfInBounds_toArray, List.set_cons_zero, List.set_cons_succ]
          refine wpAnyH_ready (rs := [5]) (by kernel_rfl) (by simp) ?_
          refine AllReadyH.cons (o := ?oo10) ?hi10 (fun K hK => ?hs10) ?hm10
          case hi10 => (simp only [List.getElem?_toArray, List.getElem?_cons_succ, List.getElem?_cons_zero]; rfl)
          · have t0 : zz7.cell? ⟨X1.heap.size, 0, none⟩ = some (.int .i64 0) := cell_of HTzz7.out rfl
            have f0 : zz7.frozen? ⟨X1.heap.size, 0, none⟩ = false := frozen_of HTzz7.out
            have t1 : zz7.cell? ⟨X1.heap.size, 1, none⟩ = some (.int .i64 0) := cell_of HTzz7.out rfl
            have f1 : zz7.frozen? ⟨X1.heap.size, 1, none⟩ = false := frozen_of HTzz7.out
            have t2 : zz7.cell? ⟨X1.heap.size, 2, none⟩ = some (.int .i64 0) := cell_of HTzz7.out rfl
            have f2 : zz7.frozen? ⟨X1.heap.size, 2, none⟩ = false := frozen_of HTzz7.out
            go_simp
            obtain ⟨zz8, hzz8⟩ : ∃ W', (((zz7.setCell ⟨X1.heap.size, 0, none⟩ (.int .i64 x2)).setCell ⟨X1.heap.size, 1, none⟩ (.int .i64 y2)).setCell ⟨X1.heap.size, 2, none⟩ (.int .i64 z2)) = W' := ⟨_, rfl⟩
            rw [hzz8]
            have HTzz8 := Lib.hid (show zz8.heap[X1.heap.size]? = some (.cells #[.int .i64 x2, .int .i64 y2, .int .i64 z2] 43 (0, 0)) by rw [← hzz8]; exact set_three HTzz7.out)
            have HRzz8 := Lib.hid (((by rw [← hzz8]; exact set_three_other (fun e => HNE.out e.symm) _ _ _) : zz8.heap[zz5.heap.size]? = zz7.heap[zz5.heap.size]?).trans HRzz7.out)
            have HBzz8 := Lib.hid (show Below (q + 2) V zz8 ∧ q + 2 ≤ zz8.heap.size by rw [← hzz8]; exact three_below HBzz7.out HGT.out)
            clear t0 f0 t1 f1 t2 f2
            refine hK.out _ _ ?_ (fun hHeld => ?_)
            · (try dsimp only); exact HS.out zz8 HBzz8.out.1
            clear hK K
            try simp only [Act.put, List.setIfInBounds_toArray, List.set_cons_zero, List.set_cons_succ]
            refine wpAnyH_done (by kernel_rfl) ?_ _
            go_wp2_with fail
            go_meet
            exact ⟨zz5.heap.size, X1.heap.size, rfl, rfl, Lib.hid ⟨HBzz8.out.1, HRzz8.out, HTzz8.out⟩⟩
          exact AllReadyH.nil
        exact AllReadyH.nil
      exact AllReadyH.nil
    exact AllReadyH.nil
  case rest =>
    obtain ⟨r, t, rfl, rfl, HRT⟩ := hcut
    have HS2 := Lib.hid (fun (W : World) (hb : Below wc.heap.size wc W) => show CpS q r t x1 y1 z1 x2 y2 z2 W from by
      have hq2 : q + 2 ≤ wc.heap.size := by have := HRT.out.1.size; have := H12.out.2.2; omega
      obtain ⟨h1, h2, h3, h4, h5, h6⟩ := HS.out W (HRT.out.1.trans (hb.mono hq2))
      have hr := block_below HRT.out.2.1 hb (lt_blk HRT.out.2.1)
      have ht := block_below HRT.out.2.2 hb (lt_blk HRT.out.2.2)
      exact ⟨h1, h2, h3, h4, h5, h6, cell_of (i := 0) hr rfl, cell_of (i := 1) hr rfl, cell_of (i := 2) hr rfl, cell_of (i := 0) ht rfl, cell_of (i := 1) ht rfl, cell_of (i := 2) ht rfl⟩)
    have HX0 := Lib.hid (show Below wc.heap.size wc wc.drew from (Below.refl _ _).drew)
    have edd : (d == d) = true := by simp
    have epp : (p == p) = true := by simp
    go_wp2_with fail
    go_region_held3 (fun W' => W'.cell? ⟨q, 0, none⟩ = some (.int .i64 x1) ∧ W'.cell? ⟨q, 1, none⟩ = some (.int .i64 y1) ∧ W'.cell? ⟨q, 2, none⟩ = some (.int .i64 z1) ∧ W'.cell? ⟨q + 1, 0, none⟩ = some (.int .i64 x2) ∧ W'.cell? ⟨q + 1, 1, none⟩ = some (.int .i64 y2) ∧ W'.cell? ⟨q + 1, 2, none⟩ = some (.int .i64 z2) ∧ W'.cell? ⟨r, 0, none⟩ = some (.int .i64 x1) ∧ W'.cell? ⟨r, 1, none⟩ = some (.int .i64 y1) ∧ W'.cell? ⟨r, 2, none⟩ = some (.int .i64 z1) ∧ W'.cell? ⟨t, 0, none⟩ = some (.int .i64 x2) ∧ W'.cell? ⟨t, 1, none⟩ = some (.int .i64 y2) ∧ W'.cell? ⟨t, 2, none⟩ = some (.int .i64 z2))
      (first
        | (with_reducible exact HS2.out _ HX0.out)
        | (with_reducible exact HS2.out _ HX5.out)
        | (with_reducible exact HS2.out _ HX4.out)
        | (with_reducible exact HS2.out _ HX3.out)
        | (with_reducible exact HS2.out _ HX2.out)
        | (with_reducible exact HS2.out _ HX1.out)
        | fail)
      ((first
        | (go_at_call 14; (with_reducible refine (HA.out _).mono ?_); rintro e w5 ⟨rfl, hb5⟩; have HX5 := Lib.hid (HX4.out.trans (hb5.mono HX4.out.size)); clear hb5)
        | (go_at_call 23; (first | (have hx3 := HX3.out) | (have hx3 := HX2.out)); (with_reducible refine (HRP.out _).mono ?_); rintro e w4 ⟨rfl, hb4⟩; have HX4 := Lib.hid (hx3.trans (hb4.mono hx3.size)); clear hb4 hx3)
        | (go_at_call 21; (first | (have hx3 := HX4.out) | (have hx3 := HX2.out)); (with_reducible refine (HP.out _).mono ?_); rintro e w3 ⟨rfl, hb3⟩; have HX3 := Lib.hid (hx3.trans (hb3.mono hx3.size)); clear hb3 hx3)
        | (go_at_call 22; (first | (have hx3 := HX1.out) | (have hx3 := HX0.out)); (with_reducible refine (HRD.out _).mono ?_); rintro e w2 ⟨rfl, hb2⟩; have HX2 := Lib.hid (hx3.trans (hb2.mono hx3.size)); clear hb2 hx3)
        | (go_at_call 20; (first | (have hx3 := HX2.out) | (have hx3 := HX0.out)); (with_reducible refine (HD.out _).mono ?_); rintro e w1 ⟨rfl, hb1⟩; have HX1 := Lib.hid (hx3.trans (hb1.mono hx3.size)); clear hb1 hx3)
        | fail))
    have hq2 : q + 2 ≤ wc.heap.size := by have := HRT.out.1.size; have := H12.out.2.2; omega
    have hvc : Below q w wc := HB.out.trans (HRT.out.1.mono (by omega))
    have hfin := hvc.trans (HX5.out.mono (by omega))
    have HFIN := Lib.hid hfin
    clear hq2 hvc hfin
    go_wp2_with fail
    go_ret
    exact ⟨rfl, HFIN.out⟩

theorem own : ownKnob Try.prog.godebug = none := by kernel_rfl

set_option maxRecDepth 100000 in
theorem lifted (os : Os) (started : os.Started) (H : Type) (enc : TypeId × Value → H) :
    ReturnsInHanded {} Try.checked os 7 .any (Rows.treelabelComparesSpec.pre6 enc Try.prog Try.f7 Rows.treelabelComparesRow.domain false) (Rows.treelabelComparesSpec.post enc Try.prog Try.f7 false true false false) := by
  refine returnsInHanded_of_change (C := Try.checked) own started (by kernel_rfl) Try.func7
    (ChangeSpec.witness6 (enc := enc) (C := Try.checked) false ⟨#[], #[.agg #[.int .i64 0, .int .i64 0, .int .i64 0], .agg #[.int .i64 0, .int .i64 0, .int .i64 0]], []⟩ 8 (by kernel_rfl) (by kernel_rfl) (by kernel_rfl) (by kernel_rfl)) ?_
  intro W base args ds gs before hval0 hW hcnd _
  have hval : ∀ (j : Nat) t v, Try.f7.params[j]? = some t → args[j]? = some v → Value.okWide Try.prog W .any base t v := hval0
  have hW' := hW
  have hplt : ∀ x ∈ before, x.block < W.heap.size := fun x hx => hW.lt x hx
  obtain ⟨p, q, hA0, hV, rfl, hfz, hnd⟩ := hW
  have hA : DataW.TrodAll enc Try.prog W 0 (fun _ => true) true Try.f7.params.toList args.toList ds p := hA0
  rw [Try.params7] at hA hval
  obtain ⟨v0, vs0, d0, ds0, p0, q0, hargs, rfl, rfl, h0, r0⟩ := trodAll_cons hA
  obtain ⟨v1, vs1, d1, ds1, p1, q1, rfl, rfl, rfl, h1, r1⟩ := trodAll_cons r0
  obtain ⟨rfl, rfl, rfl⟩ := trodAll_nil r1
  obtain rfl : args = #[v0, v1] := by cases args; simp_all
  obtain ⟨rfl, rfl⟩ := trodVars_none hV
  obtain ⟨x0, rfl, m0⟩ := open_lb (hval 0 41 v0 rfl rfl) h0
  obtain ⟨x1, rfl, m1⟩ := open_lb (hval 1 41 v1 rfl rfl) h1
  clear hA0 hval0
  refine (walk x0 m0 x1 m1).mono fun e W' ⟨he, bel⟩ => ?_
  subst he
  exact ⟨_, rfl, _, _, _, [], _, [], hW', trodAll_mk1 (shut_bool Try.underlying4 _), (trodAll_cons_mk (Below.trod Try.laidOut (by kernel_rfl) (of_decide_eq_true (by kernel_rfl)) h0 bel (fun x hx => hplt x (by simp [hx]))) (trodAll_cons_mk (Below.trod Try.laidOut (by kernel_rfl) (of_decide_eq_true (by kernel_rfl)) h1 bel (fun x hx => hplt x (by simp [hx]))) trodAll_mk0)), rfl, World.keptBut_mono (fun x hx => ⟨hx, Or.inr (by simpa using hx)⟩) (bel.frame (· ∈ _)), fun h => by cases h⟩

theorem over : Rows.treelabelComparesRow.holds Try.pinned (OpenSpec.ofChange Rows.treelabelComparesSpec) :=
  OpenClaim.holds_of_wide 7 Try.f7 rfl rfl rfl rfl rfl rfl rfl ⟨rfl, rfl, rfl, rfl, rfl⟩ rfl rfl rfl rfl rfl (by kernel_rfl) Try.func7 (by kernel_rfl)
    (of_decide_eq_true (by kernel_rfl)) (by unfold Func.isWrapper; first | (rw [if_pos (by decide +kernel)]; kernel_rfl) | (rw [if_neg (by decide +kernel)]; exact ⟨rfl, rfl⟩))
    (fun os started H enc _ => lifted os started H enc)

/-- THE STATEMENT. -/
theorem proved : Rows.TreelabelComparesSaid := over
end Go.Proofs.Ytjialelklnjcfaa.treelabelCompares
