/-
  CorpusCompares is proved: for every region and every region the call of the law returns true, and each argument reads afterwards as it read before. It has no condition.
-/
import Derived.Test.YtglafkonpbcegaaGreatRows
import Derived.Test.YtglafkonpbcegaaGreatOqT
import Derived.Test.YtglafkonpbcegaaGreatQmR
import Derived.Test.YtglafkonpbcegaaGreatQmE
import Derived.ProofKit
import Derived.OpenShut
import Derived.Carry
namespace Go.Proofs.YtglafkonpbcegaaGreat.corpusCompares
open Go.ChangeShapes Go.WideShapes Go.ChangeAt Go.RowKit Go.Shelf Go.Lib
set_option linter.unusedVariables false

attribute [local go_sem ↓] Go.wp_at_zero Go.wp_at_succ
set_option maxRecDepth 100000 in
set_option maxHeartbeats 8000000 in
theorem walk {w : World} (x : Ex) (v1 : Value) (hv : Rows 2 EPair w v1 x.ps) (hx : rEx x) (y : Ex) (v2 : Value) (hm : Rows 2 EPair w v2 y.ps) (hy : rEx y) :
    Calls Tryz.prog 4 #[.agg #[.string ⟨x.name.toArray⟩, .int .i64 x.b, .int .i64 x.e, v1], .agg #[.string ⟨y.name.toArray⟩, .int .i64 y.b, .int .i64 y.e, v2]] w fun e w1 => e = .returned (.bool true) ∧ Below w.heap.size w w1 := by
  have hc := fun W (h : Below w.heap.size w W) => compareRegions_any x y v1 v2 (hv.below stays_pair h) (hm.below stays_pair h) hx.2.2.2.1 hy.2.2.2.1
  have hr := fun W (h : Below w.heap.size w W) => refCmpR_any x y v1 v2 (hv.below stays_pair h) (hm.below stays_pair h) hx.2.2.2.1 hy.2.2.2.1
  obtain ⟨A, c1, rfl, -⟩ := hv.form
  obtain ⟨A2, c2, rfl, -⟩ := hm.form
  obtain ⟨l1, hl1⟩ : ∃ n, x.ps.length = n := ⟨_, rfl⟩
  obtain ⟨l2, hl2⟩ : ∃ n, y.ps.length = n := ⟨_, rfl⟩
  obtain ⟨z, hz⟩ : ∃ z, cmpR x y = z := ⟨_, rfl⟩
  rw [hl1, hl2, hz] at hc hr
  obtain ⟨P, hP⟩ : ∃ s : ByteArray, (⟨x.name.toArray⟩ : ByteArray) = s := ⟨_, rfl⟩
  obtain ⟨Q, hQ⟩ : ∃ s : ByteArray, (⟨y.name.toArray⟩ : ByteArray) = s := ⟨_, rfl⟩
  obtain ⟨xb, hxb⟩ : ∃ s, x.b = s := ⟨_, rfl⟩
  obtain ⟨xe, hxe⟩ : ∃ s, x.e = s := ⟨_, rfl⟩
  obtain ⟨yb, hyb⟩ : ∃ s, y.b = s := ⟨_, rfl⟩
  obtain ⟨ye, hye⟩ : ∃ s, y.e = s := ⟨_, rfl⟩
  rw [hP, hQ, hxb, hxe, hyb, hye] at hc hr ⊢
  rw [hl1, hl2]
  clear hv hm hx hy hl1 hl2 hz hP hQ hxb hxe hyb hye
  obtain ⟨X, hX⟩ : ∃ X, (w.alloc (.cells #[.string P, .int .i64 xb, .int .i64 xe, .slice A l1 c1] 39)).alloc (.cells #[.string Q, .int .i64 yb, .int .i64 ye, .slice A2 l2 c2] 39) = X := ⟨_, rfl⟩
  have hbX : Below w.heap.size w X := by rw [← hX]; exact (below_box w _).trans ((below_box _ _).mono (by simp))
  by_cases h1 : 20 < l1
  · have h1i : (20 : Int) < (l1 : Int) := by omega
    have HC := Lib.hid hbX
    have HX := Lib.hid hX
    clear hc hr hbX hX
    go_enter Tryz.func4, Tryz.ntmps4
    go_wp2_with fail
    go_ret
    exact ⟨rfl, HX.out ▸ HC.out⟩
  · have h1i : ¬ (20 : Int) < (l1 : Int) := by omega
    by_cases h2 : 20 < l2
    · have h2i : (20 : Int) < (l2 : Int) := by omega
      have HC := Lib.hid hbX
      have HX := Lib.hid hX
      clear hc hr hbX hX
      go_enter Tryz.func4, Tryz.ntmps4
      go_wp2_with fail
      go_ret
      exact ⟨rfl, HX.out ▸ HC.out⟩
    · have h2i : ¬ (20 : Int) < (l2 : Int) := by omega
      obtain ⟨N0, hN0⟩ : ∃ N0, w.heap.size = N0 := ⟨_, rfl⟩
      have e1 : X.heap[N0]? = some (.cells #[.string P, .int .i64 xb, .int .i64 xe, .slice A l1 c1] 39 (0, 0)) := by rw [← hX, ← hN0]; exact block_alloc _ (block_new w _)
      have e2 : X.heap[N0 + 1]? = some (.cells #[.string Q, .int .i64 yb, .int .i64 ye, .slice A2 l2 c2] 39 (0, 0)) := by
        have := block_new (w.alloc (.cells #[.string P, .int .i64 xb, .int .i64 xe, .slice A l1 c1] 39)) (.cells #[.string Q, .int .i64 yb, .int .i64 ye, .slice A2 l2 c2] 39)
        rw [alloc_sz, hN0] at this
        rw [← hX]
        exact this
      obtain ⟨X1, hX1⟩ : ∃ X1, X.drew = X1 := ⟨_, rfl⟩
      have hbX1 : Below X.heap.size X X1 := by rw [← hX1]; exact (Below.refl X.heap.size X).drew
      have HS := Lib.hid (fun W (h : Below X.heap.size X W) => show W.cell? ⟨N0, 0, none⟩ = some (.string P) ∧ W.cell? ⟨N0, 1, none⟩ = some (.int .i64 xb) ∧ W.cell? ⟨N0, 2, none⟩ = some (.int .i64 xe) ∧ W.cell? ⟨N0, 3, none⟩ = some (.slice A l1 c1) ∧ W.cell? ⟨N0 + 1, 0, none⟩ = some (.string Q) ∧ W.cell? ⟨N0 + 1, 1, none⟩ = some (.int .i64 yb) ∧ W.cell? ⟨N0 + 1, 2, none⟩ = some (.int .i64 ye) ∧ W.cell? ⟨N0 + 1, 3, none⟩ = some (.slice A2 l2 c2) from
        ⟨cell_of (block_below e1 h (lt_blk e1)) rfl, cell_of (block_below e1 h (lt_blk e1)) rfl, cell_of (block_below e1 h (lt_blk e1)) rfl, cell_of (block_below e1 h (lt_blk e1)) rfl, cell_of (block_below e2 h (lt_blk e2)) rfl, cell_of (block_below e2 h (lt_blk e2)) rfl, cell_of (block_below e2 h (lt_blk e2)) rfl, cell_of (block_below e2 h (lt_blk e2)) rfl⟩)
      have HC := Lib.hid (fun W (h : Below X.heap.size X W) => hc W (hbX.trans (h.mono hbX.size)))
      have HR := Lib.hid (fun W (h : Below X.heap.size X W) => hr W (hbX.trans (h.mono hbX.size)))
      have HX := Lib.hid hX
      have HX1 := Lib.hid hX1
      have HBX := Lib.hid hbX
      have HB0 := Lib.hid hbX1
      have HN0 := Lib.hid hN0
      clear hc hr hX hX1 hbX hbX1 e1 e2 hN0
      go_enter Tryz.func4, Tryz.ntmps4
      go_wp2_with fail
      rw [HX.out, HN0.out]
      refine wp_region_held_drew (S := (fun w' => w'.cell? ⟨N0, 0, none⟩ = some (.string P) ∧ w'.cell? ⟨N0, 1, none⟩ = some (.int .i64 xb) ∧ w'.cell? ⟨N0, 2, none⟩ = some (.int .i64 xe) ∧ w'.cell? ⟨N0, 3, none⟩ = some (.slice A l1 c1) ∧ w'.cell? ⟨N0 + 1, 0, none⟩ = some (.string Q) ∧ w'.cell? ⟨N0 + 1, 1, none⟩ = some (.int .i64 yb) ∧ w'.cell? ⟨N0 + 1, 2, none⟩ = some (.int .i64 ye) ∧ w'.cell? ⟨N0 + 1, 3, none⟩ = some (.slice A2 l2 c2))) (by kernel_rfl) ?_ (fun hHeld => ?_)
      · (try dsimp only); (rw [HX1.out]; exact HS.out X1 HB0.out)
      rw [HX1.out] at hHeld ⊢
      refine wpAnyH_take (i := 0) (oi := ?oi1) (v := ?v1) ?hi1 (by kernel_rfl) (by kernel_rfl) (by kernel_rfl) ?hq1 ?hy1 (by assumption) ?hr1
      case hi1 => (simp only [List.getElem?_toArray, List.getElem?_cons_zero]; rfl)
      case hq1 => exact fun _ _ _ h => h
      case hy1 => exact Or.inl ⟨by rfl, by intro whSw hSw'; (try dsimp only at hSw'); (first | (go_simp; done) | (go_simp; with_reducible rfl))⟩
      try simp only [Act.put, List.setIfInBounds_toArray, List.set_cons_zero, List.set_cons_succ]
      refine wpAnyH_take (i := 1) (oi := ?oi2) (v := ?v2) ?hi2 (by kernel_rfl) (by kernel_rfl) (by kernel_rfl) ?hq2 ?hy2 (by assumption) ?hr2
      case hi2 => (simp only [List.getElem?_toArray, List.getElem?_cons_succ, List.getElem?_cons_zero]; rfl)
      case hq2 => exact fun _ _ _ h => h
      case hy2 => exact Or.inl ⟨by rfl, by intro whSw hSw'; (try dsimp only at hSw'); (first | (go_simp; done) | (go_simp; with_reducible rfl))⟩
      try simp only [Act.put, List.setIfInBounds_toArray, List.set_cons_zero, List.set_cons_succ]
      refine wpAnyH_take (i := 3) (oi := ?oi3) (v := ?v3) ?hi3 (by kernel_rfl) (by kernel_rfl) (by kernel_rfl) ?hq3 ?hy3 (by assumption) ?hr3
      case hi3 => (simp only [List.getElem?_toArray, List.getElem?_cons_succ, List.getElem?_cons_zero]; rfl)
      case hq3 => exact fun _ _ _ h => h
      case hy3 => exact Or.inl ⟨by rfl, by intro whSw hSw'; (try dsimp only at hSw'); (first | (go_simp; done) | (go_simp; with_reducible rfl))⟩
      try simp only [Act.put, List.setIfInBounds_toArray, List.set_cons_zero, List.set_cons_succ]
      refine wpAnyH_take (i := 4) (oi := ?oi4) (v := ?v4) ?hi4 (by kernel_rfl) (by kernel_rfl) (by kernel_rfl) ?hq4 ?hy4 (by assumption) ?hr4
      case hi4 => (simp only [List.getElem?_toArray, List.getElem?_cons_succ, List.getElem?_cons_zero]; rfl)
      case hq4 => exact fun _ _ _ h => h
      case hy4 => exact Or.inl ⟨by rfl, by intro whSw hSw'; (try dsimp only at hSw'); (first | (go_simp; done) | (go_simp; with_reducible rfl))⟩
      try simp only [Act.put, List.setIfInBounds_toArray, List.set_cons_zero, List.set_cons_succ]
      refine wpAnyH_ready (rs := [2]) (by kernel_rfl) (by simp) ?_
      refine AllReadyH.cons (o := ?oo5) ?hi5 (fun K hK => ?hs5) ?hm5
      case hi5 => (simp only [List.getElem?_toArray, List.getElem?_cons_succ, List.getElem?_cons_zero]; rfl)
      · go_simp
        refine (HC.out X1 HB0.out).mono ?_
        rintro e x1 ⟨rfl, hbx1⟩
        have HBx1 := Lib.hid (HB0.out.trans (hbx1.mono HB0.out.size))
        clear hbx1
        (try go_wp2_with fail)
        refine hK.out _ _ ?_ (fun hHeld => ?_)
        · (try dsimp only); exact HS.out x1 HBx1.out
        clear hK K
        try simp only [Act.put, List.setIfInBounds_toArray, List.set_cons_zero, List.set_cons_succ]
        refine wpAnyH_ready (rs := [5]) (by kernel_rfl) (by simp) ?_
        refine AllReadyH.cons (o := ?oo6) ?hi6 (fun K hK => ?hs6) ?hm6
        case hi6 => (simp only [List.getElem?_toArray, List.getElem?_cons_succ, List.getElem?_cons_zero]; rfl)
        · go_simp
          refine (HR.out x1 HBx1.out).mono ?_
          rintro e x2 ⟨rfl, hbx2⟩
          have HBx2 := Lib.hid (HBx1.out.trans (hbx2.mono HBx1.out.size))
          clear hbx2
          (try go_wp2_with fail)
          refine hK.out _ _ ?_ (fun hHeld => ?_)
          · (try dsimp only); exact HS.out x2 HBx2.out
          clear hK K
          try simp only [Act.put, List.setIfInBounds_toArray, List.set_cons_zero, List.set_cons_succ]
          refine wpAnyH_take (i := 6) (oi := ?oi7) (v := ?v7) ?hi7 (by kernel_rfl) (by kernel_rfl) (by kernel_rfl) ?hq7 ?hy7 (by assumption) ?hr7
          case hi7 => (simp only [List.getElem?_toArray, List.getElem?_cons_succ, List.getElem?_cons_zero]; rfl)
          case hq7 => exact fun _ _ _ h => h
          case hy7 => exact Or.inl ⟨by rfl, by intro whSw hSw'; (try dsimp only at hSw'); (first | (go_simp; done) | (go_simp; with_reducible rfl))⟩
          try simp only [Act.put, List.setIfInBounds_toArray, List.set_cons_zero, List.set_cons_succ]
          refine wpAnyH_take (i := 7) (oi := ?oi8) (v := ?v8) ?hi8 (by kernel_rfl) (by kernel_rfl) (by kernel_rfl) ?hq8 ?hy8 (by assumption) ?hr8
          case hi8 => (simp only [List.getElem?_toArray, List.getElem?_cons_succ, List.getElem?_cons_zero]; rfl)
          case hq8 => exact fun _ _ _ h => h
          case hy8 => exact Or.inl ⟨by rfl, by intro whSw hSw'; (try dsimp only at hSw'); (first | (go_simp; done) | (go_simp; with_reducible rfl))⟩
          try simp only [Act.put, List.setIfInBounds_toArray, List.set_cons_zero, List.set_cons_succ]
          refine wpAnyH_ready (rs := [8]) (by kernel_rfl) (by simp) ?_
          refine AllReadyH.cons (o := ?oo9) ?hi9 (fun K hK => ?hs9) ?hm9
          case hi9 => (simp only [List.getElem?_toArray, List.getElem?_cons_succ, List.getElem?_cons_zero]; rfl)
          · go_simp
            refine (awake_any x2).mono ?_
            rintro e x3 ⟨rfl, hbx3⟩
            have HBx3 := Lib.hid (HBx2.out.trans (hbx3.mono HBx2.out.size))
            clear hbx3
            (try go_wp2_with fail)
            refine hK.out _ _ ?_ (fun hHeld => ?_)
            · (try dsimp only); exact HS.out x3 HBx3.out
            clear hK K
            try simp only [Act.put, List.setIfInBounds_toArray, List.set_cons_zero, List.set_cons_succ]
            refine wpAnyH_take (i := 9) (oi := ?oi10) (v := ?v10) ?hi10 (by kernel_rfl) (by kernel_rfl) (by kernel_rfl) ?hq10 ?hy10 (by assumption) ?hr10
            case hi10 => (simp only [List.getElem?_toArray, List.getElem?_cons_succ, List.getElem?_cons_zero]; rfl)
            case hq10 => exact fun _ _ _ h => h
            case hy10 => exact Or.inl ⟨by rfl, by intro whSw hSw'; (try dsimp only at hSw'); (first | (go_simp; done) | (go_simp; with_reducible rfl))⟩
            try simp only [Act.put, List.setIfInBounds_toArray, List.set_cons_zero, List.set_cons_succ]
            refine wpAnyH_take (i := 10) (oi := ?oi11) (v := ?v11) ?hi11 (by kernel_rfl) (by kernel_rfl) (by kernel_rfl) ?hq11 ?hy11 (by assumption) ?hr11
            case hi11 => (simp only [List.getElem?_toArray, List.getElem?_cons_succ, List.getElem?_cons_zero]; rfl)
            case hq11 => exact fun _ _ _ h => h
            case hy11 => exact Or.inl ⟨by rfl, by intro whSw hSw'; (try dsimp only at hSw'); (first | (go_simp; done) | (go_simp; with_reducible rfl))⟩
            try simp only [Act.put, List.setIfInBounds_toArray, List.set_cons_zero, List.set_cons_succ]
            refine wpAnyH_done (by kernel_rfl) ?_ _
            go_wp2_with fail
            go_ret
            exact ⟨rfl, HBX.out.trans (HBx3.out.mono HBX.out.size)⟩
          exact AllReadyH.nil
        exact AllReadyH.nil
      exact AllReadyH.nil

theorem own : ownKnob Tryz.prog.godebug = none := by kernel_rfl

set_option maxRecDepth 100000 in
theorem lifted (os : Os) (started : os.Started) (H : Type) (enc : TypeId × Value → H) :
    ReturnsInHanded {} Tryz.checked os 4 .any (Rows.corpusComparesSpec.pre6 enc Tryz.prog Tryz.f4 Rows.corpusComparesRow.domain false) (Rows.corpusComparesSpec.post enc Tryz.prog Tryz.f4 false true false false) := by
  refine returnsInHanded_of_change (C := Tryz.checked) own started (by kernel_rfl) Tryz.func4
    (ChangeSpec.witness6 (enc := enc) (C := Tryz.checked) false ⟨#[], #[.agg #[.string ⟨#[]⟩, .int .i64 0, .int .i64 0, .slice none 0 0], .agg #[.string ⟨#[]⟩, .int .i64 0, .int .i64 0, .slice none 0 0]], []⟩ 8 (by kernel_rfl) (by kernel_rfl) (by kernel_rfl) (by kernel_rfl)) ?_
  intro W base args ds gs before hval0 hW hcnd _
  have hval : ∀ (j : Nat) t v, Tryz.f4.params[j]? = some t → args[j]? = some v → Value.okWide Tryz.prog W .any base t v := hval0
  have hW' := hW
  have hplt : ∀ x ∈ before, x.block < W.heap.size := fun x hx => hW.lt x hx
  obtain ⟨p, q, hA0, hV, rfl, hfz, hnd⟩ := hW
  have hA : DataW.TrodAll enc Tryz.prog W 0 (fun _ => true) true Tryz.f4.params.toList args.toList ds p := hA0
  rw [Tryz.params4] at hA hval
  obtain ⟨v0, vs0, d0, ds0, p0, q0, hargs, rfl, rfl, h0, r0⟩ := trodAll_cons hA
  obtain ⟨v1, vs1, d1, ds1, p1, q1, rfl, rfl, rfl, h1, r1⟩ := trodAll_cons r0
  obtain ⟨rfl, rfl, rfl⟩ := trodAll_nil r1
  obtain rfl : args = #[v0, v1] := by cases args; simp_all
  obtain ⟨rfl, rfl⟩ := trodVars_none hV
  obtain ⟨x0, u0, rfl, s0, m0⟩ := open_reg (hval 0 39 v0 rfl rfl) h0
  obtain ⟨x1, u1, rfl, s1, m1⟩ := open_reg (hval 1 39 v1 rfl rfl) h1
  clear hA0 hval0
  refine (walk x0 u0 s0 m0 x1 u1 s1 m1).mono fun e W' ⟨he, bel⟩ => ?_
  subst he
  exact ⟨_, rfl, _, _, _, [], _, [], hW', trodAll_mk1 (shut_bool Tryz.underlying4 _), (trodAll_cons_mk (Below.trod Tryz.laidOut (by kernel_rfl) (of_decide_eq_true (by kernel_rfl)) h0 bel (fun x hx => hplt x (by simp [hx]))) (trodAll_cons_mk (Below.trod Tryz.laidOut (by kernel_rfl) (of_decide_eq_true (by kernel_rfl)) h1 bel (fun x hx => hplt x (by simp [hx]))) trodAll_mk0)), rfl, World.keptBut_mono (fun x hx => ⟨hx, Or.inr (by simpa using hx)⟩) (bel.frame (· ∈ _)), fun h => by cases h⟩

theorem over : Rows.corpusComparesRow.holds Tryz.pinned (OpenSpec.ofChange Rows.corpusComparesSpec) :=
  OpenClaim.holds_of_wide 4 Tryz.f4 rfl rfl rfl rfl rfl rfl rfl ⟨rfl, rfl, rfl, rfl, rfl⟩ rfl rfl rfl rfl rfl (by kernel_rfl) Tryz.func4 (by kernel_rfl)
    (of_decide_eq_true (by kernel_rfl)) (by unfold Func.isWrapper; first | (rw [if_pos (by decide +kernel)]; kernel_rfl) | (rw [if_neg (by decide +kernel)]; exact ⟨rfl, rfl⟩))
    (fun os started H enc _ => lifted os started H enc)

/-- THE STATEMENT. -/
theorem proved : Rows.CorpusComparesSaid := over
end Go.Proofs.YtglafkonpbcegaaGreat.corpusCompares
