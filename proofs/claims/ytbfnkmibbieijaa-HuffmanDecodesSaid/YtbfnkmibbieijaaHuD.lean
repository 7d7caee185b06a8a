/-
  WALKS over package huffman: plant.
-/
import Derived.Test.YtbfnkmibbieijaaHuB
namespace Go.Proofs.Ytbfnkmibbieijaa
open Go.RowKit Go.Shelf Go.Lib
set_option linter.unusedVariables false
set_option linter.unusedSimpArgs false

/-- The leaves of counts. -/
def lfIt : List Int → Nat → List It
  | [], _ => []
  | c :: l, s => if 0 < c then (c, (s : Int), -1) :: lfIt l (s + 1) else lfIt l (s + 1)
theorem lfIt_snoc : ∀ (l : List Int) (c : Int) (s : Nat), lfIt (l ++ [c]) s = if 0 < c then lfIt l s ++ [(c, ((s + l.length : Nat) : Int), -1)] else lfIt l s
  | [], c, s => by
    by_cases h : 0 < c
    · simp [lfIt, h]
    · simp [lfIt, h]
  | a :: l, c, s => by
    have e : ∀ q : List Int, lfIt (a :: q) s = if 0 < a then (a, (s : Int), -1) :: lfIt q (s + 1) else lfIt q (s + 1) := fun _ => rfl
    rw [List.cons_append, e, e, lfIt_snoc l c (s + 1), List.length_cons, show s + 1 + l.length = s + (l.length + 1) by omega]
    by_cases h : 0 < c
    · rw [if_pos h, if_pos h]; split <;> rfl
    · rw [if_neg h, if_neg h]
theorem lfIt_step {cs : List Int} {k : Nat} {c : Int} (h : cs[k]? = some c) : lfIt (cs.take (k + 1)) 0 = if 0 < c then lfIt (cs.take k) 0 ++ [(c, (k : Int), -1)] else lfIt (cs.take k) 0 := by
  have hk : k ≤ cs.length := Nat.le_of_lt (List.getElem?_eq_some_iff.1 h).1
  rw [List.take_add_one, h, Option.toList_some, lfIt_snoc, List.length_take, Nat.min_eq_left hk, Nat.zero_add]
theorem lfIt_len : ∀ (l : List Int) (s : Nat), (lfIt l s).length ≤ l.length
  | [], _ => Nat.le_refl _
  | c :: l, s => by
    have := lfIt_len l (s + 1)
    unfold lfIt
    split <;> simp <;> omega
def rangeV (n : Nat) : List Value := (List.range n).map fun (j : Nat) => Value.int .i64 (j : Int)
theorem rangeV_succ (n : Nat) : rangeV (n + 1) = rangeV n ++ [.int .i64 (n : Int)] := by simp [rangeV, List.range_succ]
/-- The forest while it is planted. -/
structure PAt (w : World) (N : Nat) (w' : World) (vi vl : Value) (its : List It) : Prop where
  f : FAt w' N N vi vl its
  l : w'.ownsRow N 3 1 vl its.length (rangeV its.length)
  b : Below N w w'
theorem PAt.drew {w w' : World} {N : Nat} {vi vl : Value} {its : List It} (h : PAt w N w' vi vl its) : PAt w N w'.drew vi vl its := ⟨⟨h.f.hB, h.f.box, h.f.own⟩, h.l, h.b.drew⟩
theorem PAt.sz {w w' : World} {N : Nat} {vi vl : Value} {its : List It} (h : PAt w N w' vi vl its) : N + 1 ≤ w'.heap.size := h.f.lt
def PlantV (w : World) (N : Nat) (cs : List Int) (e : Ending) (w' : World) : Prop :=
  ∃ vi vl, e = .returned (.pointer (some ⟨N, 0, none⟩)) ∧ PAt w N w' vi vl (lfIt cs 0)
/-- Behind an append to the leaves. -/
theorem PAt.leaf {w W wa : World} {N : Nat} {vi vl vl' : Value} {its : List It} {x : It} (hf : FAt W N N vi vl (its ++ [x])) (hl : W.ownsRow N 3 1 vl its.length (rangeV its.length)) (hb : Below N w W)
    (ho : wa.ownsRow N 3 1 vl' (its.length + 1) (rangeV its.length ++ [.int .i64 (its.length : Int)])) (hg : W.grownBy wa vl.ownBlock) :
    wa.heap[N]? = some (.cells #[vi, vl] 92 (0, 0)) ∧ PAt w N (wa.setCell ⟨N, 1, none⟩ vl') vi vl' (its ++ [x]) := by
  have hN := hf.lt
  have hne : vl.ownBlock ≠ some N := own_other hl hf.box (by decide)
  have hbox : wa.heap[N]? = some (.cells #[vi, vl] 92 (0, 0)) := by
    rw [hg.block N hN (fun e => hne e.symm)]; exact hf.box
  have hset : ∀ j, j ≠ N → (wa.setCell ⟨N, 1, none⟩ vl').heap[j]? = wa.heap[j]? := fun j hj => Below.heap_setCell _ _ _ _ hj
  have howa : wa.ownsRow N 139 3 vi (its ++ [x]).length ((its ++ [x]).flatMap itV) := by
    refine own_below hf.own fun k hk => hg.block k (own_low hf.own k hk).2 (fun e => ?_)
    obtain ⟨cs, hcs⟩ : ∃ cs, W.heap[k]? = some (.cells cs 139 (0, 0)) := by
      rcases hf.own.2 with ⟨rfl, _⟩ | ⟨g, cap, cur, rfl, _, hh, _⟩
      · simp [Value.ownBlock] at hk
      · simp only [Value.ownBlock, Option.some.injEq] at hk
        subst hk
        exact ⟨_, hh⟩
    exact own_other hl hcs (by decide) e.symm
  refine ⟨hbox, ⟨hf.hB, by have := set_of (i := 1) hbox vl'; simpa using this, own_below howa fun k hk => hset k (fun e => by subst e; exact own_other howa hbox (by decide) hk)⟩, ?_, (hb.grown hg (by omega) (fun k e => (own_low hl k e).1)).setCell (p := ⟨N, 1, none⟩) (Nat.le_refl _) _⟩
  rw [List.length_append, List.length_singleton, rangeV_succ]
  exact own_below ho fun k hk => hset k (fun e => by subst e; exact own_other ho hbox (by decide) hk)

set_option maxRecDepth 100000 in
set_option maxHeartbeats 8000000 in
theorem plant_any {w : World} {v : Value} {cs : List Int} (hv : Rows 1 EInt w v cs) (hlen : cs.length ≤ 4096) :
    Calls Try.prog 50 #[v] w (PlantV w w.heap.size cs) := by
  obtain ⟨N, hN⟩ : ∃ N, w.heap.size = N := ⟨_, rfl⟩
  have HV := Lib.hid (fun W (hb : Below N w W) => hv.below stays_int (hN ▸ hb))
  obtain ⟨A, cap, rfl, hc⟩ := hv.form
  obtain ⟨n, hn⟩ : ∃ n, cs.length = n := ⟨_, rfl⟩
  rw [hn] at HV hc hlen ⊢
  have HCN := Lib.hid hn
  obtain ⟨X, hX⟩ : ∃ X, w.alloc (.cells #[.slice none 0 0, .slice none 0 0] 92) = X := ⟨_, rfl⟩
  have hst0 : PAt w N X (.slice none 0 0) (.slice none 0 0) (lfIt (cs.take 0) 0) := by
    refine ⟨⟨Nat.le_refl _, ?_, World.ownsRow_nil _ _ _ 3⟩, World.ownsRow_nil _ _ _ 1, ?_⟩
    · rw [← hX, ← hN]; exact block_new _ _
    · rw [← hX, ← hN]; exact below_box _ _
  have HST0 := Lib.hid hst0
  have HX := Lib.hid hX
  have HN := Lib.hid hN
  rw [hN]
  obtain ⟨i0, hi, hz0, hz1, hz2⟩ := info_parts' Try.infoInt2
  clear hst0 hX hN hv hn hc
  go_enter Try.func50, Try.ntmps50
  go_wp2_with fail
  rw [HX.out, HN.out]
  go_loopw [10] (fun sv wr => ∃ k : Nat, k ≤ n ∧ sv = .int .i64 k ∧ ∃ vi vl, Hid (PAt w N wr vi vl (lfIt (cs.take k) 0))) (fun sv _ => n - (Go.RowKit.intOf sv).toNat)
  case atStart => exact ⟨0, Nat.zero_le _, rfl, _, _, HST0⟩
  case round =>
    clear HST0 HX
    obtain ⟨k, hk, rfl, vi, vl, HS⟩ := hrel
    by_cases hlt : k < n
    · have hlti : (k : Int) < (n : Int) := by omega
      obtain ⟨c, hcx⟩ : ∃ c, cs[k]? = some c := ⟨_, List.getElem?_eq_getElem (by rw [HCN.out]; exact hlt)⟩
      obtain ⟨b, o, rfl, -, hj⟩ := at_int (HV.out wr HS.out.b) (by rw [HCN.out]; omega)
      have u0 := hj k c hcx
      have hstep := lfIt_step hcx
      by_cases d : 0 < c
      · rw [if_pos d] at hstep
        have b3 : decide (c > 0) = true := decide_eq_true d
        have hml : (lfIt (cs.take k) 0).length ≤ 4096 := by
          have := lfIt_len (cs.take k) 0
          rw [List.length_take] at this; omega
        obtain ⟨its, hits⟩ : ∃ its, lfIt (cs.take k) 0 = its := ⟨_, rfl⟩
        rw [hits] at HS hml hstep
        have HSTEP := Lib.hid hstep
        have HADD := Lib.hid (add_any (w := wr.drew) HS.out.drew.f (by omega) c (k : Int) (-1))
        obtain ⟨m, hm⟩ : ∃ m, its.length = m := ⟨_, rfl⟩
        have HM := Lib.hid hm
        have HB0 := Lib.hid (show wr.drew.cell? ⟨N, 1, none⟩ = some vl from cell_of (i := 1) HS.out.drew.f.box rfl)
        rw [hm] at hml
        clear hj hcx hstep hits d hm
        go_wp2_with fail
        refine wp_region_Z (z := 14) (S := (fun w' => w'.cell? ⟨N, 1, none⟩ = some vl)) (by kernel_rfl) ?_ (fun hHeld => ?_)
        · (try dsimp only); exact HB0.out
        refine wpAnyZ_take (i := 0) (oi := ?oi1) (v := ?v1) ?hi1 (by kernel_rfl) (by kernel_rfl) (by kernel_rfl) (by kernel_rfl) ?hq1 ?hy1 (by assumption) ?hr1
        case hi1 => (simp only [List.getElem?_toArray, List.getElem?_cons_zero]; rfl)
        case hq1 => exact fun _ _ _ h => h
        case hy1 => exact Or.inl ⟨by rfl, by intro whSw hSw'; (try dsimp only at hSw'); (first | (go_simp; done) | (go_simp; with_reducible rfl))⟩
        try simp only [Act.put, List.setIfInBounds_toArray, List.set_cons_zero, List.set_cons_succ]
        refine wpAnyZ_take (i := 1) (oi := ?oi2) (v := ?v2) ?hi2 (by kernel_rfl) (by kernel_rfl) (by kernel_rfl) (by kernel_rfl) ?hq2 ?hy2 (by assumption) ?hr2
        case hi2 => (simp only [List.getElem?_toArray, List.getElem?_cons_succ, List.getElem?_cons_zero]; rfl)
        case hq2 => exact fun _ _ _ h => h
        case hy2 => exact Or.inl ⟨by rfl, by intro whSw hSw'; (try dsimp only at hSw'); (first | (go_simp; done) | (go_simp; with_reducible rfl))⟩
        try simp only [Act.put, List.setIfInBounds_toArray, List.set_cons_zero, List.set_cons_succ]
        refine wpAnyZ_take (i := 2) (oi := ?oi3) (v := ?v3) ?hi3 (by kernel_rfl) (by kernel_rfl) (by kernel_rfl) (by kernel_rfl) ?hq3 ?hy3 (by assumption) ?hr3
        case hi3 => (simp only [List.getElem?_toArray, List.getElem?_cons_succ, List.getElem?_cons_zero]; rfl)
        case hq3 => exact fun _ _ _ h => h
        case hy3 => exact Or.inl ⟨by rfl, by intro whSw hSw'; (try dsimp only at hSw'); (first | (go_simp; done) | (go_simp; with_reducible rfl))⟩
        try simp only [Act.put, List.setIfInBounds_toArray, List.set_cons_zero, List.set_cons_succ]
        refine wpAnyZ_take (i := 3) (oi := ?oi4) (v := ?v4) ?hi4 (by kernel_rfl) (by kernel_rfl) (by kernel_rfl) (by kernel_rfl) ?hq4 ?hy4 (by assumption) ?hr4
        case hi4 => (simp only [List.getElem?_toArray, List.getElem?_cons_succ, List.getElem?_cons_zero]; rfl)
        case hq4 => exact fun _ _ _ h => h
        case hy4 => exact Or.inl ⟨by rfl, by intro whSw hSw'; (try dsimp only at hSw'); (first | (go_simp; done) | (go_simp; with_reducible rfl))⟩
        try simp only [Act.put, List.setIfInBounds_toArray, List.set_cons_zero, List.set_cons_succ]
        refine wpAnyZ_take (i := 4) (oi := ?oi5) (v := ?v5) ?hi5 (by kernel_rfl) (by kernel_rfl) (by kernel_rfl) (by kernel_rfl) ?hq5 ?hy5 (by assumption) ?hr5
        case hi5 => (simp only [List.getElem?_toArray, List.getElem?_cons_succ, List.getElem?_cons_zero]; rfl)
        case hq5 => exact fun _ _ _ h => h
        case hy5 => exact Or.inl ⟨by rfl, by intro whSw hSw'; (try dsimp only at hSw'); (first | (go_simp; done) | (go_simp; with_reducible rfl))⟩
        try simp only [Act.put, List.setIfInBounds_toArray, List.set_cons_zero, List.set_cons_succ]
        refine wpAnyZ_take (i := 5) (oi := ?oi6) (v := ?v6) ?hi6 (by kernel_rfl) (by kernel_rfl) (by kernel_rfl) (by kernel_rfl) ?hq6 ?hy6 (by assumption) ?hr6
        case hi6 => (simp only [List.getElem?_toArray, List.getElem?_cons_succ, List.getElem?_cons_zero]; rfl)
        case hq6 => exact fun _ _ _ h => h
        case hy6 => exact Or.inl ⟨by rfl, by intro whSw hSw'; (try dsimp only at hSw'); (first | (go_simp; done) | (go_simp; with_reducible rfl))⟩
        try simp only [Act.put, List.setIfInBounds_toArray, List.set_cons_zero, List.set_cons_succ]
        refine wpAnyZ_take (i := 6) (oi := ?oi7) (v := ?v7) ?hi7 (by kernel_rfl) (by kernel_rfl) (by kernel_rfl) (by kernel_rfl) ?hq7 ?hy7 (by assumption) ?hr7
        case hi7 => (simp only [List.getElem?_toArray, List.getElem?_cons_succ, List.getElem?_cons_zero]; rfl)
        case hq7 => exact fun _ _ _ h => h
        case hy7 => exact Or.inl ⟨by rfl, by intro whSw hSw'; (try dsimp only at hSw'); (first | (go_simp; done) | (go_simp; with_reducible rfl))⟩
        try simp only [Act.put, List.setIfInBounds_toArray, List.set_cons_zero, List.set_cons_succ]
        refine wpAnyZ_take (i := 7) (oi := ?oi8) (v := ?v8) ?hi8 (by kernel_rfl) (by kernel_rfl) (by kernel_rfl) (by kernel_rfl) ?hq8 ?hy8 (by assumption) ?hr8
        case hi8 => (simp only [List.getElem?_toArray, List.getElem?_cons_succ, List.getElem?_cons_zero]; rfl)
        case hq8 => exact fun _ _ _ h => h
        case hy8 => exact Or.inl ⟨by rfl, by intro whSw hSw'; (try dsimp only at hSw'); (first | (go_simp; done) | (go_simp; with_reducible rfl))⟩
        try simp only [Act.put, List.setIfInBounds_toArray, List.set_cons_zero, List.set_cons_succ]
        refine wpAnyZ_take (i := 8) (oi := ?oi9) (v := ?v9) ?hi9 (by kernel_rfl) (by kernel_rfl) (by kernel_rfl) (by kernel_rfl) ?hq9 ?hy9 (by assumption) ?hr9
        case hi9 => (simp only [List.getElem?_toArray, List.getElem?_cons_succ, List.getElem?_cons_zero]; rfl)
        case hq9 => exact fun _ _ _ h => h
        case hy9 => exact Or.inl ⟨by rfl, by intro whSw hSw'; (try dsimp only at hSw'); (first | (go_simp; done) | (go_simp; with_reducible rfl))⟩
        try simp only [Act.put, List.setIfInBounds_toArray, List.set_cons_zero, List.set_cons_succ]
        refine wpAnyZ_ready (rs := [9]) (by kernel_rfl) (by simp) ?_
        refine AllReadyZ.cons (o := ?oo10) ?hi10 (fun K hK => ?hs10) ?hm10
        case hi10 => (simp only [List.getElem?_toArray, List.getElem?_cons_succ, List.getElem?_cons_zero]; rfl)
        · go_simp
          refine HADD.out.mono ?_
          rintro e w2 ⟨vi2, rfl, hf2, hs2⟩
          have HL2 := Lib.hid (hs2.own HS.out.drew.l (own_other HS.out.drew.l HS.out.drew.f.box (by decide)) (by decide))
          have HBB2 := Lib.hid (HS.out.drew.b.trans hs2.be)
          have HF2 := Lib.hid hf2
          rw [HM.out] at HL2
          obtain ⟨X3, hX3⟩ : ∃ X3, w2.alloc (.cells #[.int .i64 (m : Int)] 3) = X3 := ⟨_, rfl⟩
          have HF3 : Hid (FAt X3 N N vi2 vl (its ++ [(c, (k : Int), -1)])) := Lib.hid (by rw [← hX3]; exact ⟨hf2.hB, by rw [Below.heap_alloc _ _ _ hf2.lt]; exact hf2.box, hf2.own.alloc _⟩)
          have HL3 : Hid (X3.ownsRow N 3 1 vl m (rangeV m)) := Lib.hid (by rw [← hX3]; exact HL2.out.alloc _)
          have HB3 : Hid (Below N w X3) := Lib.hid (by rw [← hX3]; exact HBB2.out.alloc (by have := hf2.lt; omega) _)
          have HSV : Hid (SeesC X3 X3.heap.size (.slice (some ⟨w2.heap.size, 0, none⟩) 1 1) [.int .i64 (m : Int)]) := Lib.hid (by rw [← hX3]; exact sees_valH _ _ _)
          have hNX : N ≤ X3.heap.size := Nat.le_of_lt HF3.out.lt
          have HX3 := Lib.hid hX3
          rw [HM.out]
          clear hf2 hs2 hX3
          (try go_wp2_with fail)
          refine hK.out _ _ ?_ (fun hHeld => ?_)
          · (try dsimp only); first | exact cell_of (i := 1) HB4.out rfl | (rw [HX3.out]; exact cell_of (i := 1) HF3.out.box rfl) | exact cell_of (i := 1) HF2.out.box rfl | exact HB0.out
          clear hK K
          try simp only [Act.put, List.setIfInBounds_toArray, List.set_cons_zero, List.set_cons_succ]
          refine wpAnyZ_ready (rs := [10]) (by kernel_rfl) (by simp) ?_
          refine AllReadyZ.cons (o := ?oo11) ?hi11 (fun K hK => ?hs11) ?hm11
          case hi11 => (simp only [List.getElem?_toArray, List.getElem?_cons_succ, List.getElem?_cons_zero]; rfl)
          · go_simp
            refine hK.out _ _ ?_ (fun hHeld => ?_)
            · (try dsimp only); first | exact cell_of (i := 1) HB4.out rfl | (rw [HX3.out]; exact cell_of (i := 1) HF3.out.box rfl) | exact cell_of (i := 1) HF2.out.box rfl | exact HB0.out
            clear hK K
            try simp only [Act.put, List.setIfInBounds_toArray, List.set_cons_zero, List.set_cons_succ]
            refine wpAnyZ_ready (rs := [11]) (by kernel_rfl) (by simp) ?_
            refine AllReadyZ.cons (o := ?oo12) ?hi12 (fun K hK => ?hs12) ?hm12
            case hi12 => (simp only [List.getElem?_toArray, List.getElem?_cons_succ, List.getElem?_cons_zero]; rfl)
            · rw [HX3.out]
              refine step_append_any rfl (.tmp 21) (.tmp 27) 22 rfl N 3 i0 _ 8 Try.underlying22 hi hz0 hz1 hz2 rfl vl m (rangeV m) rfl HL3.out _ X3.heap.size [.int .i64 (m : Int)] rfl HSV.out (by simp [Value.oneCell']) (by show m + 1 ≤ _; unfold maxLen; omega) (by show (m + 1) * 8 ≤ _; omega) hNX ?_
              intro v' wa ho hg _
              have hp := PAt.leaf (w := w) (x := (c, (k : Int), -1)) HF3.out (by rw [HM.out]; exact HL3.out) HB3.out (by rw [HM.out]; exact ho) hg
              have HB4 := Lib.hid hp.1
              have HP4 := Lib.hid hp.2
              obtain ⟨AH, cH, e9, hcH⟩ := own_formI ho
              subst e9
              have s3 := cell_of (i := 1) HB4.out rfl
              have f3 := frozen_of (i := 1) HB4.out
              clear ho hg hp
              refine hK.out _ _ ?_ (fun hHeld => ?_)
              · (try dsimp only); first | exact cell_of (i := 1) HB4.out rfl | (rw [HX3.out]; exact cell_of (i := 1) HF3.out.box rfl) | exact cell_of (i := 1) HF2.out.box rfl | exact HB0.out
              clear hK K
              try simp only [Act.put, List.setIfInBounds_toArray, List.set_cons_zero, List.set_cons_succ]
              refine wpAnyZ_ready (rs := [12]) (by kernel_rfl) (by simp) ?_
              refine AllReadyZ.cons (o := ?oo13) ?hi13 (fun K hK => ?hs13) ?hm13
              case hi13 => (simp only [List.getElem?_toArray, List.getElem?_cons_succ, List.getElem?_cons_zero]; rfl)
              · go_simp
                refine hK.out _ _ ?_ (fun hHeld => ?_)
                · (try dsimp only); first | exact cell_of (i := 1) HB4.out rfl | (rw [HX3.out]; exact cell_of (i := 1) HF3.out.box rfl) | exact cell_of (i := 1) HF2.out.box rfl | exact HB0.out
                clear hK K
                try simp only [Act.put, List.setIfInBounds_toArray, List.set_cons_zero, List.set_cons_succ]
                refine wpAnyZ_ready (rs := [13]) (by kernel_rfl) (by simp) ?_
                refine AllReadyZ.cons (o := ?oo14) ?hi14 (fun K hK => ?hs14) ?hm14
                case hi14 => (simp only [List.getElem?_toArray, List.getElem?_cons_succ, List.getElem?_cons_zero]; rfl)
                · go_simp
                  refine hK.out _ _ ?_ (fun hHeld => ?_)
                  · (try dsimp only); first | exact cell_of (i := 1) HB4.out rfl | (rw [HX3.out]; exact cell_of (i := 1) HF3.out.box rfl) | exact cell_of (i := 1) HF2.out.box rfl | exact HB0.out
                  clear hK K
                  try simp only [Act.put, List.setIfInBounds_toArray, List.set_cons_zero, List.set_cons_succ]
                  refine wpAnyZ_ready (rs := [14]) (by kernel_rfl) (by simp) ?_
                  refine AllReadyZ.last (o := ?oo15) ?hi15 (fun K hK => ?hs15)
                  case hi15 => (simp only [List.getElem?_toArray, List.getElem?_cons_succ, List.getElem?_cons_zero]; rfl)
                  · go_simp
                    refine hK.out _ _ ?_
                    clear hK K
                    try simp only [Act.put, List.setIfInBounds_toArray, List.set_cons_zero, List.set_cons_succ]
                    refine wpAnyZ_done (by kernel_rfl) ?_ _
                    obtain ⟨W5, hW5⟩ : ∃ W5, wa.setCell ⟨N, 1, none⟩ (.slice AH (m + 1) cH) = W5 := ⟨_, rfl⟩
                    have HW5 : Hid (PAt w N W5 vi2 (.slice AH (m + 1) cH) (lfIt (cs.take (k + 1)) 0)) := Lib.hid (by rw [← hW5, HSTEP.out]; exact HP4.out)
                    rw [hW5]
                    clear hW5 HP4 HB4 s3 f3 hHeld HADD HL2 HBB2 HF2 HF3 HL3 HB3 HSV HX3 HB0 HS HSTEP
                    go_wp2_with fail
                    exact ⟨⟨k + 1, by omega, by go_num, _, _, HW5⟩, by simp only [Go.RowKit.intOf]; omega⟩
                exact AllReadyZ.nil
              exact AllReadyZ.nil
            exact AllReadyZ.nil
          exact AllReadyZ.nil
        exact AllReadyZ.nil
      · rw [if_neg d] at hstep
        have b3 : decide (c > 0) = false := decide_eq_false d
        have HS2 : Hid (PAt w N wr vi vl (lfIt (cs.take (k + 1)) 0)) := Lib.hid (by rw [hstep]; exact HS.out)
        clear hj hcx HS hstep d
        go_wp2_with fail
        exact ⟨⟨k + 1, by omega, by go_num, _, _, HS2⟩, by simp only [Go.RowKit.intOf]; omega⟩
    · obtain rfl : k = n := by omega
      have hlti : ¬ (k : Int) < (k : Int) := by omega
      have htk : cs.take k = cs := List.take_of_length_le (by rw [HCN.out]; exact Nat.le_refl _)
      rw [htk] at HS
      clear htk
      go_wp2_with fail
      go_ret
      exact ⟨_, _, rfl, HS.out⟩
end Go.Proofs.Ytbfnkmibbieijaa
