/-
  WALKS over package huffman: the forest in memory; add.
  WALKS over package huffman: plant.
-/
import Derived.Test.YteennnhinfnahaaHuAq
import Derived.Test.YteennnhinfnahaaTzC
import Derived.Test.YteennnhinfnahaaRgZq
import Derived.Laws.OwnMore
namespace Go.Proofs.Yteennnhinfnahaa
open Go.RowKit Go.Shelf Go.Lib
set_option linter.unusedVariables false
set_option linter.unusedSimpArgs false

theorem Try.infoItem : (Try.prog.info? 79).map (fun i => (i.zero, i.size, i.bytes)) = some (some (.agg #[.int .i64 0, .int .i64 0, .int .i64 0]), 3, 24) := by kernel_rfl
/-- An item: its weight, its first and its second number. -/
abbrev It := Int × Int × Int
def itV (x : It) : List Value := [.int .i64 x.1, .int .i64 x.2.1, .int .i64 x.2.2]
theorem itV_len (x : It) : (itV x).length = 3 := rfl
/-- append of one item to a row of the call's own, at a step of a drawn region. -/
theorem step_pushIt {w : World} {ops : Array Oper} {o : Oper} {a : Act} {K : Act → World → Prop} {Q : Exit → Act → World → Prop} {E : Prop} (hgd : o.guard = none) (s x : Operand)
    (ho : o.op = .call { callee := .builtin .append, args := #[s, x], argTypes := #[46, 46] })
    (base : Nat) (v : Value) (n : Nat) (l : List Value) (p1 p2 p3 : Int) (hs : a.eval s = v) (hx : a.eval x = .slice (some ⟨w.heap.size, 0, none⟩) 1 1)
    (hown : w.ownsRow base 79 3 v n l) (hn : n ≤ 1000000) (hbase : base ≤ w.heap.size)
    (h : ∀ v' w', Hid (w'.ownsRow base 79 3 v' (n + 1) (l ++ [.int .i64 p1, .int .i64 p2, .int .i64 p3])) → Hid ((w.alloc (.cells #[.int .i64 p1, .int .i64 p2, .int .i64 p3] 79)).grownBy w' v.ownBlock) → K (a.put o.dst v') w') :
    if Region.wanted o (yielded ops a.tmps) = true then Oper.wp Try.prog o a (w.alloc (.cells #[.int .i64 p1, .int .i64 p2, .int .i64 p3] 79)) K Q else E := by
  obtain ⟨i0, hi, hz0, hz1, hz2⟩ := info_parts' Try.infoItem
  have hw : Region.wanted o (yielded ops a.tmps) = true := by simp [Region.wanted, hgd]
  rw [if_pos hw]
  exact wp_append_own _ s x 46 ho base 79 i0 _ 3 24 Try.underlying46 hi hz0 hz1 hz2 rfl (by decide) v n _ hs (hown.alloc _) ⟨w.heap.size, 0, none⟩ 1 1 [.int .i64 p1, .int .i64 p2, .int .i64 p3] hx rfl (news_at w [.int .i64 p1, .int .i64 p2, .int .i64 p3] 79) (by simp [Value.oneCell']) (by unfold maxLen; omega) (by omega) (by simp; omega) fun v' w' h2 h3 _ => h v' w' (Lib.hid h2) (Lib.hid h3)
theorem sees_valH (w : World) (v : Value) (t : TypeId) : SeesC (w.alloc (.cells #[v] t)) (w.alloc (.cells #[v] t)).heap.size (.slice (some ⟨w.heap.size, 0, none⟩) 1 1) [v] := by
  refine .inr ⟨_, 1, rfl, Nat.le_refl _, fun _ => by simp, fun j u hu => ?_⟩
  exact news_at w [v] t j u hu
theorem own_formI {w : World} {base n : Nat} {T : TypeId} {sz : Nat} {v : Value} {xs : List Value} (h : w.ownsRow base T sz v n xs) : ∃ A cap, v = .slice A n cap ∧ n ≤ cap := by
  rcases h.2 with ⟨rfl, rfl⟩ | ⟨g, cap, cur, rfl, hb, hh, hc, _⟩
  · exact ⟨none, 0, rfl, Nat.le_refl _⟩
  · exact ⟨_, cap, rfl, hc⟩
theorem grown_drewZ (w : World) (r : Option Nat) : w.grownBy w.drew r := ⟨rfl, rfl, rfl, Nat.le_refl _, fun _ _ _ => rfl⟩
theorem grown_transZ {a b c : World} {r : Option Nat} (h : a.grownBy b r) (k : b.grownBy c r) : a.grownBy c r :=
  ⟨k.os.trans h.os, k.tape.trans h.tape, k.output.trans h.output, Nat.le_trans h.size k.size, fun i hi hne => (k.block i (Nat.lt_of_lt_of_le hi h.size) hne).trans (h.block i hi hne)⟩
theorem grown_allocZ {a b : World} {r : Option Nat} (h : a.grownBy b r) (o : Obj) : a.grownBy (b.alloc o) r := grown_transZ h (World.grownBy_alloc b o r)
theorem own_drewZ {w : World} {base : Nat} {e : TypeId} {size n : Nat} {v : Value} {xs : List Value} (h : w.ownsRow base e size v n xs) : w.drew.ownsRow base e size v n xs := h
/-- A forest in memory. -/
structure FAt (w : World) (B F : Nat) (vi vl : Value) (its : List It) : Prop where
  hB : B ≤ F
  box : w.heap[F]? = some (.cells #[vi, vl] 48 (0, 0))
  own : w.ownsRow B 79 3 vi its.length (its.flatMap itV)
theorem FAt.lt {w : World} {B F : Nat} {vi vl : Value} {its : List It} (h : FAt w B F vi vl its) : F < w.heap.size := (Array.getElem?_eq_some_iff.1 h.box).1
/-- Two blocks of other types are two. -/
theorem own_other {w : World} {B : Nat} {T T' : TypeId} {sz n g : Nat} {v : Value} {xs : List Value} {cs : Array Value} {f : Nat × Nat} (h : w.ownsRow B T sz v n xs) (hb : w.heap[g]? = some (.cells cs T' f)) (hT : T ≠ T') : v.ownBlock ≠ some g := by
  intro e
  rcases h.2 with ⟨rfl, _⟩ | ⟨g', cap, cur, rfl, _, hh, _⟩
  · simp [Value.ownBlock] at e
  · simp only [Value.ownBlock, Option.some.injEq] at e
    subst e
    rw [hb] at hh
    injection hh with hh
    injection hh with _ ht
    exact hT ht.symm
theorem FAt.ne {w : World} {B F : Nat} {vi vl : Value} {its : List It} (h : FAt w B F vi vl its) : vi.ownBlock ≠ some F := own_other h.own h.box (by decide)
/-- What a forest's functions may touch: its box, and rows of items from B on. -/
def itemB (o : Obj) : Prop := ∃ cs f, o = .cells cs 79 f
structure FStep (B F : Nat) (w w' : World) : Prop where
  be : Below B w w'
  keep : ∀ k o, w.heap[k]? = some o → k ≠ F → ¬ itemB o → w'.heap[k]? = some o
theorem FStep.refl (B F : Nat) (w : World) : FStep B F w w := ⟨Below.refl _ _, fun _ _ h _ _ => h⟩
theorem FStep.trans {B F : Nat} {a b c : World} (h : FStep B F a b) (k : FStep B F b c) : FStep B F a c := ⟨h.be.trans k.be, fun i o h1 h2 h3 => k.keep i o (h.keep i o h1 h2 h3) h2 h3⟩
theorem FStep.drew {B F : Nat} {w w' : World} (h : FStep B F w w') : FStep B F w w'.drew := ⟨h.be.drew, h.keep⟩
theorem FStep.drewN {B F : Nat} {w w' : World} (h : FStep B F w w') (q : Nat) : FStep B F w (w'.drewN q) := ⟨below_drewN h.be q, h.keep⟩
theorem heap_lt {w : World} {k : Nat} {o : Obj} (h : w.heap[k]? = some o) : k < w.heap.size := (Array.getElem?_eq_some_iff.1 h).1
theorem FStep.alloc {B F : Nat} {w w' : World} (h : FStep B F w w') (hB : B ≤ w'.heap.size) (o : Obj) : FStep B F w (w'.alloc o) :=
  ⟨h.be.alloc hB o, fun k o' h1 h2 h3 => by rw [Below.heap_alloc _ _ _ (heap_lt (h.keep k o' h1 h2 h3))]; exact h.keep k o' h1 h2 h3⟩
theorem FStep.grown {B F n sz : Nat} {w w' wa : World} {v : Value} {xs : List Value} (h : FStep B F w w') (ho : w'.ownsRow B 79 sz v n xs) (hB : B ≤ w'.heap.size) (hg : w'.grownBy wa v.ownBlock) : FStep B F w wa :=
  ⟨h.be.grown hg hB (fun k e => (own_low ho k e).1), fun k o h1 h2 h3 => by
    have hk := h.keep k o h1 h2 h3
    rw [hg.block k (heap_lt hk) (fun e => by
      rcases ho.2 with ⟨rfl, _⟩ | ⟨g', cap, cur, rfl, _, hh, _⟩
      · simp [Value.ownBlock] at e
      · simp only [Value.ownBlock, Option.some.injEq] at e
        subst e
        rw [hk] at hh
        injection hh with hh
        exact h3 ⟨_, _, hh⟩)]
    exact hk⟩
theorem FStep.set {B F i : Nat} {w w' : World} (h : FStep B F w w') (hB : B ≤ F) (u : Value) : FStep B F w (w'.setCell ⟨F, i, none⟩ u) :=
  ⟨h.be.setCell (p := ⟨F, i, none⟩) hB u, fun k o h1 h2 h3 => by rw [Below.heap_setCell _ _ _ _ h2]; exact h.keep k o h1 h2 h3⟩
/-- A row of another type stays. -/
theorem FStep.own {B F M sz n : Nat} {T : TypeId} {w w' : World} {v : Value} {xs : List Value} (h : FStep B F w w') (ho : w.ownsRow M T sz v n xs) (hne : v.ownBlock ≠ some F) (hT : T ≠ 79) : w'.ownsRow M T sz v n xs := by
  refine ⟨ho.1, ?_⟩
  rcases ho.2 with h0 | ⟨g, cap, cur, rfl, hb, hh, rest⟩
  · exact .inl h0
  · refine .inr ⟨g, cap, cur, rfl, hb, h.keep g _ hh (fun e => hne (by rw [e]; rfl)) (fun ⟨cs, f, e⟩ => ?_), rest⟩
    injection e with _ ht
    exact hT ht
theorem FAt.set {w : World} {B F : Nat} {vi vl : Value} {its : List It} (h : FAt w B F vi vl its) {wa : World} {v' : Value} {x : It} (hb : wa.heap[F]? = some (.cells #[vi, vl] 48 (0, 0))) (ho : wa.ownsRow B 79 3 v' (its.length + 1) (its.flatMap itV ++ itV x)) :
    FAt (wa.setCell ⟨F, 0, none⟩ v') B F v' vl (its ++ [x]) := by
  refine ⟨h.hB, by have := set_of (i := 0) hb v'; simpa using this, ?_⟩
  have hne := own_other ho hb (by decide)
  rw [List.length_append, List.flatMap_append, List.flatMap_singleton]
  exact own_below ho fun k hk => Below.heap_setCell _ _ _ _ (fun e => hne (by have e' : k = F := e; rw [← e']; exact hk))
def AddV (w : World) (B F : Nat) (vl : Value) (its : List It) (x : It) (e : Ending) (w' : World) : Prop :=
  ∃ vi', e = .returned (.int .i64 its.length) ∧ FAt w' B F vi' vl (its ++ [x]) ∧ FStep B F w w'

set_option maxRecDepth 100000 in
set_option maxHeartbeats 8000000 in
theorem add_any {w : World} {B F : Nat} {vi vl : Value} {its : List It} (h : FAt w B F vi vl its) (hl : its.length ≤ 1000000) (x y z : Int) :
    Calls Try.prog 34 #[.pointer (some ⟨F, 0, none⟩), .agg #[.int .i64 x, .int .i64 y, .int .i64 z]] w (AddV w B F vl its (x, y, z)) := by
  obtain ⟨N, hN⟩ : ∃ N, w.heap.size = N := ⟨_, rfl⟩
  obtain ⟨X, hX⟩ : ∃ X, w.alloc (.cells #[.int .i64 x, .int .i64 y, .int .i64 z] 79) = X := ⟨_, rfl⟩
  have hbN : X.heap[N]? = some (.cells #[.int .i64 x, .int .i64 y, .int .i64 z] 79 (0, 0)) := by rw [← hX, ← hN]; exact block_new _ _
  have hFN : F < N := by rw [← hN]; exact h.lt
  have hbF : X.heap[F]? = some (.cells #[vi, vl] 48 (0, 0)) := by rw [← hX, Below.heap_alloc _ _ _ (by rw [hN]; exact hFN)]; exact h.box
  have hoX : X.ownsRow B 79 3 vi its.length (its.flatMap itV) := by rw [← hX]; exact h.own.alloc _
  have hXs : X.heap.size = N + 1 := by rw [← hX, alloc_sz, hN]
  have hBX : B ≤ X.heap.size := by have := h.hB; omega
  obtain ⟨n, hn⟩ : ∃ n, its.length = n := ⟨_, rfl⟩
  obtain ⟨l, hll⟩ : ∃ l, its.flatMap itV = l := ⟨_, rfl⟩
  have HO := Lib.hid hoX
  rw [hn, hll] at HO
  have hviN : vi.ownBlock ≠ some N := fun e => by
    have := (own_low h.own N e).2
    omega
  have HXW : Hid (FStep B F w X) := Lib.hid (by rw [← hX]; exact (FStep.refl B F w).alloc (by have := h.hB; have := h.lt; omega) _)
  -- what stays while only the row of items grows
  have HKB := Lib.hid (show ∀ W, X.grownBy W vi.ownBlock → W.heap[F]? = some (.cells #[vi, vl] 48 (0, 0)) ∧ W.heap[N]? = some (.cells #[.int .i64 x, .int .i64 y, .int .i64 z] 79 (0, 0)) from fun W hg => by
    refine ⟨?_, ?_⟩
    · rw [hg.block F (by omega) (fun e => h.ne e.symm)]; exact hbF
    · rw [hg.block N (by omega) (fun e => hviN e.symm)]; exact hbN)
  have HK := Lib.hid (show ∀ W, X.grownBy W vi.ownBlock → (W.cell? ⟨F, 0, none⟩ = some vi ∧ W.cell? ⟨N, 0, none⟩ = some (.int .i64 x) ∧ W.cell? ⟨N, 1, none⟩ = some (.int .i64 y) ∧ W.cell? ⟨N, 2, none⟩ = some (.int .i64 z)) from fun W hg =>
    ⟨cell_of (HKB.out W hg).1 rfl, cell_of (HKB.out W hg).2 rfl, cell_of (HKB.out W hg).2 rfl, cell_of (HKB.out W hg).2 rfl⟩)
  have HF := Lib.hid (show ∀ W, X.grownBy W vi.ownBlock → W.frozen? ⟨F, 0, none⟩ = false from fun W hg => frozen_of (HKB.out W hg).1)
  have HEND := Lib.hid (show ∀ (wa : World) (v' : Value), wa.ownsRow B 79 3 v' (n + 1) (l ++ [.int .i64 x, .int .i64 y, .int .i64 z]) → X.grownBy wa vi.ownBlock → FAt (wa.setCell ⟨F, 0, none⟩ v') B F v' vl (its ++ [(x, y, z)]) ∧ FStep B F w (wa.setCell ⟨F, 0, none⟩ v') from fun wa v' ho hg => by
    refine ⟨h.set (HKB.out wa hg).1 (by rw [hn, hll]; exact ho), ?_⟩
    exact (HXW.out.trans ((FStep.refl B F X).grown HO.out hBX hg)).set h.hB v')
  have hn1 : n ≤ 1000000 := by rw [← hn]; exact hl
  have hBX' : B ≤ X.drew.heap.size := hBX
  have hw1 : ((n + 1 : Nat) : Int) = (n : Int) + 1 := by omega
  have HX := Lib.hid hX
  have HN := Lib.hid hN
  have HNN := Lib.hid hn
  clear hX hN hbN hFN hbF hoX hXs hll hviN h hl hn
  go_enter Try.func34, Try.ntmps34
  go_wp2_with fail
  rw [HX.out, HN.out]
  refine wp_region_Z (z := 10) (S := (fun w' => w'.cell? ⟨F, 0, none⟩ = some vi ∧ w'.cell? ⟨N, 0, none⟩ = some (.int .i64 x) ∧ w'.cell? ⟨N, 1, none⟩ = some (.int .i64 y) ∧ w'.cell? ⟨N, 2, none⟩ = some (.int .i64 z))) (by kernel_rfl) ?_ (fun hHeld => ?_)
  · (try dsimp only); exact HK.out _ (grown_drewZ X _)
  refine wpAnyZ_take (i := 0) (oi := ?oi1) (v := ?v1) ?hi1 (by kernel_rfl) (by kernel_rfl) (by kernel_rfl) (by kernel_rfl) ?hq1 ?hy1 (by assumption) ?hr1
  case hi1 => (simp only [List.getElem?_toArray, List.getElem?_cons_zero]; rfl)
  case hq1 => exact fun _ _ _ h => h
  case hy1 => exact Or.inl ⟨by rfl, by intro whSw hSw'; (try dsimp only at hSw'); (first | (go_simp; done) | (go_simp; with_reducible rfl))⟩
  try simp only [Act.put, List.setIfInBounds_toArray, List.set_cons_zero, List.set_cons_succ]
  refine wpAnyZ_take (i := 1) (oi := ?oi2) (v := ?v2) ?hi2 (by kernel_rfl) (by kernel_rfl) (by kernel_rfl) (by kernel_rfl) ?hq2 ?hy2 (by assumption) ?hr2
  case hi2 => (simp only [List.getElem?_toArray, List.getElem?_cons_succ, List.getElem?_cons_zero]; rfl)
  case hq2 => exact fun _ _ _ h => h
  case hy2 => exact Or.inl ⟨by rfl, by intro whSw hSw'; (try dsimp only at hSw'); (first | (go_simp; done) | (go_simp; with_reducible rfl))⟩
  try simp only [Act.put, List.setIfInBounds_toArray, List.set_cons_zero, List.set_cons_succ]
  refine wpAnyZ_take (i := 2) (oi := ?oi3) (v := ?v3) ?hi3 (by kernel_rfl) (by kernel_rfl) (by kernel_rfl) (by kernel_rfl) ?hq3 ?hy3 (by assumption) ?hr3
  case hi3 => (simp only [List.getElem?_toArray, List.getElem?_cons_succ, List.getElem?_cons_zero]; rfl)
  case hq3 => exact fun _ _ _ h => h
  case hy3 => exact Or.inl ⟨by rfl, by intro whSw hSw'; (try dsimp only at hSw'); (first | (go_simp; done) | (go_simp; with_reducible rfl))⟩
  try simp only [Act.put, List.setIfInBounds_toArray, List.set_cons_zero, List.set_cons_succ]
  refine wpAnyZ_take (i := 3) (oi := ?oi4) (v := ?v4) ?hi4 (by kernel_rfl) (by kernel_rfl) (by kernel_rfl) (by kernel_rfl) ?hq4 ?hy4 (by assumption) ?hr4
  case hi4 => (simp only [List.getElem?_toArray, List.getElem?_cons_succ, List.getElem?_cons_zero]; rfl)
  case hq4 => exact fun _ _ _ h => h
  case hy4 => exact Or.inl ⟨by rfl, by intro whSw hSw'; (try dsimp only at hSw'); (first | (go_simp; done) | (go_simp; with_reducible rfl))⟩
  try simp only [Act.put, List.setIfInBounds_toArray, List.set_cons_zero, List.set_cons_succ]
  refine wpAnyZ_take (i := 4) (oi := ?oi5) (v := ?v5) ?hi5 (by kernel_rfl) (by kernel_rfl) (by kernel_rfl) (by kernel_rfl) ?hq5 ?hy5 (by assumption) ?hr5
  case hi5 => (simp only [List.getElem?_toArray, List.getElem?_cons_succ, List.getElem?_cons_zero]; rfl)
  case hq5 => exact fun _ _ _ h => h
  case hy5 => exact Or.inl ⟨by rfl, by intro whSw hSw'; (try dsimp only at hSw'); (first | (go_simp; done) | (go_simp; with_reducible rfl))⟩
  try simp only [Act.put, List.setIfInBounds_toArray, List.set_cons_zero, List.set_cons_succ]
  refine wpAnyZ_take (i := 5) (oi := ?oi6) (v := ?v6) ?hi6 (by kernel_rfl) (by kernel_rfl) (by kernel_rfl) (by kernel_rfl) ?hq6 ?hy6 (by assumption) ?hr6
  case hi6 => (simp only [List.getElem?_toArray, List.getElem?_cons_succ, List.getElem?_cons_zero]; rfl)
  case hq6 => exact fun _ _ _ h => h
  case hy6 => exact Or.inl ⟨by rfl, by intro whSw hSw'; (try dsimp only at hSw'); (first | (go_simp; done) | (go_simp; with_reducible rfl))⟩
  try simp only [Act.put, List.setIfInBounds_toArray, List.set_cons_zero, List.set_cons_succ]
  refine wpAnyZ_ready (rs := [6]) (by kernel_rfl) (by simp) ?_
  refine AllReadyZ.cons (o := ?oo7) ?hi7 (fun K hK => ?hs7) ?hm7
  case hi7 => (simp only [List.getElem?_toArray, List.getElem?_cons_succ, List.getElem?_cons_zero]; rfl)
  · go_simp
    refine hK.out _ _ ?_ (fun hHeld => ?_)
    · (try dsimp only); first | exact HK.out _ HZ1.out | exact HK.out _ (grown_allocZ (grown_drewZ X _) _) | exact HK.out _ (grown_drewZ X _)
    clear hK K
    try simp only [Act.put, List.setIfInBounds_toArray, List.set_cons_zero, List.set_cons_succ]
    refine wpAnyZ_ready (rs := [7]) (by kernel_rfl) (by simp) ?_
    refine AllReadyZ.cons (o := ?oo8) ?hi8 (fun K hK => ?hs8) ?hm8
    case hi8 => (simp only [List.getElem?_toArray, List.getElem?_cons_succ, List.getElem?_cons_zero]; rfl)
    · refine step_pushIt rfl (.tmp 9) (.tmp 11) rfl B vi n l x y z rfl rfl (own_drewZ HO.out) hn1 hBX' ?_
      intro v' wa ho hg
      have HO1 := ho
      have HZ1 : Hid (X.grownBy wa vi.ownBlock) := Lib.hid (grown_transZ (grown_allocZ (grown_drewZ X _) _) hg.out)
      obtain ⟨AH, cH, e9, hcH⟩ := own_formI ho.out
      subst e9
      have s3 := (HK.out wa HZ1.out).1
      have f3 := HF.out wa HZ1.out
      clear ho hg
      refine hK.out _ _ ?_ (fun hHeld => ?_)
      · (try dsimp only); first | exact HK.out _ HZ1.out | exact HK.out _ (grown_allocZ (grown_drewZ X _) _) | exact HK.out _ (grown_drewZ X _)
      clear hK K
      try simp only [Act.put, List.setIfInBounds_toArray, List.set_cons_zero, List.set_cons_succ]
      refine wpAnyZ_ready (rs := [8]) (by kernel_rfl) (by simp) ?_
      refine AllReadyZ.cons (o := ?oo9) ?hi9 (fun K hK => ?hs9) ?hm9
      case hi9 => (simp only [List.getElem?_toArray, List.getElem?_cons_succ, List.getElem?_cons_zero]; rfl)
      · go_simp
        refine hK.out _ _ ?_ (fun hHeld => ?_)
        · (try dsimp only); first | exact HK.out _ HZ1.out | exact HK.out _ (grown_allocZ (grown_drewZ X _) _) | exact HK.out _ (grown_drewZ X _)
        clear hK K
        try simp only [Act.put, List.setIfInBounds_toArray, List.set_cons_zero, List.set_cons_succ]
        refine wpAnyZ_ready (rs := [9]) (by kernel_rfl) (by simp) ?_
        refine AllReadyZ.cons (o := ?oo10) ?hi10 (fun K hK => ?hs10) ?hm10
        case hi10 => (simp only [List.getElem?_toArray, List.getElem?_cons_succ, List.getElem?_cons_zero]; rfl)
        · go_simp
          refine hK.out _ _ ?_ (fun hHeld => ?_)
          · (try dsimp only); first | exact HK.out _ HZ1.out | exact HK.out _ (grown_allocZ (grown_drewZ X _) _) | exact HK.out _ (grown_drewZ X _)
          clear hK K
          try simp only [Act.put, List.setIfInBounds_toArray, List.set_cons_zero, List.set_cons_succ]
          refine wpAnyZ_ready (rs := [10]) (by kernel_rfl) (by simp) ?_
          refine AllReadyZ.last (o := ?oo11) ?hi11 (fun K hK => ?hs11)
          case hi11 => (simp only [List.getElem?_toArray, List.getElem?_cons_succ, List.getElem?_cons_zero]; rfl)
          · go_simp
            refine hK.out _ _ ?_
            clear hK K
            try simp only [Act.put, List.setIfInBounds_toArray, List.set_cons_zero, List.set_cons_succ]
            refine wpAnyZ_done (by kernel_rfl) ?_ _
            obtain ⟨W5, hW5⟩ : ∃ W5, wa.setCell ⟨F, 0, none⟩ (.slice AH (n + 1) cH) = W5 := ⟨_, rfl⟩
            have HW5 := Lib.hid (HEND.out wa _ HO1.out HZ1.out)
            rw [hW5] at HW5
            have c5 := cell_of (i := 0) HW5.out.1.box rfl
            rw [hW5]
            clear hW5 HO1 HZ1 s3 f3 hHeld HK HF HO HEND HKB HXW
            go_wp2_with fail
            go_ret
            exact ⟨_, by rw [HNN.out]; rfl, HW5.out.1, HW5.out.2⟩
        exact AllReadyZ.nil
      exact AllReadyZ.nil
    exact AllReadyZ.nil
  exact AllReadyZ.nil
end Go.Proofs.Yteennnhinfnahaa
namespace Go.Proofs.Yteennnhinfnahaa
open Go.RowKit Go.Shelf Go.Lib
set_option linter.unusedVariables false
set_option linter.unusedSimpArgs false

/-- The leaves of counts. -/
def lfIt : List Int → Nat → List It
  | [], _ => []
  | c :: l, s => if 0 < c then (c, (s : Int), -1) :: lfIt l (s + 1) else lfIt l (s + 1)
theorem lfIt_snoc : ∀ (l : List Int) (c : Int) (s : Nat), lfIt (l ++ [c]) s = if 0 < c then lfIt l s ++ [(c, ((s + l.length : Nat) : Int), -1)] else lfIt l s
  | [], c, s => by
    by_cases h : 0 < c
    · simp [lfIt, h]
    · simp [lfIt, h]
  | a :: l, c, s => by
    have e : ∀ q : List Int, lfIt (a :: q) s = if 0 < a then (a, (s : Int), -1) :: lfIt q (s + 1) else lfIt q (s + 1) := fun _ => rfl
    rw [List.cons_append, e, e, lfIt_snoc l c (s + 1), List.length_cons, show s + 1 + l.length = s + (l.length + 1) by omega]
    by_cases h : 0 < c
    · rw [if_pos h, if_pos h]; split <;> rfl
    · rw [if_neg h, if_neg h]
theorem lfIt_step {cs : List Int} {k : Nat} {c : Int} (h : cs[k]? = some c) : lfIt (cs.take (k + 1)) 0 = if 0 < c then lfIt (cs.take k) 0 ++ [(c, (k : Int), -1)] else lfIt (cs.take k) 0 := by
  have hk : k ≤ cs.length := Nat.le_of_lt (List.getElem?_eq_some_iff.1 h).1
  rw [List.take_add_one, h, Option.toList_some, lfIt_snoc, List.length_take, Nat.min_eq_left hk, Nat.zero_add]
theorem lfIt_len : ∀ (l : List Int) (s : Nat), (lfIt l s).length ≤ l.length
  | [], _ => Nat.le_refl _
  | c :: l, s => by
    have := lfIt_len l (s + 1)
    unfold lfIt
    split <;> simp <;> omega
def rangeV (n : Nat) : List Value := (List.range n).map fun (j : Nat) => Value.int .i64 (j : Int)
theorem rangeV_succ (n : Nat) : rangeV (n + 1) = rangeV n ++ [.int .i64 (n : Int)] := by simp [rangeV, List.range_succ]
/-- The forest while it is planted. -/
structure PAt (w : World) (N : Nat) (w' : World) (vi vl : Value) (its : List It) : Prop where
  f : FAt w' N N vi vl its
  l : w'.ownsRow N 3 1 vl its.length (rangeV its.length)
  b : Below N w w'
theorem PAt.drew {w w' : World} {N : Nat} {vi vl : Value} {its : List It} (h : PAt w N w' vi vl its) : PAt w N w'.drew vi vl its := ⟨⟨h.f.hB, h.f.box, h.f.own⟩, h.l, h.b.drew⟩
theorem PAt.sz {w w' : World} {N : Nat} {vi vl : Value} {its : List It} (h : PAt w N w' vi vl its) : N + 1 ≤ w'.heap.size := h.f.lt
def PlantV (w : World) (N : Nat) (cs : List Int) (e : Ending) (w' : World) : Prop :=
  ∃ vi vl, e = .returned (.pointer (some ⟨N, 0, none⟩)) ∧ PAt w N w' vi vl (lfIt cs 0)
/-- Behind an append to the leaves. -/
theorem PAt.leaf {w W wa : World} {N : Nat} {vi vl vl' : Value} {its : List It} {x : It} (hf : FAt W N N vi vl (its ++ [x])) (hl : W.ownsRow N 3 1 vl its.length (rangeV its.length)) (hb : Below N w W)
    (ho : wa.ownsRow N 3 1 vl' (its.length + 1) (rangeV its.length ++ [.int .i64 (its.length : Int)])) (hg : W.grownBy wa vl.ownBlock) :
    wa.heap[N]? = some (.cells #[vi, vl] 48 (0, 0)) ∧ PAt w N (wa.setCell ⟨N, 1, none⟩ vl') vi vl' (its ++ [x]) := by
  have hN := hf.lt
  have hne : vl.ownBlock ≠ some N := own_other hl hf.box (by decide)
  have hbox : wa.heap[N]? = some (.cells #[vi, vl] 48 (0, 0)) := by
    rw [hg.block N hN (fun e => hne e.symm)]; exact hf.box
  have hset : ∀ j, j ≠ N → (wa.setCell ⟨N, 1, none⟩ vl').heap[j]? = wa.heap[j]? := fun j hj => Below.heap_setCell _ _ _ _ hj
  have howa : wa.ownsRow N 79 3 vi (its ++ [x]).length ((its ++ [x]).flatMap itV) := by
    refine own_below hf.own fun k hk => hg.block k (own_low hf.own k hk).2 (fun e => ?_)
    obtain ⟨cs, hcs⟩ : ∃ cs, W.heap[k]? = some (.cells cs 79 (0, 0)) := by
      rcases hf.own.2 with ⟨rfl, _⟩ | ⟨g, cap, cur, rfl, _, hh, _⟩
      · simp [Value.ownBlock] at hk
      · simp only [Value.ownBlock, Option.some.injEq] at hk
        subst hk
        exact ⟨_, hh⟩
    exact own_other hl hcs (by decide) e.symm
  refine ⟨hbox, ⟨hf.hB, by have := set_of (i := 1) hbox vl'; simpa using this, own_below howa fun k hk => hset k (fun e => by subst e; exact own_other howa hbox (by decide) hk)⟩, ?_, (hb.grown hg (by omega) (fun k e => (own_low hl k e).1)).setCell (p := ⟨N, 1, none⟩) (Nat.le_refl _) _⟩
  rw [List.length_append, List.length_singleton, rangeV_succ]
  exact own_below ho fun k hk => hset k (fun e => by subst e; exact own_other ho hbox (by decide) hk)

set_option maxRecDepth 100000 in
set_option maxHeartbeats 8000000 in
theorem plant_any {w : World} {v : Value} {cs : List Int} (hv : Rows 1 EInt w v cs) (hlen : cs.length ≤ 4096) :
    Calls Try.prog 16 #[v] w (PlantV w w.heap.size cs) := by
  obtain ⟨N, hN⟩ : ∃ N, w.heap.size = N := ⟨_, rfl⟩
  have HV := Lib.hid (fun W (hb : Below N w W) => hv.below stays_int (hN ▸ hb))
  obtain ⟨A, cap, rfl, hc⟩ := hv.form
  obtain ⟨n, hn⟩ : ∃ n, cs.length = n := ⟨_, rfl⟩
  rw [hn] at HV hc hlen ⊢
  have HCN := Lib.hid hn
  obtain ⟨X, hX⟩ : ∃ X, w.alloc (.cells #[.slice none 0 0, .slice none 0 0] 48) = X := ⟨_, rfl⟩
  have hst0 : PAt w N X (.slice none 0 0) (.slice none 0 0) (lfIt (cs.take 0) 0) := by
    refine ⟨⟨Nat.le_refl _, ?_, World.ownsRow_nil _ _ _ 3⟩, World.ownsRow_nil _ _ _ 1, ?_⟩
    · rw [← hX, ← hN]; exact block_new _ _
    · rw [← hX, ← hN]; exact below_box _ _
  have HST0 := Lib.hid hst0
  have HX := Lib.hid hX
  have HN := Lib.hid hN
  rw [hN]
  obtain ⟨i0, hi, hz0, hz1, hz2⟩ := info_parts' Try.infoInt2
  clear hst0 hX hN hv hn hc
  go_enter Try.func16, Try.ntmps16
  go_wp2_with fail
  rw [HX.out, HN.out]
  go_loopw [10] (fun sv wr => ∃ k : Nat, k ≤ n ∧ sv = .int .i64 k ∧ ∃ vi vl, Hid (PAt w N wr vi vl (lfIt (cs.take k) 0))) (fun sv _ => n - (Go.RowKit.intOf sv).toNat)
  case atStart => exact ⟨0, Nat.zero_le _, rfl, _, _, HST0⟩
  case round =>
    clear HST0 HX
    obtain ⟨k, hk, rfl, vi, vl, HS⟩ := hrel
    by_cases hlt : k < n
    · have hlti : (k : Int) < (n : Int) := by omega
      obtain ⟨c, hcx⟩ : ∃ c, cs[k]? = some c := ⟨_, List.getElem?_eq_getElem (by rw [HCN.out]; exact hlt)⟩
      obtain ⟨b, o, rfl, -, hj⟩ := at_int (HV.out wr HS.out.b) (by rw [HCN.out]; omega)
      have u0 := hj k c hcx
      have hstep := lfIt_step hcx
      by_cases d : 0 < c
      · rw [if_pos d] at hstep
        have b3 : decide (c > 0) = true := decide_eq_true d
        have hml : (lfIt (cs.take k) 0).length ≤ 4096 := by
          have := lfIt_len (cs.take k) 0
          rw [List.length_take] at this; omega
        obtain ⟨its, hits⟩ : ∃ its, lfIt (cs.take k) 0 = its := ⟨_, rfl⟩
        rw [hits] at HS hml hstep
        have HSTEP := Lib.hid hstep
        have HADD := Lib.hid (add_any (w := wr.drew) HS.out.drew.f (by omega) c (k : Int) (-1))
        obtain ⟨m, hm⟩ : ∃ m, its.length = m := ⟨_, rfl⟩
        have HM := Lib.hid hm
        have HB0 := Lib.hid (show wr.drew.cell? ⟨N, 1, none⟩ = some vl from cell_of (i := 1) HS.out.drew.f.box rfl)
        rw [hm] at hml
        clear hj hcx hstep hits d hm
        go_wp2_with fail
        refine wp_region_Z (z := 14) (S := (fun w' => w'.cell? ⟨N, 1, none⟩ = some vl)) (by kernel_rfl) ?_ (fun hHeld => ?_)
        · (try dsimp only); exact HB0.out
        refine wpAnyZ_take (i := 0) (oi := ?oi1) (v := ?v1) ?hi1 (by kernel_rfl) (by kernel_rfl) (by kernel_rfl) (by kernel_rfl) ?hq1 ?hy1 (by assumption) ?hr1
        case hi1 => (simp only [List.getElem?_toArray, List.getElem?_cons_zero]; rfl)
        case hq1 => exact fun _ _ _ h => h
        case hy1 => exact Or.inl ⟨by rfl, by intro whSw hSw'; (try dsimp only at hSw'); (first | (go_simp; done) | (go_simp; with_reducible rfl))⟩
        try simp only [Act.put, List.setIfInBounds_toArray, List.set_cons_zero, List.set_cons_succ]
        refine wpAnyZ_take (i := 1) (oi := ?oi2) (v := ?v2) ?hi2 (by kernel_rfl) (by kernel_rfl) (by kernel_rfl) (by kernel_rfl) ?hq2 ?hy2 (by assumption) ?hr2
        case hi2 => (simp only [List.getElem?_toArray, List.getElem?_cons_succ, List.getElem?_cons_zero]; rfl)
        case hq2 => exact fun _ _ _ h => h
        case hy2 => exact Or.inl ⟨by rfl, by intro whSw hSw'; (try dsimp only at hSw'); (first | (go_simp; done) | (go_simp; with_reducible rfl))⟩
        try simp only [Act.put, List.setIfInBounds_toArray, List.set_cons_zero, List.set_cons_succ]
        refine wpAnyZ_take (i := 2) (oi := ?oi3) (v := ?v3) ?hi3 (by kernel_rfl) (by kernel_rfl) (by kernel_rfl) (by kernel_rfl) ?hq3 ?hy3 (by assumption) ?hr3
        case hi3 => (simp only [List.getElem?_toArray, List.getElem?_cons_succ, List.getElem?_cons_zero]; rfl)
        case hq3 => exact fun _ _ _ h => h
        case hy3 => exact Or.inl ⟨by rfl, by intro whSw hSw'; (try dsimp only at hSw'); (first | (go_simp; done) | (go_simp; with_reducible rfl))⟩
        try simp only [Act.put, List.setIfInBounds_toArray, List.set_cons_zero, List.set_cons_succ]
        refine wpAnyZ_take (i := 3) (oi := ?oi4) (v := ?v4) ?hi4 (by kernel_rfl) (by kernel_rfl) (by kernel_rfl) (by kernel_rfl) ?hq4 ?hy4 (by assumption) ?hr4
        case hi4 => (simp only [List.getElem?_toArray, List.getElem?_cons_succ, List.getElem?_cons_zero]; rfl)
        case hq4 => exact fun _ _ _ h => h
        case hy4 => exact Or.inl ⟨by rfl, by intro whSw hSw'; (try dsimp only at hSw'); (first | (go_simp; done) | (go_simp; with_reducible rfl))⟩
        try simp only [Act.put, List.setIfInBounds_toArray, List.set_cons_zero, List.set_cons_succ]
        refine wpAnyZ_take (i := 4) (oi := ?oi5) (v := ?v5) ?hi5 (by kernel_rfl) (by kernel_rfl) (by kernel_rfl) (by kernel_rfl) ?hq5 ?hy5 (by assumption) ?hr5
        case hi5 => (simp only [List.getElem?_toArray, List.getElem?_cons_succ, List.getElem?_cons_zero]; rfl)
        case hq5 => exact fun _ _ _ h => h
        case hy5 => exact Or.inl ⟨by rfl, by intro whSw hSw'; (try dsimp only at hSw'); (first | (go_simp; done) | (go_simp; with_reducible rfl))⟩
        try simp only [Act.put, List.setIfInBounds_toArray, List.set_cons_zero, List.set_cons_succ]
        refine wpAnyZ_take (i := 5) (oi := ?oi6) (v := ?v6) ?hi6 (by kernel_rfl) (by kernel_rfl) (by kernel_rfl) (by kernel_rfl) ?hq6 ?hy6 (by assumption) ?hr6
        case hi6 => (simp only [List.getElem?_toArray, List.getElem?_cons_succ, List.getElem?_cons_zero]; rfl)
        case hq6 => exact fun _ _ _ h => h
        case hy6 => exact Or.inl ⟨by rfl, by intro whSw hSw'; (try dsimp only at hSw'); (first | (go_simp; done) | (go_simp; with_reducible rfl))⟩
        try simp only [Act.put, List.setIfInBounds_toArray, List.set_cons_zero, List.set_cons_succ]
        refine wpAnyZ_take (i := 6) (oi := ?oi7) (v := ?v7) ?hi7 (by kernel_rfl) (by kernel_rfl) (by kernel_rfl) (by kernel_rfl) ?hq7 ?hy7 (by assumption) ?hr7
        case hi7 => (simp only [List.getElem?_toArray, List.getElem?_cons_succ, List.getElem?_cons_zero]; rfl)
        case hq7 => exact fun _ _ _ h => h
        case hy7 => exact Or.inl ⟨by rfl, by intro whSw hSw'; (try dsimp only at hSw'); (first | (go_simp; done) | (go_simp; with_reducible rfl))⟩
        try simp only [Act.put, List.setIfInBounds_toArray, List.set_cons_zero, List.set_cons_succ]
        refine wpAnyZ_take (i := 7) (oi := ?oi8) (v := ?v8) ?hi8 (by kernel_rfl) (by kernel_rfl) (by kernel_rfl) (by kernel_rfl) ?hq8 ?hy8 (by assumption) ?hr8
        case hi8 => (simp only [List.getElem?_toArray, List.getElem?_cons_succ, List.getElem?_cons_zero]; rfl)
        case hq8 => exact fun _ _ _ h => h
        case hy8 => exact Or.inl ⟨by rfl, by intro whSw hSw'; (try dsimp only at hSw'); (first | (go_simp; done) | (go_simp; with_reducible rfl))⟩
        try simp only [Act.put, List.setIfInBounds_toArray, List.set_cons_zero, List.set_cons_succ]
        refine wpAnyZ_take (i := 8) (oi := ?oi9) (v := ?v9) ?hi9 (by kernel_rfl) (by kernel_rfl) (by kernel_rfl) (by kernel_rfl) ?hq9 ?hy9 (by assumption) ?hr9
        case hi9 => (simp only [List.getElem?_toArray, List.getElem?_cons_succ, List.getElem?_cons_zero]; rfl)
        case hq9 => exact fun _ _ _ h => h
        case hy9 => exact Or.inl ⟨by rfl, by intro whSw hSw'; (try dsimp only at hSw'); (first | (go_simp; done) | (go_simp; with_reducible rfl))⟩
        try simp only [Act.put, List.setIfInBounds_toArray, List.set_cons_zero, List.set_cons_succ]
        refine wpAnyZ_ready (rs := [9]) (by kernel_rfl) (by simp) ?_
        refine AllReadyZ.cons (o := ?oo10) ?hi10 (fun K hK => ?hs10) ?hm10
        case hi10 => (simp only [List.getElem?_toArray, List.getElem?_cons_succ, List.getElem?_cons_zero]; rfl)
        · go_simp
          refine HADD.out.mono ?_
          rintro e w2 ⟨vi2, rfl, hf2, hs2⟩
          have HL2 := Lib.hid (hs2.own HS.out.drew.l (own_other HS.out.drew.l HS.out.drew.f.box (by decide)) (by decide))
          have HBB2 := Lib.hid (HS.out.drew.b.trans hs2.be)
          have HF2 := Lib.hid hf2
          rw [HM.out] at HL2
          obtain ⟨X3, hX3⟩ : ∃ X3, w2.alloc (.cells #[.int .i64 (m : Int)] 3) = X3 := ⟨_, rfl⟩
          have HF3 : Hid (FAt X3 N N vi2 vl (its ++ [(c, (k : Int), -1)])) := Lib.hid (by rw [← hX3]; exact ⟨hf2.hB, by rw [Below.heap_alloc _ _ _ hf2.lt]; exact hf2.box, hf2.own.alloc _⟩)
          have HL3 : Hid (X3.ownsRow N 3 1 vl m (rangeV m)) := Lib.hid (by rw [← hX3]; exact HL2.out.alloc _)
          have HB3 : Hid (Below N w X3) := Lib.hid (by rw [← hX3]; exact HBB2.out.alloc (by have := hf2.lt; omega) _)
          have HSV : Hid (SeesC X3 X3.heap.size (.slice (some ⟨w2.heap.size, 0, none⟩) 1 1) [.int .i64 (m : Int)]) := Lib.hid (by rw [← hX3]; exact sees_valH _ _ _)
          have hNX : N ≤ X3.heap.size := Nat.le_of_lt HF3.out.lt
          have HX3 := Lib.hid hX3
          rw [HM.out]
          clear hf2 hs2 hX3
          (try go_wp2_with fail)
          refine hK.out _ _ ?_ (fun hHeld => ?_)
          · (try dsimp only); first | exact cell_of (i := 1) HB4.out rfl | (rw [HX3.out]; exact cell_of (i := 1) HF3.out.box rfl) | exact cell_of (i := 1) HF2.out.box rfl | exact HB0.out
          clear hK K
          try simp only [Act.put, List.setIfInBounds_toArray, List.set_cons_zero, List.set_cons_succ]
          refine wpAnyZ_ready (rs := [10]) (by kernel_rfl) (by simp) ?_
          refine AllReadyZ.cons (o := ?oo11) ?hi11 (fun K hK => ?hs11) ?hm11
          case hi11 => (simp only [List.getElem?_toArray, List.getElem?_cons_succ, List.getElem?_cons_zero]; rfl)
          · go_simp
            refine hK.out _ _ ?_ (fun hHeld => ?_)
            · (try dsimp only); first | exact cell_of (i := 1) HB4.out rfl | (rw [HX3.out]; exact cell_of (i := 1) HF3.out.box rfl) | exact cell_of (i := 1) HF2.out.box rfl | exact HB0.out
            clear hK K
            try simp only [Act.put, List.setIfInBounds_toArray, List.set_cons_zero, List.set_cons_succ]
            refine wpAnyZ_ready (rs := [11]) (by kernel_rfl) (by simp) ?_
            refine AllReadyZ.cons (o := ?oo12) ?hi12 (fun K hK => ?hs12) ?hm12
            case hi12 => (simp only [List.getElem?_toArray, List.getElem?_cons_succ, List.getElem?_cons_zero]; rfl)
            · rw [HX3.out]
              refine step_append_any rfl (.tmp 21) (.tmp 27) 22 rfl N 3 i0 _ 8 Try.underlying22 hi hz0 hz1 hz2 rfl vl m (rangeV m) rfl HL3.out _ X3.heap.size [.int .i64 (m : Int)] rfl HSV.out (by simp [Value.oneCell']) (by show m + 1 ≤ _; unfold maxLen; omega) (by show (m + 1) * 8 ≤ _; omega) hNX ?_
              intro v' wa ho hg _
              have hp := PAt.leaf (w := w) (x := (c, (k : Int), -1)) HF3.out (by rw [HM.out]; exact HL3.out) HB3.out (by rw [HM.out]; exact ho) hg
              have HB4 := Lib.hid hp.1
              have HP4 := Lib.hid hp.2
              obtain ⟨AH, cH, e9, hcH⟩ := own_formI ho
              subst e9
              have s3 := cell_of (i := 1) HB4.out rfl
              have f3 := frozen_of (i := 1) HB4.out
              clear ho hg hp
              refine hK.out _ _ ?_ (fun hHeld => ?_)
              · (try dsimp only); first | exact cell_of (i := 1) HB4.out rfl | (rw [HX3.out]; exact cell_of (i := 1) HF3.out.box rfl) | exact cell_of (i := 1) HF2.out.box rfl | exact HB0.out
              clear hK K
              try simp only [Act.put, List.setIfInBounds_toArray, List.set_cons_zero, List.set_cons_succ]
              refine wpAnyZ_ready (rs := [12]) (by kernel_rfl) (by simp) ?_
              refine AllReadyZ.cons (o := ?oo13) ?hi13 (fun K hK => ?hs13) ?hm13
              case hi13 => (simp only [List.getElem?_toArray, List.getElem?_cons_succ, List.getElem?_cons_zero]; rfl)
              · go_simp
                refine hK.out _ _ ?_ (fun hHeld => ?_)
                · (try dsimp only); first | exact cell_of (i := 1) HB4.out rfl | (rw [HX3.out]; exact cell_of (i := 1) HF3.out.box rfl) | exact cell_of (i := 1) HF2.out.box rfl | exact HB0.out
                clear hK K
                try simp only [Act.put, List.setIfInBounds_toArray, List.set_cons_zero, List.set_cons_succ]
                refine wpAnyZ_ready (rs := [13]) (by kernel_rfl) (by simp) ?_
                refine AllReadyZ.cons (o := ?oo14) ?hi14 (fun K hK => ?hs14) ?hm14
                case hi14 => (simp only [List.getElem?_toArray, List.getElem?_cons_succ, List.getElem?_cons_zero]; rfl)
                · go_simp
                  refine hK.out _ _ ?_ (fun hHeld => ?_)
                  · (try dsimp only); first | exact cell_of (i := 1) HB4.out rfl | (rw [HX3.out]; exact cell_of (i := 1) HF3.out.box rfl) | exact cell_of (i := 1) HF2.out.box rfl | exact HB0.out
                  clear hK K
                  try simp only [Act.put, List.setIfInBounds_toArray, List.set_cons_zero, List.set_cons_succ]
                  refine wpAnyZ_ready (rs := [14]) (by kernel_rfl) (by simp) ?_
                  refine AllReadyZ.last (o := ?oo15) ?hi15 (fun K hK => ?hs15)
                  case hi15 => (simp only [List.getElem?_toArray, List.getElem?_cons_succ, List.getElem?_cons_zero]; rfl)
                  · go_simp
                    refine hK.out _ _ ?_
                    clear hK K
                    try simp only [Act.put, List.setIfInBounds_toArray, List.set_cons_zero, List.set_cons_succ]
                    refine wpAnyZ_done (by kernel_rfl) ?_ _
                    obtain ⟨W5, hW5⟩ : ∃ W5, wa.setCell ⟨N, 1, none⟩ (.slice AH (m + 1) cH) = W5 := ⟨_, rfl⟩
                    have HW5 : Hid (PAt w N W5 vi2 (.slice AH (m + 1) cH) (lfIt (cs.take (k + 1)) 0)) := Lib.hid (by rw [← hW5, HSTEP.out]; exact HP4.out)
                    rw [hW5]
                    clear hW5 HP4 HB4 s3 f3 hHeld HADD HL2 HBB2 HF2 HF3 HL3 HB3 HSV HX3 HB0 HS HSTEP
                    go_wp2_with fail
                    exact ⟨⟨k + 1, by omega, by go_num, _, _, HW5⟩, by simp only [Go.RowKit.intOf]; omega⟩
                exact AllReadyZ.nil
              exact AllReadyZ.nil
            exact AllReadyZ.nil
          exact AllReadyZ.nil
        exact AllReadyZ.nil
      · rw [if_neg d] at hstep
        have b3 : decide (c > 0) = false := decide_eq_false d
        have HS2 : Hid (PAt w N wr vi vl (lfIt (cs.take (k + 1)) 0)) := Lib.hid (by rw [hstep]; exact HS.out)
        clear hj hcx HS hstep d
        go_wp2_with fail
        exact ⟨⟨k + 1, by omega, by go_num, _, _, HS2⟩, by simp only [Go.RowKit.intOf]; omega⟩
    · obtain rfl : k = n := by omega
      have hlti : ¬ (k : Int) < (k : Int) := by omega
      have htk : cs.take k = cs := List.take_of_length_le (by rw [HCN.out]; exact Nat.le_refl _)
      rw [htk] at HS
      clear htk
      go_wp2_with fail
      go_ret
      exact ⟨_, _, rfl, HS.out⟩
end Go.Proofs.Yteennnhinfnahaa
