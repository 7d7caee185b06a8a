/-
  WALKS over package codepoint: At. (Stage 1's CpG over MeA.)
-/
import Derived.Test.YtihekappojkgiaaGreatDoorVdA
import Derived.Test.YtihekappojkgiaaGreatDoorRnd
import Derived.Lib.BufferWrite
import Derived.Laws.CopyOwn
import Derived.Deep.OwnRows
namespace Go.Proofs.YtihekappojkgiaaGreatDoor
open Go.RowKit Go.Shelf Go.Lib

theorem block_setU {W : World} {B i : Nat} {cs : Array Value} {t : TypeId} {f : Nat × Nat} (v : Value) (h : W.heap[B]? = some (.cells cs t f)) :
    (W.setCell ⟨B, i, none⟩ v).heap[B]? = some (.cells (cs.setIfInBounds i v) t f) := set_of h v

attribute [local go_sem] Oper.semAt_some

/-- Unit number i, if there is one. -/
def atU (s : ByteArray) (i : Int) : Option U := if 0 ≤ i then (units s)[i.toNat]? else none
/-- What At answers. -/
def atV : Option U → Array Value
  | none => #[.int .i32 0, .int .i64 0, .int .i64 0, .bool false]
  | some u => #[.int .i32 (u.c : Int), .int .i64 (u.p : Int), .int .i64 (u.w : Int), .bool true]

/-- The six variables of a call of At. -/
def AtVars (i : Int) (w : World) (r : Array Value) (number : Int) (W : World) : Prop :=
  W.heap[w.heap.size]? = some (.cells #[.int .i64 i] 3 (0, 0)) ∧ W.heap[w.heap.size + 1]? = some (.cells #[r.getD 0 undef] 21 (0, 0)) ∧ W.heap[w.heap.size + 2]? = some (.cells #[r.getD 1 undef] 3 (0, 0)) ∧
    W.heap[w.heap.size + 3]? = some (.cells #[r.getD 2 undef] 3 (0, 0)) ∧ W.heap[w.heap.size + 4]? = some (.cells #[r.getD 3 undef] 4 (0, 0)) ∧ W.heap[w.heap.size + 5]? = some (.cells #[.int .i64 number] 3 (0, 0))
/-- Between two rounds of At's loop. -/
def AtI (s : ByteArray) (i : Int) (w : World) (pre : List (Un s)) (W : World) : Prop :=
  (AtVars i w (atV none) (pre.length : Nat) W ∧ (0 ≤ i → pre.length ≤ i.toNat) ∧ w.heap.size + 7 ≤ W.heap.size) ∧ Below w.heap.size w W
/-- At's loop has been left. -/
def AtX (s : ByteArray) (i : Int) (w : World) (c : Code) (pre : List (Un s)) (W : World) : Prop :=
  (∃ (l : List U) (x : U) (number : Int), AtVars i w (atV (some x)) number W ∧ c = .ret ∧ pre.map (·.1) = l ++ [x] ∧ 0 ≤ i ∧ l.length = i.toNat) ∧ Below w.heap.size w W
theorem atVars_kept {i : Int} {w : World} {r : Array Value} {number : Int} {X Y : World} {row : Option Nat} (h : AtVars i w r number X) (hg : X.grownBy Y row) (hr : ∀ r, row = some r → ∃ o : Obj, X.heap[r]? = some o ∧ o.isCells = false) : AtVars i w r number Y := by
  obtain ⟨a, b, c, d, e, f⟩ := h
  exact ⟨cells_own _ _ _ _ () X Y row a hg hr, cells_own _ _ _ _ () X Y row b hg hr, cells_own _ _ _ _ () X Y row c hg hr, cells_own _ _ _ _ () X Y row d hg hr, cells_own _ _ _ _ () X Y row e hg hr, cells_own _ _ _ _ () X Y row f hg hr⟩
theorem atI_own (s : ByteArray) (i : Int) (w : World) (B : Nat) (hB : w.heap.size ≤ B) : OwnFrom B (AtI s i w) :=
  fun _ X Y row h hg hr => ⟨⟨atVars_kept h.1.1 hg (fun r e => (hr r e).2), h.1.2.1, Nat.le_trans h.1.2.2 hg.size⟩, ownFrom_below (β := Unit) (Nat.le_refl _) hB () X Y row h.2 hg hr⟩
theorem atX_own (s : ByteArray) (i : Int) (w : World) (B : Nat) (hB : w.heap.size ≤ B) (c : Code) : OwnFrom B (AtX s i w c) :=
  fun _ X Y row h hg hr => by
    obtain ⟨⟨l, x, n, hv, h2⟩, hb⟩ := h
    exact ⟨⟨l, x, n, atVars_kept hv hg (fun r e => (hr r e).2), h2⟩, ownFrom_below (β := Unit) (Nat.le_refl _) hB () X Y row hb hg hr⟩
theorem atVars_alloc {i : Int} {w : World} {r : Array Value} {number : Int} {W : World} (h : AtVars i w r number W) (o : Obj) : AtVars i w r number (W.alloc o) := by
  obtain ⟨a, b, c, d, e, f⟩ := h
  exact ⟨block_alloc _ a, block_alloc _ b, block_alloc _ c, block_alloc _ d, block_alloc _ e, block_alloc _ f⟩

/-- The loop's variable holds a unit. -/
def HoldU (Bx c p : Nat) (t : ByteArray) (W : World) : Prop :=
  W.cell? ⟨Bx, 0, none⟩ = some (.int .i32 (c : Int)) ∧ W.cell? ⟨Bx, 1, none⟩ = some (.int .i64 (p : Int)) ∧ W.cell? ⟨Bx, 2, none⟩ = some (.string t)
theorem holdU_set {Bx c p : Nat} {t : ByteArray} {W : World} (h : HoldU Bx c p t W.drew) (b : Nat) (v : Value) (hne : b ≠ Bx) : HoldU Bx c p t (W.setCell ⟨b, 0, none⟩ v).drew :=
  ⟨(World.cell?_setCell_far W ⟨b, 0, none⟩ ⟨Bx, 0, none⟩ v hne).trans h.1, (World.cell?_setCell_far W ⟨b, 0, none⟩ ⟨Bx, 1, none⟩ v hne).trans h.2.1, (World.cell?_setCell_far W ⟨b, 0, none⟩ ⟨Bx, 2, none⟩ v hne).trans h.2.2⟩

set_option maxRecDepth 100000 in
set_option maxHeartbeats 1000000 in
theorem at_any (s : ByteArray) (hs : s.size ≤ 140737488355328) (i : Int) (w : World) :
    Calls Tryz.prog 14 #[.string s, .int .i64 i] w fun e w' => e = .returned (.tuple (atV (atU s i))) ∧ Below w.heap.size w w' := by
  refine (callsIn_wide (n := 3)).1 ?_
  refine callsIn_of_wp_marks Tryz.func14 rfl trivial ?_ rfl
  simp only [Tryz.ntmps14, List.size_toArray, List.length_cons, List.length_nil, Nat.reduceAdd, Nat.reduceSub, Array.replicate_succ, Array.replicate_zero, List.push_toArray, List.append_toArray, List.nil_append, List.cons_append]
  gi_wp2_with (refine ⟨trivial, ?_⟩; gi_at_call 28; refine (callsIn_wide.2 (units_fn s _)).mono ?_; rintro e w' ⟨rfl, rfl⟩)
  obtain ⟨W0, hW0⟩ : ∃ W0, ((((((w.alloc (Obj.cells #[Value.int IntKind.i64 i] 3)).alloc (Obj.cells #[Value.int IntKind.i32 0] 21)).alloc (Obj.cells #[Value.int IntKind.i64 0] 3)).alloc (Obj.cells #[Value.int IntKind.i64 0] 3)).alloc (Obj.cells #[Value.bool false] 4)).alloc (Obj.cells #[Value.int IntKind.i64 0] 3)).alloc (Obj.cells #[Value.string s] 9) = W0 := ⟨_, rfl⟩
  have hV : AtVars i w (atV none) 0 W0 := by
    rw [← hW0]
    have b0 := block_new w (Obj.cells #[Value.int IntKind.i64 i] 3)
    have b1 := block_new (w.alloc (Obj.cells #[Value.int IntKind.i64 i] 3)) (Obj.cells #[Value.int IntKind.i32 0] 21)
    have b2 := block_new ((w.alloc (Obj.cells #[Value.int IntKind.i64 i] 3)).alloc (Obj.cells #[Value.int IntKind.i32 0] 21)) (Obj.cells #[Value.int IntKind.i64 0] 3)
    have b3 := block_new (((w.alloc (Obj.cells #[Value.int IntKind.i64 i] 3)).alloc (Obj.cells #[Value.int IntKind.i32 0] 21)).alloc (Obj.cells #[Value.int IntKind.i64 0] 3)) (Obj.cells #[Value.int IntKind.i64 0] 3)
    have b4 := block_new ((((w.alloc (Obj.cells #[Value.int IntKind.i64 i] 3)).alloc (Obj.cells #[Value.int IntKind.i32 0] 21)).alloc (Obj.cells #[Value.int IntKind.i64 0] 3)).alloc (Obj.cells #[Value.int IntKind.i64 0] 3)) (Obj.cells #[Value.bool false] 4)
    have b5 := block_new (((((w.alloc (Obj.cells #[Value.int IntKind.i64 i] 3)).alloc (Obj.cells #[Value.int IntKind.i32 0] 21)).alloc (Obj.cells #[Value.int IntKind.i64 0] 3)).alloc (Obj.cells #[Value.int IntKind.i64 0] 3)).alloc (Obj.cells #[Value.bool false] 4)) (Obj.cells #[Value.int IntKind.i64 0] 3)
    simp only [World.size_alloc] at b1 b2 b3 b4 b5
    exact ⟨block_alloc _ (block_alloc _ (block_alloc _ (block_alloc _ (block_alloc _ (block_alloc _ b0))))), block_alloc _ (block_alloc _ (block_alloc _ (block_alloc _ (block_alloc _ b1)))), block_alloc _ (block_alloc _ (block_alloc _ (block_alloc _ b2))),
      block_alloc _ (block_alloc _ (block_alloc _ b3)), block_alloc _ (block_alloc _ b4), block_alloc _ b5⟩
  have b6 : W0.heap[w.heap.size + 6]? = some (.cells #[.string s] 9 (0, 0)) := by
    rw [← hW0]
    have b6 := block_new ((((((w.alloc (Obj.cells #[Value.int IntKind.i64 i] 3)).alloc (Obj.cells #[Value.int IntKind.i32 0] 21)).alloc (Obj.cells #[Value.int IntKind.i64 0] 3)).alloc (Obj.cells #[Value.int IntKind.i64 0] 3)).alloc (Obj.cells #[Value.bool false] 4)).alloc (Obj.cells #[Value.int IntKind.i64 0] 3)) (Obj.cells #[Value.string s] 9)
    simp only [World.size_alloc] at b6
    exact b6
  have hB0 : Below w.heap.size w W0 := by
    rw [← hW0]; exact (((((((Below.refl _ w).alloc (Nat.le_refl _) _).alloc (by simp) _).alloc (by simp; omega) _).alloc (by simp; omega) _).alloc (by simp; omega) _).alloc (by simp; omega) _).alloc (by simp; omega) _
  have hsz : W0.heap.size = w.heap.size + 7 := by rw [← hW0]; simp
  rw [hW0]
  clear hW0
  refine wpIn_rangeFunc_ownH (n := 3) rfl (by omega) (gf := 44) (lb := #[.pointer (some ⟨w.heap.size + 6, 0, none⟩)]) rfl trivial (enters_of Tryz.func44 (by kernel_rfl) rfl)
    (units_stops 2 (by omega) (w.heap.size + 6) w.heap.size s (by unfold maxLen; omega) W0 (by omega) (cell_of b6 rfl)) keepsIt_t (keepsIt_b (by omega) (by omega)) (Below.refl _ _) (fun _ => rfl)
    (AtI s i w) (AtX s i w) (atI_own s i w _ (by omega)) (atX_own s i w _ (by omega))
    ⟨⟨hV, (fun _ => Nat.zero_le _), by omega⟩, hB0⟩
    (fun x a' W => ∃ Bx, w.heap.size + 6 < Bx ∧ Boxed3 W Bx s x.1 ∧ a' = { tmps := #[.string s, .int .i64 i, undef, .pointer (some ⟨w.heap.size, 0, none⟩), .pointer (some ⟨w.heap.size + 1, 0, none⟩), .pointer (some ⟨w.heap.size + 1 + 1, 0, none⟩), .pointer (some ⟨w.heap.size + 1 + 1 + 1, 0, none⟩), .pointer (some ⟨w.heap.size + 1 + 1 + 1 + 1, 0, none⟩), .pointer (some ⟨w.heap.size + 1 + 1 + 1 + 1 + 1, 0, none⟩), .pointer (some ⟨Bx, 0, none⟩), .string s, .func (.func 44) #[] #[.pointer (some ⟨w.heap.size + 1 + 1 + 1 + 1 + 1 + 1, 0, none⟩)], uval s x.1, undef, undef, undef, undef, undef, undef, undef, undef, undef, undef, undef, undef], defers := [] })
    (fun x a' _ X Y row hs hg hr => by obtain ⟨Bx, h1, h2, h3⟩ := hs; exact ⟨Bx, h1, cells_own Bx _ _ _ () X Y row h2 hg (fun r e => (hr r e).2), h3⟩)
    ?assign ?body ?done ?stop
  case assign =>
    rintro l pre x W K ⟨⟨hV, hp, hz⟩, hB⟩ hK
    unfold encU uval
    gi_wp2
    exact hK _ _ ((KeepsOthers.alloc _ _).from _) (keepsIt_alloc W hB.size (by omega) _) ⟨⟨atVars_alloc hV _, hp, by simp; omega⟩, hB.alloc hB.size _⟩ ⟨W.heap.size, by omega, Boxed3.new W s x.1, rfl⟩
  case body =>
    rintro l pre x a' W hl ⟨r, hr⟩ ⟨⟨hV, hp, hz⟩, hB⟩ ⟨Bx, hBx, bX, rfl⟩ hlt
    obtain ⟨c0, c1, c2⟩ := bX.cells
    have htx := ext_size s x
    have hlen : pre.length < 9223372036854775806 := by
      have := units_le s
      omega
    obtain ⟨t, ht⟩ : ∃ t, s.extract x.1.p (x.1.p + x.1.w) = t := ⟨_, rfl⟩
    obtain ⟨k, hk⟩ : ∃ k, x.1.w = k := ⟨_, rfl⟩
    obtain ⟨p, hpp⟩ : ∃ p, x.1.p = p := ⟨_, rfl⟩
    obtain ⟨c, hcc⟩ : ∃ c, x.1.c = c := ⟨_, rfl⟩
    rw [ht] at htx c2
    rw [hk] at htx
    rw [hpp] at c1
    rw [hcc] at c0
    obtain ⟨v0, v1, v2, v3, v4, v5⟩ := hV
    have d0 := cell_of (i := 0) (v := .int .i64 i) v0 rfl
    have d5 := cell_of (i := 0) (v := .int .i64 (pre.length : Nat)) v5 rfl
    have e1 := cell_of (i := 0) (v := .int .i32 0) v1 rfl
    have e2 := cell_of (i := 0) (v := .int .i64 0) v2 rfl
    have e3 := cell_of (i := 0) (v := .int .i64 0) v3 rfl
    have e4 := cell_of (i := 0) (v := .bool false) v4 rfl
    have f1 := frozen_of (i := 0) v1
    have f2 := frozen_of (i := 0) v2
    have f3 := frozen_of (i := 0) v3
    have f4 := frozen_of (i := 0) v4
    have f5 := frozen_of (i := 0) v5
    have H0 := Lib.hid v0
    have H1 := Lib.hid v1
    have H2 := Lib.hid v2
    have H3 := Lib.hid v3
    have H4 := Lib.hid v4
    have H5 := Lib.hid v5
    have HP := Lib.hid hp
    have HX : Hid (x.1 = { c := c, p := p, w := k }) := Lib.hid (by rw [← hcc, ← hpp, ← hk])
    clear ht hk hpp hcc hlt hr bX hp v0 v1 v2 v3 v4 v5
    by_cases heq : ((pre.length : Int) == i) = true
    · gi_wp2
      refine wpIn_round_held (HoldU Bx c p t) (by kernel_rfl) (by kernel_rfl) (by rintro ⟨a, w, h⟩; exact h) ?_
      have hHeld : HoldU Bx c p t W.drew := ⟨c0, c1, c2⟩
      refine wpAnyH_take (i := 0) (v := Value.pointer (some ⟨Bx, 0, none⟩)) rfl (by kernel_rfl) (by kernel_rfl) (by kernel_rfl) (fun _ _ _ h => h) (Or.inl ⟨by rfl, ?_⟩) hHeld ?_
      · rintro w ⟨hS0, hS1, hS2⟩
        go_simp
      refine wpAnyH_take (i := 1) (v := Value.int .i32 (c : Int)) rfl (by kernel_rfl) (by kernel_rfl) (by kernel_rfl) (fun _ _ _ h => h) (Or.inl ⟨by rfl, ?_⟩) hHeld ?_
      · rintro w ⟨hS0, hS1, hS2⟩
        go_simp
      refine wpAnyH_take (i := 2) (v := Value.pointer (some ⟨Bx, 1, none⟩)) rfl (by kernel_rfl) (by kernel_rfl) (by kernel_rfl) (fun _ _ _ h => h) (Or.inl ⟨by rfl, ?_⟩) hHeld ?_
      · rintro w ⟨hS0, hS1, hS2⟩
        go_simp
      refine wpAnyH_take (i := 3) (v := Value.int .i64 (p : Int)) rfl (by kernel_rfl) (by kernel_rfl) (by kernel_rfl) (fun _ _ _ h => h) (Or.inl ⟨by rfl, ?_⟩) hHeld ?_
      · rintro w ⟨hS0, hS1, hS2⟩
        go_simp
      refine wpAnyH_take (i := 4) (v := Value.pointer (some ⟨Bx, 2, none⟩)) rfl (by kernel_rfl) (by kernel_rfl) (by kernel_rfl) (fun _ _ _ h => h) (Or.inl ⟨by rfl, ?_⟩) hHeld ?_
      · rintro w ⟨hS0, hS1, hS2⟩
        go_simp
      refine wpAnyH_take (i := 5) (v := Value.string t) rfl (by kernel_rfl) (by kernel_rfl) (by kernel_rfl) (fun _ _ _ h => h) (Or.inl ⟨by rfl, ?_⟩) hHeld ?_
      · rintro w ⟨hS0, hS1, hS2⟩
        go_simp
      refine wpAnyH_take (i := 6) (v := Value.int .i64 (k : Int)) rfl (by kernel_rfl) (by kernel_rfl) (by kernel_rfl) (fun _ _ _ h => h) (Or.inl ⟨by rfl, ?_⟩) hHeld ?_
      · rintro w ⟨hS0, hS1, hS2⟩
        go_simp
      refine wpAnyH_ready (rs := [7]) (by kernel_rfl) (by simp) ?_
      refine AllReadyH.cons rfl (fun K hK => ?_) AllReadyH.nil
      go_simp
      refine hK.out _ _ (holdU_set hHeld (w.heap.size + 1) _ (by omega)) (fun hHeld => ?_)
      clear hK K
      refine wpAnyH_ready (rs := [8]) (by kernel_rfl) (by simp) ?_
      refine AllReadyH.cons rfl (fun K hK => ?_) AllReadyH.nil
      go_simp
      refine hK.out _ _ (holdU_set hHeld (w.heap.size + 1 + 1) _ (by omega)) (fun hHeld => ?_)
      clear hK K
      refine wpAnyH_ready (rs := [9]) (by kernel_rfl) (by simp) ?_
      refine AllReadyH.cons rfl (fun K hK => ?_) AllReadyH.nil
      go_simp
      refine hK.out _ _ (holdU_set hHeld (w.heap.size + 1 + 1 + 1) _ (by omega)) (fun hHeld => ?_)
      clear hK K
      refine wpAnyH_ready (rs := [10]) (by kernel_rfl) (by simp) ?_
      refine AllReadyH.cons rfl (fun K hK => ?_) AllReadyH.nil
      go_simp
      refine hK.out _ _ (holdU_set hHeld (w.heap.size + 1 + 1 + 1 + 1) _ (by omega)) (fun hHeld => ?_)
      clear hK K
      refine wpAnyH_done (by kernel_rfl) ?_ _
      gi_wp2
      have hk4 : KeepsOthers W ((((W.setCell ⟨w.heap.size + 1, 0, none⟩ (.int .i32 (c : Int))).setCell ⟨w.heap.size + 1 + 1, 0, none⟩ (.int .i64 (p : Int))).setCell ⟨w.heap.size + 1 + 1 + 1, 0, none⟩ (.int .i64 (k : Int))).setCell ⟨w.heap.size + 1 + 1 + 1 + 1, 0, none⟩ (.bool true)).drew :=
        ((((KeepsOthers.setCell _ _ _).trans (KeepsOthers.setCell _ _ _)).trans (KeepsOthers.setCell _ _ _)).trans (KeepsOthers.setCell _ _ _)).trans (KeepsOthers.drew _)
      refine ⟨hk4.from _, ⟨pre.map (·.1), { c := c, p := p, w := k }, (pre.length : Nat), ⟨?_, ?_, ?_, ?_, ?_, ?_⟩, rfl, ?_, ?_, ?_⟩,
        ((((hB.setCell (p := ⟨w.heap.size + 1, 0, none⟩) (by simp) _).setCell (p := ⟨w.heap.size + 1 + 1, 0, none⟩) (by simp; omega) _).setCell (p := ⟨w.heap.size + 1 + 1 + 1, 0, none⟩) (by simp; omega) _).setCell (p := ⟨w.heap.size + 1 + 1 + 1 + 1, 0, none⟩) (by simp; omega) _).drew⟩
      · exact block_other _ (block_other _ (block_other _ (block_other _ H0.out (by omega)) (by omega)) (by omega)) (by omega)
      · exact block_other _ (block_other _ (block_other _ (block_setU _ H1.out) (by omega)) (by omega)) (by omega)
      · exact block_other _ (block_other _ (block_setU _ (block_other _ H2.out (by omega))) (by omega)) (by omega)
      · exact block_other _ (block_setU _ (block_other _ (block_other _ H3.out (by omega)) (by omega))) (by omega)
      · exact block_setU _ (block_other _ (block_other _ (block_other _ H4.out (by omega)) (by omega)) (by omega))
      · exact block_other _ (block_other _ (block_other _ (block_other _ H5.out (by omega)) (by omega)) (by omega)) (by omega)
      · rw [List.map_append, List.map_cons, List.map_nil, HX.out]
      · have := eq_of_beq heq; omega
      · have := eq_of_beq heq; rw [List.length_map]; omega
    · have heq' : ((pre.length : Int) == i) = false := by simpa using heq
      have hni : (pre.length : Int) ≠ i := by
        intro h
        apply heq
        rw [h]
        exact beq_self_eq_true i
      have HNI := Lib.hid hni
      clear heq hni
      gi_wp2
      refine ⟨(KeepsOthers.setCell _ _ _).from _, keepsIt_setCell W _ _ (by omega) (by omega) _, ⟨⟨?_, ?_, ?_, ?_, ?_, ?_⟩, ?_, ?_⟩, hB.setCell (p := ⟨w.heap.size + 1 + 1 + 1 + 1 + 1, 0, none⟩) (by simp; omega) _⟩
      · exact block_other _ H0.out (by omega)
      · exact block_other _ H1.out (by omega)
      · exact block_other _ H2.out (by omega)
      · exact block_other _ H3.out (by omega)
      · exact block_other _ H4.out (by omega)
      · have hl1 : ((pre ++ [x]).length : Int) = (pre.length : Int) + 1 := by simp
        rw [hl1]
        exact block_setU _ H5.out
      · intro h0
        have h1 := HP.out h0
        have h2 := HNI.out
        rw [List.length_append, List.length_singleton]
        omega
      · have := (KeepsOthers.setCell W ⟨w.heap.size + 1 + 1 + 1 + 1 + 1, 0, none⟩ (.int .i64 ((pre.length : Int) + 1))).size
        omega
  case done =>
    rintro D xs W hD hx ⟨⟨⟨v0, v1, v2, v3, v4, v5⟩, hp, hz⟩, hB⟩ hK
    have hat : atU s i = none := by
      unfold atU
      by_cases h0 : 0 ≤ i
      · rw [if_pos h0, List.getElem?_eq_none_iff]
        have h1 := hp h0
        have h2 : xs.length = (units s).length := by rw [← hx, List.length_map]
        omega
      · rw [if_neg h0]
    have HAT := Lib.hid hat
    have e1 := cell_of (i := 0) (v := .int .i32 0) v1 rfl
    have e2 := cell_of (i := 0) (v := .int .i64 0) v2 rfl
    have e3 := cell_of (i := 0) (v := .int .i64 0) v3 rfl
    have e4 := cell_of (i := 0) (v := .bool false) v4 rfl
    have f1 := frozen_of (i := 0) v1
    have f2 := frozen_of (i := 0) v2
    have f3 := frozen_of (i := 0) v3
    have f4 := frozen_of (i := 0) v4
    have H1 := Lib.hid v1
    have H2 := Lib.hid v2
    have H3 := Lib.hid v3
    have H4 := Lib.hid v4
    clear hat hx hp v0 v1 v2 v3 v4 v5
    gi_wp2
    have hk4 : KeepsOthers W ((((W.setCell ⟨w.heap.size + 1, 0, none⟩ (.int .i32 0)).setCell ⟨w.heap.size + 1 + 1, 0, none⟩ (.int .i64 0)).setCell ⟨w.heap.size + 1 + 1 + 1, 0, none⟩ (.int .i64 0)).setCell ⟨w.heap.size + 1 + 1 + 1 + 1, 0, none⟩ (.bool false)) :=
      (((KeepsOthers.setCell _ _ _).trans (KeepsOthers.setCell _ _ _)).trans (KeepsOthers.setCell _ _ _)).trans (KeepsOthers.setCell _ _ _)
    have hK' := hk4.same D _ hK rfl
    have hB2 := ((((hB.setCell (p := ⟨w.heap.size + 1, 0, none⟩) (by simp) (.int .i32 0)).setCell (p := ⟨w.heap.size + 1 + 1, 0, none⟩) (by simp; omega) (.int .i64 0)).setCell (p := ⟨w.heap.size + 1 + 1 + 1, 0, none⟩) (by simp; omega) (.int .i64 0)).setCell (p := ⟨w.heap.size + 1 + 1 + 1 + 1, 0, none⟩) (by simp; omega) (.bool false))
    have g1 := (World.putObj_heap_other (o := .deferred none) (show w.heap.size + 1 ≠ D by omega)).trans (block_other (i := 0) (.bool false) (block_other (i := 0) (.int .i64 0) (block_other (i := 0) (.int .i64 0) (block_setU (i := 0) (.int .i32 0) H1.out) (show w.heap.size + 1 ≠ w.heap.size + 1 + 1 by omega)) (show w.heap.size + 1 ≠ w.heap.size + 1 + 1 + 1 by omega)) (show w.heap.size + 1 ≠ w.heap.size + 1 + 1 + 1 + 1 by omega))
    have g2 := (World.putObj_heap_other (o := .deferred none) (show w.heap.size + 2 ≠ D by omega)).trans (block_other (i := 0) (.bool false) (block_other (i := 0) (.int .i64 0) (block_setU (i := 0) (.int .i64 0) (block_other (i := 0) (.int .i32 0) H2.out (show w.heap.size + 2 ≠ w.heap.size + 1 by omega))) (show w.heap.size + 2 ≠ w.heap.size + 1 + 1 + 1 by omega)) (show w.heap.size + 2 ≠ w.heap.size + 1 + 1 + 1 + 1 by omega))
    have g3 := (World.putObj_heap_other (o := .deferred none) (show w.heap.size + 3 ≠ D by omega)).trans (block_other (i := 0) (.bool false) (block_setU (i := 0) (.int .i64 0) (block_other (i := 0) (.int .i64 0) (block_other (i := 0) (.int .i32 0) H3.out (show w.heap.size + 3 ≠ w.heap.size + 1 by omega)) (show w.heap.size + 3 ≠ w.heap.size + 1 + 1 by omega))) (show w.heap.size + 3 ≠ w.heap.size + 1 + 1 + 1 + 1 by omega))
    have g4 := (World.putObj_heap_other (o := .deferred none) (show w.heap.size + 4 ≠ D by omega)).trans (block_setU (i := 0) (.bool false) (block_other (i := 0) (.int .i64 0) (block_other (i := 0) (.int .i64 0) (block_other (i := 0) (.int .i32 0) H4.out (show w.heap.size + 4 ≠ w.heap.size + 1 by omega)) (show w.heap.size + 4 ≠ w.heap.size + 1 + 1 by omega)) (show w.heap.size + 4 ≠ w.heap.size + 1 + 1 + 1 by omega)))
    have q1 := cell_of (i := 0) (v := .int .i32 0) g1 rfl
    have q2 := cell_of (i := 0) (v := .int .i64 0) g2 rfl
    have q3 := cell_of (i := 0) (v := .int .i64 0) g3 rfl
    have q4 := cell_of (i := 0) (v := .bool false) g4 rfl
    refine ⟨by simp, .inl ⟨_, _, rfl, run_takeDeferred hK', ?_⟩⟩
    refine ⟨.tuple (atV none), ?_, by rw [HAT.out], hB2.trans (belowK_b (w := w) (Nat.le_refl _) _ D _ _ (by omega) hK' rfl rfl)⟩
    simp [results, Tryz.f14, go_sem, q1, q2, q3, q4, atV]
  case stop =>
    rintro D c pre W hD hpre ⟨⟨l, x, number, ⟨v0, v1, v2, v3, v4, v5⟩, rfl, hm, h0, hl⟩, hB⟩ hK
    have hat : atU s i = some x := by
      unfold atU
      obtain ⟨r, hr⟩ := hpre
      rw [hm] at hr
      rw [if_pos h0, ← hl]
      have : (l ++ [x] ++ r)[l.length]? = some x := by simp
      rw [← this]
      exact congrArg (fun us : List U => us[l.length]?) hr.symm
    have HAT := Lib.hid hat
    have H1 := Lib.hid v1
    have H2 := Lib.hid v2
    have H3 := Lib.hid v3
    have H4 := Lib.hid v4
    clear hat hpre hm h0 hl v0 v1 v2 v3 v4 v5
    gi_wp2
    have g1 := (World.putObj_heap_other (o := .deferred none) (show w.heap.size + 1 ≠ D by omega)).trans H1.out
    have g2 := (World.putObj_heap_other (o := .deferred none) (show w.heap.size + 2 ≠ D by omega)).trans H2.out
    have g3 := (World.putObj_heap_other (o := .deferred none) (show w.heap.size + 3 ≠ D by omega)).trans H3.out
    have g4 := (World.putObj_heap_other (o := .deferred none) (show w.heap.size + 4 ≠ D by omega)).trans H4.out
    have q1 := cell_of (i := 0) (v := .int .i32 (x.c : Int)) g1 rfl
    have q2 := cell_of (i := 0) (v := .int .i64 (x.p : Int)) g2 rfl
    have q3 := cell_of (i := 0) (v := .int .i64 (x.w : Int)) g3 rfl
    have q4 := cell_of (i := 0) (v := .bool true) g4 rfl
    refine ⟨by simp, .inl ⟨_, _, rfl, run_takeDeferred hK, ?_⟩⟩
    refine ⟨.tuple (atV (some x)), ?_, by rw [HAT.out], hB.trans (belowK_b (w := w) (Nat.le_refl _) _ D _ _ (by omega) hK rfl rfl)⟩
    simp [results, Tryz.f14, go_sem, q1, q2, q3, q4, atV]
end Go.Proofs.YtihekappojkgiaaGreatDoor
