/-
  WALKS over package codepoint, Position (stage 1's CpE over MeA, without VdA's Valid): line and column of a byte offset; nothing that lay has turned. At any string and any offset.
-/
import Derived.Test.YtpkkebojiengpaaGreatDoorMeA
import Derived.Test.YtpkkebojiengpaaGreatDoorAtB
import Derived.Test.YtpkkebojiengpaaGreatDoorRnd
namespace Go.Proofs.YtpkkebojiengpaaGreatDoor
open Go.RowKit Go.Shelf Go.Lib

theorem units_le (s : ByteArray) : (units s).length ≤ s.size := by
  rw [Lib.size_eq]; exact unitsA_len _ _


attribute [local go_sem] Oper.semAt_some

/-- Block B holds unit u of s in a variable of its own. -/
def Boxed3 (W : World) (B : Nat) (s : ByteArray) (u : U) : Prop :=
  W.heap[B]? = some (.cells #[.int .i32 (u.c : Int), .int .i64 (u.p : Int), .string (s.extract u.p (u.p + u.w))] 82 (0, 0))
theorem Boxed3.cells {W : World} {B : Nat} {s : ByteArray} {u : U} (h : Boxed3 W B s u) :
    W.cell? ⟨B, 0, none⟩ = some (.int .i32 (u.c : Int)) ∧ W.cell? ⟨B, 1, none⟩ = some (.int .i64 (u.p : Int)) ∧ W.cell? ⟨B, 2, none⟩ = some (.string (s.extract u.p (u.p + u.w))) := by
  refine ⟨?_, ?_, ?_⟩ <;> simp [World.cell?, show W.heap[B]? = _ from h]
theorem cells_own {β : Type} (B : Nat) (c : Array Value) (t : TypeId) (f : Nat × Nat) : Own (fun (_ : β) W => W.heap[B]? = some (.cells c t f)) := fun s X Y row hs hg hrow =>
  (hg.block B (Array.getElem?_eq_some_iff.1 hs).1 (fun e' => by obtain ⟨o, ho, hc⟩ := hrow B e'.symm; rw [hs] at ho; cases ho; cases hc)).trans hs
theorem size_own {β : Type} (B m : Nat) : OwnFrom B (fun (_ : β) W => m ≤ W.heap.size) := fun _ _ _ _ hs hg _ => Nat.le_trans hs hg.size
theorem Boxed3.new (W : World) (s : ByteArray) (u : U) : Boxed3 (W.alloc (.cells #[.int .i32 (u.c : Int), .int .i64 (u.p : Int), .string (s.extract u.p (u.p + u.w))] 82)) W.heap.size s u := World.alloc_heap_new W _
theorem boxed_below {W W' : World} {B N : Nat} {t : TypeId} {v : Value} (h : Boxed W B t v) (hb : Below N W W') (hN : B < N) : Boxed W' B t v := (hb.block B hN).trans h
theorem keepsFrom_below {B : Nat} {W W' : World} (h : Below W.heap.size W W') : KeepsFrom B W W' := ⟨h.size, fun k _ _ hk _ => (h.block k (Array.getElem?_eq_some_iff.1 hk).1).trans hk⟩
theorem ext_size (s : ByteArray) (u : Un s) : (s.extract u.1.p (u.1.p + u.1.w)).size = u.1.w := by
  have h := units_fit _ _ _ u.2
  obtain ⟨_, h2, _⟩ := h
  rw [← Lib.size_eq] at h2
  rw [Lib.size_eq, Lib.extract_data, List.length_take, List.length_drop, ← Lib.size_eq]
  omega
/-- Is a unit invalid? -/
def badU (u : U) : Bool := invB u.c u.w


attribute [local go_sem] Oper.semAt_some

theorem block_setU {W : World} {B i : Nat} {cs : Array Value} {t : TypeId} {f : Nat × Nat} (v : Value) (h : W.heap[B]? = some (.cells cs t f)) :
    (W.setCell ⟨B, i, none⟩ v).heap[B]? = some (.cells (cs.setIfInBounds i v) t f) := set_of h v

/-- Line and column behind a unit. -/
def stepP (q : Nat × Nat) (u : U) : Nat × Nat := if u.c = 10 then (q.1 + 1, 1) else (q.1, q.2 + 1)
/-- Line and column behind some units. -/
def posP (us : List U) : Nat × Nat := us.foldl stepP (1, 1)
theorem posP_snoc (us : List U) (u : U) : posP (us ++ [u]) = stepP (posP us) u := by simp [posP]
theorem posP_le : ∀ us : List U, (posP us).1 ≤ us.length + 1 ∧ (posP us).2 ≤ us.length + 1 := by
  intro us
  have key : ∀ (us : List U) (q : Nat × Nat), 1 ≤ q.2 → (us.foldl stepP q).1 ≤ us.length + q.1 ∧ (us.foldl stepP q).2 ≤ us.length + q.2 := by
    intro us
    induction us with
    | nil => intro q _; simp
    | cons u us ih =>
      intro q h1
      have := ih (stepP q u) (by unfold stepP; split <;> simp)
      simp only [List.foldl_cons, List.length_cons]
      have e : (stepP q u).1 ≤ q.1 + 1 ∧ (stepP q u).2 ≤ q.2 + 1 := by
        unfold stepP
        split <;> simp
      omega
  exact key us (1, 1) (Nat.le_refl _)
/-- The units that begin before an offset. -/
def before (s : ByteArray) (at' : Int) : List U := (units s).takeWhile fun u => decide ((u.p : Int) < at')
/-- A position as a value. -/
def posV (q : Nat × Nat) : Array Value := #[.int .i64 (q.1 : Int), .int .i64 (q.2 : Int)]

theorem cells_ownF {β : Type} (B : Nat) (c : β → Array Value) (t : TypeId) (f : Nat × Nat) : Own (fun (b : β) W => W.heap[B]? = some (.cells (c b) t f)) := fun s X Y row hs hg hrow =>
  (hg.block B (Array.getElem?_eq_some_iff.1 hs).1 (fun e' => by obtain ⟨o, ho, hc⟩ := hrow B e'.symm; rw [hs] at ho; cases ho; cases hc)).trans hs

theorem takeWhile_all {α : Type} (f : α → Bool) : ∀ (l : List α), (∀ x ∈ l, f x = true) → l.takeWhile f = l
  | [], _ => rfl
  | a :: l, h => by
    rw [List.takeWhile_cons, if_pos (h a (by simp)), takeWhile_all f l (fun x hx => h x (by simp [hx]))]
theorem takeWhile_stop {α : Type} (f : α → Bool) (x : α) (r : List α) : ∀ (l : List α), (∀ x ∈ l, f x = true) → f x = false → (l ++ x :: r).takeWhile f = l
  | [], _, hx => by simp [hx]
  | a :: l, h, hx => by
    rw [List.cons_append, List.takeWhile_cons, if_pos (h a (by simp)), takeWhile_stop f x r l (fun x hx => h x (by simp [hx])) hx]

/-- Between two rounds of Position's loop. -/
def PosI (s : ByteArray) (at' : Int) (w : World) (pre : List (Un s)) (W : World) : Prop :=
  (W.heap[w.heap.size]? = some (.cells #[.int .i64 at'] 3 (0, 0)) ∧ W.heap[w.heap.size + 1]? = some (.cells #[.int .i64 0, .int .i64 0] 46 (0, 0)) ∧ W.heap[w.heap.size + 2]? = some (.cells (posV (posP (pre.map (·.1)))) 46 (0, 0)) ∧
    (∀ u ∈ pre.map (·.1), decide ((u.p : Int) < at') = true) ∧ w.heap.size + 4 ≤ W.heap.size) ∧ Below w.heap.size w W
/-- Position's loop has been left. -/
def PosX (s : ByteArray) (at' : Int) (w : World) (c : Code) (pre : List (Un s)) (W : World) : Prop :=
  (W.heap[w.heap.size + 1]? = some (.cells #[.int .i64 0, .int .i64 0] 46 (0, 0)) ∧ W.heap[w.heap.size + 2]? = some (.cells (posV (posP ((pre.map (·.1)).dropLast))) 46 (0, 0)) ∧
    (c = .exit 0 ∧ ∃ (l : List U) (x : U), pre.map (·.1) = l ++ [x] ∧ (∀ u ∈ l, decide ((u.p : Int) < at') = true) ∧ decide ((x.p : Int) < at') = false)) ∧ Below w.heap.size w W
theorem posI_own (s : ByteArray) (at' : Int) (w : World) (B : Nat) (hB : w.heap.size ≤ B) : OwnFrom B (PosI s at' w) :=
  OwnFrom.and (OwnFrom.and (Own.from (cells_ownF _ _ _ _) _) (OwnFrom.and (Own.from (cells_ownF _ _ _ _) _) (OwnFrom.and (Own.from (cells_ownF _ _ _ _) _) (OwnFrom.and (ownFrom_pure _ _) (size_own _ _))))) (ownFrom_below (Nat.le_refl _) hB)
theorem posX_own (s : ByteArray) (at' : Int) (w : World) (B : Nat) (hB : w.heap.size ≤ B) (c : Code) : OwnFrom B (PosX s at' w c) :=
  OwnFrom.and (OwnFrom.and (Own.from (cells_ownF _ _ _ _) _) (OwnFrom.and (Own.from (cells_ownF _ _ _ _) _) (ownFrom_pure _ _))) (ownFrom_below (Nat.le_refl _) hB)

set_option maxRecDepth 100000 in
set_option maxHeartbeats 1000000 in
theorem position_any (s : ByteArray) (hs : s.size ≤ 140737488355328) (at' : Int) (w : World) :
    Calls Tryz.prog 38 #[.string s, .int .i64 at'] w fun e w' => e = .returned (.agg (posV (posP (before s at')))) ∧ Below w.heap.size w w' := by
  refine (callsIn_wide (n := 3)).1 ?_
  refine callsIn_of_wp_marks Tryz.func38 rfl trivial ?_ rfl
  simp only [Tryz.ntmps38, List.size_toArray, List.length_cons, List.length_nil, Nat.reduceAdd, Nat.reduceSub, Array.replicate_succ, Array.replicate_zero, List.push_toArray, List.append_toArray, List.nil_append, List.cons_append]
  gi_wp2_with (refine ⟨trivial, ?_⟩; gi_at_call 49; refine (callsIn_wide.2 (units_fn s _)).mono ?_; rintro e w' ⟨rfl, rfl⟩)
  obtain ⟨W0, hW0⟩ : ∃ W0, (((w.alloc (Obj.cells #[Value.int IntKind.i64 at'] 3)).alloc (Obj.cells #[Value.int IntKind.i64 0, Value.int IntKind.i64 0] 46)).alloc (Obj.cells #[Value.int IntKind.i64 1, Value.int IntKind.i64 1] 46)).alloc (Obj.cells #[Value.string s] 9) = W0 := ⟨_, rfl⟩
  have b0 : W0.heap[w.heap.size]? = some (.cells #[.int .i64 at'] 3 (0, 0)) := by rw [← hW0]; exact block_alloc _ (block_alloc _ (block_alloc _ (block_new w _)))
  have b1 : W0.heap[w.heap.size + 1]? = some (.cells #[.int .i64 0, .int .i64 0] 46 (0, 0)) := by
    rw [← hW0]; have := block_new (w.alloc (Obj.cells #[Value.int IntKind.i64 at'] 3)) (Obj.cells #[Value.int IntKind.i64 0, Value.int IntKind.i64 0] 46)
    rw [World.size_alloc] at this; exact block_alloc _ (block_alloc _ this)
  have b2 : W0.heap[w.heap.size + 2]? = some (.cells #[.int .i64 1, .int .i64 1] 46 (0, 0)) := by
    rw [← hW0]; have := block_new ((w.alloc (Obj.cells #[Value.int IntKind.i64 at'] 3)).alloc (Obj.cells #[Value.int IntKind.i64 0, Value.int IntKind.i64 0] 46)) (Obj.cells #[Value.int IntKind.i64 1, Value.int IntKind.i64 1] 46)
    rw [World.size_alloc, World.size_alloc] at this; exact block_alloc _ this
  have b3 : W0.heap[w.heap.size + 3]? = some (.cells #[.string s] 9 (0, 0)) := by
    rw [← hW0]; have := block_new (((w.alloc (Obj.cells #[Value.int IntKind.i64 at'] 3)).alloc (Obj.cells #[Value.int IntKind.i64 0, Value.int IntKind.i64 0] 46)).alloc (Obj.cells #[Value.int IntKind.i64 1, Value.int IntKind.i64 1] 46)) (Obj.cells #[Value.string s] 9)
    rw [World.size_alloc, World.size_alloc, World.size_alloc] at this; exact this
  have hB0 : Below w.heap.size w W0 := by
    rw [← hW0]; exact (((((Below.refl _ w).alloc (Nat.le_refl _) _).alloc (by simp) _).alloc (by simp; omega) _).alloc (by simp; omega) _)
  have hsz : W0.heap.size = w.heap.size + 4 := by rw [← hW0]; simp
  rw [hW0]
  clear hW0
  refine wpIn_rangeFunc_ownH (n := 3) rfl (by omega) (gf := 61) (lb := #[.pointer (some ⟨w.heap.size + 3, 0, none⟩)]) rfl trivial (enters_of Tryz.func61 (by kernel_rfl) rfl)
    (units_stops 2 (by omega) (w.heap.size + 3) w.heap.size s (by unfold maxLen; omega) W0 (by omega) (cell_of b3 rfl)) keepsIt_t (keepsIt_b (by omega) (by omega)) (Below.refl _ _) (fun _ => rfl)
    (PosI s at' w) (PosX s at' w) (posI_own s at' w _ (by omega)) (posX_own s at' w _ (by omega))
    ⟨⟨b0, b1, b2, (fun u hu => by simp at hu), by omega⟩, hB0⟩
    (fun x a' W => ∃ Bx, w.heap.size + 3 < Bx ∧ Boxed3 W Bx s x.1 ∧ a' = { tmps := #[.string s, .int .i64 at', undef, .pointer (some ⟨w.heap.size, 0, none⟩), .pointer (some ⟨w.heap.size + 1, 0, none⟩), .pointer (some ⟨w.heap.size + 1 + 1, 0, none⟩), .pointer (some ⟨Bx, 0, none⟩), .agg #[.int .i64 1, .int .i64 1], .string s, .func (.func 61) #[] #[.pointer (some ⟨w.heap.size + 1 + 1 + 1, 0, none⟩)], uval s x.1, undef, undef, undef, undef, undef, undef, undef, undef, undef, undef, undef, undef, undef, undef, undef, undef, undef], defers := [] })
    (fun x a' _ X Y row hs hg hr => by obtain ⟨Bx, h1, h2, h3⟩ := hs; exact ⟨Bx, h1, cells_own Bx _ _ _ () X Y row h2 hg (fun r e => (hr r e).2), h3⟩)
    ?assign ?body ?done ?stop
  case assign =>
    rintro l pre x W K ⟨⟨b0, b1, b2, hp, hz⟩, hB⟩ hK
    unfold encU uval
    gi_wp2
    exact hK _ _ ((KeepsOthers.alloc _ _).from _) (keepsIt_alloc W hB.size (by omega) _) ⟨⟨block_alloc _ b0, block_alloc _ b1, block_alloc _ b2, hp, by simp; omega⟩, hB.alloc hB.size _⟩ ⟨W.heap.size, by omega, Boxed3.new W s x.1, rfl⟩
  case body =>
    rintro l pre x a' W hl ⟨r, hr⟩ ⟨⟨b0, b1, b2, hp, hz⟩, hB⟩ ⟨Bx, hBx, bX, rfl⟩ hlt
    obtain ⟨c0, c1, c2⟩ := bX.cells
    have hlen : pre.length < 9223372036854775806 := by
      have := units_le s
      omega
    have hple := posP_le (pre.map (·.1))
    rw [List.length_map] at hple
    have hsn := posP_snoc (pre.map (·.1)) x.1
    obtain ⟨⟨q1, q2⟩, hq⟩ : ∃ q, posP (pre.map (·.1)) = q := ⟨_, rfl⟩
    rw [hq] at hple hsn b2
    have cA := cell_of (i := 0) (v := .int .i64 at') b0 rfl
    have cL := cell_of (i := 0) (v := .int .i64 (q1 : Int)) b2 rfl
    have cC := cell_of (i := 1) (v := .int .i64 (q2 : Int)) b2 rfl
    have fL := frozen_of (i := 0) b2
    have fC := frozen_of (i := 1) b2
    obtain ⟨hple1, hple2⟩ := hple
    simp only at hple1 hple2
    have hmap : (pre ++ [x]).map (·.1) = pre.map (·.1) ++ [x.1] := by simp
    have HM := Lib.hid hmap
    have HQ := Lib.hid hq
    have HN := Lib.hid hsn
    have HP := Lib.hid hp
    have H0 := Lib.hid b0
    have H1 := Lib.hid b1
    have H2 := Lib.hid b2
    clear hmap hq hsn hp hlt hr b0 b1 b2 c2 bX
    by_cases hge : at' ≤ (x.1.p : Int)
    · gi_wp2
      refine ⟨KeepsFrom.refl _ _, ⟨H1.out, ?_, rfl, pre.map (·.1), x.1, HM.out, HP.out, by simpa using hge⟩, hB⟩
      rw [HM.out, List.dropLast_concat, HQ.out]
      exact H2.out
    · have hlt : (x.1.p : Int) < at' := by omega
      clear hge
      have HPX : Hid (∀ u ∈ (pre ++ [x]).map (·.1), decide ((u.p : Int) < at') = true) := by
        refine Lib.hid ?_
        rw [HM.out]
        intro u hu
        rcases List.mem_append.1 hu with hu | hu
        · exact HP.out u hu
        · rw [List.mem_singleton.1 hu]; simpa using hlt
      by_cases h10 : ((x.1.c : Int) == 10) = true
      · have hv : posV (posP ((pre ++ [x]).map (·.1))) = ((posV (q1, q2)).setIfInBounds 0 (.int .i64 ((q1 : Int) + 1))).setIfInBounds 1 (.int .i64 1) := by
          have h10' : x.1.c = 10 := by have := eq_of_beq h10; omega
          rw [HM.out, HN.out]
          unfold stepP
          rw [if_pos h10']
          simp [posV]
        have HV := Lib.hid hv
        clear hv
        gi_wp2
        refine ⟨((KeepsOthers.setCell _ _ _).trans (KeepsOthers.setCell _ _ _)).from _, keepsIt_t (keepsIt_setCell W _ _ (by omega) (by omega) _) (keepsIt_setCell _ _ _ (by omega) (by omega) _),
          ⟨block_other _ (block_other _ H0.out (by omega)) (by omega), block_other _ (block_other _ H1.out (by omega)) (by omega), ?_, HPX.out, by have := ((KeepsOthers.setCell W ⟨w.heap.size + 1 + 1, 0, none⟩ (.int .i64 ((q1 : Int) + 1))).trans (KeepsOthers.setCell _ ⟨w.heap.size + 1 + 1, 1, none⟩ (.int .i64 1))).size; omega⟩,
          (hB.setCell (p := ⟨w.heap.size + 1 + 1, 0, none⟩) (by simp; omega) _).setCell (p := ⟨w.heap.size + 1 + 1, 1, none⟩) (by simp; omega) _⟩
        rw [HV.out]
        exact block_setU _ (block_setU _ H2.out)
      · have h10' : ((x.1.c : Int) == 10) = false := by simpa using h10
        have hv : posV (posP ((pre ++ [x]).map (·.1))) = (posV (q1, q2)).setIfInBounds 1 (.int .i64 ((q2 : Int) + 1)) := by
          have h11 : x.1.c ≠ 10 := by
            intro e
            rw [e] at h10
            exact h10 rfl
          rw [HM.out, HN.out]
          unfold stepP
          rw [if_neg h11]
          simp [posV]
        have HV := Lib.hid hv
        clear hv h10
        gi_wp2
        refine ⟨(KeepsOthers.setCell _ _ _).from _, keepsIt_setCell W _ _ (by omega) (by omega) _,
          ⟨block_other _ H0.out (by omega), block_other _ H1.out (by omega), ?_, HPX.out, by have := (KeepsOthers.setCell W ⟨w.heap.size + 1 + 1, 1, none⟩ (.int .i64 ((q2 : Int) + 1))).size; omega⟩,
          hB.setCell (p := ⟨w.heap.size + 1 + 1, 1, none⟩) (by simp; omega) _⟩
        rw [HV.out]
        exact block_setU _ H2.out
  case done =>
    rintro D xs W hD hx ⟨⟨b0, b1, b2, hp, hz⟩, hB⟩ hK
    have hbe : before s at' = xs.map (·.1) := by
      have h1 := takeWhile_all (fun u : U => decide ((u.p : Int) < at')) _ hp
      unfold before
      rw [← h1]
      exact congrArg (List.takeWhile fun u : U => decide ((u.p : Int) < at')) hx.symm
    obtain ⟨q, hq⟩ : ∃ q, posP (xs.map (·.1)) = q := ⟨_, rfl⟩
    rw [hq] at b2
    have cL := cell_of (i := 0) (v := .int .i64 (q.1 : Int)) b2 rfl
    have cC := cell_of (i := 1) (v := .int .i64 (q.2 : Int)) b2 rfl
    have d0 := cell_of (i := 0) (v := .int .i64 0) b1 rfl
    have d1 := cell_of (i := 1) (v := .int .i64 0) b1 rfl
    have f0 := frozen_of (i := 0) b1
    have f1 := frozen_of (i := 1) b1
    have HE := Lib.hid hbe
    have HQ := Lib.hid hq
    have H1 := Lib.hid b1
    clear hbe hq hx hp b0 b2 b1
    gi_wp2
    have hK' := ((KeepsOthers.setCell W ⟨w.heap.size + 1, 0, none⟩ (.int .i64 (q.1 : Int))).trans (KeepsOthers.setCell _ ⟨w.heap.size + 1, 1, none⟩ (.int .i64 (q.2 : Int)))).same D _ hK rfl
    have hB2 := (hB.setCell (p := ⟨w.heap.size + 1, 0, none⟩) (by simp) (.int .i64 (q.1 : Int))).setCell (p := ⟨w.heap.size + 1, 1, none⟩) (by simp) (.int .i64 (q.2 : Int))
    have hb5 := (World.putObj_heap_other (o := .deferred none) (show w.heap.size + 1 ≠ D by omega)).trans (block_setU (i := 1) (.int .i64 (q.2 : Int)) (block_setU (i := 0) (.int .i64 (q.1 : Int)) H1.out))
    have q0 := cell_of (i := 0) (v := .int .i64 (q.1 : Int)) hb5 rfl
    have q1 := cell_of (i := 1) (v := .int .i64 (q.2 : Int)) hb5 rfl
    refine ⟨by simp, .inl ⟨_, _, rfl, run_takeDeferred hK', ?_⟩⟩
    refine ⟨.agg (posV q), ?_, by rw [HE.out, HQ.out], hB2.trans (belowK_b (w := w) (Nat.le_refl _) _ D _ _ (by omega) hK' rfl rfl)⟩
    simp [results, Tryz.f38, go_sem, q0, q1, posV]
  case stop =>
    rintro D c pre W hD hpre ⟨⟨b1, b2, rfl, l, x, hm, hl, hxx⟩, hB⟩ hK
    have hbe : before s at' = l := by
      unfold before
      obtain ⟨r, hr⟩ := hpre
      rw [hm, List.append_assoc] at hr
      have := takeWhile_stop (fun u : U => decide ((u.p : Int) < at')) x r l hl hxx
      rw [← this]
      exact congrArg (List.takeWhile fun u : U => decide ((u.p : Int) < at')) hr.symm
    rw [hm, List.dropLast_concat] at b2
    obtain ⟨q, hq⟩ : ∃ q, posP l = q := ⟨_, rfl⟩
    rw [hq] at b2
    have cL := cell_of (i := 0) (v := .int .i64 (q.1 : Int)) b2 rfl
    have cC := cell_of (i := 1) (v := .int .i64 (q.2 : Int)) b2 rfl
    have d0 := cell_of (i := 0) (v := .int .i64 0) b1 rfl
    have d1 := cell_of (i := 1) (v := .int .i64 0) b1 rfl
    have f0 := frozen_of (i := 0) b1
    have f1 := frozen_of (i := 1) b1
    have HE := Lib.hid hbe
    have HQ := Lib.hid hq
    have H1 := Lib.hid b1
    clear hbe hq hpre hm hl hxx b2 b1
    gi_wp2
    have hK' := ((KeepsOthers.setCell W ⟨w.heap.size + 1, 0, none⟩ (.int .i64 (q.1 : Int))).trans (KeepsOthers.setCell _ ⟨w.heap.size + 1, 1, none⟩ (.int .i64 (q.2 : Int)))).same D _ hK rfl
    have hB2 := (hB.setCell (p := ⟨w.heap.size + 1, 0, none⟩) (by simp) (.int .i64 (q.1 : Int))).setCell (p := ⟨w.heap.size + 1, 1, none⟩) (by simp) (.int .i64 (q.2 : Int))
    have hb5 := (World.putObj_heap_other (o := .deferred none) (show w.heap.size + 1 ≠ D by omega)).trans (block_setU (i := 1) (.int .i64 (q.2 : Int)) (block_setU (i := 0) (.int .i64 (q.1 : Int)) H1.out))
    have q0 := cell_of (i := 0) (v := .int .i64 (q.1 : Int)) hb5 rfl
    have q1 := cell_of (i := 1) (v := .int .i64 (q.2 : Int)) hb5 rfl
    refine ⟨by simp, .inl ⟨_, _, rfl, run_takeDeferred hK', ?_⟩⟩
    refine ⟨.agg (posV q), ?_, by rw [HE.out, HQ.out], hB2.trans (belowK_b (w := w) (Nat.le_refl _) _ D _ _ (by omega) hK' rfl rfl)⟩
    simp [results, Tryz.f38, go_sem, q0, q1, posV]
end Go.Proofs.YtpkkebojiengpaaGreatDoor
