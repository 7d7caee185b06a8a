/-
  WALKS over package codepoint, fourth part: Valid: is there no invalid unit; nothing that lay has turned. At any string.
-/
import Derived.Test.YteennnhinfnahaaCpC
namespace Go.Proofs.Yteennnhinfnahaa
open Go.RowKit Go.Shelf Go.Lib

attribute [local go_sem] Oper.semAt_some

/-- Block B holds unit u of s in a variable of its own. -/
def Boxed3 (W : World) (B : Nat) (s : ByteArray) (u : U) : Prop :=
  W.heap[B]? = some (.cells #[.int .i32 (u.c : Int), .int .i64 (u.p : Int), .string (s.extract u.p (u.p + u.w))] 137 (0, 0))
theorem Boxed3.cells {W : World} {B : Nat} {s : ByteArray} {u : U} (h : Boxed3 W B s u) :
    W.cell? ⟨B, 0, none⟩ = some (.int .i32 (u.c : Int)) ∧ W.cell? ⟨B, 1, none⟩ = some (.int .i64 (u.p : Int)) ∧ W.cell? ⟨B, 2, none⟩ = some (.string (s.extract u.p (u.p + u.w))) := by
  refine ⟨?_, ?_, ?_⟩ <;> simp [World.cell?, show W.heap[B]? = _ from h]
theorem cells_own {β : Type} (B : Nat) (c : Array Value) (t : TypeId) (f : Nat × Nat) : Own (fun (_ : β) W => W.heap[B]? = some (.cells c t f)) := fun s X Y row hs hg hrow =>
  (hg.block B (Array.getElem?_eq_some_iff.1 hs).1 (fun e' => by obtain ⟨o, ho, hc⟩ := hrow B e'.symm; rw [hs] at ho; cases ho; cases hc)).trans hs
theorem size_own {β : Type} (B m : Nat) : OwnFrom B (fun (_ : β) W => m ≤ W.heap.size) := fun _ _ _ _ hs hg _ => Nat.le_trans hs hg.size
theorem Boxed3.new (W : World) (s : ByteArray) (u : U) : Boxed3 (W.alloc (.cells #[.int .i32 (u.c : Int), .int .i64 (u.p : Int), .string (s.extract u.p (u.p + u.w))] 137)) W.heap.size s u := World.alloc_heap_new W _
theorem boxed_below {W W' : World} {B N : Nat} {t : TypeId} {v : Value} (h : Boxed W B t v) (hb : Below N W W') (hN : B < N) : Boxed W' B t v := (hb.block B hN).trans h
theorem keepsFrom_below {B : Nat} {W W' : World} (h : Below W.heap.size W W') : KeepsFrom B W W' := ⟨h.size, fun k _ _ hk _ => (h.block k (Array.getElem?_eq_some_iff.1 hk).1).trans hk⟩
theorem ext_size (s : ByteArray) (u : Un s) : (s.extract u.1.p (u.1.p + u.1.w)).size = u.1.w := by
  have h := units_fit _ _ _ u.2
  obtain ⟨_, h2, _⟩ := h
  rw [← Lib.size_eq] at h2
  rw [Lib.size_eq, Lib.extract_data, List.length_take, List.length_drop, ← Lib.size_eq]
  omega
/-- Is a unit invalid? -/
def badU (u : U) : Bool := invB u.c u.w

set_option maxRecDepth 100000 in
set_option maxHeartbeats 1000000 in
theorem valid_any (s : ByteArray) (hs : s.size ≤ maxLen) (w : World) :
    Calls Try.prog 65 #[.string s] w fun e w' => e = .returned (.bool ((units s).all fun u => !badU u)) ∧ Below w.heap.size w w' := by
  refine (callsIn_wide (n := 3)).1 ?_
  refine callsIn_of_wp_marks Try.func65 rfl trivial ?_ rfl
  simp only [Try.ntmps65, List.size_toArray, List.length_cons, List.length_nil, Nat.reduceAdd, Nat.reduceSub, Array.replicate_succ, Array.replicate_zero, List.push_toArray, List.append_toArray, List.nil_append, List.cons_append]
  gi_wp2_with (refine ⟨trivial, ?_⟩; gi_at_call 78; refine (callsIn_wide.2 (units_fn s _)).mono ?_; rintro e w' ⟨rfl, rfl⟩)
  have bS := (Boxed.new w 4 (.bool false)).alloc (.cells #[.string s] 9)
  have bN := Boxed.new (w.alloc (.cells #[.bool false] 4)) 9 (.string s)
  simp only [World.size_alloc] at bN
  have hB0 : Below w.heap.size w ((w.alloc (.cells #[.bool false] 4)).alloc (.cells #[.string s] 9)) := ((Below.refl _ w).alloc (Nat.le_refl _) _).alloc (by simp) _
  have hsz : ((w.alloc (.cells #[.bool false] 4)).alloc (.cells #[.string s] 9)).heap.size = w.heap.size + 2 := by simp
  obtain ⟨W0, hW0⟩ : ∃ W0, (w.alloc (.cells #[.bool false] 4)).alloc (.cells #[.string s] 9) = W0 := ⟨_, rfl⟩
  rw [hW0] at bS bN hB0 hsz ⊢
  clear hW0
  refine wpIn_rangeFunc_ownH (n := 3) rfl (by omega) (gf := 90) (lb := #[.pointer (some ⟨w.heap.size + 1, 0, none⟩)]) rfl trivial (enters_of Try.func90 (by kernel_rfl) rfl)
    (units_stops 2 (by omega) (w.heap.size + 1) w.heap.size s hs W0 (by omega) bN.cell) keepsIt_t (keepsIt_b (by omega) (by omega)) (Below.refl _ _) (fun _ => rfl)
    (fun pre W => (Boxed W w.heap.size 4 (.bool false) ∧ (pre.map (·.1)).all (fun u => !badU u) = true ∧ w.heap.size + 2 ≤ W.heap.size) ∧ Below w.heap.size w W)
    (fun c pre W => (Boxed W w.heap.size 4 (.bool false) ∧ ((pre.map (·.1)).all (fun u => !badU u) = false ∧ c = .ret)) ∧ Below w.heap.size w W)
    (OwnFrom.and (OwnFrom.and (Own.from (boxed_own _ _ _) _) (OwnFrom.and (ownFrom_pure _ _) (size_own _ _))) (ownFrom_below (Nat.le_refl _) (by omega)))
    (fun c => OwnFrom.and (OwnFrom.and (Own.from (boxed_own _ _ _) _) (ownFrom_pure _ _)) (ownFrom_below (Nat.le_refl _) (by omega)))
    ⟨⟨bS, rfl, by omega⟩, hB0⟩
    (fun x a' W => ∃ Bx, w.heap.size + 1 < Bx ∧ Boxed3 W Bx s x.1 ∧ a' = { tmps := #[.string s, undef, .pointer (some ⟨w.heap.size, 0, none⟩), .pointer (some ⟨Bx, 0, none⟩), .string s, .func (.func 90) #[] #[.pointer (some ⟨w.heap.size + 1, 0, none⟩)], uval s x.1, undef, undef], defers := [] })
    (fun x a' _ X Y row hs hg hr => by obtain ⟨Bx, h1, h2, h3⟩ := hs; exact ⟨Bx, h1, cells_own Bx _ _ _ () X Y row h2 hg (fun r e => (hr r e).2), h3⟩)
    ?assign ?body ?done ?stop
  case assign =>
    rintro l pre x W K ⟨⟨bS, hp, hz⟩, hB⟩ hK
    unfold encU uval
    gi_wp2
    exact hK _ _ ((KeepsOthers.alloc _ _).from _) (keepsIt_alloc W hB.size (by omega) _) ⟨⟨bS.alloc _, hp, by simp; omega⟩, hB.alloc hB.size _⟩ ⟨W.heap.size, by omega, Boxed3.new W s x.1, rfl⟩
  case body =>
    rintro l pre x a' W hl ⟨r, hr⟩ ⟨⟨bS, hp, hz⟩, hB⟩ ⟨Bx, hBx, bX, rfl⟩ hlt
    obtain ⟨c0, c1, c2⟩ := bX.cells
    have hinv := invalid_any (x.1.c : Int) (x.1.p : Int) (s.extract x.1.p (x.1.p + x.1.w)) W
    rw [ext_size] at hinv
    have hap : ((pre ++ [x]).map (·.1)).all (fun u => !badU u) = !badU x.1 := by
      rw [List.map_append, List.all_append, hp]
      simp
    have HP := Lib.hid hp
    have HA := Lib.hid hap
    have HI := Lib.hid hinv
    clear hp hap hinv hlt
    obtain ⟨b, hb⟩ : ∃ b, badU x.1 = b := ⟨_, rfl⟩
    have hbi : invB (x.1.c : Int) x.1.w = b := hb
    rw [hb] at HA
    rw [hbi] at HI
    clear hbi hb
    cases b
    · gi_wp2_with (refine ⟨trivial, ?_⟩; gi_at_call 79; refine (CallsIn.inRound l (callsIn_wide.2 HI.out)).mono ?_; rintro e w' ⟨rfl, hb⟩)
      have hs1 := hb.size
      exact ⟨keepsFrom_below hb, keepsIt_below hb (Nat.le_refl _) hB.size (by omega), ⟨boxed_below bS hb bS.lt, HA.out, by omega⟩, hB.trans (hb.mono hB.size)⟩
    · gi_wp2_with (refine ⟨trivial, ?_⟩; gi_at_call 79; refine (CallsIn.inRound l (callsIn_wide.2 HI.out)).mono ?_; rintro e w' ⟨rfl, hb⟩; have bW := boxed_below bS hb bS.lt; have cW := bW.cell; have fW := bW.frozen)
      exact ⟨(keepsFrom_below hb).trans ((KeepsOthers.setCell _ _ _).from _), ⟨bW.set _, HA.out, rfl⟩, (hB.trans (hb.mono hB.size)).setCell (p := ⟨w.heap.size, 0, none⟩) (Nat.le_refl _) _⟩
  case done =>
    rintro D xs W hD hx ⟨⟨bS, hp, hz⟩, hB⟩ hK
    have cS := bS.cell
    have fS := bS.frozen
    rw [hx] at hp
    have HP := Lib.hid hp
    clear hp hx
    gi_wp2
    have bW := bS.set (.bool true)
    have hB2 := hB.setCell (p := ⟨w.heap.size, 0, none⟩) (Nat.le_refl _) (.bool true)
    have hK' := (KeepsOthers.setCell W ⟨w.heap.size, 0, none⟩ (.bool true)).same D _ hK rfl
    refine ⟨by simp, .inl ⟨_, _, rfl, run_takeDeferred hK', ?_⟩⟩
    have hc5 := cell_kept bW.cell (grownBy_putObj' _ D (.deferred none)) (fun r e => by cases e; exact ⟨_, hK', rfl⟩)
    refine ⟨.bool true, ?_, by rw [HP.out], hB2.trans (belowK_b (w := w) (Nat.le_refl _) _ D _ _ (by omega) hK' rfl rfl)⟩
    simp [results, Try.f65, go_sem, hc5]
  case stop =>
    rintro D c pre W hD hpre ⟨⟨bS, hp, rfl⟩, hB⟩ hK
    have cS := bS.cell
    have fS := bS.frozen
    gi_wp2
    refine ⟨by simp, .inl ⟨_, _, rfl, run_takeDeferred hK, ?_⟩⟩
    have hc5 := cell_kept bS.cell (grownBy_putObj' _ D (.deferred none)) (fun r e => by cases e; exact ⟨_, hK, rfl⟩)
    have hall : ((units s).all fun u => !badU u) = false := by
      obtain ⟨q, hq⟩ := hpre
      have hq2 := congrArg (fun l : List U => l.all fun u => !badU u) hq
      simp only [List.all_append, hp, Bool.false_and] at hq2
      exact hq2.symm
    refine ⟨.bool false, ?_, by rw [hall], hB.trans (belowK_b (w := w) (Nat.le_refl _) _ D _ _ (by omega) hK rfl rfl)⟩
    simp [results, Try.f65, go_sem, hc5]
end Go.Proofs.Yteennnhinfnahaa
