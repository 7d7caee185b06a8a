/-
  WALKS over package stab: find collects the numbers of the spans that begin at most at a token, end behind another and fit.
-/
import Derived.Test.YtifdencdbpdbfaaDoorYaX
import Derived.RangeFuncBox
namespace Go.Proofs.YtifdencdbpdbfaaDoor
open Go Go.RowKit Go.Shelf Go.Lib Go.Sort
set_option linter.unusedVariables false
set_option linter.unusedSimpArgs false
attribute [local go_sem] Oper.semAt_some

def spA (x : Sp) : Value := .agg #[.int .i64 x.1, .int .i64 x.2]
def ListV (w : World) (xs : List Int) (e : Ending) (w' : World) : Prop := (∃ v, e = .returned v ∧ Rows 1 EInt w' v xs) ∧ Below w.heap.size w w'

theorem size_ownF {β : Type} (B m : Nat) : OwnFrom B (fun (_ : β) W => m ≤ W.heap.size) := fun _ _ _ _ hs hg _ => Nat.le_trans hs hg.size
theorem keepsFromB {B : Nat} {W W' : World} (h : Below W.heap.size W W') : KeepsFrom B W W' := ⟨h.size, fun k _ _ hk _ => (h.block k (Array.getElem?_eq_some_iff.1 hk).1).trans hk⟩
theorem own_base {w : World} {b b' : Nat} {T : TypeId} {sz n : Nat} {v : Value} {xs : List Value} (hb : b' ≤ b) (h : w.ownsRow b T sz v n xs) : w.ownsRow b' T sz v n xs := by
  refine ⟨h.1, ?_⟩
  rcases h.2 with ⟨rfl, h0⟩ | ⟨g, cap, cur, hv, hbg, hh, hc, hm, hs, ht⟩
  · exact .inl ⟨rfl, h0⟩
  · exact .inr ⟨g, cap, cur, hv, Nat.le_trans hb hbg, hh, hc, hm, hs, ht⟩
theorem boxed_belowY {W W' : World} {B N : Nat} {t : TypeId} {v : Value} (h : Boxed W B t v) (hb : Below N W W') (hN : B < N) : Boxed W' B t v := (hb.block B hN).trans h
theorem rows_put {w : World} {D : Nat} {o : Obj} (o' : Obj) {v : Value} {xs : List Int} (h : Rows 1 EInt w v xs) (hD : w.heap[D]? = some o) (ho : o.isCells = false) : Rows 1 EInt (w.putObj D o') v xs := by
  obtain ⟨A, cap, hv, hc, hr⟩ := h
  refine ⟨A, cap, hv, hc, fun h0 => ?_⟩
  obtain ⟨b, off, hA, hb, hj⟩ := hr h0
  refine ⟨b, off, hA, Nat.lt_of_lt_of_le hb (grownBy_putObj' w D o').size, fun j x hx => ?_⟩
  obtain ⟨cs, h1, h2, h3⟩ := hj j x hx
  refine ⟨cs, h1, h2, fun i u hu => ?_⟩
  have hcu := h3 i u hu
  have hne : b ≠ D := by
    rintro rfl
    unfold World.cell? at hcu
    rw [hD] at hcu
    cases o <;> simp_all [Obj.isCells]
  exact (World.cell?_of_block (a := ⟨b, off + j * 1 + i, none⟩) (World.putObj_heap_other (fun e => hne e))).trans hcu
/-- Between two rounds of find's loop. -/
def FindI (w : World) (N : Nat) (last : Int) (fv : Value) (fits : Sp → Bool) (pre : List Nd) (W : World) : Prop :=
  (Boxed W N 3 (.int .i64 last) ∧ Boxed W (N + 1) 60 fv ∧ (∃ v, Boxed W (N + 2) 37 v ∧ W.ownsRow (N + 5) 3 1 v (colL fits pre).length ((colL fits pre).map (Value.int .i64)) ∧ True) ∧ (∀ y ∈ pre, y.1.1 ≤ last) ∧ N + 5 ≤ W.heap.size) ∧ Below N w W
/-- find's loop has been left. -/
def FindX (w : World) (N : Nat) (last : Int) (fits : Sp → Bool) (c : Code) (pre : List Nd) (W : World) : Prop :=
  ((∃ v, Boxed W (N + 2) 37 v ∧ W.ownsRow (N + 5) 3 1 v (colL fits pre.dropLast).length ((colL fits pre.dropLast).map (Value.int .i64)) ∧ True) ∧ (c = .exit 0 ∧ ∃ (p : List Nd) (x : Nd), pre = p ++ [x] ∧ (∀ y ∈ p, y.1.1 ≤ last) ∧ last < x.1.1)) ∧ Below N w W
theorem findI_own (w : World) (N : Nat) (last : Int) (fv : Value) (fits : Sp → Bool) (B : Nat) (hN : N ≤ w.heap.size) (hB : N ≤ B) : OwnFrom B (FindI w N last fv fits) :=
  OwnFrom.and (OwnFrom.and (Own.from (boxed_own _ _ _) _) (OwnFrom.and (Own.from (boxed_own _ _ _) _) (OwnFrom.and (Own.from (holdsRow_own (N + 5) (N + 2) 37 3 1 (fun pre => (colL fits pre).length) (fun pre => (colL fits pre).map (Value.int .i64)) (fun _ _ => True)) _) (OwnFrom.and (ownFrom_pure _ _) (size_ownF _ _))))) (ownFrom_below hN hB)
theorem findX_own (w : World) (N : Nat) (last : Int) (fits : Sp → Bool) (B : Nat) (hN : N ≤ w.heap.size) (hB : N ≤ B) (c : Code) : OwnFrom B (FindX w N last fits c) :=
  OwnFrom.and (OwnFrom.and (Own.from (holdsRow_own (N + 5) (N + 2) 37 3 1 (fun (pre : List Nd) => (colL fits pre.dropLast).length) (fun pre => (colL fits pre.dropLast).map (Value.int .i64)) (fun _ _ => True)) _) (ownFrom_pure _ _)) (ownFrom_below hN hB)

set_option maxRecDepth 100000 in
set_option maxHeartbeats 4000000 in
theorem find_any {w : World} {B : Nat} {l : List Sp} (hI : IdxAt w B l) (last tok : Int) (fn : FuncId) (caps : Array Value) (fits : Sp → Bool) (en : ∀ args w, (callFunc fn args).run Tryd.prog w = .ok (.enter fn args) w)
    (hf : ∀ (W : World) (x : Sp), Below w.heap.size w W → Calls Tryd.prog fn (#[spA x] ++ caps) W (BoolV W (fits x))) :
    Calls Tryd.prog 27 #[.pointer (some ⟨B, 0, none⟩), .int .i64 last, .int .i64 tok, .func (.func fn) #[] caps] w (ListV w (idxs (selP last tok fits) l)) := by
  obtain ⟨hlen, sv, g, hB, hrow, L, hN, hT⟩ := hI
  have c1 := cell_of (i := 1) hB rfl
  obtain ⟨n, hn⟩ : ∃ n, l.length = n := ⟨_, rfl⟩
  rw [hn] at hlen c1
  refine (callsIn_wide (n := 6)).1 ?_
  refine callsIn_of_wp_marks Tryd.func27 rfl trivial ?_ rfl
  simp only [Tryd.ntmps27, List.size_toArray, List.length_cons, List.length_nil, Nat.reduceAdd, Nat.reduceSub, Array.replicate_succ, Array.replicate_zero, List.push_toArray, List.append_toArray, List.nil_append, List.cons_append]
  have cX : ∀ W, Below w.heap.size w W → W.cell? ⟨B, 1, none⟩ = some (.slice (some ⟨g, 0, none⟩) n n) := fun W h => (h.cell (p := ⟨B, 1, none⟩) (Array.getElem?_eq_some_iff.1 hB).1).trans c1
  have hb1 : Below w.heap.size w (((w.alloc (.cells #[.int .i64 last] 3)).alloc (.cells #[.func (.func fn) #[] caps] 60)).alloc (.cells #[.slice none 0 0] 37)) := (((Below.refl _ w).alloc (Nat.le_refl _) _).alloc (by simp) _).alloc (by simp; omega) _
  have cXX := cX _ hb1
  obtain ⟨N, hNN⟩ : ∃ N, w.heap.size = N := ⟨_, rfl⟩
  gi_wp2
  refine ⟨trivial, (callsIn_wide.2 (ending_fn (some ⟨g, 0, none⟩) n n tok _)).mono ?_⟩
  rintro e w' ⟨rfl, rfl⟩
  simp only [World.size_alloc]
  rw [hNN]
  rw [show N + 1 + 1 = N + 2 by omega, show N + 2 + 1 = N + 3 by omega, show N + 3 + 1 = N + 4 by omega]
  have HN0 := Lib.hid hNN
  obtain ⟨W0, hW0⟩ : ∃ W0, (((((w.alloc (.cells #[.int .i64 last] 3)).alloc (.cells #[.func (.func fn) #[] caps] 60)).alloc (.cells #[.slice none 0 0] 37)).alloc (.cells #[.slice (some ⟨g, 0, none⟩) n n] 51)).alloc (.cells #[.int .i64 tok] 3)) = W0 := ⟨_, rfl⟩
  have b0 : Boxed W0 N 3 (.int .i64 last) := by
    rw [← hW0, ← hNN]
    exact ((((Boxed.new w _ _).alloc _).alloc _).alloc _).alloc _
  have b1 : Boxed W0 (N + 1) 60 (.func (.func fn) #[] caps) := by
    have := Boxed.new (w.alloc (.cells #[.int .i64 last] 3)) 60 (.func (.func fn) #[] caps)
    rw [World.size_alloc, hNN] at this
    rw [← hW0]
    exact ((this.alloc _).alloc _).alloc _
  have b2 : Boxed W0 (N + 2) 37 (.slice none 0 0) := by
    have := Boxed.new ((w.alloc (.cells #[.int .i64 last] 3)).alloc (.cells #[.func (.func fn) #[] caps] 60)) 37 (.slice none 0 0)
    rw [World.size_alloc, World.size_alloc, hNN] at this
    rw [← hW0]
    exact (this.alloc _).alloc _
  have b3 : Boxed W0 (N + 3) 51 (.slice (some ⟨g, 0, none⟩) n n) := by
    have := Boxed.new (((w.alloc (.cells #[.int .i64 last] 3)).alloc (.cells #[.func (.func fn) #[] caps] 60)).alloc (.cells #[.slice none 0 0] 37)) 51 (.slice (some ⟨g, 0, none⟩) n n)
    rw [World.size_alloc, World.size_alloc, World.size_alloc, hNN] at this
    rw [← hW0]
    exact this.alloc _
  have b4 : Boxed W0 (N + 4) 3 (.int .i64 tok) := by
    have := Boxed.new ((((w.alloc (.cells #[.int .i64 last] 3)).alloc (.cells #[.func (.func fn) #[] caps] 60)).alloc (.cells #[.slice none 0 0] 37)).alloc (.cells #[.slice (some ⟨g, 0, none⟩) n n] 51)) 3 (.int .i64 tok)
    rw [World.size_alloc, World.size_alloc, World.size_alloc, World.size_alloc, hNN] at this
    rw [← hW0]
    exact this
  have hB0 : Below N w W0 := by
    rw [← hW0, ← hNN]
    exact ((((((Below.refl _ w).alloc (Nat.le_refl _) _).alloc (by simp) _).alloc (by simp; omega) _).alloc (by simp; omega) _).alloc (by simp; omega) _)
  have hsz : W0.heap.size = N + 5 := by rw [← hW0]; simp; omega
  have hgN : g < N := by rw [← hNN]; exact hN.lt
  have hNW : NdAt W0 g L := hN.below hB0 hgN
  have hLn : L.length = n := by rw [hT.2.2.1, hn]
  have hmsr := hT.2.2.2
  rw [hLn] at hmsr
  rw [hW0]
  obtain ⟨i0, hi, hz0, hz1, hz2⟩ := info_parts Tryd.infoInt2
  have HW := Lib.hid (fun (last : Int) (fits : Sp → Bool) => find_whole (last := last) (tok := tok) (fits := fits) hT)
  have HCU := Lib.hid (fun (last : Int) (fits : Sp → Bool) (pre : List Nd) (x : Nd) => find_cut (last := last) (tok := tok) (fits := fits) (pre := pre) (x := x) hT)
  have hFl : (L.filter fun x => decide (tok < x.1.2)).length ≤ n := by rw [← hLn]; exact List.length_filter_le _ _
  have HFL := Lib.hid hFl
  have HF := Lib.hid hf
  have HL := Lib.hid hlen
  clear hW0 hf hT hB hrow c1 cX hb1 cXX hn hFl
  gi_wp2
  refine wpIn_rangeFunc_ownH (n := 6) rfl (by omega) (gf := 53) (lb := #[.pointer (some ⟨N + 3, 0, none⟩), .pointer (some ⟨N + 4, 0, none⟩)]) rfl trivial (enters_of Tryd.func53 (by kernel_rfl) rfl)
    (ending_stops 5 (by omega) (N + 3) (N + 4) hLn hNW hgN (by omega) (by omega) hmsr (by omega) (by omega) b3.cell b4.cell) belowK_t (belowK_b (by omega)) (Below.refl _ _) (fun _ => by rfl)
    (FindI w N last (.func (.func fn) #[] caps) fits) (FindX w N last fits) (findI_own _ _ _ _ _ _ (by omega) (by omega)) (findX_own _ _ _ _ _ (by omega) (by omega))
    ⟨⟨b0, b1, ⟨_, b2, World.ownsRow_nil _ _ _ _, trivial⟩, (fun u hu => by simp at hu), by omega⟩, hB0⟩
    (fun x a' W => ∃ Bx, N + 4 < Bx ∧ W.heap[Bx]? = some (.cells #[.int .i64 x.1.1, .int .i64 x.1.2, .int .i64 x.2.1, .int .i64 x.2.2] 81 (0, 0)) ∧ a' = { tmps := #[.pointer (some ⟨B, 0, none⟩), .int .i64 last, .int .i64 tok, .func (.func fn) #[] caps, undef, .pointer (some ⟨N, 0, none⟩), undef, .pointer (some ⟨N + 1, 0, none⟩), .slice none 0 0, .pointer (some ⟨N + 2, 0, none⟩), .pointer (some ⟨Bx, 0, none⟩), .pointer (some ⟨B, 0, none⟩), .pointer (some ⟨B, 0, none⟩), .pointer (some ⟨B, 1, none⟩), .slice (some ⟨g, 0, none⟩) n n, .int .i64 tok, .func (.func 53) #[] #[.pointer (some ⟨N + 3, 0, none⟩), .pointer (some ⟨N + 4, 0, none⟩)], .agg #[.int .i64 x.1.1, .int .i64 x.1.2, .int .i64 x.2.1, .int .i64 x.2.2], undef, undef, undef, undef, undef, undef, undef, undef, undef, undef, undef, undef, undef, undef, undef, undef, undef], defers := [] })
    (fun x a' _ X Y row hs hg hr => by
      obtain ⟨Bx, h1, h2, h3⟩ := hs
      refine ⟨Bx, h1, (hg.block Bx (Array.getElem?_eq_some_iff.1 h2).1 (fun e' => ?_)).trans h2, h3⟩
      obtain ⟨-, o, ho, hc⟩ := hr Bx e'.symm
      rw [h2] at ho
      cases ho
      cases hc)
    ?assign ?body ?done ?stop
  case assign =>
    rintro l pre x W K ⟨⟨b0, b1, ⟨v, b2, hown, -⟩, hp, hz⟩, hB⟩ hK
    unfold ndA
    gi_wp2
    have hal := below_box W (.cells #[.int .i64 x.1.1, .int .i64 x.1.2, .int .i64 x.2.1, .int .i64 x.2.2] 81)
    exact hK _ _ ((KeepsOthers.alloc _ _).from _) (hal.mono (by have := HN0.out; omega)) ⟨⟨b0.alloc _, b1.alloc _, ⟨v, b2.alloc _, hown.alloc _, trivial⟩, hp, by simp; omega⟩, hB.trans (hal.mono (by omega))⟩ ⟨W.heap.size, by omega, block_new W _, rfl⟩
  case body =>
    rintro l pre x a' W hl ⟨r, hr⟩ ⟨⟨b0, b1, ⟨v, b2, hown, -⟩, hp, hz⟩, hB⟩ ⟨Bx, hBx, bX, rfl⟩ hlt
    have cx0 : W.cell? ⟨Bx, 0, none⟩ = some (.int .i64 x.1.1) := cell_of bX rfl
    have cx1 : W.cell? ⟨Bx, 1, none⟩ = some (.int .i64 x.1.2) := cell_of bX rfl
    have cL := b0.cell
    have cF := b1.cell
    by_cases hgt : last < x.1.1
    · have HE : Hid (KeepsFrom W0.heap.size W W ∧ FindX w N last fits (.exit 0) (pre ++ [x]) W) := Lib.hid ⟨KeepsFrom.refl _ _, ⟨⟨v, b2, by rw [List.dropLast_concat]; exact hown, trivial⟩, rfl, pre, x, rfl, hp, hgt⟩, hB⟩
      clear b0 b1 b2 hown hp hz hB bX hr hlt
      gi_wp2
      exact HE.out
    · have hcall := HF.out W x.1 (by rw [HN0.out]; exact hB)
      have HC := Lib.hid hcall
      obtain ⟨q, hq⟩ : ∃ q, fits x.1 = q := ⟨_, rfl⟩
      rw [hq] at HC
      have HQ := Lib.hid hq
      obtain ⟨⟨xb, xe⟩, xn, xr⟩ := x
      unfold spA at HC
      simp only at HC cx0 cx1
      clear hcall hq
      have hbx : Bx < W.heap.size := (Array.getElem?_eq_some_iff.1 bX).1
      have hcl := colL_len fits pre
      gi_wp2
      refine ⟨trivial, (CallsIn.inRound l (callsIn_wide.2 HC.out)).mono ?_⟩
      rintro e w2 ⟨rfl, hb2⟩
      have d0 := boxed_belowY b0 hb2 b0.lt
      have d1 := boxed_belowY b1 hb2 b1.lt
      have d2 := boxed_belowY b2 hb2 b2.lt
      have dX := (hb2.block Bx hbx).trans bX
      have dO : w2.ownsRow (N + 5) 3 1 v (colL fits pre).length ((colL fits pre).map (Value.int .i64)) := own_below hown (fun k hk => hb2.block k (own_low hown k hk).2)
      have hWN : N + 5 ≤ W.heap.size := hz
      have hBN : Below N W w2 := hb2.mono (by omega)
      have hzw : N + 5 ≤ w2.heap.size := Nat.le_trans hz hb2.size
      have hp2 : ∀ y ∈ pre ++ [((xb, xe), xn, xr)], y.1.1 ≤ last := fun y hy => by
        rcases List.mem_append.1 hy with hy | hy
        · exact hp y hy
        · rw [List.mem_singleton.1 hy]
          show xb ≤ last
          exact hgt
      cases q with
      | false =>
        have hcol : colL fits (pre ++ [((xb, xe), xn, xr)]) = colL fits pre := by
          have := HQ.out
          rw [colL_app]
          simp [colL, this]
        have HE : Hid (KeepsFrom W0.heap.size W w2 ∧ Below N W w2 ∧ FindI w N last (.func (.func fn) #[] caps) fits (pre ++ [((xb, xe), xn, xr)]) w2) :=
          Lib.hid ⟨keepsFromB hb2, hBN, ⟨⟨d0, d1, ⟨v, d2, by rw [hcol]; exact dO, trivial⟩, hp2, hzw⟩, hB.trans hBN⟩⟩
        clear b0 b1 b2 hown hp hz hB bX hr hlt d0 d1 d2 dX dO hb2 hp2 hcol
        gi_wp2
        exact HE.out
      | true =>
        have hcol : colL fits (pre ++ [((xb, xe), xn, xr)]) = colL fits pre ++ [xn] := by
          have := HQ.out
          rw [colL_app]
          simp [colL, this]
        have e2 : w2.cell? ⟨Bx, 2, none⟩ = some (.int .i64 xn) := cell_of dX rfl
        have c2 := d2.cell
        have hlen2 : (colL fits pre).length < 4096 := by omega
        have hm1 : (colL fits pre).length + 1 ≤ maxLen := by unfold maxLen; omega
        have hm2 : ((colL fits pre).length + 1) * 8 ≤ 140737488355328 := by omega
        have hNw : N ≤ w2.heap.size := by omega
        have hn5 : N + 5 ≤ (w2.alloc (.cells #[.int .i64 xn] 3)).heap.size := by simp; omega
        have HP2 := Lib.hid hp2
        have HCOL := Lib.hid hcol
        have HBB := Lib.hid (And.intro hB (And.intro hBN (keepsFromB (B := W0.heap.size) hb2)))
        clear b0 b1 b2 hown hp hz hB bX hr hlt dX cL cF cx0 cx1 hp2 hcol hBN hb2 HQ
        gi_wp2_with (gi_at_builtin; go_loud (refine wpListIn_append_own _ rfl _ _ 37 rfl (N + 5) 3 i0 (.int .i64 0) 1 8 Tryd.underlying37 hi hz0 hz1 hz2 rfl (by decide) _ _ _ rfl (dO.alloc _) ⟨w2.heap.size, 0, none⟩ 1 1 [.int .i64 xn] rfl rfl (cell_one_new _ _ _) (by simp [Value.oneCell']) hm1 hm2 hn5 ?_); intro v' w3 hown' hgrow _; obtain ⟨g', cap', rfl⟩ := ownsRow_succ hown'; obtain ⟨hv1, hv2, hr2, hk2, hb3⟩ := d2.appended (by decide) (own_base (b' := N) (by omega) dO) hNw (by omega) (own_base (b' := N) (by omega) hown') hgrow; have hc1 := hv1.cell; have hf1 := hv1.frozen)
        have hne : ∀ m, m < N + 5 → some m ≠ v.ownBlock := fun m hm e => by have := (own_low dO m e.symm).1; omega
        have e0 := ((d0.alloc (.cells #[.int .i64 xn] 3)).kept hgrow (hne N (by omega))).kept (grownBy_setCell' w3 (N + 2) (.slice (some ⟨g', 0, none⟩) ((colL fits pre).length + 1) cap')) (by simp)
        have e1 := ((d1.alloc (.cells #[.int .i64 xn] 3)).kept hgrow (hne (N + 1) (by omega))).kept (grownBy_setCell' w3 (N + 2) (.slice (some ⟨g', 0, none⟩) ((colL fits pre).length + 1) cap')) (by simp)
        have eo := hown'.kept (grownBy_setCell' w3 (N + 2) (.slice (some ⟨g', 0, none⟩) ((colL fits pre).length + 1) cap')) (.inr (hv1.not_row (by decide) hown').symm)
        have hsz3 := hb3.size
        refine ⟨HBB.out.2.2.trans (hk2.from _), HBB.out.2.1.trans hb3, ⟨⟨e0, e1, ⟨_, hv2, ?_, trivial⟩, HP2.out, Nat.le_trans hzw hsz3⟩, HBB.out.1.trans (HBB.out.2.1.trans hb3)⟩⟩
        rw [HCOL.out, List.length_append, List.map_append]
        exact eo
  case done =>
    rintro D xs W hD hxs ⟨⟨b0, b1, ⟨v, b2, hown, -⟩, hp, hz⟩, hB⟩ hK
    have hlen : (colL fits xs).length ≤ 1000000 := by
      have h1 := colL_len fits xs
      have h2 := HFL.out
      have h3 := HL.out
      rw [hxs] at h1 ⊢
      omega
    have hS := sortInt_any hown hlen
    have hpm := HW.out last fits (by rw [← hxs]; exact hp)
    rw [← hxs] at hpm
    have hsrt := sort_idx hpm
    have HS := Lib.hid hS
    have HST := Lib.hid hsrt
    have HO := Lib.hid hown
    have HK := Lib.hid hK
    have HB := Lib.hid hB
    have c2 := b2.cell
    clear hS hsrt hpm hK hB hxs hp
    gi_wp2
    refine ⟨trivial, (callsIn_wide.2 HS.out).mono ?_⟩
    rintro e w3 ⟨rfl, hr3, hg3⟩
    have b23 := b2.kept hg3 (b2.not_row (by decide) HO.out)
    have hK3 : w3.heap[D]? = some (.deferred (some [])) := (hg3.block D (Array.getElem?_eq_some_iff.1 HK.out).1 (fun e => by
      rcases HO.out.2 with ⟨rfl, _⟩ | ⟨g', cap', cur, rfl, _, hh, _⟩
      · simp [Value.ownBlock] at e
      · simp only [Value.ownBlock, Option.some.injEq] at e
        subst e
        have := HK.out
        rw [hh] at this
        cases this)).trans HK.out
    have c3 := b23.cell
    have hbe : Below N W w3 := below_of_grown hg3 (by omega) (fun k hk => by have := (own_low HO.out k hk).1; omega)
    rw [HST.out] at hr3
    have HE := Lib.hid (And.intro (rows_put (.deferred none) hr3 hK3 rfl) ((HB.out.trans hbe).trans (belowK_b (w := W0) (n₀ := N) (by omega) w3 D _ (.deferred none) hD hK3 rfl rfl)))
    clear c2 hr3 hg3 hbe
    gi_wp2
    refine ⟨by simp, .inl ⟨_, _, rfl, run_takeDeferred hK3, ?_⟩⟩
    refine ⟨v, (results_tmp (t := 8) rfl _ _ _ : _), ⟨v, rfl, HE.out.1⟩, ?_⟩
    rw [HN0.out]
    exact HE.out.2
  case stop =>
    rintro D c pre W hD hpre ⟨⟨⟨v, b2, hown, -⟩, rfl, p, x, rfl, hp, hx⟩, hB⟩ hK
    rw [List.dropLast_concat] at hown
    have hlen : (colL fits p).length ≤ 1000000 := by
      have h1 := colL_len fits p
      have h2 := HFL.out
      have h3 := HL.out
      have h4 := hpre.length_le
      rw [List.length_append] at h4
      omega
    have hS := sortInt_any hown hlen
    have hsrt := sort_idx (HCU.out last fits p x hpre hp hx)
    have HS := Lib.hid hS
    have HST := Lib.hid hsrt
    have HO := Lib.hid hown
    have HK := Lib.hid hK
    have HB := Lib.hid hB
    have c2 := b2.cell
    have hz : N + 3 ≤ W.heap.size := b2.lt
    clear hS hsrt hK hB hpre hp hx
    gi_wp2
    refine ⟨trivial, (callsIn_wide.2 HS.out).mono ?_⟩
    rintro e w3 ⟨rfl, hr3, hg3⟩
    have b23 := b2.kept hg3 (b2.not_row (by decide) HO.out)
    have hK3 : w3.heap[D]? = some (.deferred (some [])) := (hg3.block D (Array.getElem?_eq_some_iff.1 HK.out).1 (fun e => by
      rcases HO.out.2 with ⟨rfl, _⟩ | ⟨g', cap', cur, rfl, _, hh, _⟩
      · simp [Value.ownBlock] at e
      · simp only [Value.ownBlock, Option.some.injEq] at e
        subst e
        have := HK.out
        rw [hh] at this
        cases this)).trans HK.out
    have c3 := b23.cell
    have hbe : Below N W w3 := below_of_grown hg3 (by omega) (fun k hk => by have := (own_low HO.out k hk).1; omega)
    rw [HST.out] at hr3
    have HE := Lib.hid (And.intro (rows_put (.deferred none) hr3 hK3 rfl) ((HB.out.trans hbe).trans (belowK_b (w := W0) (n₀ := N) (by omega) w3 D _ (.deferred none) hD hK3 rfl rfl)))
    clear c2 hr3 hg3 hbe
    gi_wp2
    refine ⟨by simp, .inl ⟨_, _, rfl, run_takeDeferred hK3, ?_⟩⟩
    refine ⟨v, (results_tmp (t := 8) rfl _ _ _ : _), ⟨v, rfl, HE.out.1⟩, ?_⟩
    rw [HN0.out]
    exact HE.out.2
end Go.Proofs.YtifdencdbpdbfaaDoor
