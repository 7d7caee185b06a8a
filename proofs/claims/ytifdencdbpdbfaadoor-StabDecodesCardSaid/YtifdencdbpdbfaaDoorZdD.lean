/-
  WALKS over package stab: spansOf.
-/
import Derived.Test.YtifdencdbpdbfaaDoorZdC
import Derived.RangeFuncBox
namespace Go.Proofs.YtifdencdbpdbfaaDoor
open Go Go.RowKit Go.Shelf Go.Lib
set_option linter.unusedVariables false
set_option linter.unusedSimpArgs false
attribute [local go_sem] Oper.semAt_some

/-- Are these the numbers of an index? -/
def SpOK (ns : List Nat) : Prop := ns.length % 2 = 1 ∧ ns[0]? = some (ns.length / 2)
def SpansV (w : World) (ns : List Nat) (e : Ending) (w' : World) : Prop :=
  ((SpOK ns ∧ ∃ v, e = .returned (.tuple #[v, .bool true]) ∧ Rows 2 ESp w' v (pairsN (ns.drop 1))) ∨ (¬ SpOK ns ∧ e = .returned (.tuple #[.slice none 0 0, .bool false]))) ∧ Below w.heap.size w w'
def pairAt (R : List Nat) (i : Nat) : Sp := ((R.getD (2 * i) 0 : Int), (R.getD (2 * i) 0 : Int) + (R.getD (2 * i + 1) 0 : Int) + 1)
theorem pairs_range : ∀ (q : Nat) (R : List Nat), R.length = 2 * q → (List.range q).map (pairAt R) = pairsN R
  | 0, [], _ => rfl
  | 0, x :: r, h => by simp at h
  | q + 1, [], h => by simp at h
  | q + 1, [x], h => by simp at h; omega
  | q + 1, x :: y :: r, h => by
    rw [List.range_succ_eq_map, List.map_cons, List.map_map, pairsN, ← pairs_range q r (by simp at h; omega)]
    congr 1
def spsL {q : Nat} (R : List Nat) (pre : List (Ix q)) : List Sp := pre.map fun x => pairAt R x.1
/-- append of one span to a row of the call's own that a variable holds. -/
theorem wpList_pushSp {w : World} {ops : Array Oper} {rest : List Oper} {o : Oper} {a : Act} {Q : Exit → Act → World → Prop} (hgd : o.guard = none) (s x : Operand)
    (ho : o.op = .call { callee := .builtin .append, args := #[s, x], argTypes := #[22, 22] })
    (base : Nat) (v : Value) (n : Nat) (l : List Value) (p1 p2 : Int) (hs : a.eval s = v) (hx : a.eval x = .slice (some ⟨w.heap.size, 0, none⟩) 1 1)
    (hown : w.ownsRow base 24 2 v n l) (hn : n ≤ 1000000) (hbase : base ≤ w.heap.size)
    (h : ∀ v' w', Hid (w'.ownsRow base 24 2 v' (n + 1) (l ++ [.int .i64 p1, .int .i64 p2])) → Hid ((w.alloc (.cells #[.int .i64 p1, .int .i64 p2] 24)).grownBy w' v.ownBlock) → wpList Tryd.prog ops Q rest (a.put o.dst v') w') :
    wpList Tryd.prog ops Q (o :: rest) a (w.alloc (.cells #[.int .i64 p1, .int .i64 p2] 24)) := by
  obtain ⟨i0, hi, hz0, hz1, hz2⟩ := info_parts' Tryd.infoSp
  refine wpList_append_own _ hgd s x 22 ho base 24 i0 _ 2 16 Tryd.underlying22 hi hz0 hz1 hz2 rfl (by decide) v n _ hs (hown.alloc _) _ 1 1 [.int .i64 p1, .int .i64 p2] hx rfl (news_at w [.int .i64 p1, .int .i64 p2] 24) (by simp [Value.oneCell']) (by unfold maxLen; omega) (by omega) (by simp; omega) ?_
  intro v' w' h1 h2 _
  exact h v' w' (Lib.hid h1) (Lib.hid h2)
theorem step_pushSp {w : World} {ops : Array Oper} {o : Oper} {a : Act} {K : Act → World → Prop} {Q : Exit → Act → World → Prop} {E : Prop} (hgd : o.guard = none) (s x : Operand)
    (ho : o.op = .call { callee := .builtin .append, args := #[s, x], argTypes := #[22, 22] })
    (base : Nat) (v : Value) (n : Nat) (l : List Value) (p1 p2 : Int) (hs : a.eval s = v) (hx : a.eval x = .slice (some ⟨w.heap.size, 0, none⟩) 1 1)
    (hown : w.ownsRow base 24 2 v n l) (hn : n ≤ 1000000) (hbase : base ≤ w.heap.size)
    (h : ∀ v' w', Hid (w'.ownsRow base 24 2 v' (n + 1) (l ++ [.int .i64 p1, .int .i64 p2])) → Hid ((w.alloc (.cells #[.int .i64 p1, .int .i64 p2] 24)).grownBy w' v.ownBlock) → K (a.put o.dst v') w') :
    if Region.wanted o (yielded ops a.tmps) = true then Oper.wp Tryd.prog o a (w.alloc (.cells #[.int .i64 p1, .int .i64 p2] 24)) K Q else E := by
  obtain ⟨i0, hi, hz0, hz1, hz2⟩ := info_parts' Tryd.infoSp
  have hw : Region.wanted o (yielded ops a.tmps) = true := by simp [Region.wanted, hgd]
  rw [if_pos hw]
  exact wp_append_own _ s x 22 ho base 24 i0 _ 2 16 Tryd.underlying22 hi hz0 hz1 hz2 rfl (by decide) v n _ hs (hown.alloc _) ⟨w.heap.size, 0, none⟩ 1 1 [.int .i64 p1, .int .i64 p2] hx rfl (news_at w [.int .i64 p1, .int .i64 p2] 24) (by simp [Value.oneCell']) (by unfold maxLen; omega) (by omega) (by simp; omega) fun v' w' h2 h3 _ => h v' w' (Lib.hid h2) (Lib.hid h3)
/-- Between two rounds of spansOf's loop. -/
def SpI (w : World) (N : Nat) (R : List Nat) {q : Nat} (pre : List (Ix q)) (W : World) : Prop :=
  ((∃ v, Boxed W N 22 v ∧ W.ownsRow (N + 3) 24 2 v (spsL R pre).length ((spsL R pre).flatMap spV) ∧ True) ∧ N + 3 ≤ W.heap.size) ∧ Below N w W
theorem spI_own (w : World) (N : Nat) (R : List Nat) {q : Nat} (B : Nat) (hN : N ≤ w.heap.size) (hB : N ≤ B) : OwnFrom B (SpI w N R (q := q)) :=
  OwnFrom.and (OwnFrom.and (Own.from (holdsRow_own (N + 3) N 22 24 2 (fun (pre : List (Ix q)) => (spsL R pre).length) (fun pre => (spsL R pre).flatMap spV) (fun _ _ => True)) _) (size_ownF _ _)) (ownFrom_below hN hB)
theorem rows_putS {w : World} {D : Nat} {o : Obj} (o' : Obj) {v : Value} {xs : List Sp} (h : Rows 2 ESp w v xs) (hD : w.heap[D]? = some o) (ho : o.isCells = false) : Rows 2 ESp (w.putObj D o') v xs := by
  obtain ⟨A, cap, hv, hc, hr⟩ := h
  refine ⟨A, cap, hv, hc, fun h0 => ?_⟩
  obtain ⟨b, off, hA, hb, hj⟩ := hr h0
  refine ⟨b, off, hA, Nat.lt_of_lt_of_le hb (grownBy_putObj' w D o').size, fun j x hx => ?_⟩
  obtain ⟨cs, h1, h2, h3⟩ := hj j x hx
  refine ⟨cs, h1, h2, fun i u hu => ?_⟩
  have hcu := h3 i u hu
  have hne : b ≠ D := by
    rintro rfl
    unfold World.cell? at hcu
    rw [hD] at hcu
    cases o <;> simp_all [Obj.isCells]
  exact (World.cell?_of_block (a := ⟨b, off + j * 2 + i, none⟩) (World.putObj_heap_other (fun e => hne e))).trans hcu

set_option maxRecDepth 100000 in
set_option maxHeartbeats 8000000 in
theorem spansOf_any {w : World} {v : Value} {ns : List Nat} (hv : Rows 1 EInt w v (castN ns)) (hl : ns.length ≤ 100000) (hsm : ∀ x ∈ ns, x ≤ 2147483647) : Calls Tryd.prog 22 #[v] w (SpansV w ns) := by
  have HV := Lib.hid (fun W (h : Below w.heap.size w W) => hv.below stays_int h)
  have HCL := castN_len ns
  obtain ⟨A, cap, rfl, hc⟩ := hv.form
  obtain ⟨n, hn⟩ : ∃ n, ns.length = n := ⟨_, rfl⟩
  rw [HCL, hn] at hc HV ⊢
  rw [hn] at hl
  have hn2 : (n : Int).tdiv 2 = ((n / 2 : Nat) : Int) := by rw [Int.tdiv_eq_ediv_of_nonneg (by omega)]; omega
  have hn3 : (n : Int).tmod 2 = ((n % 2 : Nat) : Int) := by rw [Int.tmod_eq_emod_of_nonneg (by omega)]; omega
  have hw2 : IntKind.i64.wrap ((n / 2 : Nat) : Int) = ((n / 2 : Nat) : Int) := by rw [IntKind.wrap_i64]; omega
  have hw3 : IntKind.i64.wrap ((n % 2 : Nat) : Int) = ((n % 2 : Nat) : Int) := by rw [IntKind.wrap_i64]; omega
  have HOKE : Hid (SpOK ns ↔ n % 2 = 1 ∧ ns[0]? = some (n / 2)) := Lib.hid (by unfold SpOK; rw [hn])
  have HN := Lib.hid hn
  have HSM := Lib.hid hsm
  obtain ⟨N0, hN0⟩ : ∃ N, w.heap.size = N := ⟨_, rfl⟩
  have HN0 := Lib.hid hN0
  rw [hN0] at HV
  clear hsm hN0 HCL
  by_cases hodd : n % 2 = 1
  · obtain ⟨x0, hx0⟩ : ∃ x, ns[0]? = some x := ⟨_, List.getElem?_eq_getElem (by rw [hn]; omega)⟩
    obtain ⟨b, off, rfl, hbl, hj⟩ := at_int hv (by rw [castN_len, hn]; omega)
    have c0 := hj 0 (x0 : Int) (by unfold castN; rw [List.getElem?_map, hx0]; rfl)
    rw [Nat.add_zero] at c0
    rw [hodd] at hn3
    obtain ⟨h2, hh2⟩ : ∃ h, n / 2 = h := ⟨_, rfl⟩
    rw [hh2] at hn2 hw2 HOKE
    have hpos : (0 : Int) < (n : Int) := by omega
    have HJ := Lib.hid hj
    have HBL := Lib.hid hbl
    have HX0 := Lib.hid hx0
    have HH2 := Lib.hid hh2
    have HODD := Lib.hid hodd
    have hw3' : IntKind.i64.wrap 1 = 1 := by rw [IntKind.wrap_i64]; omega
    clear hw3 hj hbl hx0 hh2 hodd hv hn
    by_cases heq : x0 = h2
    · subst heq
      have HOK : Hid (SpOK ns) := Lib.hid (HOKE.out.2 ⟨HODD.out, HX0.out⟩)
      have hxx : ((x0 : Int) != (x0 : Int)) = false := by simp
      have h1n : (1 : Int) ≤ (n : Int) := by omega
      clear HOKE
      by_cases hcm : cap = 1
      · subst hcm
        refine (callsIn_wide (n := 6)).1 ?_
        refine callsIn_of_wp_marks Tryd.func22 rfl trivial ?_ rfl
        simp only [Tryd.ntmps22, List.size_toArray, List.length_cons, List.length_nil, Nat.reduceAdd, Nat.reduceSub, Array.replicate_succ, Array.replicate_zero, List.push_toArray, List.append_toArray, List.nil_append, List.cons_append]
        gi_wp2
        refine ⟨trivial, (callsIn_wide.2 (chunk_fn (some ⟨b, off, none⟩) 0 0 _)).mono ?_⟩
        rintro e w' ⟨rfl, rfl⟩
        simp only [World.size_alloc]
        rw [HN0.out]
        rw [show N0 + 1 + 1 = N0 + 2 by omega]
        obtain ⟨W0, hW0⟩ : ∃ W0, ((w.alloc (.cells #[.slice none 0 0] 22)).alloc (.cells #[.slice (some ⟨b, off, none⟩) 0 0] 37)).alloc (.cells #[.int .i64 2] 3) = W0 := ⟨_, rfl⟩
        have b0 : Boxed W0 N0 22 (.slice none 0 0) := by
          rw [← hW0, ← HN0.out]
          exact ((Boxed.new w _ _).alloc _).alloc _
        have b1 : Boxed W0 (N0 + 1) 37 (.slice (some ⟨b, off, none⟩) 0 0) := by
          have := Boxed.new (w.alloc (.cells #[.slice none 0 0] 22)) 37 (.slice (some ⟨b, off, none⟩) 0 0)
          rw [World.size_alloc, HN0.out] at this
          rw [← hW0]
          exact this.alloc _
        have b2 : Boxed W0 (N0 + 2) 3 (.int .i64 2) := by
          have := Boxed.new ((w.alloc (.cells #[.slice none 0 0] 22)).alloc (.cells #[.slice (some ⟨b, off, none⟩) 0 0] 37)) 3 (.int .i64 2)
          rw [World.size_alloc, World.size_alloc, HN0.out] at this
          rw [← hW0]
          exact this
        have hB0 : Below N0 w W0 := by
          rw [← hW0, ← HN0.out]
          exact ((((Below.refl _ w).alloc (Nat.le_refl _) _).alloc (by simp) _).alloc (by simp; omega) _)
        have hsz : W0.heap.size = N0 + 3 := by rw [← hW0]; simp; have := HN0.out; omega
        rw [hW0]
        have hh2 := HH2.out
        have hodd := HODD.out
        have hbN : b < N0 := by rw [← HN0.out]; exact HBL.out
        have HBN := Lib.hid hbN
        have HSZ := Lib.hid hsz
        obtain ⟨R, hR⟩ : ∃ R, ns.drop 1 = R := ⟨_, rfl⟩
        have hRl : R.length = 2 * x0 := by rw [← hR, List.length_drop, HN.out]; omega
        have HPR := Lib.hid (pairs_range x0 R hRl)
        have HRL := Lib.hid hRl
        have HR := Lib.hid hR
        have HRG := Lib.hid (fun (i : Nat) (hi : i < 2 * x0) => show ∃ x, R.getD i 0 = x ∧ x ≤ 2147483647 ∧ (castN ns)[i + 1]? = some (x : Int) from by
          have h1 : i < R.length := by omega
          have h2 : R[i]? = some R[i] := List.getElem?_eq_getElem h1
          refine ⟨R[i], by rw [List.getD_eq_getElem?_getD, h2]; rfl, ?_, ?_⟩
          · refine HSM.out _ ?_
            have : R[i] ∈ ns.drop 1 := by rw [hR]; exact List.getElem_mem h1
            exact List.mem_of_mem_drop this
          · have h3 : ns[i + 1]? = R[i]? := by rw [← hR, List.getElem?_drop, Nat.add_comm 1 i]
            unfold castN
            rw [List.getElem?_map, h3, h2]
            rfl)
        clear hW0 hR hRl c0
        gi_wp2
        refine wpIn_rangeFunc_ownG (n := 6) rfl (by omega) (gf := 49) (lb := #[.pointer (some ⟨N0 + 1, 0, none⟩), .pointer (some ⟨N0 + 2, 0, none⟩)]) rfl trivial (enters_of Tryd.func49 (by kernel_rfl) rfl)
          (chunk_stops 5 (by omega) (q := x0) (m := 0) (cap := 0) (b := b) (off := off + 1) (A := some ⟨b, off, none⟩) (N0 + 1) (N0 + 2) N0 (by omega) (by omega) (by omega) (fun h => by first | rfl | omega) (by omega) (by omega) (by omega) b1.cell b2.cell) kpC_t (kpC_b (by omega) (by omega) (by omega)) (Below.refl _ _) (fun _ => by rfl)
          (SpI w N0 R) (fun _ _ _ => False) (spI_own _ _ _ _ (by have := HN0.out; omega) (by omega)) (fun _ _ _ _ _ hs _ _ => hs)
          ⟨⟨⟨_, b0, World.ownsRow_nil _ _ _ _, trivial⟩, by omega⟩, hB0⟩
          (fun (x : Ix x0) => { tmps := #[.slice (some ⟨b, off, none⟩) n 1, undef, .slice none 0 0, .bool false, .pointer (some ⟨N0, 0, none⟩), .slice (some ⟨b, off + 1 + 2 * x.1, none⟩) 2 2, .slice (some ⟨b, off, none⟩) n 1, .int .i64 n, .int .i64 1, .bool false, .bool false, .slice (some ⟨b, off, none⟩) n 1, .pointer (some ⟨b, off, none⟩), .int .i64 x0, .slice (some ⟨b, off, none⟩) n 1, .int .i64 n, .int .i64 x0, .bool false, .bool false, .slice (some ⟨b, off, none⟩) n 1, .slice (some ⟨b, off, none⟩) 0 0, .func (.func 49) #[] #[.pointer (some ⟨N0 + 1, 0, none⟩), .pointer (some ⟨N0 + 2, 0, none⟩)], .slice (some ⟨b, off + 1 + 2 * x.1, none⟩) 2 2, undef, undef, undef, undef, undef, undef, undef, undef, undef, undef, undef, undef, undef, undef, undef, undef], defers := [] }) ?assign ?body ?done ?stop
        case assign =>
          intro l x W K hK
          unfold chV
          gi_wp2
          exact hK
        case body =>
          rintro l pre x W ⟨⟨⟨v, hv, hrow, -⟩, hz⟩, hB⟩ hlt
          obtain ⟨i, hi⟩ := x
          obtain ⟨x, hxg, hxs, hx⟩ := HRG.out (2 * i) (by omega)
          obtain ⟨y, hyg, hys, hy⟩ := HRG.out (2 * i + 1) (by omega)
          have hbw : ∀ o, W.drew.cell? ⟨b, o, none⟩ = w.cell? ⟨b, o, none⟩ := fun o => (hB.drew).cell (p := ⟨b, o, none⟩) HBN.out
          have e0 := (hbw (off + (2 * i + 1))).trans (HJ.out (2 * i + 1) _ hx)
          have e1 := (hbw (off + (2 * i + 1 + 1))).trans (HJ.out (2 * i + 1 + 1) _ hy)
          have hpa : pairAt R i = ((x : Int), (x : Int) + (y : Int) + 1) := by unfold pairAt; rw [hxg, hyg]
          have hsl : spsL R (pre ++ [(⟨i, hi⟩ : Ix x0)]) = spsL R pre ++ [((x : Int), (x : Int) + (y : Int) + 1)] := by
            unfold spsL
            rw [List.map_append, List.map_cons, List.map_nil, hpa]
          obtain ⟨o, ho⟩ : ∃ o, off + 1 + 2 * i = o := ⟨_, rfl⟩
          rw [show off + (2 * i + 1) = o by omega] at e0
          rw [show off + (2 * i + 1 + 1) = o + 1 by omega] at e1
          obtain ⟨Av, cv, rfl, -⟩ := own_form hrow
          obtain ⟨X1, hX1⟩ : ∃ X, W.drew = X := ⟨_, rfl⟩
          have hvd : Boxed X1 N0 22 (.slice Av (spsL R pre).length cv) := by rw [← hX1]; exact hv
          have hrd : X1.ownsRow (N0 + 3) 24 2 (.slice Av (spsL R pre).length cv) (spsL R pre).length ((spsL R pre).flatMap spV) := by rw [← hX1]; exact hrow
          obtain ⟨nl, hnl⟩ : ∃ n, (spsL R pre).length = n := ⟨_, rfl⟩
          have hll : nl ≤ 1000000 := by rw [← hnl]; unfold spsL; rw [List.length_map]; have := HH2.out; omega
          rw [hnl] at hvd hrd
          have cB := hvd.cell
          have cB1 := (hvd.alloc (.cells #[.int .i64 (x : Int), .int .i64 ((x : Int) + (y : Int) + 1)] 24)).cell
          have hwa : IntKind.i64.wrap ((x : Int) + (y : Int)) = (x : Int) + (y : Int) := by rw [IntKind.wrap_i64]; omega
          have hwb : IntKind.i64.wrap ((x : Int) + (y : Int) + 1) = (x : Int) + (y : Int) + 1 := by rw [IntKind.wrap_i64]; omega
          have hND : N0 + 3 ≤ X1.heap.size := by rw [← hX1]; exact hz
          have hBD : Below N0 w X1 := by rw [← hX1]; exact hB.drew
          have HCW := Lib.hid (fun W' (h : Below N0 w W') => show W'.cell? ⟨b, o, none⟩ = some (.int .i64 (x : Int)) ∧ W'.cell? ⟨b, o + 1, none⟩ = some (.int .i64 (y : Int)) from
            ⟨(h.cell (p := ⟨b, o, none⟩) HBN.out).trans ((hB.drew.cell (p := ⟨b, o, none⟩) HBN.out).symm.trans e0), (h.cell (p := ⟨b, o + 1, none⟩) HBN.out).trans ((hB.drew.cell (p := ⟨b, o + 1, none⟩) HBN.out).symm.trans e1)⟩)
          have HK0 := Lib.hid (HCW.out X1 hBD)
          have HK1 := Lib.hid (HCW.out (X1.alloc (.cells #[.int .i64 (x : Int), .int .i64 ((x : Int) + (y : Int) + 1)] 24)) (hBD.alloc (by omega) _))
          have HKD : Hid (KeepsOthers W X1) := Lib.hid (by rw [← hX1]; exact KeepsOthers.drew _)
          have HHE : Hid (∀ m : Nat, X1.heap[m]? = W.heap[m]?) := Lib.hid (by rw [← hX1]; exact fun m => rfl)
          have HSL := Lib.hid hsl
          have HVD := Lib.hid hvd
          have HRD := Lib.hid hrd
          have HBD := Lib.hid hBD
          have HBW := Lib.hid hB
          have HZ := Lib.hid hz
          have HLL := Lib.hid hll
          have HND := Lib.hid hND
          have HNL := Lib.hid hnl
          have HX1 := Lib.hid hX1
          simp only [ho]
          clear hxg hyg hx hy hbw hpa hsl hv hrow hvd hrd hB hll hlt e0 e1 hND hBD hnl hX1 hz
          gi_wp2
          refine wpIn_round_held (fun w' => w'.cell? ⟨b, o, none⟩ = some (.int .i64 (x : Int)) ∧ w'.cell? ⟨b, o + 1, none⟩ = some (.int .i64 (y : Int))) (by kernel_rfl) (by kernel_rfl) (by rintro ⟨a, w, h⟩; exact h) ?_
          have hHeld : (fun w' => w'.cell? ⟨b, o, none⟩ = some (.int .i64 (x : Int)) ∧ w'.cell? ⟨b, o + 1, none⟩ = some (.int .i64 (y : Int))) (World.drew W) := (by rw [HX1.out]; exact HK0.out)
          rw [HX1.out] at hHeld ⊢
          refine wpAnyH_take (i := 1) (oi := ?oi1) (v := ?v1) ?hi1 (by kernel_rfl) (by kernel_rfl) (by kernel_rfl) ?hq1 ?hy1 (by assumption) ?hr1
          case hi1 => (simp only [List.getElem?_toArray, List.getElem?_cons_succ, List.getElem?_cons_zero]; rfl)
          case hq1 => exact fun _ _ _ h => h
          case hy1 => exact Or.inl ⟨by rfl, by intro whSw hSw'; (try dsimp only at hSw'); (first | (go_simp; done) | (go_simp; with_reducible rfl))⟩
          try simp only [Act.put, List.setIfInBounds_toArray, List.set_cons_zero, List.set_cons_succ]
          refine wpAnyH_take (i := 2) (oi := ?oi2) (v := ?v2) ?hi2 (by kernel_rfl) (by kernel_rfl) (by kernel_rfl) ?hq2 ?hy2 (by assumption) ?hr2
          case hi2 => (simp only [List.getElem?_toArray, List.getElem?_cons_succ, List.getElem?_cons_zero]; rfl)
          case hq2 => exact fun _ _ _ h => h
          case hy2 => exact Or.inl ⟨by rfl, by intro whSw hSw'; (try dsimp only at hSw'); (first | (go_simp; done) | (go_simp; with_reducible rfl))⟩
          try simp only [Act.put, List.setIfInBounds_toArray, List.set_cons_zero, List.set_cons_succ]
          refine wpAnyH_take (i := 3) (oi := ?oi3) (v := ?v3) ?hi3 (by kernel_rfl) (by kernel_rfl) (by kernel_rfl) ?hq3 ?hy3 (by assumption) ?hr3
          case hi3 => (simp only [List.getElem?_toArray, List.getElem?_cons_succ, List.getElem?_cons_zero]; rfl)
          case hq3 => exact fun _ _ _ h => h
          case hy3 => exact Or.inl ⟨by rfl, by intro whSw hSw'; (try dsimp only at hSw'); (first | (go_simp; done) | (go_simp; with_reducible rfl))⟩
          try simp only [Act.put, List.setIfInBounds_toArray, List.set_cons_zero, List.set_cons_succ]
          refine wpAnyH_take (i := 4) (oi := ?oi4) (v := ?v4) ?hi4 (by kernel_rfl) (by kernel_rfl) (by kernel_rfl) ?hq4 ?hy4 (by assumption) ?hr4
          case hi4 => (simp only [List.getElem?_toArray, List.getElem?_cons_succ, List.getElem?_cons_zero]; rfl)
          case hq4 => exact fun _ _ _ h => h
          case hy4 => exact Or.inl ⟨by rfl, by intro whSw hSw'; (try dsimp only at hSw'); (first | (go_simp; done) | (go_simp; with_reducible rfl))⟩
          try simp only [Act.put, List.setIfInBounds_toArray, List.set_cons_zero, List.set_cons_succ]
          refine wpAnyH_take (i := 5) (oi := ?oi5) (v := ?v5) ?hi5 (by kernel_rfl) (by kernel_rfl) (by kernel_rfl) ?hq5 ?hy5 (by assumption) ?hr5
          case hi5 => (simp only [List.getElem?_toArray, List.getElem?_cons_succ, List.getElem?_cons_zero]; rfl)
          case hq5 => exact fun _ _ _ h => h
          case hy5 => exact Or.inl ⟨by rfl, by intro whSw hSw'; (try dsimp only at hSw'); (first | (go_simp; done) | (go_simp; with_reducible rfl))⟩
          try simp only [Act.put, List.setIfInBounds_toArray, List.set_cons_zero, List.set_cons_succ]
          refine wpAnyH_take (i := 6) (oi := ?oi6) (v := ?v6) ?hi6 (by kernel_rfl) (by kernel_rfl) (by kernel_rfl) ?hq6 ?hy6 (by assumption) ?hr6
          case hi6 => (simp only [List.getElem?_toArray, List.getElem?_cons_succ, List.getElem?_cons_zero]; rfl)
          case hq6 => exact fun _ _ _ h => h
          case hy6 => exact Or.inl ⟨by rfl, by intro whSw hSw'; (try dsimp only at hSw'); (first | (go_simp; done) | (go_simp; with_reducible rfl))⟩
          try simp only [Act.put, List.setIfInBounds_toArray, List.set_cons_zero, List.set_cons_succ]
          refine wpAnyH_take (i := 7) (oi := ?oi7) (v := ?v7) ?hi7 (by kernel_rfl) (by kernel_rfl) (by kernel_rfl) ?hq7 ?hy7 (by assumption) ?hr7
          case hi7 => (simp only [List.getElem?_toArray, List.getElem?_cons_succ, List.getElem?_cons_zero]; rfl)
          case hq7 => exact fun _ _ _ h => h
          case hy7 => exact Or.inl ⟨by rfl, by intro whSw hSw'; (try dsimp only at hSw'); (first | (go_simp; done) | (go_simp; with_reducible rfl))⟩
          try simp only [Act.put, List.setIfInBounds_toArray, List.set_cons_zero, List.set_cons_succ]
          refine wpAnyH_take (i := 8) (oi := ?oi8) (v := ?v8) ?hi8 (by kernel_rfl) (by kernel_rfl) (by kernel_rfl) ?hq8 ?hy8 (by assumption) ?hr8
          case hi8 => (simp only [List.getElem?_toArray, List.getElem?_cons_succ, List.getElem?_cons_zero]; rfl)
          case hq8 => exact fun _ _ _ h => h
          case hy8 => exact Or.inl ⟨by rfl, by intro whSw hSw'; (try dsimp only at hSw'); (first | (go_simp; done) | (go_simp; with_reducible rfl))⟩
          try simp only [Act.put, List.setIfInBounds_toArray, List.set_cons_zero, List.set_cons_succ]
          refine wpAnyH_take (i := 9) (oi := ?oi9) (v := ?v9) ?hi9 (by kernel_rfl) (by kernel_rfl) (by kernel_rfl) ?hq9 ?hy9 (by assumption) ?hr9
          case hi9 => (simp only [List.getElem?_toArray, List.getElem?_cons_succ, List.getElem?_cons_zero]; rfl)
          case hq9 => exact fun _ _ _ h => h
          case hy9 => exact Or.inl ⟨by rfl, by intro whSw hSw'; (try dsimp only at hSw'); (first | (go_simp; done) | (go_simp; with_reducible rfl))⟩
          try simp only [Act.put, List.setIfInBounds_toArray, List.set_cons_zero, List.set_cons_succ]
          refine wpAnyH_take (i := 10) (oi := ?oi10) (v := ?v10) ?hi10 (by kernel_rfl) (by kernel_rfl) (by kernel_rfl) ?hq10 ?hy10 (by assumption) ?hr10
          case hi10 => (simp only [List.getElem?_toArray, List.getElem?_cons_succ, List.getElem?_cons_zero]; rfl)
          case hq10 => exact fun _ _ _ h => h
          case hy10 => exact Or.inl ⟨by rfl, by intro whSw hSw'; (try dsimp only at hSw'); (first | (go_simp; done) | (go_simp; with_reducible rfl))⟩
          try simp only [Act.put, List.setIfInBounds_toArray, List.set_cons_zero, List.set_cons_succ]
          refine wpAnyH_take (i := 11) (oi := ?oi11) (v := ?v11) ?hi11 (by kernel_rfl) (by kernel_rfl) (by kernel_rfl) ?hq11 ?hy11 (by assumption) ?hr11
          case hi11 => (simp only [List.getElem?_toArray, List.getElem?_cons_succ, List.getElem?_cons_zero]; rfl)
          case hq11 => exact fun _ _ _ h => h
          case hy11 => exact Or.inl ⟨by rfl, by intro whSw hSw'; (try dsimp only at hSw'); (first | (go_simp; done) | (go_simp; with_reducible rfl))⟩
          try simp only [Act.put, List.setIfInBounds_toArray, List.set_cons_zero, List.set_cons_succ]
          refine wpAnyH_take (i := 12) (oi := ?oi12) (v := ?v12) ?hi12 (by kernel_rfl) (by kernel_rfl) (by kernel_rfl) ?hq12 ?hy12 (by assumption) ?hr12
          case hi12 => (simp only [List.getElem?_toArray, List.getElem?_cons_succ, List.getElem?_cons_zero]; rfl)
          case hq12 => exact fun _ _ _ h => h
          case hy12 => exact Or.inl ⟨by rfl, by intro whSw hSw'; (try dsimp only at hSw'); (first | (go_simp; done) | (go_simp; with_reducible rfl))⟩
          try simp only [Act.put, List.setIfInBounds_toArray, List.set_cons_zero, List.set_cons_succ]
          refine wpAnyH_ready (rs := [0, 13]) (by kernel_rfl) (by simp) ?_
          refine AllReadyH.cons (o := ?oo13) ?hi13 (fun K hK => ?hs13) ?hm13
          case hi13 => (simp only [List.getElem?_toArray, List.getElem?_cons_zero]; rfl)
          go_simp
          refine hK.out _ _ ?_ (fun hHeld => ?_)
          · (try dsimp only); (first | (with_reducible exact HK3.out) | (with_reducible exact HK2.out) | (with_reducible exact HK1.out) | (with_reducible exact HK0.out) | go_keep | fail)
          clear hK K
          try simp only [Act.put, List.setIfInBounds_toArray, List.set_cons_zero, List.set_cons_succ]
          refine wpAnyH_ready (rs := [13]) (by kernel_rfl) (by simp) ?_
          refine AllReadyH.cons (o := ?oo14) ?hi14 (fun K hK => ?hs14) ?hm14
          case hi14 => (simp only [List.getElem?_toArray, List.getElem?_cons_succ, List.getElem?_cons_zero]; rfl)
          go_simp
          refine hK.out _ _ ?_ (fun hHeld => ?_)
          · (try dsimp only); (first | (with_reducible exact HK3.out) | (with_reducible exact HK2.out) | (with_reducible exact HK1.out) | (with_reducible exact HK0.out) | go_keep | fail)
          clear hK K
          try simp only [Act.put, List.setIfInBounds_toArray, List.set_cons_zero, List.set_cons_succ]
          refine wpAnyH_ready (rs := [14]) (by kernel_rfl) (by simp) ?_
          refine AllReadyH.cons (o := ?oo15) ?hi15 (fun K hK => ?hs15) ?hm15
          case hi15 => (simp only [List.getElem?_toArray, List.getElem?_cons_succ, List.getElem?_cons_zero]; rfl)
          refine step_pushSp rfl (.tmp 23) (.tmp 36) rfl (N0 + 3) _ _ _ (x : Int) ((x : Int) + (y : Int) + 1) rfl rfl HRD.out HLL.out HND.out ?_
          intro v3 w3 HO3 HG3
          obtain ⟨g', cap', rfl⟩ := ownsRow_succ HO3.out
          have HAP := Lib.hid (HVD.out.appended (by decide) (own_base (b' := N0) (by omega) HRD.out) (by have := HND.out; omega) (Nat.le_refl _) (own_base (b' := N0) (by omega) HO3.out) HG3.out)
          have hc1 := HAP.out.1.cell
          have hf1 := HAP.out.1.frozen
          have hb3 : Below N0 X1 w3 := below_of_grown (grown_trans (World.grownBy_alloc X1 _ _) HG3.out) (by have := HND.out; omega) (fun k hk => by have := (own_low HRD.out k hk).1; omega)
          have HK2 := Lib.hid (HCW.out w3 (HBD.out.trans hb3))
          have HK3 := Lib.hid (HCW.out _ (HBD.out.trans HAP.out.2.2.2.2))
          clear hb3
          refine hK.out _ _ ?_ (fun hHeld => ?_)
          · (try dsimp only); (first | (with_reducible exact HK3.out) | (with_reducible exact HK2.out) | (with_reducible exact HK1.out) | (with_reducible exact HK0.out) | go_keep | fail)
          clear hK K
          try simp only [Act.put, List.setIfInBounds_toArray, List.set_cons_zero, List.set_cons_succ]
          refine wpAnyH_ready (rs := [15]) (by kernel_rfl) (by simp) ?_
          refine AllReadyH.cons (o := ?oo16) ?hi16 (fun K hK => ?hs16) ?hm16
          case hi16 => (simp only [List.getElem?_toArray, List.getElem?_cons_succ, List.getElem?_cons_zero]; rfl)
          go_simp
          refine hK.out _ _ ?_ (fun hHeld => ?_)
          · (try dsimp only); (first | (with_reducible exact HK3.out) | (with_reducible exact HK2.out) | (with_reducible exact HK1.out) | (with_reducible exact HK0.out) | go_keep | fail)
          clear hK K
          try simp only [Act.put, List.setIfInBounds_toArray, List.set_cons_zero, List.set_cons_succ]
          refine wpAnyH_done (by kernel_rfl) ?_ _
          rotate_left
          exact AllReadyH.nil
          exact AllReadyH.nil
          exact AllReadyH.nil
          refine AllReadyH.cons (o := ?oo17) ?hi17 (fun K hK => ?hs17) ?hm17
          case hi17 => (simp only [List.getElem?_toArray, List.getElem?_cons_succ, List.getElem?_cons_zero]; rfl)
          go_simp
          refine hK.out _ _ ?_ (fun hHeld => ?_)
          · (try dsimp only); (first | (with_reducible exact HK3.out) | (with_reducible exact HK2.out) | (with_reducible exact HK1.out) | (with_reducible exact HK0.out) | go_keep | fail)
          clear hK K
          try simp only [Act.put, List.setIfInBounds_toArray, List.set_cons_zero, List.set_cons_succ]
          refine wpAnyH_ready (rs := [0]) (by kernel_rfl) (by simp) ?_
          refine AllReadyH.cons (o := ?oo18) ?hi18 (fun K hK => ?hs18) ?hm18
          case hi18 => (simp only [List.getElem?_toArray, List.getElem?_cons_zero]; rfl)
          go_simp
          refine hK.out _ _ ?_ (fun hHeld => ?_)
          · (try dsimp only); (first | (with_reducible exact HK3.out) | (with_reducible exact HK2.out) | (with_reducible exact HK1.out) | (with_reducible exact HK0.out) | go_keep | fail)
          clear hK K
          try simp only [Act.put, List.setIfInBounds_toArray, List.set_cons_zero, List.set_cons_succ]
          refine wpAnyH_ready (rs := [14]) (by kernel_rfl) (by simp) ?_
          refine AllReadyH.cons (o := ?oo19) ?hi19 (fun K hK => ?hs19) ?hm19
          case hi19 => (simp only [List.getElem?_toArray, List.getElem?_cons_succ, List.getElem?_cons_zero]; rfl)
          refine step_pushSp rfl (.tmp 23) (.tmp 36) rfl (N0 + 3) _ _ _ (x : Int) ((x : Int) + (y : Int) + 1) rfl rfl HRD.out HLL.out HND.out ?_
          intro v3 w3 HO3 HG3
          obtain ⟨g', cap', rfl⟩ := ownsRow_succ HO3.out
          have HAP := Lib.hid (HVD.out.appended (by decide) (own_base (b' := N0) (by omega) HRD.out) (by have := HND.out; omega) (Nat.le_refl _) (own_base (b' := N0) (by omega) HO3.out) HG3.out)
          have hc1 := HAP.out.1.cell
          have hf1 := HAP.out.1.frozen
          have hb3 : Below N0 X1 w3 := below_of_grown (grown_trans (World.grownBy_alloc X1 _ _) HG3.out) (by have := HND.out; omega) (fun k hk => by have := (own_low HRD.out k hk).1; omega)
          have HK2 := Lib.hid (HCW.out w3 (HBD.out.trans hb3))
          have HK3 := Lib.hid (HCW.out _ (HBD.out.trans HAP.out.2.2.2.2))
          clear hb3
          refine hK.out _ _ ?_ (fun hHeld => ?_)
          · (try dsimp only); (first | (with_reducible exact HK3.out) | (with_reducible exact HK2.out) | (with_reducible exact HK1.out) | (with_reducible exact HK0.out) | go_keep | fail)
          clear hK K
          try simp only [Act.put, List.setIfInBounds_toArray, List.set_cons_zero, List.set_cons_succ]
          refine wpAnyH_ready (rs := [15]) (by kernel_rfl) (by simp) ?_
          refine AllReadyH.cons (o := ?oo20) ?hi20 (fun K hK => ?hs20) ?hm20
          case hi20 => (simp only [List.getElem?_toArray, List.getElem?_cons_succ, List.getElem?_cons_zero]; rfl)
          go_simp
          refine hK.out _ _ ?_ (fun hHeld => ?_)
          · (try dsimp only); (first | (with_reducible exact HK3.out) | (with_reducible exact HK2.out) | (with_reducible exact HK1.out) | (with_reducible exact HK0.out) | go_keep | fail)
          clear hK K
          try simp only [Act.put, List.setIfInBounds_toArray, List.set_cons_zero, List.set_cons_succ]
          refine wpAnyH_done (by kernel_rfl) ?_ _
          rotate_left
          exact AllReadyH.nil
          exact AllReadyH.nil
          exact AllReadyH.nil
          exact AllReadyH.nil
          all_goals
            gi_wp2
            have hne : ∀ m, m < N0 + 3 → some m ≠ (Value.slice Av nl cv).ownBlock := fun m hm e => by have := (own_low HRD.out m e.symm).1; omega
            have hhp : ∀ m : Nat, m < N0 + 3 → m ≠ N0 → (w3.setCell ⟨N0, 0, none⟩ (.slice (some ⟨g', 0, none⟩) (nl + 1) cap')).heap[m]? = W.heap[m]? := fun m hm hm2 => by
              rw [Below.heap_setCell w3 ⟨N0, 0, none⟩ _ m hm2, HG3.out.block m (by rw [alloc_sz]; have := HND.out; omega) (hne m hm), Below.heap_alloc _ _ _ (by have := HND.out; omega)]
              exact HHE.out m
            have eo := HO3.out.kept (grownBy_setCell' w3 N0 (.slice (some ⟨g', 0, none⟩) (nl + 1) cap')) (.inr (HAP.out.1.not_row (by decide) HO3.out).symm)
            have hbf := HBD.out.trans HAP.out.2.2.2.2
            have hbW : Below N0 W (w3.setCell ⟨N0, 0, none⟩ (.slice (some ⟨g', 0, none⟩) (nl + 1) cap')) := by
              have h1 := HAP.out.2.2.2.2
              have h2 : Below N0 W X1 := by rw [← HX1.out]; exact (Below.refl _ _).drew
              exact h2.trans h1
            refine ⟨(HKD.out.trans HAP.out.2.2.2.1).from _, ⟨hbW, hhp _ (by omega) (by omega), hhp _ (by omega) (by omega)⟩, ⟨⟨⟨_, HAP.out.2.1, ?_, trivial⟩, Nat.le_trans HZ.out hbW.size⟩, hbf⟩⟩
            rw [HSL.out, List.length_append, List.flatMap_append, HNL.out]
            exact eo
        case done =>
          rintro D ys W hD hys ⟨⟨⟨v, hv, hrow, -⟩, hz⟩, hB⟩ hK
          have hsp : spsL R ys = pairsN R := by
            unfold spsL
            rw [← HPR.out, ← hys, List.map_map]
            rfl
          rw [hsp] at hrow
          obtain ⟨Av, cv, rfl, -⟩ := own_form hrow
          have cB := hv.cell
          have hrp := rows_putS (.deferred none) (own_sp hrow) hK rfl
          have HE := Lib.hid (And.intro hrp (hB.trans (belowK_b (w := W0) (n₀ := N0) (by omega) W D _ (.deferred none) hD hK rfl rfl)))
          have HK := Lib.hid hK
          clear hrow hv hrp hB hys
          gi_wp2
          refine ⟨by simp, .inl ⟨_, _, rfl, run_takeDeferred HK.out, ?_⟩⟩
          refine ⟨.tuple #[.slice Av (pairsN R).length cv, .bool true], (results_tmp2 (t := 2) (u := 3) rfl _ _ _ : _), .inl ⟨HOK.out, _, rfl, ?_⟩, ?_⟩
          · rw [HR.out]
            exact HE.out.1
          · rw [HN0.out]
            exact HE.out.2
        case stop =>
          rintro D c pre W _ _ hx _
          exact hx.elim
      · refine (callsIn_wide (n := 6)).1 ?_
        refine callsIn_of_wp_marks Tryd.func22 rfl trivial ?_ rfl
        simp only [Tryd.ntmps22, List.size_toArray, List.length_cons, List.length_nil, Nat.reduceAdd, Nat.reduceSub, Array.replicate_succ, Array.replicate_zero, List.push_toArray, List.append_toArray, List.nil_append, List.cons_append]
        gi_wp2
        refine ⟨trivial, (callsIn_wide.2 (chunk_fn (some ⟨b, off + 1, none⟩) (n - 1) (cap - 1) _)).mono ?_⟩
        rintro e w' ⟨rfl, rfl⟩
        simp only [World.size_alloc]
        rw [HN0.out]
        rw [show N0 + 1 + 1 = N0 + 2 by omega]
        obtain ⟨W0, hW0⟩ : ∃ W0, ((w.alloc (.cells #[.slice none 0 0] 22)).alloc (.cells #[.slice (some ⟨b, off + 1, none⟩) (n - 1) (cap - 1)] 37)).alloc (.cells #[.int .i64 2] 3) = W0 := ⟨_, rfl⟩
        have b0 : Boxed W0 N0 22 (.slice none 0 0) := by
          rw [← hW0, ← HN0.out]
          exact ((Boxed.new w _ _).alloc _).alloc _
        have b1 : Boxed W0 (N0 + 1) 37 (.slice (some ⟨b, off + 1, none⟩) (n - 1) (cap - 1)) := by
          have := Boxed.new (w.alloc (.cells #[.slice none 0 0] 22)) 37 (.slice (some ⟨b, off + 1, none⟩) (n - 1) (cap - 1))
          rw [World.size_alloc, HN0.out] at this
          rw [← hW0]
          exact this.alloc _
        have b2 : Boxed W0 (N0 + 2) 3 (.int .i64 2) := by
          have := Boxed.new ((w.alloc (.cells #[.slice none 0 0] 22)).alloc (.cells #[.slice (some ⟨b, off + 1, none⟩) (n - 1) (cap - 1)] 37)) 3 (.int .i64 2)
          rw [World.size_alloc, World.size_alloc, HN0.out] at this
          rw [← hW0]
          exact this
        have hB0 : Below N0 w W0 := by
          rw [← hW0, ← HN0.out]
          exact ((((Below.refl _ w).alloc (Nat.le_refl _) _).alloc (by simp) _).alloc (by simp; omega) _)
        have hsz : W0.heap.size = N0 + 3 := by rw [← hW0]; simp; have := HN0.out; omega
        rw [hW0]
        have hh2 := HH2.out
        have hodd := HODD.out
        have hbN : b < N0 := by rw [← HN0.out]; exact HBL.out
        have HBN := Lib.hid hbN
        have HSZ := Lib.hid hsz
        obtain ⟨R, hR⟩ : ∃ R, ns.drop 1 = R := ⟨_, rfl⟩
        have hRl : R.length = 2 * x0 := by rw [← hR, List.length_drop, HN.out]; omega
        have HPR := Lib.hid (pairs_range x0 R hRl)
        have HRL := Lib.hid hRl
        have HR := Lib.hid hR
        have HRG := Lib.hid (fun (i : Nat) (hi : i < 2 * x0) => show ∃ x, R.getD i 0 = x ∧ x ≤ 2147483647 ∧ (castN ns)[i + 1]? = some (x : Int) from by
          have h1 : i < R.length := by omega
          have h2 : R[i]? = some R[i] := List.getElem?_eq_getElem h1
          refine ⟨R[i], by rw [List.getD_eq_getElem?_getD, h2]; rfl, ?_, ?_⟩
          · refine HSM.out _ ?_
            have : R[i] ∈ ns.drop 1 := by rw [hR]; exact List.getElem_mem h1
            exact List.mem_of_mem_drop this
          · have h3 : ns[i + 1]? = R[i]? := by rw [← hR, List.getElem?_drop, Nat.add_comm 1 i]
            unfold castN
            rw [List.getElem?_map, h3, h2]
            rfl)
        clear hW0 hR hRl c0
        gi_wp2
        refine wpIn_rangeFunc_ownG (n := 6) rfl (by omega) (gf := 49) (lb := #[.pointer (some ⟨N0 + 1, 0, none⟩), .pointer (some ⟨N0 + 2, 0, none⟩)]) rfl trivial (enters_of Tryd.func49 (by kernel_rfl) rfl)
          (chunk_stops 5 (by omega) (q := x0) (m := (n - 1)) (cap := (cap - 1)) (b := b) (off := off + 1) (A := some ⟨b, off + 1, none⟩) (N0 + 1) (N0 + 2) N0 (by omega) (by omega) (by omega) (fun h => by first | rfl | omega) (by omega) (by omega) (by omega) b1.cell b2.cell) kpC_t (kpC_b (by omega) (by omega) (by omega)) (Below.refl _ _) (fun _ => by rfl)
          (SpI w N0 R) (fun _ _ _ => False) (spI_own _ _ _ _ (by have := HN0.out; omega) (by omega)) (fun _ _ _ _ _ hs _ _ => hs)
          ⟨⟨⟨_, b0, World.ownsRow_nil _ _ _ _, trivial⟩, by omega⟩, hB0⟩
          (fun (x : Ix x0) => { tmps := #[.slice (some ⟨b, off, none⟩) n cap, undef, .slice none 0 0, .bool false, .pointer (some ⟨N0, 0, none⟩), .slice (some ⟨b, off + 1 + 2 * x.1, none⟩) 2 2, .slice (some ⟨b, off, none⟩) n cap, .int .i64 n, .int .i64 1, .bool false, .bool false, .slice (some ⟨b, off, none⟩) n cap, .pointer (some ⟨b, off, none⟩), .int .i64 x0, .slice (some ⟨b, off, none⟩) n cap, .int .i64 n, .int .i64 x0, .bool false, .bool false, .slice (some ⟨b, off, none⟩) n cap, .slice (some ⟨b, off + 1, none⟩) (n - 1) (cap - 1), .func (.func 49) #[] #[.pointer (some ⟨N0 + 1, 0, none⟩), .pointer (some ⟨N0 + 2, 0, none⟩)], .slice (some ⟨b, off + 1 + 2 * x.1, none⟩) 2 2, undef, undef, undef, undef, undef, undef, undef, undef, undef, undef, undef, undef, undef, undef, undef, undef], defers := [] }) ?assign ?body ?done ?stop
        case assign =>
          intro l x W K hK
          unfold chV
          gi_wp2
          exact hK
        case body =>
          rintro l pre x W ⟨⟨⟨v, hv, hrow, -⟩, hz⟩, hB⟩ hlt
          obtain ⟨i, hi⟩ := x
          obtain ⟨x, hxg, hxs, hx⟩ := HRG.out (2 * i) (by omega)
          obtain ⟨y, hyg, hys, hy⟩ := HRG.out (2 * i + 1) (by omega)
          have hbw : ∀ o, W.drew.cell? ⟨b, o, none⟩ = w.cell? ⟨b, o, none⟩ := fun o => (hB.drew).cell (p := ⟨b, o, none⟩) HBN.out
          have e0 := (hbw (off + (2 * i + 1))).trans (HJ.out (2 * i + 1) _ hx)
          have e1 := (hbw (off + (2 * i + 1 + 1))).trans (HJ.out (2 * i + 1 + 1) _ hy)
          have hpa : pairAt R i = ((x : Int), (x : Int) + (y : Int) + 1) := by unfold pairAt; rw [hxg, hyg]
          have hsl : spsL R (pre ++ [(⟨i, hi⟩ : Ix x0)]) = spsL R pre ++ [((x : Int), (x : Int) + (y : Int) + 1)] := by
            unfold spsL
            rw [List.map_append, List.map_cons, List.map_nil, hpa]
          obtain ⟨o, ho⟩ : ∃ o, off + 1 + 2 * i = o := ⟨_, rfl⟩
          rw [show off + (2 * i + 1) = o by omega] at e0
          rw [show off + (2 * i + 1 + 1) = o + 1 by omega] at e1
          obtain ⟨Av, cv, rfl, -⟩ := own_form hrow
          obtain ⟨X1, hX1⟩ : ∃ X, W.drew = X := ⟨_, rfl⟩
          have hvd : Boxed X1 N0 22 (.slice Av (spsL R pre).length cv) := by rw [← hX1]; exact hv
          have hrd : X1.ownsRow (N0 + 3) 24 2 (.slice Av (spsL R pre).length cv) (spsL R pre).length ((spsL R pre).flatMap spV) := by rw [← hX1]; exact hrow
          obtain ⟨nl, hnl⟩ : ∃ n, (spsL R pre).length = n := ⟨_, rfl⟩
          have hll : nl ≤ 1000000 := by rw [← hnl]; unfold spsL; rw [List.length_map]; have := HH2.out; omega
          rw [hnl] at hvd hrd
          have cB := hvd.cell
          have cB1 := (hvd.alloc (.cells #[.int .i64 (x : Int), .int .i64 ((x : Int) + (y : Int) + 1)] 24)).cell
          have hwa : IntKind.i64.wrap ((x : Int) + (y : Int)) = (x : Int) + (y : Int) := by rw [IntKind.wrap_i64]; omega
          have hwb : IntKind.i64.wrap ((x : Int) + (y : Int) + 1) = (x : Int) + (y : Int) + 1 := by rw [IntKind.wrap_i64]; omega
          have hND : N0 + 3 ≤ X1.heap.size := by rw [← hX1]; exact hz
          have hBD : Below N0 w X1 := by rw [← hX1]; exact hB.drew
          have HCW := Lib.hid (fun W' (h : Below N0 w W') => show W'.cell? ⟨b, o, none⟩ = some (.int .i64 (x : Int)) ∧ W'.cell? ⟨b, o + 1, none⟩ = some (.int .i64 (y : Int)) from
            ⟨(h.cell (p := ⟨b, o, none⟩) HBN.out).trans ((hB.drew.cell (p := ⟨b, o, none⟩) HBN.out).symm.trans e0), (h.cell (p := ⟨b, o + 1, none⟩) HBN.out).trans ((hB.drew.cell (p := ⟨b, o + 1, none⟩) HBN.out).symm.trans e1)⟩)
          have HK0 := Lib.hid (HCW.out X1 hBD)
          have HK1 := Lib.hid (HCW.out (X1.alloc (.cells #[.int .i64 (x : Int), .int .i64 ((x : Int) + (y : Int) + 1)] 24)) (hBD.alloc (by omega) _))
          have HKD : Hid (KeepsOthers W X1) := Lib.hid (by rw [← hX1]; exact KeepsOthers.drew _)
          have HHE : Hid (∀ m : Nat, X1.heap[m]? = W.heap[m]?) := Lib.hid (by rw [← hX1]; exact fun m => rfl)
          have HSL := Lib.hid hsl
          have HVD := Lib.hid hvd
          have HRD := Lib.hid hrd
          have HBD := Lib.hid hBD
          have HBW := Lib.hid hB
          have HZ := Lib.hid hz
          have HLL := Lib.hid hll
          have HND := Lib.hid hND
          have HNL := Lib.hid hnl
          have HX1 := Lib.hid hX1
          simp only [ho]
          clear hxg hyg hx hy hbw hpa hsl hv hrow hvd hrd hB hll hlt e0 e1 hND hBD hnl hX1 hz
          gi_wp2
          refine wpIn_round_held (fun w' => w'.cell? ⟨b, o, none⟩ = some (.int .i64 (x : Int)) ∧ w'.cell? ⟨b, o + 1, none⟩ = some (.int .i64 (y : Int))) (by kernel_rfl) (by kernel_rfl) (by rintro ⟨a, w, h⟩; exact h) ?_
          have hHeld : (fun w' => w'.cell? ⟨b, o, none⟩ = some (.int .i64 (x : Int)) ∧ w'.cell? ⟨b, o + 1, none⟩ = some (.int .i64 (y : Int))) (World.drew W) := (by rw [HX1.out]; exact HK0.out)
          rw [HX1.out] at hHeld ⊢
          refine wpAnyH_take (i := 1) (oi := ?oi1001) (v := ?v1001) ?hi1001 (by kernel_rfl) (by kernel_rfl) (by kernel_rfl) ?hq1001 ?hy1001 (by assumption) ?hr1001
          case hi1001 => (simp only [List.getElem?_toArray, List.getElem?_cons_succ, List.getElem?_cons_zero]; rfl)
          case hq1001 => exact fun _ _ _ h => h
          case hy1001 => exact Or.inl ⟨by rfl, by intro whSw hSw'; (try dsimp only at hSw'); (first | (go_simp; done) | (go_simp; with_reducible rfl))⟩
          try simp only [Act.put, List.setIfInBounds_toArray, List.set_cons_zero, List.set_cons_succ]
          refine wpAnyH_take (i := 2) (oi := ?oi1002) (v := ?v1002) ?hi1002 (by kernel_rfl) (by kernel_rfl) (by kernel_rfl) ?hq1002 ?hy1002 (by assumption) ?hr1002
          case hi1002 => (simp only [List.getElem?_toArray, List.getElem?_cons_succ, List.getElem?_cons_zero]; rfl)
          case hq1002 => exact fun _ _ _ h => h
          case hy1002 => exact Or.inl ⟨by rfl, by intro whSw hSw'; (try dsimp only at hSw'); (first | (go_simp; done) | (go_simp; with_reducible rfl))⟩
          try simp only [Act.put, List.setIfInBounds_toArray, List.set_cons_zero, List.set_cons_succ]
          refine wpAnyH_take (i := 3) (oi := ?oi1003) (v := ?v1003) ?hi1003 (by kernel_rfl) (by kernel_rfl) (by kernel_rfl) ?hq1003 ?hy1003 (by assumption) ?hr1003
          case hi1003 => (simp only [List.getElem?_toArray, List.getElem?_cons_succ, List.getElem?_cons_zero]; rfl)
          case hq1003 => exact fun _ _ _ h => h
          case hy1003 => exact Or.inl ⟨by rfl, by intro whSw hSw'; (try dsimp only at hSw'); (first | (go_simp; done) | (go_simp; with_reducible rfl))⟩
          try simp only [Act.put, List.setIfInBounds_toArray, List.set_cons_zero, List.set_cons_succ]
          refine wpAnyH_take (i := 4) (oi := ?oi1004) (v := ?v1004) ?hi1004 (by kernel_rfl) (by kernel_rfl) (by kernel_rfl) ?hq1004 ?hy1004 (by assumption) ?hr1004
          case hi1004 => (simp only [List.getElem?_toArray, List.getElem?_cons_succ, List.getElem?_cons_zero]; rfl)
          case hq1004 => exact fun _ _ _ h => h
          case hy1004 => exact Or.inl ⟨by rfl, by intro whSw hSw'; (try dsimp only at hSw'); (first | (go_simp; done) | (go_simp; with_reducible rfl))⟩
          try simp only [Act.put, List.setIfInBounds_toArray, List.set_cons_zero, List.set_cons_succ]
          refine wpAnyH_take (i := 5) (oi := ?oi1005) (v := ?v1005) ?hi1005 (by kernel_rfl) (by kernel_rfl) (by kernel_rfl) ?hq1005 ?hy1005 (by assumption) ?hr1005
          case hi1005 => (simp only [List.getElem?_toArray, List.getElem?_cons_succ, List.getElem?_cons_zero]; rfl)
          case hq1005 => exact fun _ _ _ h => h
          case hy1005 => exact Or.inl ⟨by rfl, by intro whSw hSw'; (try dsimp only at hSw'); (first | (go_simp; done) | (go_simp; with_reducible rfl))⟩
          try simp only [Act.put, List.setIfInBounds_toArray, List.set_cons_zero, List.set_cons_succ]
          refine wpAnyH_take (i := 6) (oi := ?oi1006) (v := ?v1006) ?hi1006 (by kernel_rfl) (by kernel_rfl) (by kernel_rfl) ?hq1006 ?hy1006 (by assumption) ?hr1006
          case hi1006 => (simp only [List.getElem?_toArray, List.getElem?_cons_succ, List.getElem?_cons_zero]; rfl)
          case hq1006 => exact fun _ _ _ h => h
          case hy1006 => exact Or.inl ⟨by rfl, by intro whSw hSw'; (try dsimp only at hSw'); (first | (go_simp; done) | (go_simp; with_reducible rfl))⟩
          try simp only [Act.put, List.setIfInBounds_toArray, List.set_cons_zero, List.set_cons_succ]
          refine wpAnyH_take (i := 7) (oi := ?oi1007) (v := ?v1007) ?hi1007 (by kernel_rfl) (by kernel_rfl) (by kernel_rfl) ?hq1007 ?hy1007 (by assumption) ?hr1007
          case hi1007 => (simp only [List.getElem?_toArray, List.getElem?_cons_succ, List.getElem?_cons_zero]; rfl)
          case hq1007 => exact fun _ _ _ h => h
          case hy1007 => exact Or.inl ⟨by rfl, by intro whSw hSw'; (try dsimp only at hSw'); (first | (go_simp; done) | (go_simp; with_reducible rfl))⟩
          try simp only [Act.put, List.setIfInBounds_toArray, List.set_cons_zero, List.set_cons_succ]
          refine wpAnyH_take (i := 8) (oi := ?oi1008) (v := ?v1008) ?hi1008 (by kernel_rfl) (by kernel_rfl) (by kernel_rfl) ?hq1008 ?hy1008 (by assumption) ?hr1008
          case hi1008 => (simp only [List.getElem?_toArray, List.getElem?_cons_succ, List.getElem?_cons_zero]; rfl)
          case hq1008 => exact fun _ _ _ h => h
          case hy1008 => exact Or.inl ⟨by rfl, by intro whSw hSw'; (try dsimp only at hSw'); (first | (go_simp; done) | (go_simp; with_reducible rfl))⟩
          try simp only [Act.put, List.setIfInBounds_toArray, List.set_cons_zero, List.set_cons_succ]
          refine wpAnyH_take (i := 9) (oi := ?oi1009) (v := ?v1009) ?hi1009 (by kernel_rfl) (by kernel_rfl) (by kernel_rfl) ?hq1009 ?hy1009 (by assumption) ?hr1009
          case hi1009 => (simp only [List.getElem?_toArray, List.getElem?_cons_succ, List.getElem?_cons_zero]; rfl)
          case hq1009 => exact fun _ _ _ h => h
          case hy1009 => exact Or.inl ⟨by rfl, by intro whSw hSw'; (try dsimp only at hSw'); (first | (go_simp; done) | (go_simp; with_reducible rfl))⟩
          try simp only [Act.put, List.setIfInBounds_toArray, List.set_cons_zero, List.set_cons_succ]
          refine wpAnyH_take (i := 10) (oi := ?oi1010) (v := ?v1010) ?hi1010 (by kernel_rfl) (by kernel_rfl) (by kernel_rfl) ?hq1010 ?hy1010 (by assumption) ?hr1010
          case hi1010 => (simp only [List.getElem?_toArray, List.getElem?_cons_succ, List.getElem?_cons_zero]; rfl)
          case hq1010 => exact fun _ _ _ h => h
          case hy1010 => exact Or.inl ⟨by rfl, by intro whSw hSw'; (try dsimp only at hSw'); (first | (go_simp; done) | (go_simp; with_reducible rfl))⟩
          try simp only [Act.put, List.setIfInBounds_toArray, List.set_cons_zero, List.set_cons_succ]
          refine wpAnyH_take (i := 11) (oi := ?oi1011) (v := ?v1011) ?hi1011 (by kernel_rfl) (by kernel_rfl) (by kernel_rfl) ?hq1011 ?hy1011 (by assumption) ?hr1011
          case hi1011 => (simp only [List.getElem?_toArray, List.getElem?_cons_succ, List.getElem?_cons_zero]; rfl)
          case hq1011 => exact fun _ _ _ h => h
          case hy1011 => exact Or.inl ⟨by rfl, by intro whSw hSw'; (try dsimp only at hSw'); (first | (go_simp; done) | (go_simp; with_reducible rfl))⟩
          try simp only [Act.put, List.setIfInBounds_toArray, List.set_cons_zero, List.set_cons_succ]
          refine wpAnyH_take (i := 12) (oi := ?oi1012) (v := ?v1012) ?hi1012 (by kernel_rfl) (by kernel_rfl) (by kernel_rfl) ?hq1012 ?hy1012 (by assumption) ?hr1012
          case hi1012 => (simp only [List.getElem?_toArray, List.getElem?_cons_succ, List.getElem?_cons_zero]; rfl)
          case hq1012 => exact fun _ _ _ h => h
          case hy1012 => exact Or.inl ⟨by rfl, by intro whSw hSw'; (try dsimp only at hSw'); (first | (go_simp; done) | (go_simp; with_reducible rfl))⟩
          try simp only [Act.put, List.setIfInBounds_toArray, List.set_cons_zero, List.set_cons_succ]
          refine wpAnyH_ready (rs := [0, 13]) (by kernel_rfl) (by simp) ?_
          refine AllReadyH.cons (o := ?oo1013) ?hi1013 (fun K hK => ?hs1013) ?hm1013
          case hi1013 => (simp only [List.getElem?_toArray, List.getElem?_cons_zero]; rfl)
          go_simp
          refine hK.out _ _ ?_ (fun hHeld => ?_)
          · (try dsimp only); (first | (with_reducible exact HK3.out) | (with_reducible exact HK2.out) | (with_reducible exact HK1.out) | (with_reducible exact HK0.out) | go_keep | fail)
          clear hK K
          try simp only [Act.put, List.setIfInBounds_toArray, List.set_cons_zero, List.set_cons_succ]
          refine wpAnyH_ready (rs := [13]) (by kernel_rfl) (by simp) ?_
          refine AllReadyH.cons (o := ?oo1014) ?hi1014 (fun K hK => ?hs1014) ?hm1014
          case hi1014 => (simp only [List.getElem?_toArray, List.getElem?_cons_succ, List.getElem?_cons_zero]; rfl)
          go_simp
          refine hK.out _ _ ?_ (fun hHeld => ?_)
          · (try dsimp only); (first | (with_reducible exact HK3.out) | (with_reducible exact HK2.out) | (with_reducible exact HK1.out) | (with_reducible exact HK0.out) | go_keep | fail)
          clear hK K
          try simp only [Act.put, List.setIfInBounds_toArray, List.set_cons_zero, List.set_cons_succ]
          refine wpAnyH_ready (rs := [14]) (by kernel_rfl) (by simp) ?_
          refine AllReadyH.cons (o := ?oo1015) ?hi1015 (fun K hK => ?hs1015) ?hm1015
          case hi1015 => (simp only [List.getElem?_toArray, List.getElem?_cons_succ, List.getElem?_cons_zero]; rfl)
          refine step_pushSp rfl (.tmp 23) (.tmp 36) rfl (N0 + 3) _ _ _ (x : Int) ((x : Int) + (y : Int) + 1) rfl rfl HRD.out HLL.out HND.out ?_
          intro v3 w3 HO3 HG3
          obtain ⟨g', cap', rfl⟩ := ownsRow_succ HO3.out
          have HAP := Lib.hid (HVD.out.appended (by decide) (own_base (b' := N0) (by omega) HRD.out) (by have := HND.out; omega) (Nat.le_refl _) (own_base (b' := N0) (by omega) HO3.out) HG3.out)
          have hc1 := HAP.out.1.cell
          have hf1 := HAP.out.1.frozen
          have hb3 : Below N0 X1 w3 := below_of_grown (grown_trans (World.grownBy_alloc X1 _ _) HG3.out) (by have := HND.out; omega) (fun k hk => by have := (own_low HRD.out k hk).1; omega)
          have HK2 := Lib.hid (HCW.out w3 (HBD.out.trans hb3))
          have HK3 := Lib.hid (HCW.out _ (HBD.out.trans HAP.out.2.2.2.2))
          clear hb3
          refine hK.out _ _ ?_ (fun hHeld => ?_)
          · (try dsimp only); (first | (with_reducible exact HK3.out) | (with_reducible exact HK2.out) | (with_reducible exact HK1.out) | (with_reducible exact HK0.out) | go_keep | fail)
          clear hK K
          try simp only [Act.put, List.setIfInBounds_toArray, List.set_cons_zero, List.set_cons_succ]
          refine wpAnyH_ready (rs := [15]) (by kernel_rfl) (by simp) ?_
          refine AllReadyH.cons (o := ?oo1016) ?hi1016 (fun K hK => ?hs1016) ?hm1016
          case hi1016 => (simp only [List.getElem?_toArray, List.getElem?_cons_succ, List.getElem?_cons_zero]; rfl)
          go_simp
          refine hK.out _ _ ?_ (fun hHeld => ?_)
          · (try dsimp only); (first | (with_reducible exact HK3.out) | (with_reducible exact HK2.out) | (with_reducible exact HK1.out) | (with_reducible exact HK0.out) | go_keep | fail)
          clear hK K
          try simp only [Act.put, List.setIfInBounds_toArray, List.set_cons_zero, List.set_cons_succ]
          refine wpAnyH_done (by kernel_rfl) ?_ _
          rotate_left
          exact AllReadyH.nil
          exact AllReadyH.nil
          exact AllReadyH.nil
          refine AllReadyH.cons (o := ?oo1017) ?hi1017 (fun K hK => ?hs1017) ?hm1017
          case hi1017 => (simp only [List.getElem?_toArray, List.getElem?_cons_succ, List.getElem?_cons_zero]; rfl)
          go_simp
          refine hK.out _ _ ?_ (fun hHeld => ?_)
          · (try dsimp only); (first | (with_reducible exact HK3.out) | (with_reducible exact HK2.out) | (with_reducible exact HK1.out) | (with_reducible exact HK0.out) | go_keep | fail)
          clear hK K
          try simp only [Act.put, List.setIfInBounds_toArray, List.set_cons_zero, List.set_cons_succ]
          refine wpAnyH_ready (rs := [0]) (by kernel_rfl) (by simp) ?_
          refine AllReadyH.cons (o := ?oo1018) ?hi1018 (fun K hK => ?hs1018) ?hm1018
          case hi1018 => (simp only [List.getElem?_toArray, List.getElem?_cons_zero]; rfl)
          go_simp
          refine hK.out _ _ ?_ (fun hHeld => ?_)
          · (try dsimp only); (first | (with_reducible exact HK3.out) | (with_reducible exact HK2.out) | (with_reducible exact HK1.out) | (with_reducible exact HK0.out) | go_keep | fail)
          clear hK K
          try simp only [Act.put, List.setIfInBounds_toArray, List.set_cons_zero, List.set_cons_succ]
          refine wpAnyH_ready (rs := [14]) (by kernel_rfl) (by simp) ?_
          refine AllReadyH.cons (o := ?oo1019) ?hi1019 (fun K hK => ?hs1019) ?hm1019
          case hi1019 => (simp only [List.getElem?_toArray, List.getElem?_cons_succ, List.getElem?_cons_zero]; rfl)
          refine step_pushSp rfl (.tmp 23) (.tmp 36) rfl (N0 + 3) _ _ _ (x : Int) ((x : Int) + (y : Int) + 1) rfl rfl HRD.out HLL.out HND.out ?_
          intro v3 w3 HO3 HG3
          obtain ⟨g', cap', rfl⟩ := ownsRow_succ HO3.out
          have HAP := Lib.hid (HVD.out.appended (by decide) (own_base (b' := N0) (by omega) HRD.out) (by have := HND.out; omega) (Nat.le_refl _) (own_base (b' := N0) (by omega) HO3.out) HG3.out)
          have hc1 := HAP.out.1.cell
          have hf1 := HAP.out.1.frozen
          have hb3 : Below N0 X1 w3 := below_of_grown (grown_trans (World.grownBy_alloc X1 _ _) HG3.out) (by have := HND.out; omega) (fun k hk => by have := (own_low HRD.out k hk).1; omega)
          have HK2 := Lib.hid (HCW.out w3 (HBD.out.trans hb3))
          have HK3 := Lib.hid (HCW.out _ (HBD.out.trans HAP.out.2.2.2.2))
          clear hb3
          refine hK.out _ _ ?_ (fun hHeld => ?_)
          · (try dsimp only); (first | (with_reducible exact HK3.out) | (with_reducible exact HK2.out) | (with_reducible exact HK1.out) | (with_reducible exact HK0.out) | go_keep | fail)
          clear hK K
          try simp only [Act.put, List.setIfInBounds_toArray, List.set_cons_zero, List.set_cons_succ]
          refine wpAnyH_ready (rs := [15]) (by kernel_rfl) (by simp) ?_
          refine AllReadyH.cons (o := ?oo1020) ?hi1020 (fun K hK => ?hs1020) ?hm1020
          case hi1020 => (simp only [List.getElem?_toArray, List.getElem?_cons_succ, List.getElem?_cons_zero]; rfl)
          go_simp
          refine hK.out _ _ ?_ (fun hHeld => ?_)
          · (try dsimp only); (first | (with_reducible exact HK3.out) | (with_reducible exact HK2.out) | (with_reducible exact HK1.out) | (with_reducible exact HK0.out) | go_keep | fail)
          clear hK K
          try simp only [Act.put, List.setIfInBounds_toArray, List.set_cons_zero, List.set_cons_succ]
          refine wpAnyH_done (by kernel_rfl) ?_ _
          rotate_left
          exact AllReadyH.nil
          exact AllReadyH.nil
          exact AllReadyH.nil
          exact AllReadyH.nil
          all_goals
            gi_wp2
            have hne : ∀ m, m < N0 + 3 → some m ≠ (Value.slice Av nl cv).ownBlock := fun m hm e => by have := (own_low HRD.out m e.symm).1; omega
            have hhp : ∀ m : Nat, m < N0 + 3 → m ≠ N0 → (w3.setCell ⟨N0, 0, none⟩ (.slice (some ⟨g', 0, none⟩) (nl + 1) cap')).heap[m]? = W.heap[m]? := fun m hm hm2 => by
              rw [Below.heap_setCell w3 ⟨N0, 0, none⟩ _ m hm2, HG3.out.block m (by rw [alloc_sz]; have := HND.out; omega) (hne m hm), Below.heap_alloc _ _ _ (by have := HND.out; omega)]
              exact HHE.out m
            have eo := HO3.out.kept (grownBy_setCell' w3 N0 (.slice (some ⟨g', 0, none⟩) (nl + 1) cap')) (.inr (HAP.out.1.not_row (by decide) HO3.out).symm)
            have hbf := HBD.out.trans HAP.out.2.2.2.2
            have hbW : Below N0 W (w3.setCell ⟨N0, 0, none⟩ (.slice (some ⟨g', 0, none⟩) (nl + 1) cap')) := by
              have h1 := HAP.out.2.2.2.2
              have h2 : Below N0 W X1 := by rw [← HX1.out]; exact (Below.refl _ _).drew
              exact h2.trans h1
            refine ⟨(HKD.out.trans HAP.out.2.2.2.1).from _, ⟨hbW, hhp _ (by omega) (by omega), hhp _ (by omega) (by omega)⟩, ⟨⟨⟨_, HAP.out.2.1, ?_, trivial⟩, Nat.le_trans HZ.out hbW.size⟩, hbf⟩⟩
            rw [HSL.out, List.length_append, List.flatMap_append, HNL.out]
            exact eo
        case done =>
          rintro D ys W hD hys ⟨⟨⟨v, hv, hrow, -⟩, hz⟩, hB⟩ hK
          have hsp : spsL R ys = pairsN R := by
            unfold spsL
            rw [← HPR.out, ← hys, List.map_map]
            rfl
          rw [hsp] at hrow
          obtain ⟨Av, cv, rfl, -⟩ := own_form hrow
          have cB := hv.cell
          have hrp := rows_putS (.deferred none) (own_sp hrow) hK rfl
          have HE := Lib.hid (And.intro hrp (hB.trans (belowK_b (w := W0) (n₀ := N0) (by omega) W D _ (.deferred none) hD hK rfl rfl)))
          have HK := Lib.hid hK
          clear hrow hv hrp hB hys
          gi_wp2
          refine ⟨by simp, .inl ⟨_, _, rfl, run_takeDeferred HK.out, ?_⟩⟩
          refine ⟨.tuple #[.slice Av (pairsN R).length cv, .bool true], (results_tmp2 (t := 2) (u := 3) rfl _ _ _ : _), .inl ⟨HOK.out, _, rfl, ?_⟩, ?_⟩
          · rw [HR.out]
            exact HE.out.1
          · rw [HN0.out]
            exact HE.out.2
        case stop =>
          rintro D c pre W _ _ hx _
          exact hx.elim
    · have HNOK : Hid (¬ SpOK ns) := Lib.hid (fun h => by
        have := (HOKE.out.1 h).2
        rw [HX0.out] at this
        simp at this
        exact heq this)
      have hxx : ((x0 : Int) != (h2 : Int)) = true := by simp; omega
      clear HOKE heq
      go_enter Tryd.func22, Tryd.ntmps22
      go_wp2_with fail
      go_ret2
      exact ⟨.inr ⟨HNOK.out, rfl⟩, Below.refl _ _⟩
  · have HNOK : Hid (¬ SpOK ns) := Lib.hid (fun h => hodd (HOKE.out.1 h).1)
    have h0 : n % 2 = 0 := by omega
    rw [h0] at hn3
    have hw3' : IntKind.i64.wrap 0 = 0 := by rw [IntKind.wrap_i64]; omega
    clear HOKE hw3 hodd h0 hn hv
    go_enter Tryd.func22, Tryd.ntmps22
    go_wp2_with fail
    go_ret2
    exact ⟨.inr ⟨HNOK.out, rfl⟩, Below.refl _ _⟩
end Go.Proofs.YtifdencdbpdbfaaDoor
