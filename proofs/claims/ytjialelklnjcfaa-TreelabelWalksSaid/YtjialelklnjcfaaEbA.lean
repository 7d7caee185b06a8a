/-
  WALKS over package treelabel, first part: the method children, which calls itself.
-/
import Derived.Test.YtjialelklnjcfaaEaR
import Derived.StillTailTactics
import Derived.RegionTactic
import Derived.Laws.CopyRow
import Derived.Laws.Tables
namespace Go.Proofs.Ytjialelklnjcfaa
set_option linter.unusedVariables false
open Go.RowKit Go.Shelf Go.Lib

theorem wpList_store_at {P : Program} {ops : Array Oper} {rest : List Oper} {o : Oper} {a : Act} {w : World} {Q : Exit → Act → World → Prop} (hgd : o.guard = none) (ty : TypeId) (x y : Operand) (ho : o.op = .store ty x y)
    (g k : Nat) (cells : Array Value) (hx : a.eval x = .pointer (some ⟨g, k, none⟩)) (hy : a.eval y = .agg cells)
    (t : TypeId) (old : Array Value) (hg : w.heap[g]? = some (.cells old t (0, 0))) (hi : (P.info? ty).map (·.size) = some cells.size)
    (hfit : k + cells.size ≤ old.size) (h1 : ∀ v ∈ cells.toList, v.oneCell' = true)
    (h : ∀ w', w' = w.setRow g (old.toList.take k ++ cells.toList ++ old.toList.drop (k + cells.size)).toArray → wpList P ops Q rest (a.put o.dst undef) w') : wpList P ops Q (o :: rest) a w :=
  wpList_plain hgd fun _ hK => by
    have hst := run_storeCells_at P g k t cells.toList 0 old w hg (by simpa using hfit) h1
    have hsv : (storeVar ty ⟨g, k, none⟩ (.agg cells)).run P w = .ok () (w.setRow g (old.toList.take k ++ cells.toList ++ old.toList.drop (k + cells.size)).toArray) := by
      cases hq : P.info? ty with
      | none => simp [hq] at hi
      | some i =>
        have hs : cells.size = i.size := by simp [hq] at hi; omega
        simp only [Nat.add_zero, Array.length_toList] at hst
        simp [storeVar, sizeOf, typeInfo, hq, Value.cells, hs, hst]
    unfold Oper.wp execOp
    simp only [ho, hx, hy, Instr.storeAt, Instr.sureAddr, Sem.run_bind, Sem.run_pure, Result.andThen_ok, hsv]
    exact hK _ _ (h _ rfl)
/-- Where the walk's blocks lie. -/
structure WC (B p bf bn bl : Nat) : Prop where
  hp : B ≤ p
  hl : B ≤ bl
  pf : bf ≠ p
  pn : bn ≠ p
  pl : bl ≠ p
  lf : bf ≠ bl
  ln : bn ≠ bl
/-- The walk in memory. -/
structure WSt (B : Nat) (w W : World) (p bf cf bn bl n : Nat) (F X : List Int) (s : LS) : Prop where
  below : Below B w W
  box : W.heap[p]? = some (.cells #[.slice (some ⟨bf, 0, none⟩) (n + 1) cf, .slice (some ⟨bn, 0, none⟩) n n, .slice (some ⟨bl, 0, none⟩) n n, .int .i64 (s.2.1 : Int), .int .i64 (s.2.2 : Int)] 58 (0, 0))
  f : Blk W bf F
  nx : Blk W bn X
  l : W.heap[bl]? = some (.cells (labRow s.1) 41 (0, 0))
theorem heap_drew (W : World) (k : Nat) : W.drew.heap[k]? = W.heap[k]? := rfl
theorem WSt.drew {B : Nat} {w W : World} {p bf cf bn bl n : Nat} {F X : List Int} {s : LS} (h : WSt B w W p bf cf bn bl n F X s) : WSt B w W.drew p bf cf bn bl n F X s :=
  ⟨below_drewN h.below 1, h.box, h.f.keep rfl, h.nx.keep rfl, h.l⟩
theorem WSt.pre {B : Nat} {w W : World} {p bf cf bn bl n : Nat} {F X : List Int} {s : LS} (hC : WC B p bf bn bl) (h : WSt B w W p bf cf bn bl n F X s) : WSt B w (W.setCell ⟨p, 3, none⟩ (.int .i64 ((s.2.1 : Int) + 1))) p bf cf bn bl n F X (s.1, s.2.1 + 1, s.2.2) := by
  refine ⟨h.below.trans ⟨rfl, rfl, rfl, by simp [World.setCell], fun k hk => Below.heap_setCell _ _ _ k (by show k ≠ p; have := hC.hp; omega)⟩, ?_, h.f.other hC.pf _ _, h.nx.other hC.pn _ _, (Below.heap_setCell W ⟨p, 3, none⟩ _ bl hC.pl).trans h.l⟩
  rw [set_of h.box]
  rfl
theorem WSt.post {B : Nat} {w W : World} {p bf cf bn bl n : Nat} {F X : List Int} {s : LS} (hC : WC B p bf bn bl) (h : WSt B w W p bf cf bn bl n F X s) : WSt B w (W.setCell ⟨p, 4, none⟩ (.int .i64 ((s.2.2 : Int) + 1))) p bf cf bn bl n F X (s.1, s.2.1, s.2.2 + 1) := by
  refine ⟨h.below.trans ⟨rfl, rfl, rfl, by simp [World.setCell], fun k hk => Below.heap_setCell _ _ _ k (by show k ≠ p; have := hC.hp; omega)⟩, ?_, h.f.other hC.pf _ _, h.nx.other hC.pn _ _, (Below.heap_setCell W ⟨p, 4, none⟩ _ bl hC.pl).trans h.l⟩
  rw [set_of h.box]
  rfl
theorem WSt.row {B : Nat} {w W : World} {p bf cf bn bl n : Nat} {F X : List Int} {s : LS} (hC : WC B p bf bn bl) (h : WSt B w W p bf cf bn bl n F X s) {i : Nat} (x : Lb) (hi : i < s.1.length) :
    WSt B w (W.setRow bl ((labRow s.1).toList.take (i * 3) ++ (lbV x).toArray.toList ++ (labRow s.1).toList.drop (i * 3 + (lbV x).toArray.size)).toArray) p bf cf bn bl n F X (s.1.set i x, s.2) := by
  have ho : ∀ k cs, k ≠ bl → (W.setRow bl cs).heap[k]? = W.heap[k]? := fun k cs hk => setRow_other W bl k cs hk
  refine ⟨h.below.trans ⟨rfl, rfl, rfl, by simp [World.setRow], fun k hk => ho k _ (by have := hC.hl; omega)⟩, (ho _ _ (fun e => hC.pl e.symm)).trans h.box, h.f.keep (ho _ _ hC.lf), h.nx.keep (ho _ _ hC.ln), ?_⟩
  rw [labRow_set x hi]
  exact setRow_heap W bl _ _ _ _ h.l
theorem wk_len2 (h : List Int) : ∀ (f : Nat) (p : Int) (d : Nat) (s : LS), (wk h f p d s).1.length = s.1.length
  | 0, p, d, s => rfl
  | f + 1, p, d, s => by
    rw [wk_succ]
    generalize kids h p = ks
    induction ks generalizing s with
    | nil => rfl
    | cons c ks ih =>
      rw [List.foldl_cons, ih]
      unfold wkStep
      simp only [List.length_set]
      rw [wk_len2 h f c (d + 1)]

set_option maxRecDepth 100000 in
set_option maxHeartbeats 4000000 in
theorem children_step {h : List Int} {n : Nat} (hn : h.length = n) (hn4 : n ≤ 4096) {B p bf cf bn bl : Nat} (hC : WC B p bf bn bl) {w : World} (hcf : n + 1 ≤ cf) (f : Nat) (pz : Int) (hpz : -1 ≤ pz ∧ pz < n) (d : Nat) (hd : d ≤ 4096)
    (ih : ∀ k : Nat, h[k]? = some pz → ∀ (s : LS) (W : World), s.1.length = n → (wk h f k (d + 1) s).2.1 ≤ 4096 → (wk h f k (d + 1) s).2.2 ≤ 4096 → WSt B w W p bf cf bn bl n (firstL h 0) (nextL h 0) s →
      Calls Try.prog 32 #[.pointer (some ⟨p, 0, none⟩), .int .i64 (k : Int), .int .i64 ((d : Int) + 1)] W fun e w' => e = .returned (.tuple #[]) ∧ WSt B w w' p bf cf bn bl n (firstL h 0) (nextL h 0) (wk h f k (d + 1) s))
    (s : LS) (W : World) (hs : s.1.length = n) (hb1 : ((kids h pz).foldl (wkStep h f d) s).2.1 ≤ 4096) (hb2 : ((kids h pz).foldl (wkStep h f d) s).2.2 ≤ 4096) (hw : WSt B w W p bf cf bn bl n (firstL h 0) (nextL h 0) s) :
    Calls Try.prog 32 #[.pointer (some ⟨p, 0, none⟩), .int .i64 pz, .int .i64 (d : Int)] W fun e w' => e = .returned (.tuple #[]) ∧ WSt B w w' p bf cf bn bl n (firstL h 0) (nextL h 0) ((kids h pz).foldl (wkStep h f d) s) := by
  obtain ⟨q, hq⟩ : ∃ q : Nat, pz + 1 = (q : Int) := ⟨(pz + 1).toNat, by omega⟩
  have hfq := firstL_get (h := h) (i := 0) (q := q) (by omega)
  rw [show ((q : Int) - 1) = pz by omega, kidsF_zero] at hfq
  have u0 := hw.f.cell hfq
  have b0 := cell_of (i := 0) hw.box rfl
  obtain ⟨fin, hfin⟩ : ∃ t, (kids h pz).foldl (wkStep h f d) s = t := ⟨_, rfl⟩
  rw [hfin] at hb1 hb2 ⊢
  have hqn : (q : Int) < (n : Int) + 1 := by omega
  have hqw : IntKind.i64.wrap (pz + 1) = (q : Int) := by rw [IntKind.wrap_i64, hq]; omega
  have hdw : IntKind.i64.wrap ((d : Int) + 1) = (d : Int) + 1 := by rw [IntKind.wrap_i64]; omega
  have hfin0 : (kidsF h pz 0).foldl (wkStep h f d) s = fin := by rw [kidsF_zero]; exact hfin
  have e0 : headZ (kids h pz) = headZ (kidsF h pz 0) := by rw [kidsF_zero]
  rw [e0] at u0
  obtain ⟨R0, hR0⟩ : ∃ r, kidsF h pz 0 = r := ⟨_, rfl⟩
  rw [hR0] at u0 hfin0
  obtain ⟨z0, hz0⟩ : ∃ z, headZ R0 = z := ⟨_, rfl⟩
  rw [hz0] at u0
  have HZ0 := Lib.hid hz0
  have HR0 := Lib.hid (show ∃ j, R0 = kidsF h pz j from ⟨0, hR0.symm⟩)
  have HN := Lib.hid hn
  have HC := Lib.hid hC
  have HIH := Lib.hid ih
  have HFIN := Lib.hid hfin0
  have HW := Lib.hid hw
  clear hfq hR0 hfin hfin0 e0 hw ih hC hn hq hz0
  go_enter Try.func32, Try.ntmps32
  go_wp2_with fail
  clear u0 b0 hqn hqw
  go_loopg [6] (R0.length) (fun gg iv wr => ∃ (rest : List Nat) (t : LS), iv = .int .i64 (headZ rest) ∧ rest.length ≤ gg ∧ t.1.length = n ∧ Hid (∃ j, rest = kidsF h pz j) ∧ Hid (rest.foldl (wkStep h f d) t = fin) ∧ Hid (WSt B w wr p bf cf bn bl n (firstL h 0) (nextL h 0) t))
  case atStart => exact ⟨R0, s, by rw [HZ0.out], Nat.le_refl _, hs, HR0, HFIN, HW⟩
  case round =>
    clear HR0 HFIN HW hs
    obtain ⟨rest, t, rfl, hgg, htl, HR, HF, HW⟩ := hrel
    cases rest with
    | nil =>
      have hfe : t = fin := HF.out
      subst hfe
      simp only [headZ]
      go_wp2_with fail
      go_end0
      exact ⟨rfl, HW.out⟩
    | cons x rest =>
      obtain ⟨j, hj⟩ := HR.out
      obtain ⟨hx, hxn, hrest⟩ := kidsF_at hj.symm
      have HR' := Lib.hid (show ∃ j, rest = kidsF h pz j from ⟨_, hrest⟩)
      have hz : ((x : Int) != -1) = true := by simp <;> omega
      rw [HN.out] at hxn
      have hxi : (x : Int) < (n : Int) := by omega
      have hfl : rest.foldl (wkStep h f d) (wkStep h f d t x) = fin := HF.out
      obtain ⟨r, hr⟩ : ∃ r, wk h f x (d + 1) (t.1, t.2.1 + 1, t.2.2) = r := ⟨_, rfl⟩
      have hst : wkStep h f d t x = (r.1.set x ((t.2.1 : Int), (r.2.2 : Int), (d : Int)), r.2.1, r.2.2 + 1) := by unfold wkStep; rw [hr]
      have hsm := fold_small (h := h) (f := f) (d := d) rest (wkStep h f d t x)
      have hsm2 := wk_small (h := h) f x (d + 1) (t.1, t.2.1 + 1, t.2.2)
      rw [hfl, hst] at hsm
      rw [hr] at hsm2
      simp only at hsm hsm2
      have hrl : r.1.length = n := by rw [← hr, wk_len2]; exact htl
      have hw := HW.out
      have b3 := cell_of (i := 3) hw.box rfl
      have f3 : wr.frozen? ⟨p, 3, none⟩ = false := frozen_of hw.box
      have hp1 := hw.pre HC.out
      have HCALL := Lib.hid (HIH.out x hx (t.1, t.2.1 + 1, t.2.2) _ htl (by rw [hr]; omega) (by rw [hr]; omega) hp1)
      rw [hr] at HCALL
      have hw3 : IntKind.i64.wrap ((t.2.1 : Int) + 1) = (t.2.1 : Int) + 1 := by rw [IntKind.wrap_i64]; omega
      have hw4 : IntKind.i64.wrap ((r.2.2 : Int) + 1) = (r.2.2 : Int) + 1 := by rw [IntKind.wrap_i64]; omega
      have HNX := Lib.hid (nextL_get (h := h) (x := x) (i := 0) (by rw [HN.out]; exact hxn) (Nat.zero_le _) hx)
      have HRE := Lib.hid hrest
      have HFL := Lib.hid (show rest.foldl (wkStep h f d) (r.1.set x ((t.2.1 : Int), (r.2.2 : Int), (d : Int)), r.2.1, r.2.2 + 1) = fin by rw [← hst]; exact hfl)
      obtain ⟨pre0, hpre0⟩ : ∃ z : Nat, t.2.1 = z := ⟨_, rfl⟩
      rw [hpre0] at b3 HCALL hw3 HFL
      simp only [headZ]
      clear HR HF hj hx hrest hfl hst hsm hsm2 hw hp1 hr hpre0 HW
      go_wp2_with fail
      refine HCALL.out.mono ?_
      rintro e w2 ⟨rfl, hw2⟩
      clear b3 f3 hw3
      have k2 := cell_of (i := 2) hw2.box rfl
      have k4 := cell_of (i := 4) hw2.box rfl
      have HW2 := Lib.hid hw2
      clear hw2
      go_wp2_with fail
      go_still_tail 13, (by kernel_rfl)
      refine wpList_store_at rfl 41 (.tmp 55) (.tmp 54) rfl bl (x * 3) #[.int .i64 (pre0 : Int), .int .i64 (r.2.2 : Int), .int .i64 (d : Int)] rfl rfl 41 _ HW2.out.drew.l (by kernel_rfl) (by rw [labRow_size, hrl]; simp; omega) (by simp [Value.oneCell']) ?_
      intro w3 hw3e
      have hrow : WSt B w w3 p bf cf bn bl n (firstL h 0) (nextL h 0) (r.1.set x ((pre0 : Int), (r.2.2 : Int), (d : Int)), r.2) := by
        rw [hw3e]
        exact HW2.out.drew.row HC.out (i := x) ((pre0 : Int), (r.2.2 : Int), (d : Int)) (by rw [hrl]; exact hxn)
      have k4' := cell_of (i := 4) hrow.box rfl
      have f4' : w3.frozen? ⟨p, 4, none⟩ = false := frozen_of hrow.box
      have hpo := hrow.post HC.out
      have HPO := Lib.hid hpo
      obtain ⟨post0, hpost0⟩ : ∃ z : Nat, r.2.2 = z := ⟨_, rfl⟩
      simp only at k4'
      have hc1 := hpo.nx.cell HNX.out
      rw [← HRE.out] at hc1
      obtain ⟨z1, hz1⟩ : ∃ z, headZ rest = z := ⟨_, rfl⟩
      rw [hz1] at hc1
      simp only at hc1
      rw [hpost0] at k4' hc1 hw4
      have k1 := cell_of (i := 1) hpo.box rfl
      simp only at k1
      rw [hpost0] at k1
      have HZ1 := Lib.hid hz1
      have HP0 := Lib.hid hpost0
      clear hrow hpo hw3e k2 k4 hz1 hpost0
      go_wp2_with fail
      go_roundg rest.length
      case measure => simp only [List.length_cons] at hgg; omega
      case rel => exact ⟨rest, _, by rw [HZ1.out], Nat.le_refl _, by simp only [List.length_set]; exact hrl, HR', HFL, by rw [← HP0.out]; exact HPO⟩
theorem children_any {h : List Int} (hO : Okh h) {n : Nat} (hn : h.length = n) {B p bf cf bn bl : Nat} (hC : WC B p bf bn bl) {w : World} (hcf : n + 1 ≤ cf) : ∀ (f : Nat) (pz : Int) (d : Nat), f + d = n + 1 → AtD h pz d →
    ∀ (s : LS) (W : World), s.1.length = n → (wk h f pz d s).2.1 ≤ 4096 → (wk h f pz d s).2.2 ≤ 4096 → WSt B w W p bf cf bn bl n (firstL h 0) (nextL h 0) s →
    Calls Try.prog 32 #[.pointer (some ⟨p, 0, none⟩), .int .i64 pz, .int .i64 (d : Int)] W fun e w' => e = .returned (.tuple #[]) ∧ WSt B w w' p bf cf bn bl n (firstL h 0) (nextL h 0) (wk h f pz d s) := by
  have hn4 : n ≤ 4096 := by have := hO.len; omega
  have hpz : ∀ (pz : Int) (d : Nat), AtD h pz d → (-1 ≤ pz ∧ pz < n) ∧ d ≤ 4096 := fun pz d hp => by
    rcases hp with ⟨rfl, rfl⟩ | ⟨q, rfl, hq, hd⟩
    · omega
    · have := way_len hO hq
      omega
  intro f
  induction f with
  | zero =>
    intro pz d hf hp s W hs hb1 hb2 hw
    have hk : ∀ k : Nat, h[k]? ≠ some pz := fun k hk => by
      have h1 := hp.kid hO hk
      have h2 := way_len hO (List.getElem?_eq_some_iff.1 hk).1
      omega
    have hnil : kids h pz = [] := by
      rw [List.eq_nil_iff_forall_not_mem]
      exact fun k hm => hk k (mem_kids.1 hm)
    have := children_step hn hn4 hC hcf 0 pz (hpz pz d hp).1 d (hpz pz d hp).2 (fun k e => absurd e (hk k)) s W hs (by rw [hnil]; exact hb1) (by rw [hnil]; exact hb2) hw
    rw [hnil] at this
    exact this
  | succ f ih =>
    intro pz d hf hp s W hs hb1 hb2 hw
    rw [wk_succ] at hb1 hb2 ⊢
    refine children_step hn hn4 hC hcf f pz (hpz pz d hp).1 d (hpz pz d hp).2 (fun k e s' W' hs' h1 h2 hw' => ?_) s W hs hb1 hb2 hw
    have := ih k (d + 1) (by omega) (.inr ⟨k, rfl, (List.getElem?_eq_some_iff.1 e).1, hp.kid hO e⟩) s' W' hs' h1 h2 hw'
    exact this
end Go.Proofs.Ytjialelklnjcfaa
