/-
  WALKS over package markup: ParseTag: the deferred closure by its two contracts (of a frame that panics, of a frame that returns), the function.
-/
import Derived.Test.YtjablaidbccnbaaGreatDoorMkW
import Derived.Defers
import Derived.Recover
namespace Go.Proofs.YtjablaidbccnbaaGreatDoor
open Go.RowKit Go.Shelf Go.Lib

theorem Tryz.assert_hit (v : Value) (w : World) : (Instr.typeAssert (.iface 42 v) 20 42 true).run Tryz.prog w = .ok (.tuple #[v, .bool true]) w := by kernel_rfl
theorem Tryz.assert_nil (w : World) : (Instr.typeAssert .nilIface 20 42 true).run Tryz.prog w = .ok (.tuple #[.agg #[.int .i64 0, .int .i64 0], .bool false]) w := by kernel_rfl

theorem caught {w V : World} {b a er : Nat} {x y : Int} (hb : Below b w V) (h3 : V.heap[b]? = some (.cells #[.int .i64 x] 3 (0, 0))) (h4 : V.heap[b + 1]? = some (.cells #[.int .i64 y] 25 (0, 0))) :
    Below b w ((V.setCell ⟨b, 0, none⟩ (.int .i64 (a : Int))).setCell ⟨b + 1, 0, none⟩ (.int .i64 (er : Int))) ∧
    ((V.setCell ⟨b, 0, none⟩ (.int .i64 (a : Int))).setCell ⟨b + 1, 0, none⟩ (.int .i64 (er : Int))).heap[b]? = some (.cells #[.int .i64 (a : Int)] 3 (0, 0)) ∧
    ((V.setCell ⟨b, 0, none⟩ (.int .i64 (a : Int))).setCell ⟨b + 1, 0, none⟩ (.int .i64 (er : Int))).heap[b + 1]? = some (.cells #[.int .i64 (er : Int)] 25 (0, 0)) := by
  refine ⟨(hb.setCell (Nat.le_refl _) _).setCell (by simp) _, ?_, ?_⟩
  · have := block_other (i := 0) (.int .i64 (er : Int)) (set_of (i := 0) h3 (.int .i64 (a : Int))) (show b ≠ b + 1 by omega)
    exact this
  · have := set_of (i := 0) (block_other (i := 0) (.int .i64 (a : Int)) h4 (show b + 1 ≠ b by omega)) (.int .i64 (er : Int))
    exact this
set_option maxHeartbeats 1000000 in
theorem catch_fail (b a er : Nat) (x y : Int) (older : List PanicEntry) (w : World) (h3 : w.heap[b]? = some (.cells #[.int .i64 x] 3 (0, 0))) (h4 : w.heap[b + 1]? = some (.cells #[.int .i64 y] 25 (0, 0))) :
    CallsD Tryz.prog 15 #[.pointer (some ⟨b, 0, none⟩), .pointer (some ⟨b + 1, 0, none⟩)] (.panicking ({ v := .iface 42 (.agg #[.int .i64 (a : Int), .int .i64 (er : Int)]), recovered := false } :: older)) w fun e u' w' =>
      e = .returned (.tuple #[]) ∧ u' = .panicking ({ v := .iface 42 (.agg #[.int .i64 (a : Int), .int .i64 (er : Int)]), recovered := true } :: older) ∧
      Below b w w' ∧ w'.heap[b]? = some (.cells #[.int .i64 (a : Int)] 3 (0, 0)) ∧ w'.heap[b + 1]? = some (.cells #[.int .i64 (er : Int)] 25 (0, 0)) := by
  refine callsD_of_wpS Tryz.func15 rfl fun c₀ cs hu => ?_
  apply wpS_seq
  apply wpS_region
  simp [wpOpsS, go_sem, recoverD, hu, Tryz.ntmps15, Exit.thenS, Tryz.assert_hit, Result.andThen]
  have k3 := block_alloc (.cells #[.int .i64 (a : Int), .int .i64 (er : Int)] 42) h3
  have k4 := block_alloc (.cells #[.int .i64 (a : Int), .int .i64 (er : Int)] 42) h4
  have kn := block_new w (.cells #[.int .i64 (a : Int), .int .i64 (er : Int)] 42)
  have hbb : Below b w (w.alloc (.cells #[.int .i64 (a : Int), .int .i64 (er : Int)] 42)) := (Below.refl _ w).alloc (Nat.le_of_lt (Array.getElem?_eq_some_iff.1 h3).1) _
  refine wpS_of_wp ?_
  simp only [Array.replicate_succ, Array.replicate_zero, List.push_toArray, List.append_toArray, List.nil_append, List.cons_append, List.setIfInBounds_toArray, List.set_cons_succ, List.set_cons_zero]
  obtain ⟨W, hW⟩ : ∃ W, (w.alloc (.cells #[.int .i64 (a : Int), .int .i64 (er : Int)] 42)) = W := ⟨_, rfl⟩
  obtain ⟨g, hg⟩ : ∃ g, w.heap.size = g := ⟨_, rfl⟩
  rw [hW] at k3 k4 kn hbb ⊢
  rw [hg] at kn ⊢
  have s0 : W.cell? ⟨g, 0, none⟩ = some (.int .i64 (a : Int)) := cell_of kn rfl
  have s1 : W.cell? ⟨g, 1, none⟩ = some (.int .i64 (er : Int)) := cell_of kn rfl
  have s3 : W.cell? ⟨b, 0, none⟩ = some (.int .i64 x) := cell_of k3 rfl
  have s4 : W.cell? ⟨b + 1, 0, none⟩ = some (.int .i64 y) := cell_of k4 rfl
  have z3 : W.frozen? ⟨b, 0, none⟩ = false := frozen_of k3
  have z4 : W.frozen? ⟨b + 1, 0, none⟩ = false := frozen_of k4
  have HC := Lib.hid (caught (a := a) (er := er) hbb k3 k4)
  clear k3 k4 kn hbb hW hg h3 h4
  go_wp2_with fail
  go_region
  exact ⟨rfl, _, rfl, _, results_none rfl _ _ _, rfl, rfl, HC.out.1.drew, HC.out.2.1, HC.out.2.2⟩

theorem catch_idle (b : Nat) (w : World) :
    CallsD Tryz.prog 15 #[.pointer (some ⟨b, 0, none⟩), .pointer (some ⟨b + 1, 0, none⟩)] .returning w fun e u' w' => e = .returned (.tuple #[]) ∧ u' = .returning ∧ Below w.heap.size w w' := by
  refine callsD_of_wpS Tryz.func15 rfl fun c₀ cs hu => ?_
  apply wpS_seq
  apply wpS_region
  simp [wpOpsS, go_sem, recoverD, hu, Tryz.ntmps15, Exit.thenS, Tryz.assert_nil, Result.andThen]
  have hbb : Below w.heap.size w (w.alloc (.cells #[.int .i64 0, .int .i64 0] 42)) := (Below.refl _ w).alloc (Nat.le_refl _) _
  refine wpS_of_wp ?_
  simp only [Array.replicate_succ, Array.replicate_zero, List.push_toArray, List.append_toArray, List.nil_append, List.cons_append, List.setIfInBounds_toArray, List.set_cons_succ, List.set_cons_zero]
  have HC := Lib.hid hbb
  clear hbb
  go_wp2_with fail
  exact ⟨rfl, _, rfl, _, results_none rfl _ _ _, rfl, hu, HC.out⟩

/-- What ParseTag hands back. -/
def ParseV (r : PR TagL) (w' : World) (v : Value) : Prop :=
  match r with
  | .ok t _ => ∃ ks, v = .tuple #[.agg #[.bool t.close, .string ⟨t.name.toArray⟩, ks], .int .i64 0, .int .i64 0] ∧ Keys w' ks (sortP t.keys)
  | .err a er => v = .tuple #[.agg #[.bool false, .string ⟨#[]⟩, .slice none 0 0], .int .i64 (a : Int), .int .i64 (er : Int)]

theorem not_int {W : World} {B : Nat} {x0 : Int} {t : TypeId} {f : Nat × Nat} (hB : W.heap[B]? = some (.cells #[.int .i64 x0] t f)) :
    ∀ q x y, W.cell? ⟨B, q, none⟩ = some (.string x) → W.cell? ⟨B, q + 1, none⟩ = some (.string y) → False := by
  intro q x y c0 c1
  have hcell : ∀ j, W.cell? ⟨B, j, none⟩ = (#[Value.int .i64 x0] : Array Value)[j]? := by
    intro j
    simp [World.cell?, hB]
  rw [hcell] at c0
  rcases Nat.eq_zero_or_pos q with rfl | e
  · simp at c0
  · rw [Array.getElem?_eq_none (show (#[Value.int .i64 x0] : Array Value).size ≤ q from e)] at c0
    simp at c0
/-- The three result cells. -/
structure Cells3 (W : World) (n : Nat) (tag : Array Value) (a e : Int) : Prop where
  c0 : W.heap[n]? = some (.cells tag 24 (0, 0))
  c1 : W.heap[n + 1]? = some (.cells #[.int .i64 a] 3 (0, 0))
  c2 : W.heap[n + 1 + 1]? = some (.cells #[.int .i64 e] 25 (0, 0))
theorem Cells3.keep {W W' : World} {n B : Nat} {tag : Array Value} {a e : Int} (h : Cells3 W n tag a e) (hb : Below B W W') (hB : n + 1 + 1 < B) : Cells3 W' n tag a e :=
  ⟨block_below h.c0 hb (by omega), block_below h.c1 hb (by omega), block_below h.c2 hb hB⟩
theorem Cells3.but {W W' : World} {n : Nat} {tag : Array Value} {a e : Int} (h : Cells3 W n tag a e) (hb : But (n + 1 + 1 + 1) W W') : Cells3 W' n tag a e :=
  ⟨(hb.block _ (Array.getElem?_eq_some_iff.1 h.c0).1 (fun e => by have := Option.some.inj e; omega)).trans h.c0, (hb.block _ (Array.getElem?_eq_some_iff.1 h.c1).1 (fun e => by have := Option.some.inj e; omega)).trans h.c1, (hb.block _ (Array.getElem?_eq_some_iff.1 h.c2).1 (fun e => by have := Option.some.inj e; omega)).trans h.c2⟩
theorem results_tag {W : World} {n : Nat} {tag : Array Value} {a e : Int} (h : Cells3 W n tag a e) (ht : tag.size = 3) (tmps : Array Value) (h2 : tmps.getD 2 undef = .pointer (some ⟨n, 0, none⟩)) (h3 : tmps.getD 3 undef = .pointer (some ⟨n + 1, 0, none⟩)) (h4 : tmps.getD 4 undef = .pointer (some ⟨n + 1 + 1, 0, none⟩)) :
    (results Tryz.f6 tmps).run Tryz.prog W = .ok (.tuple #[.agg tag, .int .i64 a, .int .i64 e]) W := by
  have e1 : W.cell? ⟨n + 1, 0, none⟩ = some (.int .i64 a) := cell_of h.c1 rfl
  have e2 : W.cell? ⟨n + 1 + 1, 0, none⟩ = some (.int .i64 e) := cell_of h.c2 rfl
  have e0 := run_loadVar_row (P := Tryz.prog) W n 24 24 tag (0, 0) _ h.c0 Tryz.underlying24 rfl (by rw [ht]; exact Tryz.sizeTag)
  have h2' : tmps[2]?.getD undef = .pointer (some ⟨n, 0, none⟩) := by simpa using h2
  have h3' : tmps[3]?.getD undef = .pointer (some ⟨n + 1, 0, none⟩) := by simpa using h3
  have h4' : tmps[4]?.getD undef = .pointer (some ⟨n + 1 + 1, 0, none⟩) := by simpa using h4
  have l1 : (loadVar 3 ⟨n + 1, 0, none⟩).run Tryz.prog W = .ok (.int .i64 a) W := by simp [go_sem, e1]
  have l2 : (loadVar 25 ⟨n + 1 + 1, 0, none⟩).run Tryz.prog W = .ok (.int .i64 e) W := by simp [go_sem, e2]
  simp [results, Tryz.results6, h2', h3', h4', asAddr, e0, l1, l2]
/-- The three result cells are laid, the keys stay. -/
theorem laid3 {W : World} {n : Nat} {ks : Value} {c : Bool} {nm : Value} {l : List Pr} (h : Cells3 W n #[.bool false, .string ⟨#[]⟩, .slice none 0 0] 0 0) (hk : Keys W ks l) :
    Cells3 (((((W.setCell ⟨n, 0, none⟩ (.bool c)).setCell ⟨n, 1, none⟩ nm).setCell ⟨n, 2, none⟩ ks).setCell ⟨n + 1, 0, none⟩ (.int .i64 0)).setCell ⟨n + 1 + 1, 0, none⟩ (.int .i64 0)) n #[.bool c, nm, ks] 0 0 ∧
    Keys (((((W.setCell ⟨n, 0, none⟩ (.bool c)).setCell ⟨n, 1, none⟩ nm).setCell ⟨n, 2, none⟩ ks).setCell ⟨n + 1, 0, none⟩ (.int .i64 0)).setCell ⟨n + 1 + 1, 0, none⟩ (.int .i64 0)) ks l ∧
    Below n W (((((W.setCell ⟨n, 0, none⟩ (.bool c)).setCell ⟨n, 1, none⟩ nm).setCell ⟨n, 2, none⟩ ks).setCell ⟨n + 1, 0, none⟩ (.int .i64 0)).setCell ⟨n + 1 + 1, 0, none⟩ (.int .i64 0)) := by
  have hg : W.grownBy (((W.setCell ⟨n, 0, none⟩ (.bool c)).setCell ⟨n, 1, none⟩ nm).setCell ⟨n, 2, none⟩ ks) (some n) :=
    but_trans (but_trans (grownBy_setCell _ _ _ _) (grownBy_setCell _ _ _ _)) (grownBy_setCell _ _ _ _)
  have hb0 : Below n W (((W.setCell ⟨n, 0, none⟩ (.bool c)).setCell ⟨n, 1, none⟩ nm).setCell ⟨n, 2, none⟩ ks) := (((Below.refl n W).setCell (Nat.le_refl n) (.bool c)).setCell (Nat.le_refl n) nm).setCell (Nat.le_refl n) ks
  have q0 : (((W.setCell ⟨n, 0, none⟩ (.bool c)).setCell ⟨n, 1, none⟩ nm).setCell ⟨n, 2, none⟩ ks).heap[n]? = some (.cells #[.bool c, nm, ks] 24 (0, 0)) := by
    rw [set_of (set_of (set_of h.c0 _) _) _]
    rfl
  have q1 := (hg.block (n + 1) (Array.getElem?_eq_some_iff.1 h.c1).1 (fun e => by have := Option.some.inj e; omega)).trans h.c1
  have q2 := (hg.block (n + 1 + 1) (Array.getElem?_eq_some_iff.1 h.c2).1 (fun e => by have := Option.some.inj e; omega)).trans h.c2
  have hk0 := keys_far hk (not_tag h.c0) hg
  generalize (((W.setCell ⟨n, 0, none⟩ (.bool c)).setCell ⟨n, 1, none⟩ nm).setCell ⟨n, 2, none⟩ ks) = V at q0 q1 q2 hk0 hb0 ⊢
  have hk1 := keys_far hk0 (not_int q1) (grownBy_setCell V (n + 1) 0 (.int .i64 0))
  have r1 : (V.setCell ⟨n + 1, 0, none⟩ (.int .i64 0)).heap[n + 1]? = some (.cells #[.int .i64 0] 3 (0, 0)) := set_of q1 _
  have r0 := block_other (i := 0) (.int .i64 0) q0 (show n ≠ n + 1 by omega)
  have r2 := block_other (i := 0) (.int .i64 0) q2 (show n + 1 + 1 ≠ n + 1 by omega)
  have hb1 : Below n W (V.setCell ⟨n + 1, 0, none⟩ (.int .i64 0)) := hb0.setCell (by simp) _
  generalize V.setCell ⟨n + 1, 0, none⟩ (.int .i64 0) = V1 at r0 r1 r2 hk1 hb1 ⊢
  have s2 : (V1.setCell ⟨n + 1 + 1, 0, none⟩ (.int .i64 0)).heap[n + 1 + 1]? = some (.cells #[.int .i64 0] 25 (0, 0)) := set_of r2 _
  exact ⟨⟨block_other _ r0 (by omega), block_other _ r1 (by omega), s2⟩, keys_far hk1 (not_int r2) (grownBy_setCell V1 (n + 1 + 1) 0 (.int .i64 0)), hb1.setCell (by simp; omega) _⟩

set_option maxRecDepth 100000 in
set_option maxHeartbeats 2000000 in
theorem parseTag_any {w : World} (m : Mem w) (s : ByteArray) (hs : s.size ≤ 1000000) :
    Calls Tryz.prog 6 #[.string s] w fun e w' => Below w.heap.size w w' ∧ ∃ v, e = .returned v ∧ ParseV (pTag s.data.toList) w' v := by
  have hmf : ∀ (fn : Fn) (first cap : Array Value) (w : World), (Instr.makeFunc fn first cap).run Tryz.prog w = .ok (.func fn first cap) w := fun _ _ _ _ => rfl
  obtain ⟨V, hV⟩ : ∃ V, ((((w.alloc (.cells #[.bool false, .string ⟨#[]⟩, .slice none 0 0] 24)).alloc (.cells #[.int .i64 0] 3)).alloc (.cells #[.int .i64 0] 25)).alloc (.cells #[.string s, .int .i64 0] 45)) = V := ⟨_, rfl⟩
  have hbV : Below w.heap.size w V := by
    rw [← hV]
    exact ((((Below.refl _ w).alloc (Nat.le_refl _) _).alloc (by simp) _).alloc (by simp; omega) _).alloc (by simp; omega) _
  have hcV : Cells3 V w.heap.size #[.bool false, .string ⟨#[]⟩, .slice none 0 0] 0 0 := by
    have h1 := block_new w (.cells #[.bool false, .string ⟨#[]⟩, .slice none 0 0] 24)
    have h2 := block_new (w.alloc (.cells #[.bool false, .string ⟨#[]⟩, .slice none 0 0] 24)) (.cells #[.int .i64 0] 3)
    have h3 := block_new ((w.alloc (.cells #[.bool false, .string ⟨#[]⟩, .slice none 0 0] 24)).alloc (.cells #[.int .i64 0] 3)) (.cells #[.int .i64 0] 25)
    simp only [World.size_alloc] at h2 h3
    rw [← hV]
    exact ⟨block_alloc _ (block_alloc _ (block_alloc _ h1)), block_alloc _ (block_alloc _ h2), block_alloc _ h3⟩
  have haV : At V (w.heap.size + 1 + 1 + 1) s 0 := by
    have h4 := block_new (((w.alloc (.cells #[.bool false, .string ⟨#[]⟩, .slice none 0 0] 24)).alloc (.cells #[.int .i64 0] 3)).alloc (.cells #[.int .i64 0] 25)) (.cells #[.string s, .int .i64 0] 45)
    simp only [World.size_alloc] at h4
    rw [hV] at h4
    refine ⟨h4, m.below hbV (Nat.le_refl _), ?_, Nat.zero_le _, hs⟩
    have l1 := m.low
    have l2 := m.named.lt
    intro g hg
    simp only [List.mem_cons, List.not_mem_nil, or_false] at hg
    rcases hg with rfl | rfl | rfl | rfl <;> omega
  have HT := Lib.hid (tag_any haV)
  have HB := Lib.hid hbV
  have HC := Lib.hid hcV
  have HA := Lib.hid haV
  clear hbV hcV haV
  have HV := Lib.hid hV
  clear hV
  cases hp : pTag s.data.toList with
  | err a er =>
    rw [hp] at HT
    clear hp
    go_enter_defers Tryz.func6, Tryz.ntmps6
    go_wp2_with fail
    rw [HV.out]
    refine HT.out.mono ?_
    rintro en w1 ⟨hb1, he⟩
    have he' : en = failE a er := he
    subst he'
    have hc1 := HC.out.but hb1
    unfold failE
    go_wp2_with fail
    refine leaves_cons (f := 15) (args := #[.pointer (some ⟨w.heap.size + 1, 0, none⟩), .pointer (some ⟨w.heap.size + 1 + 1, 0, none⟩)]) (by simp) (by simp [go_sem]) ?_
    refine (catch_fail (w.heap.size + 1) a er 0 0 [] w1 hc1.c1 hc1.c2).mono ?_
    rintro en u' w2 ⟨rfl, rfl, hb2, e1, e2⟩
    have q3 : Cells3 w2 w.heap.size #[.bool false, .string ⟨#[]⟩, .slice none 0 0] a er := ⟨block_below hc1.c0 hb2 (by omega), e1, e2⟩
    refine ⟨_, results_tag q3 rfl _ rfl rfl rfl, (HB.out.trans (below_but hb1 (by omega) HB.out.size)).trans (hb2.mono (by omega)), _, rfl, rfl⟩
  | ok t i =>
    rw [hp] at HT
    clear hp
    go_enter_defers Tryz.func6, Tryz.ntmps6
    go_wp2_with fail
    rw [HV.out]
    refine HT.out.mono ?_
    rintro en w1 ⟨hb1, v, rfl, hk1⟩
    have hc1 := HC.out.but hb1
    have d0 := cell_of (i := 0) hc1.c0 rfl
    have d1 := cell_of (i := 1) hc1.c0 rfl
    have d2 := cell_of (i := 2) hc1.c0 rfl
    have d3 : ∀ q, w1.frozen? ⟨w.heap.size, q, none⟩ = false := fun _ => frozen_of hc1.c0
    have d4 := cell_of (i := 0) hc1.c1 rfl
    have d5 := cell_of (i := 0) hc1.c2 rfl
    have d6 := frozen_of (i := 0) hc1.c1
    have d7 := frozen_of (i := 0) hc1.c2
    obtain ⟨A4, p4, hv4, _⟩ := id hk1
    obtain ⟨l4, hl4⟩ : ∃ l, (sortP t.keys).length = l := ⟨_, rfl⟩
    rw [hl4] at hv4
    subst hv4
    have H1 := Lib.hid (laid3 (c := t.close) (nm := .string ⟨t.name.toArray⟩) hc1 hk1)
    have HL := Lib.hid ((HB.out.trans (below_but hb1 (by omega) HB.out.size)))
    clear hb1 hk1 hc1 hl4
    go_wp2_with fail
    refine leaves_cons (f := 15) (args := #[.pointer (some ⟨w.heap.size + 1, 0, none⟩), .pointer (some ⟨w.heap.size + 1 + 1, 0, none⟩)]) (by simp) (by simp [go_sem]) ?_
    refine (catch_idle _ _).mono ?_
    rintro en u' w2 ⟨rfl, rfl, hb2⟩
    obtain ⟨q0, q1, q2⟩ := H1.out
    have q3 := q0.keep hb2 (by have := (Array.getElem?_eq_some_iff.1 q0.c2).1; omega)
    have q4 := q1.below hb2
    refine ⟨_, results_tag q3 rfl _ rfl rfl rfl, (HL.out.trans q2).trans (hb2.mono ?_), _, rfl, _, rfl, q4⟩
    exact (Nat.le_of_lt (Array.getElem?_eq_some_iff.1 q0.c0).1)
end Go.Proofs.YtjablaidbccnbaaGreatDoor
