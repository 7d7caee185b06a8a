/-
  WALKS over package lexicon: slices.Repeat of a list of one string (EbR at strings), appendTimes.
-/
import Derived.Test.YteennnhinfnahaaShf
import Derived.Test.YteennnhinfnahaaLzR
import Derived.Lib.SliceRun
import Derived.Laws.CopyOwn
import Derived.Deep.DrawnRows
import Derived.RegionTactic
import Derived.StillTailTactics
import Derived.Laws.CopyRow
namespace Go.Proofs.Yteennnhinfnahaa
open Go.RowKit Go.Shelf Go.Lib
set_option linter.unusedVariables false
set_option linter.unusedSimpArgs false
attribute [local go_sem ↓] Go.wp_at_zero Go.wp_at_succ
namespace Lm

theorem Try.infoStr : (Try.prog.info? 9).map (fun i => (i.zero, i.size, i.bytes)) = some (some (.string ⟨#[]⟩), 1, 16) := by kernel_rfl
/-- n strings, the first m of them s, the others empty. -/
def repRow (s : ByteArray) (m n : Nat) : List Value := List.replicate m (.string s) ++ List.replicate (n - m) (.string ⟨#[]⟩)
theorem repRow_len {s : ByteArray} {m n : Nat} (h : m ≤ n) : (repRow s m n).length = n := by simp [repRow]; omega
theorem repRow_get {s : ByteArray} {m n j : Nat} (hj : j < m) : (repRow s m n)[j]? = some (.string s) := by
  unfold repRow
  rw [List.getElem?_append_left (by rw [List.length_replicate]; exact hj), List.getElem?_replicate, if_pos hj]
theorem repRow_more {s : ByteArray} {m c n : Nat} (h : m + c ≤ n) : (repRow s m n).take m ++ List.replicate c (.string s) ++ (repRow s m n).drop (m + c) = repRow s (m + c) n := by
  unfold repRow
  have e1 : (List.replicate m (Value.string s) ++ List.replicate (n - m) (Value.string ⟨#[]⟩)).take m = List.replicate m (Value.string s) := by
    rw [List.take_left' (by rw [List.length_replicate])]
  have e2 : (List.replicate m (Value.string s) ++ List.replicate (n - m) (Value.string ⟨#[]⟩)).drop (m + c) = List.replicate (n - (m + c)) (Value.string ⟨#[]⟩) := by
    rw [List.drop_append, List.drop_eq_nil_of_le (by rw [List.length_replicate]; omega), List.nil_append, List.length_replicate, List.drop_replicate]
    congr 1
    omega
  rw [e1, e2, List.replicate_append_replicate]
theorem made_rep (s : ByteArray) (n : Nat) : madeCells #[.string ⟨#[]⟩] n = (repRow s 0 n).toArray := by
  apply Array.ext'
  simp only [madeCells, repRow, List.replicate_zero, List.nil_append, Nat.sub_zero]
  apply List.ext_getElem?
  intro i
  by_cases h : i < n
  · simp [h, Nat.mod_one]
  · simp [h]
theorem copy_ran {P : Program} (w : World) {ops : Array Oper} {rest : List Oper} {o : Oper} {a : Act} {Q : Exit → Act → World → Prop} (hgd : o.guard = none) (d s : Operand) (t t' : TypeId)
    (ho : o.op = .call { callee := .builtin .copy, args := #[d, s], argTypes := #[t, t'] }) (v u : Value) (hd : a.eval d = v) (hs : a.eval s = u) {v' : Value} {w' : World}
    (hr : (Builtin.copy_ #[t, t'] o.type #[v, u]).run P w = .ok v' w') (h : wpList P ops Q rest (a.put o.dst v') w') : wpList P ops Q (o :: rest) a w :=
  wpList_plain hgd fun _ hK => by
    unfold Oper.wp execOp
    simp only [ho, resolve, invoke, builtin, Sem.run_bind, Sem.run_pure, Result.andThen_ok, List.map_toArray, List.map_cons, List.map_nil, hd, hs, hr]
    exact hK _ _ h
theorem step_copy_ran {P : Program} {ops : Array Oper} {o : Oper} {a : Act} {w : World} {K : Act → World → Prop} {Q : Exit → Act → World → Prop} {E : Prop}
    (hg : o.guard = none) (d x : Operand) (dT sT : TypeId) (hop : o.op = Op.call { callee := Callee.builtin Builtin.copy, args := #[d, x], argTypes := #[dT, sT] })
    (v u : Value) (hd : a.eval d = v) (hx : a.eval x = u) {v' : Value} {w' : World} (hr : (Builtin.copy_ #[dT, sT] o.type #[v, u]).run P w = .ok v' w') (hK : K (a.put o.dst v') w') :
    if Region.wanted o (yielded ops a.tmps) = true then Oper.wp P o a w K Q else E := by
  have hw : Region.wanted o (yielded ops a.tmps) = true := by simp [Region.wanted, hg]
  rw [if_pos hw]
  unfold Oper.wp
  simp [execOp, hop, resolve, invoke, builtin, hd, hx, hr, Result.andThen]
  exact hK
/-- Copying c cells s behind m of them. -/
theorem copy_rep (W : World) (s : ByteArray) (ty : TypeId) (g m n o k ck : Nat) (a : Addr) (sl sc : Nat) (hg : W.heap[g]? = some (.cells (repRow s m n).toArray 9 (0, 0))) (ho : o = m) (c : Nat) (hc : c = Nat.min sl k) (hm : m + c ≤ n)
    (hsrc : ∀ j, j < c → W.cell? (a.add j) = some (.string s)) :
    (Builtin.copy_ #[29, 29] ty #[.slice (some ⟨g, o, none⟩) k ck, .slice (some a) sl sc]).run Try.prog W = .ok (.int .i64 (c : Int)) (W.setRow g (repRow s (m + c) n).toArray) := by
  subst ho
  obtain ⟨i1, hi1, hy0, hy1, hy2⟩ := info_parts' Try.infoStr
  have hlen : (List.replicate c (Value.string s)).length = Nat.min sl k * i1.size := by rw [List.length_replicate, hy1, Nat.mul_one, hc]
  have hl := run_loadCells_list (P := Try.prog) W a (List.replicate c (Value.string s)) (fun j v hv => by
    rw [List.getElem?_replicate] at hv
    by_cases h : j < c
    · rw [if_pos h] at hv
      cases hv
      exact hsrc j h
    · rw [if_neg h] at hv
      cases hv)
  have hst := run_storeCells_at Try.prog g o 9 (List.replicate c (Value.string s)) 0 (repRow s o n).toArray W hg (by rw [List.length_replicate, List.size_toArray, repRow_len (by omega)]; simpa using hm) (fun v hv => by rw [List.eq_of_mem_replicate hv]; rfl)
  simp only [Nat.add_zero, List.length_replicate] at hst
  rw [repRow_more hm] at hst
  rw [List.length_replicate] at hl
  have hu : Try.prog.underlying 29 = some (.slice 9) := Try.underlying29
  rw [← hc] at hlen
  simp [Builtin.copy_, run_underlying hu, Builtin.lenOf, Builtin.firstCells, sizeOf, typeInfo, hi1, ← hc, hy1, hl, hst, goInt]
/-- The row being filled, in block g. -/
def RepAt (s : ByteArray) (g m n : Nat) (W : World) : Prop := W.heap[g]? = some (.cells (repRow s m n).toArray 9 (0, 0))
set_option maxRecDepth 100000 in
set_option maxHeartbeats 4000000 in
theorem repeat_any {w : World} {s : ByteArray} (b n : Nat) (hn : n ≤ 100000) (hb : w.heap[b]? = some (.cells #[.string s] 9 (0, 0))) :
    Calls Try.prog 74 #[.slice (some ⟨b, 0, none⟩) 1 1, .int .i64 (n : Int)] w fun e w' => e = .returned (.slice (some ⟨w.heap.size, 0, none⟩) n n) ∧ RepAt s w.heap.size n n w' ∧ Below w.heap.size w w' := by
  obtain ⟨i1, hi1, hy0, hy1, hy2⟩ := info_parts' Try.infoStr
  have hmk2 : ∀ W : World, (Instr.makeSlice 29 (.int .i64 n) (.int .i64 n)).run Try.prog W = .ok (.slice (some ⟨W.heap.size, 0, none⟩) n n) (W.alloc (.cells (repRow s 0 n).toArray 9)) := fun W => by
    have := run_make (P := Try.prog) W 29 9 i1 _ Try.underlying29 hi1 hy0 .i64 .i64 n n (by omega) (by omega) (by rw [hy2]; omega) (by omega)
    rw [Int.toNat_natCast, hy1, Nat.mul_one] at this
    rw [← made_rep s]
    exact this
  have hmul := Try.bits_Mul 1 n (by omega) (by omega) w
  rw [Nat.one_mul, Nat.div_eq_of_lt (by omega), Nat.mod_eq_of_lt (by omega)] at hmul
  have hw1 : IntKind.u64.wrap ((1 : Nat) : Int) = ((1 : Nat) : Int) := by rw [IntKind.wrap_u64]; omega
  have hw2 : IntKind.u64.wrap (n : Int) = (n : Int) := by rw [IntKind.wrap_u64]; omega
  have hw3 : IntKind.i64.wrap (n : Int) = (n : Int) := by rw [IntKind.wrap_i64]; omega
  have hn0 : ¬ (n : Int) < 0 := by omega
  have hnm : ¬ (n : Int) > 9223372036854775807 := by omega
  obtain ⟨N0, hN0⟩ : ∃ N0, w.heap.size = N0 := ⟨_, rfl⟩
  obtain ⟨X, hX⟩ : ∃ X, w.alloc (.cells (repRow s 0 n).toArray 9) = X := ⟨_, rfl⟩
  have hbX : Below N0 w X := by rw [← hX, ← hN0]; exact below_box w _
  have hgX : RepAt s N0 0 n X := by rw [← hX, ← hN0]; exact block_new w _
  have hbN : X.heap[b]? = some (.cells #[.string s] 9 (0, 0)) := by rw [← hX]; exact block_alloc _ hb
  obtain ⟨c0, hc0⟩ : ∃ c, Nat.min 1 n = c := ⟨_, rfl⟩
  have hc0n : c0 ≤ n := by rw [← hc0]; exact Nat.min_le_right 1 n
  have hcp := copy_rep X s 3 N0 0 n 0 n n ⟨b, 0, none⟩ 1 1 hgX rfl c0 hc0.symm (by omega) (fun j hj => by
    have h1 : c0 ≤ 1 := by rw [← hc0]; exact Nat.min_le_left 1 n
    obtain rfl : j = 0 := by omega
    exact cell_of (i := 0) hbN rfl)
  obtain ⟨Y, hY⟩ : ∃ Y, X.setRow N0 (repRow s (0 + c0) n).toArray = Y := ⟨_, rfl⟩
  rw [hY, ← hX, ← hN0] at hcp
  have hgY : RepAt s N0 c0 n Y := by
    rw [← hY, Nat.zero_add]
    exact setRow_heap X N0 _ _ _ _ hgX
  have hbY : Below N0 w Y := by rw [← hY]; exact below_setRow hbX (Nat.le_refl _) _
  have HMUL := Lib.hid hmul
  have HN0 := Lib.hid hN0
  have HX := Lib.hid hX
  have HGY := Lib.hid hgY
  have HBY := Lib.hid hbY
  have HC0 := Lib.hid hc0
  have HBX := Lib.hid hbX
  have HGX := Lib.hid hgX
  have HBN := Lib.hid hbN
  clear hmul hN0 hX hbX hgX hbN hb hi1 hy0 hy1 hy2 hgY hbY hY hc0
  go_enter Try.func74, Try.ntmps74
  go_wp2_with fail
  refine HMUL.out.mono ?_
  rintro e w2 ⟨rfl, rfl⟩
  go_wp2_with fail
  rw [HN0.out]
  clear hcp hmk2 hw1 hw2 hw3 hn0 hnm
  go_loopw [8] (fun v8 wr => ∃ m : Nat, m ≤ n ∧ v8 = .int .i64 m ∧ (0 < n → 0 < m) ∧ Hid (RepAt s N0 m n wr) ∧ Hid (Below N0 w2 wr)) (fun v8 _ => n - (Go.RowKit.intOf v8).toNat)
  case atStart => exact ⟨c0, hc0n, rfl, fun h => by have h1 := HC0.out; have h2 : 1 ≤ Nat.min 1 n := Nat.le_min.2 ⟨Nat.le_refl 1, h⟩; omega, HGY, HBY⟩
  case round =>
    obtain ⟨m, hmn, rfl, hpos, hg, hb⟩ := hrel
    by_cases hlt : m < n
    · have hm0 : 0 < m := hpos (by omega)
      have hlti : (m : Int) < (n : Int) := by omega
      obtain ⟨c, hc⟩ : ∃ c, Nat.min m (n - m) = c := ⟨_, rfl⟩
      have hc1 : 0 < c := by rw [← hc]; exact Nat.lt_min.2 ⟨hm0, by omega⟩
      have hc2 : m + c ≤ n := by
        have h1 : c ≤ n - m := by rw [← hc]; exact Nat.min_le_right m (n - m)
        omega
      have hc3 : c ≤ m := by rw [← hc]; exact Nat.min_le_left m (n - m)
      have hs1 : ∀ W : World, (Instr.slice 29 (.slice (some ⟨N0, 0, none⟩) n n) (some (.int .i64 (m : Int))) none none).run Try.prog W = .ok (.slice (some ⟨N0, m, none⟩) (n - m) (n - m)) W := fun W => by
        rw [run_slice_l W 29 _ _ _ (by kernel_rfl) .i64 m (by omega) (by omega)]
        have hz1 : (sizeOf (Try.prog.elem 29)).run Try.prog W = .ok 1 W := by kernel_rfl
        rw [hz1]
        have hne : ¬ n = m := by omega
        simp [Result.andThen, sliced, hne, add_plain]
      have hs2 : ∀ W : World, (Instr.slice 29 (.slice (some ⟨N0, 0, none⟩) n n) none (some (.int .i64 (m : Int))) none).run Try.prog W = .ok (.slice (some ⟨N0, 0, none⟩) m n) W := fun W => by
        rw [run_slice_h W 29 _ _ _ (by kernel_rfl) .i64 m (by omega) (by omega)]
        have hz1 : (sizeOf (Try.prog.elem 29)).run Try.prog W = .ok 1 W := by kernel_rfl
        rw [hz1]
        have hne : ¬ n = 0 := by omega
        simp [Result.andThen, sliced, hne, add_plain]
      have hcq := copy_rep wr.drew s 3 N0 m n m (n - m) (n - m) ⟨N0, 0, none⟩ m n hg.out rfl c hc.symm hc2 (fun j hj => by
        rw [add_plain, Nat.zero_add]
        exact cell_of (W := wr.drew) hg.out (by rw [List.getElem?_toArray]; exact repRow_get (by omega)))
      obtain ⟨Z, hZ⟩ : ∃ Z, wr.drew.setRow N0 (repRow s (m + c) n).toArray = Z := ⟨_, rfl⟩
      rw [hZ] at hcq
      have hgZ : RepAt s N0 (m + c) n Z := by rw [← hZ]; exact setRow_heap wr.drew N0 _ _ _ _ hg.out
      have hbZ : Below N0 w2 Z := by rw [← hZ]; exact below_setRow hb.out.drew (Nat.le_refl _) _
      have HGZ := Lib.hid hgZ
      have HBZ := Lib.hid hbZ
      have HCQ := Lib.hid hcq
      have hwr : IntKind.i64.wrap ((m : Int) + (c : Int)) = (m : Int) + (c : Int) := by rw [IntKind.wrap_i64]; omega
      clear hgZ hbZ hcq hZ hc hpos
      go_wp2_with fail
      refine wp_region_any (by kernel_rfl) ?_
      change wpAny _ _ _ _ _ _ _ (World.drew _)
      refine wpAny_take (i := 0) (oi := ?oi1) (v := ?v1) ?hi1 (by kernel_rfl) (by kernel_rfl) (by kernel_rfl) ?hq1 ?hy1 ?hr1
      case hi1 => (simp only [List.getElem?_toArray, List.getElem?_cons_zero]; rfl)
      case hq1 => exact fun _ _ _ h => h
      case hy1 => exact Or.inl ⟨by rfl, by intro w; (first | (go_simp; done) | (go_simp; with_reducible rfl))⟩
      try simp only [Act.put, List.setIfInBounds_toArray, List.set_cons_zero, List.set_cons_succ]
      refine wpAny_take (i := 1) (oi := ?oi2) (v := ?v2) ?hi2 (by kernel_rfl) (by kernel_rfl) (by kernel_rfl) ?hq2 ?hy2 ?hr2
      case hi2 => (simp only [List.getElem?_toArray, List.getElem?_cons_succ, List.getElem?_cons_zero]; rfl)
      case hq2 => exact fun _ _ _ h => h
      case hy2 => exact Or.inl ⟨by rfl, by intro w; (first | (go_simp; done) | (go_simp; with_reducible rfl))⟩
      try simp only [Act.put, List.setIfInBounds_toArray, List.set_cons_zero, List.set_cons_succ]
      refine wpAny_take (i := 2) (oi := ?oi3) (v := ?v3) ?hi3 (by kernel_rfl) (by kernel_rfl) (by kernel_rfl) ?hq3 ?hy3 ?hr3
      case hi3 => (simp only [List.getElem?_toArray, List.getElem?_cons_succ, List.getElem?_cons_zero]; rfl)
      case hq3 => exact fun _ _ _ h => h
      case hy3 => exact Or.inl ⟨by rfl, by intro w; (first | (go_simp; done) | (go_simp; with_reducible rfl))⟩
      try simp only [Act.put, List.setIfInBounds_toArray, List.set_cons_zero, List.set_cons_succ]
      refine wpAny_take (i := 3) (oi := ?oi4) (v := ?v4) ?hi4 (by kernel_rfl) (by kernel_rfl) (by kernel_rfl) ?hq4 ?hy4 ?hr4
      case hi4 => (simp only [List.getElem?_toArray, List.getElem?_cons_succ, List.getElem?_cons_zero]; rfl)
      case hq4 => exact fun _ _ _ h => h
      case hy4 => exact Or.inl ⟨by rfl, by intro w; (first | (go_simp; done) | (go_simp; with_reducible rfl))⟩
      try simp only [Act.put, List.setIfInBounds_toArray, List.set_cons_zero, List.set_cons_succ]
      refine wpAny_take (i := 4) (oi := ?oi5) (v := ?v5) ?hi5 (by kernel_rfl) (by kernel_rfl) (by kernel_rfl) ?hq5 ?hy5 ?hr5
      case hi5 => (simp only [List.getElem?_toArray, List.getElem?_cons_succ, List.getElem?_cons_zero]; rfl)
      case hq5 => exact fun _ _ _ h => h
      case hy5 => exact Or.inl ⟨by rfl, by intro w; (first | (go_simp; done) | (go_simp; with_reducible rfl))⟩
      try simp only [Act.put, List.setIfInBounds_toArray, List.set_cons_zero, List.set_cons_succ]
      refine wpAny_take (i := 5) (oi := ?oi6) (v := ?v6) ?hi6 (by kernel_rfl) (by kernel_rfl) (by kernel_rfl) ?hq6 ?hy6 ?hr6
      case hi6 => (simp only [List.getElem?_toArray, List.getElem?_cons_succ, List.getElem?_cons_zero]; rfl)
      case hq6 => exact fun _ _ _ h => h
      case hy6 => exact Or.inl ⟨by rfl, by intro w; (first | (go_simp; done) | (go_simp; with_reducible rfl))⟩
      try simp only [Act.put, List.setIfInBounds_toArray, List.set_cons_zero, List.set_cons_succ]
      refine wpAny_take (i := 6) (oi := ?oi7) (v := ?v7) ?hi7 (by kernel_rfl) (by kernel_rfl) (by kernel_rfl) ?hq7 ?hy7 ?hr7
      case hi7 => (simp only [List.getElem?_toArray, List.getElem?_cons_succ, List.getElem?_cons_zero]; rfl)
      case hq7 => exact fun _ _ _ h => h
      case hy7 => exact Or.inl ⟨by rfl, by intro w; (first | (go_simp; done) | (go_simp; with_reducible rfl))⟩
      try simp only [Act.put, List.setIfInBounds_toArray, List.set_cons_zero, List.set_cons_succ]
      refine wpAny_ready (rs := [7]) (by kernel_rfl) (by simp) ?_
      refine AllReady.cons (o := ?oo8) ?hi8 (fun K hK => ?hs8) ?hm8
      case hi8 => (simp only [List.getElem?_toArray, List.getElem?_cons_succ, List.getElem?_cons_zero]; rfl)
      · refine step_copy_ran rfl (.tmp 41) (.tmp 44) 29 29 rfl _ _ rfl rfl HCQ.out ?_
        refine hK _ _ ?_; clear hK K
        try simp only [Act.put, List.setIfInBounds_toArray, List.set_cons_zero, List.set_cons_succ]
        refine wpAny_take (i := 8) (oi := ?oi9) (v := ?v9) ?hi9 (by kernel_rfl) (by kernel_rfl) (by kernel_rfl) ?hq9 ?hy9 ?hr9
        case hi9 => (simp only [List.getElem?_toArray, List.getElem?_cons_succ, List.getElem?_cons_zero]; rfl)
        case hq9 => exact fun _ _ _ h => h
        case hy9 => exact Or.inl ⟨by rfl, by intro w; (first | (go_simp; done) | (go_simp; with_reducible rfl))⟩
        try simp only [Act.put, List.setIfInBounds_toArray, List.set_cons_zero, List.set_cons_succ]
        refine wpAny_take (i := 9) (oi := ?oi10) (v := ?v10) ?hi10 (by kernel_rfl) (by kernel_rfl) (by kernel_rfl) ?hq10 ?hy10 ?hr10
        case hi10 => (simp only [List.getElem?_toArray, List.getElem?_cons_succ, List.getElem?_cons_zero]; rfl)
        case hq10 => exact fun _ _ _ h => h
        case hy10 => exact Or.inl ⟨by rfl, by intro w; (first | (go_simp; done) | (go_simp; with_reducible rfl))⟩
        try simp only [Act.put, List.setIfInBounds_toArray, List.set_cons_zero, List.set_cons_succ]
        refine wpAny_done (by kernel_rfl) ?_ _
        clear hs1 hs2
        go_wp2_with fail
        exact ⟨⟨m + c, hc2, by go_num, fun _ => by omega, HGZ, HBZ⟩, by simp only [Go.RowKit.intOf]; omega⟩
      exact AllReady.nil
    · obtain rfl : m = n := by omega
      have hnl : ¬ (m : Int) < (m : Int) := by omega
      go_wp2_with fail
      go_ret
      rw [HN0.out]
      exact ⟨rfl, hg.out, hb.out⟩
end Lm
end Go.Proofs.Yteennnhinfnahaa
