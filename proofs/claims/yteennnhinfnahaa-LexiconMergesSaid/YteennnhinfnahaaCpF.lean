/-
  WALKS over package codepoint, sixth part: Reverse: the units in reverse order, each with its own bytes; nothing that lay has turned. At any string.
-/
import Derived.Test.YteennnhinfnahaaCpE
import Derived.Test.YteennnhinfnahaaRnd
import Derived.Lib.BufferWrite
import Derived.Laws.CopyOwn
import Derived.Deep.OwnRows
namespace Go.Proofs.Yteennnhinfnahaa
open Go.RowKit Go.Shelf Go.Lib

attribute [local go_sem] Oper.semAt_some

/-- The bytes of a unit. -/
def txt (s : ByteArray) (u : U) : List UInt8 := (s.data.toList.drop u.p).take u.w
/-- The row of bytes when some units have been laid from behind. -/
def rowB (s : ByteArray) (us : List U) : List UInt8 := us.foldl (fun L u => splice L (s.size - u.p - u.w) (txt s u)) (List.replicate s.size 0)
theorem rowB_snoc (s : ByteArray) (us : List U) (u : U) : rowB s (us ++ [u]) = splice (rowB s us) (s.size - u.p - u.w) (txt s u) := by simp [rowB]
/-- The units in reverse order, each with its own bytes. -/
def revL (s : ByteArray) : List UInt8 := (units s).reverse.flatMap (txt s)

theorem rowB_len (s : ByteArray) (us : List U) (h : ∀ u ∈ us, u ∈ units s) : (rowB s us).length = s.size := by
  have key : ∀ (us : List U) (L : List UInt8), (∀ u ∈ us, u ∈ units s) → L.length = s.size → (us.foldl (fun L u => splice L (s.size - u.p - u.w) (txt s u)) L).length = s.size := by
    intro us
    induction us with
    | nil => intro L _ h; exact h
    | cons u us ih =>
      intro L hm h
      have hf := units_fit _ _ _ (hm u (by simp))
      obtain ⟨_, h2, _⟩ := hf
      rw [← Lib.size_eq] at h2
      have ht : (txt s u).length = u.w := by
        unfold txt
        rw [List.length_take, List.length_drop, ← Lib.size_eq]
        omega
      refine ih _ (fun v hv => hm v (by simp [hv])) ?_
      rw [length_splice _ _ _ (by rw [ht, h]; omega)]
      exact h
  exact key us _ h (by simp)

theorem rowB_tail (s : ByteArray) : ∀ (l : List UInt8) (p : Nat), p ≤ s.size → l = s.data.toList.drop p → ∀ R : List UInt8, R.length = p →
    (unitsA l p).foldl (fun L u => splice L (s.size - u.p - u.w) (txt s u)) (List.replicate (s.size - p) 0 ++ R) = (unitsA l p).reverse.flatMap (txt s) ++ R := by
  refine unitsA_ind ?_ ?_
  · intro p hp hl R hR
    have := congrArg List.length hl
    rw [List.length_drop, ← Lib.size_eq] at this
    simp at this
    have hz : s.size - p = 0 := by omega
    simp [unitsA_nil, hz]
  · intro l p hne ih hp hl R hR
    have hle := decodeL_le l hne
    have hlen : l.length = s.size - p := by rw [hl, List.length_drop, ← Lib.size_eq]
    rw [unitsA_step l p hne]
    have ht : txt s { c := (decodeL l).1, p := p, w := (decodeL l).2 } = l.take (decodeL l).2 := by
      unfold txt
      rw [← hl]
    have hs : splice (List.replicate (s.size - p) 0 ++ R) (s.size - p - (decodeL l).2) (l.take (decodeL l).2) = List.replicate (s.size - (p + (decodeL l).2)) 0 ++ (l.take (decodeL l).2 ++ R) := by
      have h1 : (l.take (decodeL l).2).length = (decodeL l).2 := by rw [List.length_take]; omega
      unfold splice
      rw [h1]
      have h2 : s.size - p - (decodeL l).2 + (decodeL l).2 = s.size - p := by omega
      rw [h2, List.take_append_of_le_length (by simp), List.drop_append_of_le_length (by simp)]
      have h3 : s.size - p - (decodeL l).2 = s.size - (p + (decodeL l).2) := by omega
      simp [h3]
      omega
    rw [List.foldl_cons]
    dsimp only
    rw [ht, hs]
    have hd : l.drop (decodeL l).2 = s.data.toList.drop (p + (decodeL l).2) := by rw [hl, List.drop_drop]
    rw [ih (by omega) hd _ (by rw [List.length_append, List.length_take]; omega)]
    rw [List.reverse_cons, List.flatMap_append, List.flatMap_cons, List.flatMap_nil, List.append_nil, ht, List.append_assoc]
theorem rowB_units (s : ByteArray) : rowB s (units s) = revL s := by
  have := rowB_tail s s.data.toList 0 (Nat.zero_le _) rfl [] rfl
  rw [Nat.sub_zero, List.append_nil, List.append_nil] at this
  exact this

theorem madeCells_bytes (n : Nat) : madeCells #[.int .u8 0] n = (byteCells (List.replicate n 0)).toArray := by
  apply Array.ext'
  simp [madeCells, byteCells, List.map_replicate]
  apply List.ext_getElem?
  intro i
  by_cases h : i < n
  · simp [h, Nat.mod_one]
  · simp [h]

theorem byteCells_splice (L : List UInt8) (off : Nat) (cs : List UInt8) : (byteCells L).take off ++ byteCells cs ++ (byteCells L).drop (off + cs.length) = byteCells (splice L off cs) := by
  simp [splice, byteCells, List.map_take, List.map_drop]

/-- Between two rounds of Reverse's loop. -/
def RevI (s : ByteArray) (w : World) (pre : List (Un s)) (W : World) : Prop :=
  (W.heap[w.heap.size]? = some (.cells #[.string s] 9 (0, 0)) ∧ W.heap[w.heap.size + 2]? = some (.cells #[.slice (some ⟨w.heap.size + 1, 0, none⟩) s.size s.size] 54 (0, 0)) ∧
    W.heap[w.heap.size + 1]? = some (.cells (byteCells (rowB s (pre.map (·.1)))).toArray 5 (0, 0)) ∧ w.heap.size + 4 ≤ W.heap.size) ∧ Below w.heap.size w W
theorem revI_own (s : ByteArray) (w : World) (B : Nat) (hB : w.heap.size ≤ B) : OwnFrom B (RevI s w) :=
  OwnFrom.and (OwnFrom.and (Own.from (cells_ownF _ _ _ _) _) (OwnFrom.and (Own.from (cells_ownF _ _ _ _) _) (OwnFrom.and (Own.from (cells_ownF _ _ _ _) _) (size_own _ _)))) (ownFrom_below (Nat.le_refl _) hB)
theorem grownBy_setRow (W : World) (g : Nat) (cs : Array Value) : W.grownBy (W.setRow g cs) (some g) :=
  ⟨rfl, rfl, rfl, by simp [World.setRow], fun k _ hk => setRow_other W g k cs (fun e => hk (by rw [e]))⟩
theorem keepsOthers_setRow {W : World} {g : Nat} {cur : Array Value} {t : TypeId} {f : Nat × Nat} (cs : Array Value) (hg : W.heap[g]? = some (.cells cur t f)) : KeepsOthers W (W.setRow g cs) :=
  KeepsOthers.of_grownBy (grownBy_setRow W g cs) (fun j o e h => by cases e; rw [hg] at h; cases h; rfl)

set_option maxRecDepth 100000 in
set_option maxHeartbeats 1000000 in
theorem reverse_any (s : ByteArray) (hs : s.size ≤ 140737488355328) (w : World) :
    Calls Try.prog 83 #[.string s] w fun e w' => e = .returned (.string ⟨(revL s).toArray⟩) ∧ Below w.heap.size w w' := by
  refine (callsIn_wide (n := 3)).1 ?_
  refine callsIn_of_wp_marks Try.func83 rfl trivial ?_ rfl
  simp only [Try.ntmps83, List.size_toArray, List.length_cons, List.length_nil, Nat.reduceAdd, Nat.reduceSub, Array.replicate_succ, Array.replicate_zero, List.push_toArray, List.append_toArray, List.nil_append, List.cons_append]
  have hmk := run_make_row' (P := Try.prog) 54 5 (.int .u8 0) 1 Try.underlying54 (by kernel_rfl) rfl .i64 .i64 s.size (by omega) (by omega)
  rw [madeCells_bytes] at hmk
  obtain ⟨Z, hZ⟩ : ∃ Z, (byteCells (List.replicate s.size 0)).toArray = Z := ⟨_, rfl⟩
  rw [hZ] at hmk
  have HZ := Lib.hid hZ
  clear hZ
  gi_wp2_with (refine ⟨trivial, ?_⟩; gi_at_call 78; refine (callsIn_wide.2 (units_fn s _)).mono ?_; rintro e w' ⟨rfl, rfl⟩)
  have b0 := block_new w (Obj.cells #[Value.string s] 9)
  have b1 := block_new (w.alloc (Obj.cells #[Value.string s] 9)) (Obj.cells Z 5)
  have b2 := block_new ((w.alloc (Obj.cells #[Value.string s] 9)).alloc (Obj.cells Z 5)) (Obj.cells #[Value.slice (some ⟨w.heap.size + 1, 0, none⟩) s.size s.size] 54)
  have b3 := block_new (((w.alloc (Obj.cells #[Value.string s] 9)).alloc (Obj.cells Z 5)).alloc (Obj.cells #[Value.slice (some ⟨w.heap.size + 1, 0, none⟩) s.size s.size] 54)) (Obj.cells #[Value.string s] 9)
  rw [World.size_alloc] at b1
  rw [World.size_alloc, World.size_alloc] at b2
  rw [World.size_alloc, World.size_alloc, World.size_alloc] at b3
  replace b0 := block_alloc (Obj.cells #[Value.string s] 9) (block_alloc (Obj.cells #[Value.slice (some ⟨w.heap.size + 1, 0, none⟩) s.size s.size] 54) (block_alloc (Obj.cells Z 5) b0))
  replace b1 := block_alloc (Obj.cells #[Value.string s] 9) (block_alloc (Obj.cells #[Value.slice (some ⟨w.heap.size + 1, 0, none⟩) s.size s.size] 54) b1)
  replace b2 := block_alloc (Obj.cells #[Value.string s] 9) b2
  have hB0 : Below w.heap.size w ((((w.alloc (Obj.cells #[Value.string s] 9)).alloc (Obj.cells Z 5)).alloc (Obj.cells #[Value.slice (some ⟨w.heap.size + 1, 0, none⟩) s.size s.size] 54)).alloc (Obj.cells #[Value.string s] 9)) :=
    ((((Below.refl _ w).alloc (Nat.le_refl _) _).alloc (by simp) _).alloc (by simp; omega) _).alloc (by simp; omega) _
  have hsz : ((((w.alloc (Obj.cells #[Value.string s] 9)).alloc (Obj.cells Z 5)).alloc (Obj.cells #[Value.slice (some ⟨w.heap.size + 1, 0, none⟩) s.size s.size] 54)).alloc (Obj.cells #[Value.string s] 9)).heap.size = w.heap.size + 4 := by simp
  obtain ⟨W0, hW0⟩ : ∃ W0, ((((w.alloc (Obj.cells #[Value.string s] 9)).alloc (Obj.cells Z 5)).alloc (Obj.cells #[Value.slice (some ⟨w.heap.size + 1, 0, none⟩) s.size s.size] 54)).alloc (Obj.cells #[Value.string s] 9)) = W0 := ⟨_, rfl⟩
  rw [hW0] at b0 b1 b2 b3 hB0 hsz ⊢
  rw [← HZ.out] at b1
  clear hW0 hmk
  refine wpIn_rangeFunc_ownH (n := 3) rfl (by omega) (gf := 90) (lb := #[.pointer (some ⟨w.heap.size + 3, 0, none⟩)]) rfl trivial (enters_of Try.func90 (by kernel_rfl) rfl)
    (units_stops 2 (by omega) (w.heap.size + 3) w.heap.size s (by unfold maxLen; omega) W0 (by omega) (cell_of b3 rfl)) keepsIt_t (keepsIt_b (by omega) (by omega)) (Below.refl _ _) (fun _ => rfl)
    (RevI s w) (fun _ _ _ => False) (revI_own s w _ (by omega)) (fun _ _ _ _ _ hs _ _ => hs)
    ⟨⟨b0, b2, b1, by omega⟩, hB0⟩
    (fun x a' W => ∃ Bx, w.heap.size + 3 < Bx ∧ Boxed3 W Bx s x.1 ∧ a' = { tmps := #[.string s, .pointer (some ⟨w.heap.size, 0, none⟩), .string ⟨#[]⟩, .pointer (some ⟨w.heap.size + 1 + 1, 0, none⟩), .pointer (some ⟨Bx, 0, none⟩), .string s, .int .i64 (s.size : Int), .slice (some ⟨w.heap.size + 1, 0, none⟩) s.size s.size, .string s, .func (.func 90) #[] #[.pointer (some ⟨w.heap.size + 1 + 1 + 1, 0, none⟩)], uval s x.1, undef, undef, undef, undef, undef, undef, undef, undef, undef, undef, undef, undef, undef, undef, undef, undef], defers := [] })
    (fun x a' _ X Y row hs hg hr => by obtain ⟨Bx, h1, h2, h3⟩ := hs; exact ⟨Bx, h1, cells_own Bx _ _ _ () X Y row h2 hg (fun r e => (hr r e).2), h3⟩)
    ?assign ?body ?done ?stop
  case assign =>
    rintro l pre x W K ⟨⟨b0, b2, b1, hz⟩, hB⟩ hK
    unfold encU uval
    gi_wp2
    exact hK _ _ ((KeepsOthers.alloc _ _).from _) (keepsIt_alloc W hB.size (by omega) _) ⟨⟨block_alloc _ b0, block_alloc _ b2, block_alloc _ b1, by simp; omega⟩, hB.alloc hB.size _⟩ ⟨W.heap.size, by omega, Boxed3.new W s x.1, rfl⟩
  case body =>
    rintro l pre x a' W hl ⟨r, hr⟩ ⟨⟨b0, b2, b1, hz⟩, hB⟩ ⟨Bx, hBx, bX, rfl⟩ hlt
    obtain ⟨c0, c1, c2⟩ := bX.cells
    obtain ⟨_, hf2, hf3, hf4, _⟩ := units_fit _ _ _ x.2
    rw [← Lib.size_eq, Nat.zero_add] at hf2
    have htx := ext_size s x
    have hbt : (s.extract x.1.p (x.1.p + x.1.w)).data.toList = txt s x.1 := by
      unfold txt
      rw [Lib.extract_data]
      congr 1
      omega
    have hrow := rowB_snoc s (pre.map (·.1)) x.1
    have hmap : (pre ++ [x]).map (·.1) = pre.map (·.1) ++ [x.1] := by simp
    rw [← hmap, ← hbt] at hrow
    have hrl := rowB_len s (pre.map (·.1)) (fun u hu => by obtain ⟨y, _, rfl⟩ := List.mem_map.1 hu; exact y.2)
    obtain ⟨t, ht⟩ : ∃ t, s.extract x.1.p (x.1.p + x.1.w) = t := ⟨_, rfl⟩
    obtain ⟨k, hk⟩ : ∃ k, x.1.w = k := ⟨_, rfl⟩
    obtain ⟨p, hp⟩ : ∃ p, x.1.p = p := ⟨_, rfl⟩
    obtain ⟨R, hR⟩ : ∃ R, rowB s (pre.map (·.1)) = R := ⟨_, rfl⟩
    rw [ht] at htx hrow c2
    rw [hk] at htx hrow hf2 hf3 hf4
    rw [hp] at hrow hf2 c1
    rw [hR] at hrow hrl b1
    have HR := Lib.hid hrow
    clear ht hk hp hR hrow hbt hmap c0 hlt hr
    have cS := cell_of (i := 0) (v := .string s) b0 rfl
    have cR := cell_of (i := 0) (v := .slice (some ⟨w.heap.size + 1, 0, none⟩) s.size s.size) b2 rfl
    have H0 := Lib.hid b0
    have H1 := Lib.hid b1
    have H2 := Lib.hid b2
    have HL := Lib.hid hrl
    clear b0 b1 b2 hrl bX
    obtain ⟨off, ho⟩ : ∃ off, s.size - p - k = off := ⟨_, rfl⟩
    have hw1 : IntKind.i64.wrap ((s.size : Int) - p) = (s.size : Int) - p := by rw [IntKind.wrap_i64]; omega
    have hw2 : IntKind.i64.wrap ((s.size : Int) - p - k) = (off : Int) := by rw [IntKind.wrap_i64]; omega
    have hsl : ∀ w', (Instr.slice 54 (.slice (some ⟨w.heap.size + 1, 0, none⟩) s.size s.size) (some (.int .i64 (off : Int))) none none).run Try.prog w' = .ok (.slice (some ⟨w.heap.size + 1, off, none⟩) (p + k) (p + k)) w' := by
      intro w'
      rw [run_slice_l w' 54 _ _ _ (by kernel_rfl) .i64 off (by omega) (by omega)]
      have hz1 : (sizeOf (Try.prog.elem 54)).run Try.prog w' = .ok 1 w' := by kernel_rfl
      rw [hz1]
      have hne : ¬ s.size = off := by omega
      have e1 : s.size - off = p + k := by omega
      simp [Result.andThen, sliced, Addr.add, hne, e1]
      exact fun h => h.symm
    have hcp := Lib.run_copy_row_string (P := Try.prog) W.drew 54 9 3 5 (w.heap.size + 1) off (p + k) (p + k) t _ 5 Try.underlying54 (by kernel_rfl) (show W.drew.heap[w.heap.size + 1]? = _ from H1.out) (by omega) (by rw [List.size_toArray, Lib.byteCells_length, HL.out]; omega)
    obtain ⟨C, hC⟩ : ∃ C, ((byteCells R).toArray.toList.take off ++ byteCells t.data.toList ++ (byteCells R).toArray.toList.drop (off + t.size)).toArray = C := ⟨_, rfl⟩
    rw [hC] at hcp
    have HC := Lib.hid hC
    have HO := Lib.hid ho
    clear hC ho
    gi_wp2
    refine wpIn_round_tail 13 (by kernel_rfl) (by kernel_rfl) (by kernel_rfl) (by rintro ⟨a, w, h⟩; exact h) ?_
    simp only [List.take_succ_cons, List.take_zero, List.drop_succ_cons, List.drop_zero]
    repeat still_step
    try refine wpStill_nil ?_
    change wpList _ _ _ _ _ W.drew
    go_wp2
    have hCC : C = (byteCells (rowB s ((pre ++ [x]).map (·.1)))).toArray := by
      rw [← HC.out, HR.out, HO.out, ← byteCells_splice, Lib.size_eq]
    have hk1 : KeepsOthers W (W.drew.setRow (w.heap.size + 1) C) := (KeepsOthers.drew W).trans (keepsOthers_setRow C (show W.drew.heap[w.heap.size + 1]? = _ from H1.out))
    have hb1 : Below w.heap.size W (W.drew.setRow (w.heap.size + 1) C) := below_setRow (Below.refl w.heap.size W).drew (by omega) C
    refine ⟨hk1.from _, ⟨hb1, hk1.walks, setRow_other W.drew (w.heap.size + 1) (w.heap.size + 3) C (by omega)⟩, ⟨?_, ?_, ?_, by have := hk1.size; omega⟩, hB.trans hb1⟩
    · exact (setRow_other W.drew (w.heap.size + 1) w.heap.size C (by omega)).trans H0.out
    · exact (setRow_other W.drew (w.heap.size + 1) (w.heap.size + 2) C (by omega)).trans H2.out
    · rw [← hCC]
      exact setRow_heap W.drew (w.heap.size + 1) _ C _ (0, 0) (show W.drew.heap[w.heap.size + 1]? = _ from H1.out)
  case done =>
    rintro D xs W hD hx ⟨⟨b0, b2, b1, hz⟩, hB⟩ hK
    have hrl := rowB_len s (xs.map (·.1)) (fun u hu => by obtain ⟨y, _, rfl⟩ := List.mem_map.1 hu; exact y.2)
    have hru : rowB s (xs.map (·.1)) = revL s := by
      rw [← rowB_units s]
      exact congrArg (rowB s) hx
    rw [hru] at hrl b1
    have cR := cell_of (i := 0) (v := .slice (some ⟨w.heap.size + 1, 0, none⟩) s.size s.size) b2 rfl
    have hcv := run_convert_bytes_back (P := Try.prog) W 54 9 5 ⟨w.heap.size + 1, 0, none⟩ s.size (revL s) Try.underlying54 Try.underlying5 Try.underlying9 (fun j hj => by
      have hj2 : (byteCells (revL s)).toArray[j]? = some (.int .u8 ((revL s)[j].toNat : Int)) := by simp [byteCells, hj]
      have h1 := cell_of (i := j) b1 hj2
      have ha : (⟨w.heap.size + 1, 0, none⟩ : Addr).add j = ⟨w.heap.size + 1, j, none⟩ := by unfold Addr.add; split <;> simp_all
      rw [ha]
      exact h1)
    rw [hrl] at hcv
    clear hru hrl hx b0 b1 b2
    gi_wp2
    refine ⟨by simp, .inl ⟨_, _, rfl, run_takeDeferred hK, ?_⟩⟩
    exact ⟨_, results_tmp rfl _ _ _, rfl, hB.trans (belowK_b (w := w) (Nat.le_refl _) W D _ _ (by omega) hK rfl rfl)⟩
  case stop =>
    rintro D c pre W _ _ h _
    exact h.elim
end Go.Proofs.Yteennnhinfnahaa
