/-
  WALKS over package block, third part: the table of costs, the cheapest width; Width, Cost.
-/
import Derived.Test.YtbfnkmibbieijaaBkB
namespace Go.Proofs.Ytbfnkmibbieijaa
open Go.RowKit Go.Shelf Go.Lib
set_option linter.unusedVariables false
set_option linter.unusedSimpArgs false

/-- A table half filled: the costs with the first j widths. -/
def partT (vs : List Nat) (j : Nat) : List Value := (List.range 32).map fun i => Value.int .i64 (((if i < j then cst vs i else 0) : Nat) : Int)
theorem partT_cell (vs : List Nat) (j i : Nat) (hi : i < 32) : (partT vs j).toArray[i]? = some (.int .i64 (((if i < j then cst vs i else 0) : Nat) : Int)) := by simp [partT, hi]
theorem partT_set (vs : List Nat) (j : Nat) : (partT vs j).toArray.setIfInBounds j (.int .i64 ((cst vs j : Nat) : Int)) = (partT vs (j + 1)).toArray := by
  apply Array.ext
  · simp [partT]
  · intro i h1 h2
    have hi : i < 32 := by simpa [partT] using h2
    rw [Array.getElem_setIfInBounds (by simpa [partT] using h2)]
    by_cases h : j = i
    · subst h
      simp [partT]
    · rw [if_neg h]
      simp only [partT, List.getElem_toArray, List.getElem_map, List.getElem_range]
      by_cases h3 : i < j
      · rw [if_pos h3, if_pos (by omega)]
      · rw [if_neg h3, if_neg (by omega)]
def TbAt (vs : List Nat) (w : World) (j : Nat) (w' : World) : Prop :=
  Below w.heap.size w w' ∧ w'.heap[w.heap.size]? = some (.cells (partT vs 0).toArray 67 (0, 0)) ∧ w'.heap[w.heap.size + 1]? = some (.cells (partT vs j).toArray 67 (0, 0))
theorem partT_size (vs : List Nat) (j : Nat) : (partT vs j).toArray.size = 32 := by simp [partT]
theorem partT_zero (vs : List Nat) : (partT vs 0).toArray = (List.replicate 32 (Value.int .i64 0)).toArray := rfl
theorem partT_one (vs : List Nat) (j : Nat) : (partT vs j).toArray.all (·.oneCell') = true := by
  rw [Array.all_eq_true_iff_forall_mem]
  intro u hu
  simp only [partT, List.mem_toArray, List.mem_map] at hu
  obtain ⟨i, _, rfl⟩ := hu
  rfl
theorem tabSize : (Try.prog.info? 67).map (·.size) = some 32 := by kernel_rfl
theorem below_setRowB {B g : Nat} {a w : World} (h : Below B a w) (hg : B ≤ g) (cs : Array Value) : Below B a (w.setRow g cs) :=
  ⟨h.os, h.tape, h.output, by rw [size_setRow]; exact h.size, fun k hk => (setRow_other w g k cs (by omega)).trans (h.block k hk)⟩
theorem TbAt.new (vs : List Nat) (w : World) : TbAt vs w 0 ((w.alloc (.cells (List.replicate 32 (Value.int .i64 0)).toArray 67)).alloc (.cells (List.replicate 32 (Value.int .i64 0)).toArray 67)) := by
  refine ⟨((Below.refl _ w).alloc (Nat.le_refl _) _).alloc (by simp) _, ?_, ?_⟩
  · rw [partT_zero]; exact heap_alloc2_old w _ _
  · rw [partT_zero]; exact heap_alloc2_new w _ _
theorem TbAt.step {vs : List Nat} {j : Nat} {w w' : World} (h : TbAt vs w j w') : TbAt vs w (j + 1) (w'.setCell ⟨w.heap.size + 1, j, none⟩ (.int .i64 ((cst vs j : Nat) : Int))) := by
  obtain ⟨hb, h0, h1⟩ := h
  refine ⟨hb.setCell (p := ⟨w.heap.size + 1, j, none⟩) (Nat.le_succ _) _, block_other _ h0 (Nat.ne_of_lt (Nat.lt_succ_self _)), ?_⟩
  have := set_of h1 (i := j) (.int .i64 ((cst vs j : Nat) : Int))
  rw [partT_set vs j] at this
  exact this
theorem TbAt.last {vs : List Nat} {w w' : World} (h : TbAt vs w 32 w') : Below w.heap.size w (w'.setRow w.heap.size (partT vs 32).toArray) ∧ (w'.setRow w.heap.size (partT vs 32).toArray).heap[w.heap.size]? = some (.cells (partT vs 32).toArray 67 (0, 0)) := by
  refine ⟨below_setRowB h.1 (Nat.le_refl _) _, ?_⟩
  rw [setRow_heap _ _ _ _ _ _ h.2.1]

set_option maxRecDepth 100000 in
set_option maxHeartbeats 4000000 in
theorem tabulate_any {w : World} {v : Value} {vs : List Nat} (hv : Rows 1 EInt w v (castB vs)) (hok : ok31 vs) :
    Calls Try.prog 38 #[v] w fun e w' => e = .returned (.agg (partT vs 32).toArray) ∧ Below w.heap.size w w' := by
  have HC := Lib.hid (fun W (hb : Below w.heap.size w W) j (hj : j ≤ 31) => cost_any (hv.below stays_int hb) hok j hj)
  have HS0 := Lib.hid (TbAt.new vs w)
  clear hv hok
  go_enter Try.func38, Try.ntmps38
  go_wp2_with fail
  go_loopw [5] (fun iv wr => ∃ j : Nat, j ≤ 32 ∧ iv = .int .i64 j ∧ Hid (TbAt vs w j wr)) (fun iv _ => 32 - (intOf iv).toNat)
  case atStart => exact ⟨0, Nat.zero_le _, rfl, HS0⟩
  case round =>
    clear HS0
    obtain ⟨j, hj, rfl, HS⟩ := hrel
    by_cases hlt : j < 32
    · have hc := cell_of (i := j) HS.out.2.2 (partT_cell vs j j hlt)
      have hf := frozen_of (i := j) HS.out.2.2
      have HCJ := Lib.hid (HC.out wr HS.out.1 j (by omega))
      have hstep := HS.out.step
      obtain ⟨c, hce⟩ : ∃ c, cst vs j = c := ⟨_, rfl⟩
      rw [hce] at HCJ hstep
      have HST := Lib.hid hstep
      clear hstep hce HS
      go_wp2_with fail
      refine HCJ.out.mono ?_
      rintro e w' ⟨rfl, rfl⟩
      go_wp2_with fail
      exact ⟨⟨j + 1, by omega, by go_num, HST⟩, by simp only [intOf]; omega⟩
    · have hj32 : j = 32 := by omega
      subst hj32
      have H1 := Lib.hid HS.out.2.1
      have H2 := Lib.hid HS.out.2.2
      have HL := Lib.hid HS.out.last
      clear HS
      go_wp2_with (first
        | refine wpList_load_row rfl 67 (.tmp 3) rfl (w.heap.size + 1) rfl 67 (partT vs 32).toArray (0, 0) _ H2.out Try.underlying67 rfl (by rw [partT_size]; exact tabSize) ?_
        | refine wpList_store_row rfl 67 (.tmp 2) (.tmp 14) rfl w.heap.size (partT vs 32).toArray rfl rfl 67 _ H1.out (by rw [partT_size]; exact tabSize) (by rw [partT_size, partT_size]) (partT_one _ _) ?_)
      exact bodyPost_ret (v := .agg (partT vs 32).toArray) (results_cell_row Try.results38 _ _ w.heap.size _ _ _ _ rfl HL.out.2 Try.underlying67 rfl (by rw [partT_size]; exact tabSize)) rfl ⟨rfl, HL.out.1⟩

theorem run_index_table (T : Array Value) (i : Nat) (x : Int) (hi : i < 32) (hT : T[i]? = some (.int .i64 x)) (W : World) :
    (Instr.index 67 (.agg T) (.int .i64 (i : Int))).run Try.prog W = .ok (.int .i64 x) W := by
  have hi2 : (0 ≤ (i : Int) ∧ (i : Int) < ((32 : Nat) : Int)) := by omega
  have hu := Try.underlying67
  simp [Instr.index, run_underlying hu, asIntOf, hi2, go_sem]
  rw [if_pos hi, hT]
  rfl
set_option maxRecDepth 100000 in
set_option maxHeartbeats 4000000 in
theorem cheapest_any (vs : List Nat) (w : World) :
    Calls Try.prog 39 #[.agg (partT vs 32).toArray] w fun e w' => e = .returned (.int .i64 (wid vs : Nat)) ∧ Below w.heap.size w w' := by
  obtain ⟨T, hT⟩ : ∃ T, (partT vs 32).toArray = T := ⟨_, rfl⟩
  have HT := Lib.hid (show ∀ i, i < 32 → T[i]? = some (.int .i64 (cst vs i : Nat)) from fun i hi => by rw [← hT, partT_cell vs 32 i hi, if_pos hi])
  have HTS := Lib.hid (show T.size = 32 by rw [← hT, partT_size])
  rw [hT]
  clear hT
  go_enter Try.func39, Try.ntmps39
  go_wp2_with (refine wpList_load_row rfl 67 (.tmp 1) rfl w.heap.size rfl 67 T (0, 0) _ (block_new w _) Try.underlying67 rfl (by rw [HTS.out]; exact tabSize) ?_)
  have hcell : ∀ i, i < 32 → (w.alloc (.cells T 67)).cell? ⟨w.heap.size, i, none⟩ = some (.int .i64 (cst vs i : Nat)) := fun i hi => cell_of (block_new w _) (HT.out i hi)
  obtain ⟨w1, hw1⟩ : ∃ w1, w.alloc (.cells T 67) = w1 := ⟨_, rfl⟩
  have HB := Lib.hid (show Below w.heap.size w w1 by rw [← hw1]; exact below_box w _)
  rw [hw1] at hcell ⊢
  have HCE := Lib.hid hcell
  clear hcell hw1
  go_loopw [3, 7] (fun bv iv wr => wr = w1 ∧ ∃ j b : Nat, j ≤ 32 ∧ bv = .int .i64 b ∧ iv = .int .i64 j ∧ Hid (b = bestK vs (j - 1))) (fun _ iv _ => 32 - (intOf iv).toNat)
  case atStart => exact ⟨rfl, 0, 0, by omega, rfl, rfl, Lib.hid rfl⟩
  case round =>
    obtain ⟨rfl, j, b, hj, rfl, rfl, HBK⟩ := hrel
    by_cases hlt : j < 32
    · have hb31 : b ≤ 31 := by rw [HBK.out]; exact Nat.le_trans (bestK_le _ _) (by omega)
      have hTj := HT.out j hlt
      have hcb := HCE.out b (by omega)
      have hnx : bestK vs (j + 1 - 1) = if cst vs j < cst vs b then j else b := by
        rw [Nat.add_sub_cancel]
        cases j with
        | zero => rw [HBK.out]; simp [bestK]
        | succ m => rw [HBK.out]; rfl
      obtain ⟨x, hx⟩ : ∃ x, cst vs j = x := ⟨_, rfl⟩
      obtain ⟨y, hy⟩ : ∃ y, cst vs b = y := ⟨_, rfl⟩
      rw [hx] at hTj hnx
      have hrun := run_index_table T j (x : Int) hlt hTj wr
      rw [hy] at hcb hnx
      by_cases hxy : x < y
      · have hxyi : (x : Int) < (y : Int) := by omega
        rw [if_pos hxy] at hnx
        have HNX := Lib.hid hnx.symm
        clear hnx hx hy HBK
        go_wp2_with fail
        exact ⟨⟨trivial, j + 1, j, by omega, rfl, by go_num, HNX⟩, by simp only [intOf]; omega⟩
      · have hxyi : ¬ (x : Int) < (y : Int) := by omega
        rw [if_neg hxy] at hnx
        have HNX := Lib.hid hnx.symm
        clear hnx hx hy HBK
        go_wp2_with fail
        exact ⟨⟨trivial, j + 1, b, by omega, rfl, by go_num, HNX⟩, by simp only [intOf]; omega⟩
    · obtain rfl : j = 32 := by omega
      have hE : b = wid vs := HBK.out
      subst hE
      go_wp2_with fail
      go_ret
      exact ⟨rfl, HB.out⟩

set_option maxRecDepth 100000 in
set_option maxHeartbeats 4000000 in
theorem widthB_any {w : World} {v : Value} {cs : List Int} (hv : Rows 1 EInt w v cs) (hlen : cs.length ≤ maxLen) :
    Calls Try.prog 15 #[v] w fun e w' => e = .returned (.int .i64 (if chkB cs = 0 then (wid (natB cs) : Int) else 0)) ∧ Below w.heap.size w w' := by
  have HCK := Lib.hid (checkB_any hv hlen)
  by_cases hk : chkB cs = 0
  · obtain ⟨hcs, hok⟩ := chk_ok hk
    rw [if_pos hk]
    obtain ⟨r, hr⟩ : ∃ r, chkB cs = r := ⟨_, rfl⟩
    rw [hr] at hk HCK
    subst hk
    rw [← hcs] at hv
    have HT := Lib.hid (tabulate_any hv hok)
    clear hv hok hcs hr
    go_enter Try.func15, Try.ntmps15
    go_wp2_with fail
    refine HCK.out.mono ?_
    rintro e w' ⟨rfl, rfl⟩
    go_wp2_with fail
    refine HT.out.mono ?_
    rintro e w2 ⟨rfl, hb⟩
    have HB := Lib.hid hb
    have HCH := Lib.hid (cheapest_any (natB cs) w2)
    clear hb
    go_wp2_with fail
    refine HCH.out.mono ?_
    rintro e w3 ⟨rfl, hb3⟩
    have HB3 := Lib.hid (HB.out.trans (hb3.mono HB.out.size))
    clear hb3
    go_wp2_with fail
    go_ret
    exact ⟨rfl, HB3.out⟩
  · rw [if_neg hk]
    obtain ⟨r, hr⟩ : ∃ r, chkB cs = r := ⟨_, rfl⟩
    rw [hr] at hk HCK
    have hb : (r != 0) = true := by simpa using hk
    clear hv hlen hr
    go_enter Try.func15, Try.ntmps15
    go_wp2_with fail
    refine HCK.out.mono ?_
    rintro e w' ⟨rfl, rfl⟩
    go_wp2_with fail
    go_ret
    exact ⟨rfl, Below.refl _ _⟩

/-- What Cost answers. -/
def costE (cs : List Int) (k : Int) : Int × Int := if chkB cs ≠ 0 then (0, chkB cs) else if k < 0 ∨ 31 < k then (0, 1) else (((cst (natB cs) k.toNat : Nat) : Int), 0)
set_option maxRecDepth 100000 in
set_option maxHeartbeats 4000000 in
theorem costB_any {w : World} {v : Value} {cs : List Int} (hv : Rows 1 EInt w v cs) (hlen : cs.length ≤ maxLen) (k : Int) (h0 : -9223372036854775808 ≤ k) (h1 : k ≤ 9223372036854775807) :
    Calls Try.prog 19 #[v, .int .i64 k] w fun e w' => e = .returned (.tuple #[.int .i64 (costE cs k).1, .int .i64 (costE cs k).2]) ∧ w' = w := by
  have HCK := Lib.hid (checkB_any hv hlen)
  by_cases hk : chkB cs = 0
  · obtain ⟨hcs, hok⟩ := chk_ok hk
    have hE : costE cs k = if k < 0 ∨ 31 < k then (0, 1) else (((cst (natB cs) k.toNat : Nat) : Int), 0) := by unfold costE; rw [if_neg (not_not_intro hk)]
    obtain ⟨r, hr⟩ : ∃ r, chkB cs = r := ⟨_, rfl⟩
    rw [hr] at hk HCK
    subst hk
    rw [← hcs] at hv
    by_cases c1 : k < 0
    · rw [hE, if_pos (.inl c1)]
      clear hv hok hcs hr hE
      go_enter Try.func19, Try.ntmps19
      go_wp2_with fail
      refine HCK.out.mono ?_
      rintro e w' ⟨rfl, rfl⟩
      go_wp2_with fail
      go_ret2
      exact ⟨rfl, rfl⟩
    · by_cases c2 : 31 < k
      · rw [hE, if_pos (.inr c2)]
        clear hv hok hcs hr hE
        go_enter Try.func19, Try.ntmps19
        go_wp2_with fail
        refine HCK.out.mono ?_
        rintro e w' ⟨rfl, rfl⟩
        go_wp2_with fail
        go_ret2
        exact ⟨rfl, rfl⟩
      · rw [hE, if_neg (by omega)]
        obtain ⟨K, rfl⟩ : ∃ K : Nat, k = K := ⟨k.toNat, by omega⟩
        rw [Int.toNat_natCast]
        have HCO := Lib.hid (cost_any hv hok K (by omega))
        clear hv hok hcs hr hE
        go_enter Try.func19, Try.ntmps19
        go_wp2_with fail
        refine HCK.out.mono ?_
        rintro e w' ⟨rfl, rfl⟩
        go_wp2_with fail
        refine HCO.out.mono ?_
        rintro e w' ⟨rfl, rfl⟩
        go_wp2_with fail
        go_ret2
        exact ⟨rfl, rfl⟩
  · have hE : costE cs k = (0, chkB cs) := by unfold costE; rw [if_pos hk]
    rw [hE]
    obtain ⟨r, hr⟩ : ∃ r, chkB cs = r := ⟨_, rfl⟩
    rw [hr] at hk HCK ⊢
    have hb : (r != 0) = true := by simpa using hk
    clear hv hlen hr hE
    go_enter Try.func19, Try.ntmps19
    go_wp2_with fail
    refine HCK.out.mono ?_
    rintro e w' ⟨rfl, rfl⟩
    go_wp2_with fail
    go_ret2
    exact ⟨rfl, rfl⟩
end Go.Proofs.Ytbfnkmibbieijaa
