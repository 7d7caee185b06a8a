/-
  WALKS over package checksum, fifth part: matrices: what one makes of a value, its square, the effect of one byte 0.
-/
import Derived.Test.YtgclmiheahfakaaDoorCkD
import Derived.Laws.ShiftsVarLaws
import Derived.Laws.Rows
import Derived.Laws.Tables
import Derived.Deep.WholeRow
namespace Go.Proofs.YtgclmiheahfakaaDoor
open Go.RowKit Go.Shelf Go.Lib

/-- The columns of the map that k steps are. -/
def colL (k n : Nat) : List Value := (List.range n).map fun i => Value.int .u32 ((sts k (2 ^ i) : Nat) : Int)
/-- A matrix in memory. -/
def MatAt (w : World) (g k : Nat) : Prop := w.heap[g]? = some (.cells (colL k 32).toArray 46 (0, 0))
theorem MatAt.cell {w : World} {g k : Nat} (h : MatAt w g k) (i : Nat) (hi : i < 32) : w.cell? ⟨g, i, none⟩ = some (.int .u32 ((sts k (2 ^ i) : Nat) : Int)) :=
  cell_of h (by simp [colL, hi])
theorem MatAt.drewN {w : World} {g k : Nat} (h : MatAt w g k) (n : Nat) : MatAt (w.drewN n) g k := h
theorem col_term (v j a c : Nat) (hv : v < 4294967296) (ha : a < 4294967296) (hc : c < 4294967296) : bits .xor .u32 (a : Int) ((c : Int) * bits .and .u32 ((v : Int) / 2 ^ j) 1 % 4294967296) = ((a ^^^ (c * (v / 2 ^ j % 2)) : Nat) : Int) := by
  have hq : v / 2 ^ j < 4294967296 := Nat.lt_of_le_of_lt (Nat.div_le_self _ _) hv
  have e : (v : Int) / 2 ^ j = ((v / 2 ^ j : Nat) : Int) := by simp
  rw [e, and_one _ hq]
  rcases Nat.mod_two_eq_zero_or_one (v / 2 ^ j) with h | h
  · rw [h]; exact xor32 rfl (by simp) ha (by omega)
  · rw [h]; exact xor32 rfl (by omega) ha (by omega)
theorem sts_bit (k v j : Nat) : sts k (v % 2 ^ (j + 1)) = sts k (v % 2 ^ j) ^^^ (sts k (2 ^ j) * (v / 2 ^ j % 2)) := by
  rw [lin_step (sts k) (sts_zero k) (sts_xor k)]
  by_cases h : v / 2 ^ j % 2 = 1
  · rw [if_pos h, h, Nat.mul_one]
  · rw [if_neg h, show v / 2 ^ j % 2 = 0 by omega, Nat.mul_zero]
theorem two_lt (j : Nat) (h : j < 32) : 2 ^ j < 4294967296 := Nat.pow_lt_pow_right (a := 2) (by decide) h

set_option maxRecDepth 100000 in
set_option maxHeartbeats 400000 in
theorem of_any {w : World} {g k : Nat} (hm : MatAt w g k) (v : Nat) (hv : v < 4294967296) :
    Calls Tryd.prog 25 #[.pointer (some ⟨g, 0, none⟩), .int .u32 v] w fun e w' => e = .returned (.int .u32 ((sts k v : Nat) : Int)) ∧ ∃ n, w' = w.drewN n := by
  have HM := Lib.hid hm
  clear hm
  go_enter Tryd.func25, Tryd.ntmps25
  go_wp2
  go_loopw [5, 9] (fun v5 v9 w' => ∃ j n : Nat, j ≤ 32 ∧ v5 = .int .u32 ((sts k (v % 2 ^ j) : Nat) : Int) ∧ v9 = .int .i64 j ∧ w' = w.drewN n) (fun _ v9 _ => 32 - (intOf v9).toNat)
  case atStart => exact ⟨0, 0, Nat.zero_le _, by rw [Nat.pow_zero, Nat.mod_one, sts_zero]; rfl, rfl, rfl⟩
  case round =>
    obtain ⟨j, n, hj, rfl, rfl, rfl⟩ := hrel
    by_cases hlt : j < 32
    · have hc := HM.out.cell j hlt
      have hs := sts_lt k (Nat.lt_of_le_of_lt (Nat.mod_le v (2 ^ j)) hv)
      have hcol := sts_lt k (two_lt j hlt)
      have HE := Lib.hid (col_term v j _ _ hv hs hcol)
      rw [← sts_bit k v j] at HE
      obtain ⟨a, ha⟩ : ∃ a, sts k (v % 2 ^ j) = a := ⟨_, rfl⟩
      obtain ⟨c, hce⟩ : ∃ c, sts k (2 ^ j) = c := ⟨_, rfl⟩
      rw [ha, hce] at HE
      rw [ha] at hs ⊢
      rw [hce] at hc hcol
      clear ha hce
      go_wp2_with fail
      go_quiet (fail)
      go_wp2_with fail
      exact ⟨⟨j + 1, n + nq, by omega, congrArg (Value.int .u32) HE.out, by go_num, rfl⟩, by simp only [intOf]; omega⟩
    · have hj32 : j = 32 := by omega
      subst hj32
      have hv32 : v % 2 ^ 32 = v := Nat.mod_eq_of_lt hv
      rw [hv32]
      clear hv32
      go_wp2_with fail
      go_ret
      exact ⟨rfl, n, rfl⟩

/-- A matrix half filled: the first j columns. -/
def partL (k j : Nat) : List Value := (List.range 32).map fun i => Value.int .u32 (((if i < j then sts k (2 ^ i) else 0) : Nat) : Int)
theorem partL_full (k : Nat) : partL k 32 = colL k 32 := List.map_congr_left fun i hi => by rw [if_pos (List.mem_range.1 hi)]
theorem partL_cell (k j i : Nat) (hi : i < 32) : (partL k j).toArray[i]? = some (.int .u32 (((if i < j then sts k (2 ^ i) else 0) : Nat) : Int)) := by simp [partL, hi]
theorem partL_set (k j : Nat) : (partL k j).toArray.setIfInBounds j (.int .u32 ((sts k (2 ^ j) : Nat) : Int)) = (partL k (j + 1)).toArray := by
  apply Array.ext
  · simp [partL]
  · intro i h1 h2
    have hi : i < 32 := by simpa [partL] using h2
    rw [Array.getElem_setIfInBounds (by simpa [partL] using h2)]
    by_cases h : j = i
    · subst h
      simp [partL]
    · rw [if_neg h]
      simp only [partL, List.getElem_toArray, List.getElem_map, List.getElem_range]
      by_cases h3 : i < j
      · rw [if_pos h3, if_pos (by omega)]
      · rw [if_neg h3, if_neg (by omega)]
/-- What a loop has made that fills a matrix: the result's block is still empty, the next one holds j columns. -/
def MRel (k : Nat) (w : World) (j : Nat) (w' : World) : Prop :=
  Below w.heap.size w w' ∧ w'.heap[w.heap.size]? = some (.cells (partL k 0).toArray 46 (0, 0)) ∧ w'.heap[w.heap.size + 1]? = some (.cells (partL k j).toArray 46 (0, 0))

theorem pow_mod (j : Nat) (h : j < 32) : (2 : Int) ^ j % 4294967296 = ((2 ^ j : Nat) : Int) := by
  have e : (2 : Int) ^ j = ((2 ^ j : Nat) : Int) := (Int.natCast_pow 2 j).symm
  have h2 := two_lt j h
  rw [e]
  generalize 2 ^ j = p at *
  omega
theorem partL_size (k j : Nat) : (partL k j).toArray.size = 32 := by simp [partL]
theorem partL_zero (k : Nat) : (partL k 0).toArray = (List.replicate 32 (Value.int .u32 0)).toArray := rfl
theorem partL_one (k j : Nat) : (partL k j).toArray.all (·.oneCell') = true := by
  rw [Array.all_eq_true_iff_forall_mem]
  intro u hu
  simp only [partL, List.mem_toArray, List.mem_map] at hu
  obtain ⟨i, _, rfl⟩ := hu
  rfl
theorem matSize : (Tryd.prog.info? 46).map (·.size) = some 32 := by kernel_rfl
theorem below_setRow {B g : Nat} {a w : World} (h : Below B a w) (hg : B ≤ g) (cs : Array Value) : Below B a (w.setRow g cs) :=
  ⟨h.os, h.tape, h.output, by rw [size_setRow]; exact h.size, fun k hk => (setRow_other w g k cs (by omega)).trans (h.block k hk)⟩
theorem MRel.new (k : Nat) (w : World) : MRel k w 0 ((w.alloc (.cells (List.replicate 32 (Value.int .u32 0)).toArray 46)).alloc (.cells (List.replicate 32 (Value.int .u32 0)).toArray 46)) := by
  refine ⟨((Below.refl _ w).alloc (Nat.le_refl _) _).alloc (by simp) _, ?_, ?_⟩
  · rw [partL_zero]; exact heap_alloc2_old w _ _
  · rw [partL_zero]; exact heap_alloc2_new w _ _
theorem MRel.step {k j : Nat} {w w' : World} (h : MRel k w j w') : MRel k w (j + 1) (w'.setCell ⟨w.heap.size + 1, j, none⟩ (.int .u32 ((sts k (2 ^ j) : Nat) : Int))) := by
  obtain ⟨hb, h0, h1⟩ := h
  refine ⟨hb.setCell (p := ⟨w.heap.size + 1, j, none⟩) (Nat.le_succ _) _, block_other _ h0 (Nat.ne_of_lt (Nat.lt_succ_self _)), ?_⟩
  have := set_of h1 (i := j) (.int .u32 ((sts k (2 ^ j) : Nat) : Int))
  rw [partL_set k j] at this
  exact this
theorem MRel.drewN {k j : Nat} {w w' : World} (h : MRel k w j w') (n : Nat) : MRel k w j (w'.drewN n) := ⟨below_drewN h.1 n, h.2.1, h.2.2⟩
/-- The end: the matrix is copied into the result's block. -/
theorem MRel.last {k : Nat} {w w' : World} (h : MRel k w 32 w') : Below w.heap.size w (w'.setRow w.heap.size (partL k 32).toArray) ∧ (w'.setRow w.heap.size (partL k 32).toArray).heap[w.heap.size]? = some (.cells (colL k 32).toArray 46 (0, 0)) := by
  refine ⟨below_setRow h.1 (Nat.le_refl _) _, ?_⟩
  rw [setRow_heap _ _ _ _ _ _ h.2.1, partL_full]

set_option maxRecDepth 100000 in
set_option maxHeartbeats 400000 in
theorem zeroByte_any {w : World} (ht : Tab w) (h0 : 0 < w.heap.size) :
    Calls Tryd.prog 24 #[] w fun e w' => e = .returned (.agg (colL 8 32).toArray) ∧ Below w.heap.size w w' := by
  have HT := Lib.hid ht
  have H0 := Lib.hid h0
  clear ht h0
  go_enter Tryd.func24, Tryd.ntmps24
  go_wp2
  go_loopw [2, 3] (fun v2 v3 w' => ∃ j : Nat, j ≤ 32 ∧ v3 = .int .i64 j ∧ MRel 8 w j w') (fun _ v3 _ => 32 - (intOf v3).toNat)
  case atStart => exact ⟨0, Nat.zero_le _, rfl, MRel.new 8 w⟩
  case round =>
    obtain ⟨j, hj, rfl, hrel⟩ := hrel
    by_cases hlt : j < 32
    · have hc := cell_of (i := j) hrel.2.2 (partL_cell 8 j j hlt)
      rw [if_neg (Nat.lt_irrefl j)] at hc
      have hf := frozen_of (i := j) hrel.2.2
      have hab := afterByte_any (2 ^ j) (two_lt j hlt) (HT.out.below hrel.1 H0.out)
      have hstep := hrel.step
      have hsh := pow_mod j hlt
      obtain ⟨p, hp⟩ : ∃ p, 2 ^ j = p := ⟨_, rfl⟩
      obtain ⟨c, hce⟩ : ∃ c, sts 8 p = c := ⟨_, rfl⟩
      rw [hp] at hab hsh hstep
      rw [hce] at hab hstep
      have HAB := Lib.hid hab
      have HST := Lib.hid hstep
      clear hab hstep hrel hp hce
      go_wp2_with fail
      refine HAB.out.mono ?_
      rintro e w' ⟨rfl, rfl⟩
      go_wp2_with fail
      exact ⟨⟨j + 1, by omega, by go_num, HST.out⟩, by simp only [intOf]; omega⟩
    · have hj32 : j = 32 := by omega
      subst hj32
      have H1 := Lib.hid hrel.2.1
      have H2 := Lib.hid hrel.2.2
      have HL := Lib.hid hrel.last
      clear hrel
      go_wp2_with (first
        | refine wpList_load_row rfl 46 (.tmp 1) rfl (w.heap.size + 1) rfl 46 (partL 8 32).toArray (0, 0) _ H2.out Tryd.underlying46 rfl (by rw [partL_size]; exact matSize) ?_
        | refine wpList_store_row rfl 46 (.tmp 0) (.tmp 12) rfl w.heap.size (partL 8 32).toArray rfl rfl 46 _ H1.out (by rw [partL_size]; exact matSize) (by rw [partL_size, partL_size]) (partL_one _ _) ?_)
      exact bodyPost_ret (v := .agg (colL 8 32).toArray) (results_cell_row Tryd.results24 _ _ w.heap.size _ _ _ _ rfl HL.out.2 Tryd.underlying46 rfl (by rw [← partL_full, partL_size]; exact matSize)) rfl ⟨rfl, HL.out.1⟩

theorem MatAt.below {w w' : World} {B g k : Nat} (h : MatAt w g k) (hb : Below B w w') (hg : g < B) : MatAt w' g k := (hb.block g hg).trans h
set_option maxRecDepth 100000 in
set_option maxHeartbeats 400000 in
theorem squared_any {w : World} {g k : Nat} (hm : MatAt w g k) (hg : g < w.heap.size) :
    Calls Tryd.prog 26 #[.pointer (some ⟨g, 0, none⟩)] w fun e w' => e = .returned (.agg (colL (k + k) 32).toArray) ∧ Below w.heap.size w w' := by
  have HM := Lib.hid hm
  have HG := Lib.hid hg
  clear hm hg
  go_enter Tryd.func26, Tryd.ntmps26
  go_wp2
  go_loopw [4, 5, 7] (fun v4 v5 v7 w' => ∃ j : Nat, j ≤ 32 ∧ v7 = .int .i64 j ∧ MRel (k + k) w j w') (fun _ _ v7 _ => 32 - (intOf v7).toNat)
  case atStart => exact ⟨0, Nat.zero_le _, rfl, MRel.new (k + k) w⟩
  case round =>
    obtain ⟨j, hj, rfl, hrel⟩ := hrel
    by_cases hlt : j < 32
    · have hmat := HM.out.below hrel.1 HG.out
      have hcol := hmat.cell j hlt
      have hc := cell_of (i := j) hrel.2.2 (partL_cell (k + k) j j hlt)
      rw [if_neg (Nat.lt_irrefl j)] at hc
      have hf := frozen_of (i := j) hrel.2.2
      have hclt := sts_lt k (two_lt j hlt)
      have hof := fun n => of_any (hmat.drewN n) _ hclt
      have hstep := fun n => (hrel.drewN n).step
      rw [sts_add] at hstep
      obtain ⟨c, hce⟩ : ∃ c, sts k (2 ^ j) = c := ⟨_, rfl⟩
      rw [hce] at hcol hof hstep
      obtain ⟨d, hde⟩ : ∃ d, sts k c = d := ⟨_, rfl⟩
      rw [hde] at hof hstep
      have HOF := Lib.hid hof
      have HST := Lib.hid hstep
      clear hof hstep hrel hce hde hmat
      go_wp2_with fail
      go_quiet (fail)
      go_wp2_with fail
      refine (HOF.out _).mono ?_
      rintro e w' ⟨rfl, n2, rfl⟩
      go_wp2_with fail
      exact ⟨⟨j + 1, by omega, by go_num, HST.out _⟩, by simp only [intOf]; omega⟩
    · have hj32 : j = 32 := by omega
      subst hj32
      have H1 := Lib.hid hrel.2.1
      have H2 := Lib.hid hrel.2.2
      have HL := Lib.hid hrel.last
      clear hrel
      go_wp2_with (first
        | refine wpList_load_row rfl 46 (.tmp 3) rfl (w.heap.size + 1) rfl 46 (partL (k + k) 32).toArray (0, 0) _ H2.out Tryd.underlying46 rfl (by rw [partL_size]; exact matSize) ?_
        | refine wpList_store_row rfl 46 (.tmp 2) (.tmp 19) rfl w.heap.size (partL (k + k) 32).toArray rfl rfl 46 _ H1.out (by rw [partL_size]; exact matSize) (by rw [partL_size, partL_size]) (partL_one _ _) ?_)
      exact bodyPost_ret (v := .agg (colL (k + k) 32).toArray) (results_cell_row Tryd.results26 _ _ w.heap.size _ _ _ _ rfl HL.out.2 Tryd.underlying46 rfl (by rw [← partL_full, partL_size]; exact matSize)) rfl ⟨rfl, HL.out.1⟩
end Go.Proofs.YtgclmiheahfakaaDoor
