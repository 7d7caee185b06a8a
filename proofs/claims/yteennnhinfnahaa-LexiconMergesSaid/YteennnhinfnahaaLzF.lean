/-
  WALKS over package lexicon, orders: numbersBy; comparisons by strings and by counts.
-/
import Derived.Test.YteennnhinfnahaaLzE
import Derived.Test.YteennnhinfnahaaLxN
import Derived.Test.YteennnhinfnahaaDaR
import Derived.Sort.Walk0
namespace Go.Proofs.Yteennnhinfnahaa
open Go.RowKit Go.Shelf Go.Lib Go.Sort
set_option linter.unusedVariables false
set_option linter.unusedSimpArgs false

theorem grown_sortZ {α : Type} [Inhabited α] (enc : α → Value) {w : World} {g m : Nat} {os : Array Obj} (d : Array α) : w.grownBy (sortWorld enc w g 0 m d os) (some g) := by
  unfold sortWorld
  refine ⟨rfl, rfl, rfl, by simp [putRow, mapBlock, Sort.ahead], fun k hk hne => ?_⟩
  rw [heap_grow_old _ _ (by simpa [putRow, mapBlock, Sort.ahead] using hk)]
  have : g ≠ k := fun e => hne (by rw [e])
  simp [putRow, mapBlock, Sort.ahead, Array.getElem?_modify, this]
def encZ' (n : Nat) (x : Fin n) : Value := .int .i64 (x.1 : Int)
/-- What an order of n numbers is. -/
def Srt (n : Nat) (cf : Fin n → Fin n → Int) (ord : List Nat) : Prop := ord.length = n ∧ (∀ x, x ∈ ord ↔ x < n) ∧ ∃ l : List (Fin n), ord = l.map (·.1) ∧ l.Pairwise (Tr (ltOf cf) (·.1))
def OrdV (w : World) (n : Nat) (cf : Fin n → Fin n → Int) (e : Ending) (w' : World) : Prop :=
  ∃ (v : Value) (ord : List Nat), e = .returned v ∧ Srt n cf ord ∧ Rows 1 EInt w' v (ord.map fun (j : Nat) => (j : Int)) ∧ Below w.heap.size w w'
theorem rows_sw {n g : Nat} {w w' : World} [Inhabited (Fin n)] {d0 d' : Array (Fin n)} (R : Row1 (encZ' n) w g 0 d0) (h0 : d0.size = n) (hs : d'.size = n) (S : SW (encZ' n) w g 0 d' w') : Rows 1 EInt w' (.slice (some ⟨g, 0, none⟩) n n) ((d'.toList.map (·.1)).map fun (j : Nat) => (j : Int)) := by
  have hlen : ((d'.toList.map (·.1)).map fun (j : Nat) => (j : Int)).length = n := by simp [hs]
  refine ⟨_, n, by rw [hlen], by rw [hlen]; exact Nat.le_refl _, fun _ => ⟨g, 0, rfl, S.lt R.hblk, fun j x hx => ⟨[.int .i64 x], rfl, rfl, fun i u hu => ?_⟩⟩⟩
  match i, hu with
  | 0, hu =>
    cases hu
    have hj : j < d'.size := by
      have := (List.getElem?_eq_some_iff.1 hx).1
      rw [hlen] at this
      omega
    have hcl := S.c1 R (by omega) j hj
    rw [getElem!_pos d' j hj] at hcl
    rw [List.map_map, List.getElem?_map, List.getElem?_eq_getElem (by simpa using hj)] at hx
    have hx := Option.some.inj hx
    rw [← hx]
    simpa [encZ'] using hcl
theorem srt_of {n : Nat} [Inhabited (Fin n)] {cf : Fin n → Fin n → Int} {d0 d' : Array (Fin n)} (h0 : d0.size = n) (hd : ∀ k : Fin n, d0[k.1]! = k) (hM : Mvd 0 n d0 d') (hS : SoT (ltOf cf) (·.1) d' 0 n) : Srt n cf (d'.toList.map (·.1)) := by
  have hs : d'.size = n := hM.size.trans h0
  refine ⟨by simp [hs], fun x => ⟨fun hx => ?_, fun hx => ?_⟩, d'.toList, rfl, ?_⟩
  · obtain ⟨y, _, rfl⟩ := List.mem_map.1 hx
    exact y.2
  · obtain ⟨j, _, j2, ej⟩ := hM.bck x (Nat.zero_le _) hx
    refine List.mem_map.2 ⟨d'[j]!, ?_, ?_⟩
    · rw [getElem!_pos d' j (by omega)]; simp
    · rw [← ej]
      have := hd ⟨x, hx⟩
      simp only at this
      rw [this]
  · rw [List.pairwise_iff_getElem]
    intro i j hi hj hij
    have hi' : i < d'.size := by simpa using hi
    have hj' : j < d'.size := by simpa using hj
    have := hS i j (Nat.zero_le _) hij (by omega)
    rw [getElem!_pos d' i hi', getElem!_pos d' j hj'] at this
    simpa using this

set_option maxHeartbeats 2000000 in
set_option maxRecDepth 1000000 in
theorem sortStable_none (A : Option Addr) (cap : Nat) (v : Value) (w : World) : Calls Try.prog 37 #[.slice A 0 cap, v] w fun e w' => e = .returned (.tuple #[]) ∧ w' = w := by
  have hI : Calls Try.prog 75 #[.slice A 0 cap, .int .i64 0, .int .i64 0, v] w fun e w' => e = .returned (.tuple #[]) ∧ w' = w := by
    go_enter Try.func75, Try.ntmps75
    go_wp2
    refine wp_loop_rounds 1 ?_
    rw [rounds_succ]
    go_wp2
    go_end0
    exact ⟨rfl, rfl⟩
  have hS : Calls Try.prog 59 #[.slice A 0 cap, .int .i64 0, v] w fun e w' => e = .returned (.tuple #[]) ∧ w' = w := by
    have HI := Lib.hid hI
    clear hI
    go_enter Try.func59, Try.ntmps59
    go_wp2
    refine wp_loop_rounds 1 ?_
    rw [rounds_succ]
    go_wp2_with (go_at_call 75; refine HI.out.mono ?_; rintro e w2 ⟨rfl, rfl⟩)
    refine wp_loop_rounds 1 ?_
    rw [rounds_succ]
    go_wp2
    go_end0
    exact ⟨rfl, rfl⟩
  have HS := Lib.hid hS
  clear hI hS
  go_enter Try.func37, Try.ntmps37
  go_wp2_with (go_at_call 59; refine HS.out.mono ?_; rintro e w2 ⟨rfl, rfl⟩)
  go_end0
  exact ⟨rfl, rfl⟩

/-- A block of numbers of the call's own. -/
structure BlS (w W : World) (N : Nat) (ds : List Int) : Prop where
  below : Below w.heap.size w W
  d : W.heap[N]? = some (.cells (intRow ds) 3 (0, 0))
theorem BlS.set {w W : World} {N : Nat} {ds : List Int} (h : BlS w W N ds) (hN : w.heap.size = N) (i : Nat) (x : Int) : BlS w (W.setCell ⟨N, i, none⟩ (.int .i64 x)) N (ds.set i x) :=
  ⟨h.below.trans ⟨rfl, rfl, rfl, by simp [World.setCell], fun k hk => Below.heap_setCell _ _ _ k (by show k ≠ N; omega)⟩, by rw [← intRow_set]; exact set_of h.d _⟩
/-- The first k numbers stand at their places. -/
def cntL0 (n k : Nat) : List Int := (List.range n).map fun j => if j < k then (j : Int) else 0
theorem cntL0_zero (n : Nat) : cntL0 n 0 = List.replicate n 0 := by
  apply List.ext_getElem?
  intro i
  simp only [cntL0, List.getElem?_map]
  by_cases h : i < n
  · rw [List.getElem?_range h, List.getElem?_replicate, if_pos h]; rfl
  · rw [List.getElem?_eq_none (by simp; omega), List.getElem?_eq_none (by simp; omega)]; rfl
theorem cntL0_set {n k : Nat} (hk : k < n) : (cntL0 n k).set k (k : Int) = cntL0 n (k + 1) := by
  apply List.ext_getElem?
  intro i
  simp only [cntL0, List.getElem?_map, List.getElem?_set, List.length_map, List.length_range]
  by_cases h : k = i
  · subst h
    rw [if_pos rfl, if_pos hk, List.getElem?_range hk]
    simp
  · rw [if_neg h]
    by_cases h2 : i < n
    · rw [List.getElem?_range h2]
      simp only [Option.map_some]
      by_cases h3 : i < k
      · rw [if_pos h3, if_pos (by omega)]
      · rw [if_neg h3, if_neg (by omega)]
    · rw [List.getElem?_eq_none (by simp; omega)]; rfl
theorem cntL0_get {n : Nat} {j : Nat} (hj : j < n) : (cntL0 n n)[j]? = some (j : Int) := by
  simp only [cntL0, List.getElem?_map, List.getElem?_range hj, Option.map_some, if_pos hj]
theorem cntL0_len (n k : Nat) : (cntL0 n k).length = n := by simp [cntL0]

set_option maxHeartbeats 4000000 in
set_option maxRecDepth 1000000 in
theorem numbersBy_any {w : World} {n : Nat} (hn : n ≤ 4096) (cf : Fin n → Fin n → Int) (O : SWO (ltOf cf)) (g : Nat) (cb : Array Value) (eg : ∀ args w, (callFunc g args).run Try.prog w = .ok (.enter g args) w)
    (hcl : ∀ W, Below w.heap.size w W → ∀ x y : Fin n, Calls Try.prog g (#[.int .i64 (x.1 : Int), .int .i64 (y.1 : Int)] ++ cb) W fun e w' => e = .returned (.int .i64 (cf x y)) ∧ ∃ q, w' = W.drewN q) :
    Calls Try.prog 84 #[.int .i64 n, .func (.func g) #[] cb] w (OrdV w n cf) := by
  obtain ⟨N, hN⟩ : ∃ N, w.heap.size = N := ⟨_, rfl⟩
  have HN := Lib.hid hN
  have HSRT := Lib.hid (show ∀ W1 : World, W1.heap[N]? = some (.cells (intRow (cntL0 n n)) 3 (0, 0)) → Below N w W1 → Calls Try.prog 37 #[.slice (some ⟨N, 0, none⟩) n n, .func (.func g) #[] cb] W1 fun e w' => e = .returned (.tuple #[]) ∧ OrdV w n cf (.returned (.slice (some ⟨N, 0, none⟩) n n)) w' by
    intro W1 hB1 hb1
    by_cases h0 : n = 0
    · subst h0
      refine (sortStable_none (some ⟨N, 0, none⟩) 0 (.func (.func g) #[] cb) W1).mono ?_
      rintro e w' ⟨rfl, rfl⟩
      exact ⟨rfl, _, [], rfl, ⟨rfl, fun x => by simp, [], rfl, List.Pairwise.nil⟩, Rows.empty _ _ _, by rw [hN]; exact hb1⟩
    · have hpos : 0 < n := by omega
      letI : Inhabited (Fin n) := ⟨⟨0, hpos⟩⟩
      obtain ⟨d0, hd0⟩ : ∃ d : Array (Fin n), d = Array.ofFn (fun i : Fin n => i) := ⟨_, rfl⟩
      have hsz : d0.size = n := by rw [hd0]; simp
      have hat : ∀ k : Fin n, d0[k.1]! = k := fun k => by
        rw [getElem!_pos d0 k.1 (by rw [hsz]; exact k.2)]
        subst hd0
        rw [Array.getElem_ofFn]
      have hH : Holds (encZ' n) W1 N 0 d0 := fun j hj => by
        rw [hsz] at hj
        have := hat ⟨j, hj⟩
        simp only at this
        rw [this, Nat.zero_add]
        refine ⟨cell_of hB1 ?_, frozen_of hB1⟩
        unfold intRow
        rw [List.getElem?_toArray, List.getElem?_map, cntL0_get hj]
        rfl
      have hlt : N < W1.heap.size := (Array.getElem?_eq_some_iff.1 hB1).1
      have R : Row1 (encZ' n) W1 N 0 d0 := ⟨fun _ => rfl, hH, hlt⟩
      have hcmp : CmpReads Try.prog g cb (encZ' n) cf N 0 d0.size W1 := fun m os dk hs x y => by
        have hgr := grown_sortZ (w := W1) (g := N) (m := m) (os := os) (encZ' n) dk
        have hb2 := below_of_grown hgr (Nat.le_of_lt hlt) (fun k e => by cases e; exact Nat.le_refl _)
        exact hcl _ (by rw [hN]; exact hb1.trans hb2) x y
      refine (sortStable_any (encZ' n) cf (·.1) O g cb N 0 n n d0 W1 eg hcmp.lays R hsz (by omega) (fun k hk => by have := hat ⟨k, hk⟩; simp only at this; rw [this])).mono ?_
      rintro e w' ⟨rfl, d', hM, hS, hSW⟩
      refine ⟨rfl, _, d'.toList.map (·.1), rfl, srt_of hsz hat hM hS, rows_sw R hsz (hM.size.trans hsz) hSW, ?_⟩
      obtain ⟨m, os, rfl⟩ := hSW
      have hgr := grown_sortZ (w := W1) (g := N) (m := m) (os := os) (encZ' n) d'
      rw [hN]
      exact hb1.trans (below_of_grown hgr (Nat.le_of_lt hlt) (fun k e => by cases e; exact Nat.le_refl _)))
  obtain ⟨i1, hi1, hy0, hy1, hy2⟩ := info_parts' Try.infoInt2
  have hmk : ∀ W : World, (Instr.makeSlice 22 (.int .i64 n) (.int .i64 n)).run Try.prog W = .ok (.slice (some ⟨W.heap.size, 0, none⟩) n n) (W.alloc (.cells (intRow (List.replicate n 0)) 3)) := fun W => by
    have := run_make (P := Try.prog) W 22 3 i1 _ Try.underlying22 hi1 hy0 .i64 .i64 n n (by omega) (by omega) (by rw [hy2]; omega) (by omega)
    rw [Int.toNat_natCast, hy1, Nat.mul_one] at this
    rw [← made_int]
    exact this
  obtain ⟨W0, hW0⟩ : ∃ W0, w.alloc (.cells (intRow (List.replicate n 0)) 3) = W0 := ⟨_, rfl⟩
  have hst0 : BlS w W0 N (cntL0 n 0) := by
    have b1 := block_new w (.cells (intRow (List.replicate n 0)) 3)
    rw [hN] at b1
    rw [← hW0, cntL0_zero]
    exact ⟨below_box w _, b1⟩
  have HST0 := Lib.hid hst0
  have HW0 := Lib.hid hW0
  clear hcl O hst0 hW0 hN
  go_enter Try.func84, Try.ntmps84
  go_wp2_with fail
  rw [HW0.out, HN.out]
  go_loopw [11] (fun sv wr => ∃ s : Nat, s ≤ n ∧ sv = .int .i64 s ∧ Hid (BlS w wr N (cntL0 n s))) (fun sv _ => n - (Go.RowKit.intOf sv).toNat)
  case atStart => exact ⟨0, Nat.zero_le _, rfl, HST0⟩
  case round =>
    clear HST0 HW0 hmk
    obtain ⟨s, hsn, rfl, HS⟩ := hrel
    by_cases hlt : s < n
    · have hlti : (s : Int) < (n : Int) := by omega
      obtain ⟨c, hcc⟩ : ∃ c, (cntL0 n s).getD s 0 = c := ⟨_, rfl⟩
      have kw : wr.cell? ⟨N, s, none⟩ = some (.int .i64 c) := by
        rw [← hcc]
        exact cell_of HS.out.d (intRow_get (by rw [cntL0_len]; exact hlt))
      have fw : wr.frozen? ⟨N, s, none⟩ = false := frozen_of HS.out.d
      have HNX := Lib.hid (show BlS w (wr.setCell ⟨N, s, none⟩ (.int .i64 (s : Int))) N (cntL0 n (s + 1)) by
        rw [← cntL0_set hlt]
        exact HS.out.set HN.out s (s : Int))
      clear hcc HS
      go_wp2_with fail
      exact ⟨⟨s + 1, by omega, by go_num, HNX⟩, by simp only [Go.RowKit.intOf]; omega⟩
    · obtain rfl : s = n := by omega
      have hlti : ¬ (s : Int) < (s : Int) := by omega
      have HC := Lib.hid (HSRT.out wr HS.out.d (by rw [← HN.out]; exact HS.out.below))
      clear HSRT HS
      go_wp2_with (go_at_call 37; refine HC.out.mono ?_; rintro e w2 ⟨rfl, h2⟩)
      have HE := Lib.hid h2
      clear h2
      go_ret
      exact HE.out
end Go.Proofs.Yteennnhinfnahaa
