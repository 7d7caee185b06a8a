/-
  WALKS over package interval: points, their order, slices.SortFunc at a rise.
-/
import Derived.Test.YtpkkebojiengpaaIbH
namespace Go.Proofs.Ytpkkebojiengpaa
open Go.RowKit Go.Shelf Go.Lib Go.Sort
set_option linter.unusedVariables false
set_option linter.unusedSimpArgs false

theorem results_end {tmps : Array Value} {W : World} {B : Nat} {a b : Int} (h2 : tmps[2]? = some (.pointer (some ⟨B, 0, none⟩))) (hB : W.heap[B]? = some (.cells #[.int .i64 a, .int .i64 b] 57 (0, 0))) :
    (results Try.f34 tmps).run Try.prog W = .ok (.agg #[.int .i64 a, .int .i64 b]) W := by
  have q1 := cell_of (i := 0) hB rfl
  have q2 := cell_of (i := 1) hB rfl
  simp [results, Try.f34, go_sem, h2, q1, q2]
theorem results_begin {tmps : Array Value} {W : World} {B : Nat} {a b : Int} (h2 : tmps[2]? = some (.pointer (some ⟨B, 0, none⟩))) (hB : W.heap[B]? = some (.cells #[.int .i64 a, .int .i64 b] 57 (0, 0))) :
    (results Try.f40 tmps).run Try.prog W = .ok (.agg #[.int .i64 a, .int .i64 b]) W := by
  have q1 := cell_of (i := 0) hB rfl
  have q2 := cell_of (i := 1) hB rfl
  simp [results, Try.f40, go_sem, h2, q1, q2]
/-- What a function from a span to a point answers. -/
def PtV (w : World) (p : Sp) (e : Ending) (w' : World) : Prop := e = .returned (.agg #[.int .i64 p.1, .int .i64 p.2]) ∧ Below w.heap.size w w'
theorem set2_below {w W : World} {N B : Nat} (hb : Below N w W) (hB : N ≤ B) (a b : Value) : Below N w ((W.setCell ⟨B, 0, none⟩ a).setCell ⟨B, 1, none⟩ b) := (hb.setCell (p := ⟨B, 0, none⟩) hB a).setCell (p := ⟨B, 1, none⟩) hB b

set_option maxHeartbeats 1000000 in
theorem endAtBegin_any (x : Sp) (w : World) : Calls Try.prog 34 #[.agg #[.int .i64 x.1, .int .i64 x.2]] w (PtV w x) := by
  obtain ⟨b, e⟩ := x
  go_enter Try.func34, Try.ntmps34
  go_wp2_with fail
  have h2 := block_new (w.alloc (.cells #[.int .i64 b, .int .i64 e] 31)) (.cells #[.int .i64 b, .int .i64 e] 57)
  rw [alloc_sz] at h2
  exact bodyPost_ret (results_end rfl h2) rfl ⟨rfl, below_box2 w _ _⟩
set_option maxHeartbeats 1000000 in
theorem beginAtEnd_any (x : Sp) (w : World) : Calls Try.prog 40 #[.agg #[.int .i64 x.1, .int .i64 x.2]] w (PtV w (flipS x)) := by
  obtain ⟨b, e⟩ := x
  go_enter Try.func40, Try.ntmps40
  go_wp2_with fail
  have h2 := block_new (w.alloc (.cells #[.int .i64 b, .int .i64 e] 31)) (.cells #[.int .i64 e, .int .i64 b] 57)
  rw [alloc_sz] at h2
  exact bodyPost_ret (results_begin rfl h2) rfl ⟨rfl, below_box2 w _ _⟩
set_option maxHeartbeats 1000000 in
theorem point1_any (x y : Sp) (w : World) : Calls Try.prog 50 #[.agg #[.int .i64 x.1, .int .i64 x.2], .agg #[.int .i64 y.1, .int .i64 y.2]] w fun e w' => e = .returned (.int .i64 (Lib.compareInt x.1 y.1)) ∧ ∃ q os, w' = grow (w.drewN q) os := by
  obtain ⟨b, e⟩ := x
  obtain ⟨c, d⟩ := y
  simp only
  have h1 := fun W => Try.cmp_Compare_int b c W
  obtain ⟨z1, hz1⟩ : ∃ z, Lib.compareInt b c = z := ⟨_, rfl⟩
  rw [hz1] at h1 ⊢
  have H1 := Lib.hid h1
  clear h1 hz1
  go_enter Try.func50, Try.ntmps50
  go_wp2_with fail
  refine (H1.out _).mono ?_
  rintro e w' ⟨rfl, rfl⟩
  go_wp2_with fail
  go_ret
  exact ⟨rfl, 0, _, by rw [alloc_eq_grow, alloc_eq_grow, grow_grow]; rfl⟩
def cfP (a b : Sp) : Int := Lib.compareInt a.1 b.1
theorem ltP (x y : Sp) : ltOf cfP x y = decide (x.1 < y.1) := by
  unfold ltOf cfP Lib.compareInt
  by_cases h1 : x.1 < y.1
  · simp [h1]
  · by_cases h2 : y.1 < x.1 <;> simp [h1, h2]
theorem swoP : SWO (ltOf cfP) where
  irrefl x := by rw [ltP]; simp
  trans x y z h1 h2 := by rw [ltP] at *; simp at *; omega
  ntrans x y z h1 h2 := by rw [ltP] at *; simp at *; omega
theorem cmpLaysP (blk off size : Nat) (w : World) : CmpLays Try.prog 50 #[] spV 2 cfP blk off size w :=
  fun _ _ _ _ x y => point1_any x y _

set_option maxRecDepth 100000 in
set_option maxHeartbeats 1000000 in
theorem sortPt_any {w : World} {base g n cap : Nat} {ks : List Sp} (hn : ks.length = n) (hN : n ≤ 1000000) (h : w.ownsRow base 57 2 (.slice (some ⟨g, 0, none⟩) n cap) n (ks.flatMap spV)) :
    Calls Try.prog 49 #[.slice (some ⟨g, 0, none⟩) n cap, .func (.func 50) #[] #[]] w fun e w' => e = .returned (.tuple #[]) ∧
      (∃ ts : List Sp, ts.Perm ks ∧ ts.Pairwise (fun a b => a.1 ≤ b.1) ∧ w'.ownsRow base 57 2 (.slice (some ⟨g, 0, none⟩) n cap) n (ts.flatMap spV)) ∧ w.grownBy w' (some g) := by
  obtain ⟨hH, hb, hlt⟩ := own_holds hn h
  have hsz : ks.toArray.size = n := by simpa using hn
  have hlim : Lib.bitLen n < 4611686018427387904 := Nat.lt_of_le_of_lt (Lib.bitLen_le n 62 (by omega) (by omega)) (by omega)
  have hp := AnyQ.pdqsortCmpFunc_all (P := Try.prog) Try.laysPdqPt 2 Try.isAgg57 Try.sizeOf57 spV cfP 50 #[] swoP g 0 cap ks.toArray w
    (enters_of Try.func50 (by kernel_rfl) rfl) (cmpLaysP g 0 _ w) ⟨spV_len, spV_one, hH, hlt⟩ (ks.toArray.size + 1) 0 ks.toArray.size (Lib.bitLen ks.toArray.size) ks.toArray w (by omega) rfl (SWK.start hH) (Nat.zero_le _) (Nat.le_refl _) (by omega) (by rw [hsz]; exact hlim) (Or.inl rfl)
  have hsort := pdq_sorts (ltOf cfP) swoP ks.toArray 0 ks.toArray.size (Lib.bitLen ks.toArray.size) true true (Nat.zero_le _) (Nat.le_refl _) (Or.inl rfl)
  rw [hsz] at hp hsort
  change Calls Try.prog 58 _ _ _ at hp
  obtain ⟨d', hd'⟩ : ∃ d', pdq (ltOf cfP) ks.toArray 0 n (Lib.bitLen n) true true = d' := ⟨_, rfl⟩
  rw [hd'] at hp hsort
  have hl := Try.bits_Len (n : Int) w (by omega) (by omega)
  rw [Int.toNat_natCast] at hl
  have hfin : ∀ w', SWK spV 2 w g 0 d' w' → (∃ ts : List Sp, ts.Perm ks ∧ ts.Pairwise (fun a b => a.1 ≤ b.1) ∧ w'.ownsRow base 57 2 (.slice (some ⟨g, 0, none⟩) n cap) n (ts.flatMap spV)) ∧ w.grownBy w' (some g) := by
    rintro w' ⟨m, os, rfl⟩
    obtain ⟨⟨hs, _, hpp⟩, hsrt⟩ := hsort
    have hds : d'.size = n := by rw [hs, hsz]
    refine ⟨⟨d'.toList, perm_all hn hds hpp, ?_, own_sorted h d' hds m os⟩, grown_sort2 d'⟩
    rw [List.pairwise_iff_getElem]
    intro i j hi hj hij
    have hi' : i < d'.size := by simpa using hi
    have hj' : j < d'.size := by simpa using hj
    have := hsrt i j (Nat.zero_le _) hij (by omega)
    rw [getElem!_pos d' i hi', getElem!_pos d' j hj', ltP] at this
    simp only [decide_eq_false_iff_not, Int.not_lt] at this
    simp only [Array.getElem_toList]
    exact this
  have HP := Lib.hid hp
  have HL := Lib.hid hl
  have HF := Lib.hid hfin
  have wr : IntKind.u64.wrap (n : Int) = n := by simp [IntKind.wrap, IntKind.bits, IntKind.signed]; omega
  clear hp hl hfin hsort hd' hlim hsz hH hlt hb h hn
  go_enter Try.func49, Try.ntmps49
  go_wp2_with fail
  refine HL.out.mono ?_
  rintro e w1 ⟨rfl, rfl⟩
  go_wp2_with fail
  refine HP.out.mono ?_
  rintro e w2 ⟨rfl, hs⟩
  have HS := Lib.hid (HF.out w2 hs)
  clear hs
  go_wp2_with fail
  go_end0
  exact ⟨rfl, HS.out⟩
end Go.Proofs.Ytpkkebojiengpaa
