/-
  CorpusOrders is proved: for every region and every region and every region the call of the law returns true, and each argument reads afterwards as it read before. It has no condition.
-/
import Derived.Test.YtglafkonpbcegaaGreatRows
import Derived.Test.YtglafkonpbcegaaGreatOqU
import Derived.Test.YtglafkonpbcegaaGreatQsB
import Derived.Test.YtglafkonpbcegaaGreatQmE
import Derived.ProofKit
import Derived.OpenShut
import Derived.Carry
namespace Go.Proofs.YtglafkonpbcegaaGreat.corpusOrders
open Go.ChangeShapes Go.WideShapes Go.ChangeAt Go.RowKit Go.Shelf Go.Lib
set_option linter.unusedVariables false

attribute [local go_sem ↓] Go.wp_at_zero Go.wp_at_succ
def oneR (x : Ex) : Cor := ⟨[], [], [], [x], [], [], []⟩
theorem oneR_inj (x y : Ex) : oneR x = oneR y ↔ x = y := ⟨fun h => by unfold oneR at h; injection h with _ _ _ h; injection h, fun h => by rw [h]⟩
theorem oneR_at {W : World} {G : Nat} {x : Ex} {A : Option Addr} {l c : Nat} (hg : W.heap[G]? = some (.cells #[.string ⟨x.name.toArray⟩, .int .i64 x.b, .int .i64 x.e, .slice A l c] 39 (0, 0))) (hr : Rows 2 EPair W (.slice A l c) x.ps) :
    CorAt W ⟨.slice none 0 0, .slice none 0 0, .slice none 0 0, .slice (some ⟨G, 0, none⟩) 1 1, .slice none 0 0, .slice none 0 0, .slice none 0 0⟩ (oneR x) :=
  ⟨Rows.nil _, Rows.nil _, Rows.nil _, rows_block hg _ _ rfl fun j y hy => by
    match j, hy with
    | 0, hy => cases hy; exact ⟨_, rfl, ⟨_, rfl, hr⟩, rfl⟩, Rows.nil _, Rows.nil _, Rows.nil _⟩
theorem oneR_len {x : Ex} (h : x.ps.length ≤ maxLen) : LenC (oneR x) := ⟨Nat.zero_le _, ⟨Nat.zero_le _, fun t ht => by simp [oneR] at ht⟩, ⟨Nat.zero_le _, fun t ht => by simp [oneR] at ht⟩, ⟨by unfold maxLen; simp [oneR], fun t ht => (show t = x by simpa [oneR] using ht) ▸ h⟩, Nat.zero_le _, Nat.zero_le _⟩
set_option maxRecDepth 1000000 in
set_option maxHeartbeats 16000000 in
theorem walk {w : World} (x : Ex) (u0 : Value) (hu0 : Rows 2 EPair w u0 x.ps) (hx : rEx x) (y : Ex) (u1 : Value) (hu1 : Rows 2 EPair w u1 y.ps) (hy : rEx y) (z : Ex) (u2 : Value) (hu2 : Rows 2 EPair w u2 z.ps) (hz : rEx z) :
    Calls Tryz.prog 5 #[.agg #[.string ⟨x.name.toArray⟩, .int .i64 x.b, .int .i64 x.e, u0], .agg #[.string ⟨y.name.toArray⟩, .int .i64 y.b, .int .i64 y.e, u1], .agg #[.string ⟨z.name.toArray⟩, .int .i64 z.b, .int .i64 z.e, u2]] w fun e w1 => e = .returned (.bool true) ∧ Below w.heap.size w w1 := by
  have hab := fun W (h : Below w.heap.size w W) => compareRegions_any x y u0 u1 (hu0.below stays_pair h) (hu1.below stays_pair h) hx.2.2.2.1 hy.2.2.2.1
  have hbc := fun W (h : Below w.heap.size w W) => compareRegions_any y z u1 u2 (hu1.below stays_pair h) (hu2.below stays_pair h) hy.2.2.2.1 hz.2.2.2.1
  have hac := fun W (h : Below w.heap.size w W) => compareRegions_any x z u0 u2 (hu0.below stays_pair h) (hu2.below stays_pair h) hx.2.2.2.1 hz.2.2.2.1
  have hba := fun W (h : Below w.heap.size w W) => compareRegions_any y x u1 u0 (hu1.below stays_pair h) (hu0.below stays_pair h) hy.2.2.2.1 hx.2.2.2.1
  obtain ⟨A0, c0, rfl, -⟩ := hu0.form
  obtain ⟨A1, c1, rfl, -⟩ := hu1.form
  obtain ⟨A2, c2, rfl, -⟩ := hu2.form
  obtain ⟨l0, hl0⟩ : ∃ n, x.ps.length = n := ⟨_, rfl⟩
  obtain ⟨l1, hl1⟩ : ∃ n, y.ps.length = n := ⟨_, rfl⟩
  obtain ⟨l2, hl2⟩ : ∃ n, z.ps.length = n := ⟨_, rfl⟩
  have heq : ∀ W, Below w.heap.size w W → ∀ G, W.heap[G]? = some (.cells #[.string ⟨x.name.toArray⟩, .int .i64 x.b, .int .i64 x.e, .slice A0 l0 c0] 39 (0, 0)) → W.heap[G + 1]? = some (.cells #[.string ⟨y.name.toArray⟩, .int .i64 y.b, .int .i64 y.e, .slice A1 l1 c1] 39 (0, 0)) →
      Calls Tryz.prog 20 #[.agg #[.slice none 0 0, .slice none 0 0, .slice none 0 0, .slice (some ⟨G, 0, none⟩) 1 1, .slice none 0 0, .slice none 0 0, .slice none 0 0], .agg #[.slice none 0 0, .slice none 0 0, .slice none 0 0, .slice (some ⟨G + 1, 0, none⟩) 1 1, .slice none 0 0, .slice none 0 0, .slice none 0 0]] W fun e w' => e = .returned (.bool (decide (oneR x = oneR y))) ∧ Below W.heap.size W w' := fun W hW G h1 h2 => by
    have r0 := hu0.below stays_pair hW
    have r1 := hu1.below stays_pair hW
    rw [hl0] at r0
    rw [hl1] at r1
    exact refEqual_any ⟨.slice none 0 0, .slice none 0 0, .slice none 0 0, .slice (some ⟨G, 0, none⟩) 1 1, .slice none 0 0, .slice none 0 0, .slice none 0 0⟩ ⟨.slice none 0 0, .slice none 0 0, .slice none 0 0, .slice (some ⟨G + 1, 0, none⟩) 1 1, .slice none 0 0, .slice none 0 0, .slice none 0 0⟩ (oneR_at h1 r0) (oneR_at h2 r1) (oneR_len hx.2.2.2.1) (oneR_len hy.2.2.2.1) (Nat.zero_le _)
  have hanti := ord_reg.anti x y
  have hzero : cmpR x y = 0 ↔ x = y := ⟨ord_reg.zero x y, fun h => by rw [h]; exact ord_reg.self y⟩
  have h3x := ord_reg.three x y
  have h3y := ord_reg.three y z
  have h3z := ord_reg.three x z
  have htr1 := ord_reg.le x y z
  have htr2 := ord_reg.le z y x
  rw [ord_reg.anti y z, ord_reg.anti x y, ord_reg.anti x z] at htr2
  have hsame : decide (oneR x = oneR y) = decide (cmpR x y = 0) := by
    rw [Bool.eq_iff_iff, decide_eq_true_iff, decide_eq_true_iff, oneR_inj, hzero]
  rw [hsame] at heq
  rw [hanti] at hba
  obtain ⟨p, hp⟩ : ∃ p, cmpR x y = p := ⟨_, rfl⟩
  obtain ⟨q, hq⟩ : ∃ q, cmpR y z = q := ⟨_, rfl⟩
  obtain ⟨r, hr⟩ : ∃ r, cmpR x z = r := ⟨_, rfl⟩
  rw [hp] at hab hba heq h3x htr1 htr2
  rw [hq] at hbc h3y htr1 htr2
  rw [hr] at hac h3z htr1 htr2
  rw [hl0, hl1] at hab hba
  rw [hl1, hl2] at hbc
  rw [hl0, hl2] at hac
  have hT : (p ≤ 0 → q ≤ 0 → r ≤ 0) ∧ (0 ≤ p → 0 ≤ q → 0 ≤ r) := ⟨htr1, fun h1 h2 => by have := htr2 (by omega) (by omega); omega⟩
  obtain ⟨P0, hP0⟩ : ∃ s : ByteArray, (⟨x.name.toArray⟩ : ByteArray) = s := ⟨_, rfl⟩
  obtain ⟨P1, hP1⟩ : ∃ s : ByteArray, (⟨y.name.toArray⟩ : ByteArray) = s := ⟨_, rfl⟩
  obtain ⟨P2, hP2⟩ : ∃ s : ByteArray, (⟨z.name.toArray⟩ : ByteArray) = s := ⟨_, rfl⟩
  obtain ⟨b0, hb0⟩ : ∃ s, x.b = s := ⟨_, rfl⟩
  obtain ⟨e0, he0⟩ : ∃ s, x.e = s := ⟨_, rfl⟩
  obtain ⟨b1, hb1⟩ : ∃ s, y.b = s := ⟨_, rfl⟩
  obtain ⟨e1, he1⟩ : ∃ s, y.e = s := ⟨_, rfl⟩
  obtain ⟨b2, hb2⟩ : ∃ s, z.b = s := ⟨_, rfl⟩
  obtain ⟨e2, he2⟩ : ∃ s, z.e = s := ⟨_, rfl⟩
  simp only [hP0, hP1, hP2, hb0, he0, hb1, he1, hb2, he2, hl0, hl1, hl2] at hab hbc hac hba heq ⊢
  clear hu0 hu1 hu2 hx hy hz hl0 hl1 hl2 hP0 hP1 hP2 hb0 he0 hb1 he1 hb2 he2 hanti hzero htr1 htr2 hsame hp hq hr
  obtain ⟨X, hX⟩ : ∃ X, ((w.alloc (.cells #[.string P0, .int .i64 b0, .int .i64 e0, .slice A0 l0 c0] 39)).alloc (.cells #[.string P1, .int .i64 b1, .int .i64 e1, .slice A1 l1 c1] 39)).alloc (.cells #[.string P2, .int .i64 b2, .int .i64 e2, .slice A2 l2 c2] 39) = X := ⟨_, rfl⟩
  have hbX : Below w.heap.size w X := by rw [← hX]; exact ((below_box w _).trans ((below_box _ _).mono (by simp))).trans ((below_box _ _).mono (by simp; omega))
  by_cases h0 : 20 < l0
  · have k0 : (20 : Int) < (l0 : Int) := by omega
    have HC := Lib.hid hbX
    have HX := Lib.hid hX
    clear hab hbc hac hba heq h3x h3y h3z hT hX hbX
    go_enter Tryz.func5, Tryz.ntmps5
    go_wp2_with fail
    go_ret
    exact ⟨rfl, HX.out ▸ HC.out⟩
  by_cases h1 : 20 < l1
  · have k1 : (20 : Int) < (l1 : Int) := by omega
    have k0 : ¬ (20 : Int) < (l0 : Int) := by omega
    have HC := Lib.hid hbX
    have HX := Lib.hid hX
    clear hab hbc hac hba heq h3x h3y h3z hT hX hbX
    go_enter Tryz.func5, Tryz.ntmps5
    go_wp2_with fail
    go_ret
    exact ⟨rfl, HX.out ▸ HC.out⟩
  by_cases h2 : 20 < l2
  · have k2 : (20 : Int) < (l2 : Int) := by omega
    have k0 : ¬ (20 : Int) < (l0 : Int) := by omega
    have k1 : ¬ (20 : Int) < (l1 : Int) := by omega
    have HC := Lib.hid hbX
    have HX := Lib.hid hX
    clear hab hbc hac hba heq h3x h3y h3z hT hX hbX
    go_enter Tryz.func5, Tryz.ntmps5
    go_wp2_with fail
    go_ret
    exact ⟨rfl, HX.out ▸ HC.out⟩
  have hg0 : ¬ (20 : Int) < (l0 : Int) := by omega
  have hg1 : ¬ (20 : Int) < (l1 : Int) := by omega
  have hg2 : ¬ (20 : Int) < (l2 : Int) := by omega
  obtain ⟨N0, hN0⟩ : ∃ N0, w.heap.size = N0 := ⟨_, rfl⟩
  have x0 : X.heap[N0]? = some (.cells #[.string P0, .int .i64 b0, .int .i64 e0, .slice A0 l0 c0] 39 (0, 0)) := by rw [← hX, ← hN0]; exact block_alloc _ (block_alloc _ (block_new w _))
  have x1 : X.heap[N0 + 1]? = some (.cells #[.string P1, .int .i64 b1, .int .i64 e1, .slice A1 l1 c1] 39 (0, 0)) := by
    have := block_new (w.alloc (.cells #[.string P0, .int .i64 b0, .int .i64 e0, .slice A0 l0 c0] 39)) (.cells #[.string P1, .int .i64 b1, .int .i64 e1, .slice A1 l1 c1] 39)
    rw [alloc_sz, hN0] at this
    rw [← hX]
    exact block_alloc _ this
  have x2 : X.heap[N0 + 1 + 1]? = some (.cells #[.string P2, .int .i64 b2, .int .i64 e2, .slice A2 l2 c2] 39 (0, 0)) := by
    have := block_new ((w.alloc (.cells #[.string P0, .int .i64 b0, .int .i64 e0, .slice A0 l0 c0] 39)).alloc (.cells #[.string P1, .int .i64 b1, .int .i64 e1, .slice A1 l1 c1] 39)) (.cells #[.string P2, .int .i64 b2, .int .i64 e2, .slice A2 l2 c2] 39)
    rw [alloc_sz, alloc_sz, hN0] at this
    rw [← hX]
    exact this
  obtain ⟨X1, hX1⟩ : ∃ X1, X.drew = X1 := ⟨_, rfl⟩
  have hbX1 : Below X.heap.size X X1 := by rw [← hX1]; exact (Below.refl X.heap.size X).drew
  have z0 := block_below x0 hbX1 (lt_blk x0)
  have z1 := block_below x1 hbX1 (lt_blk x1)
  have z2 := block_below x2 hbX1 (lt_blk x2)
  have hwX : Below w.heap.size w X1 := hbX.trans (hbX1.mono hbX.size)
  have HS := Lib.hid (fun W (h : Below X1.heap.size X1 W) => show W.cell? ⟨N0, 0, none⟩ = some (.string P0) ∧ W.cell? ⟨N0, 1, none⟩ = some (.int .i64 b0) ∧ W.cell? ⟨N0, 2, none⟩ = some (.int .i64 e0) ∧ W.cell? ⟨N0, 3, none⟩ = some (.slice A0 l0 c0) ∧ W.cell? ⟨N0 + 1, 0, none⟩ = some (.string P1) ∧ W.cell? ⟨N0 + 1, 1, none⟩ = some (.int .i64 b1) ∧ W.cell? ⟨N0 + 1, 2, none⟩ = some (.int .i64 e1) ∧ W.cell? ⟨N0 + 1, 3, none⟩ = some (.slice A1 l1 c1) ∧ W.cell? ⟨N0 + 1 + 1, 0, none⟩ = some (.string P2) ∧ W.cell? ⟨N0 + 1 + 1, 1, none⟩ = some (.int .i64 b2) ∧ W.cell? ⟨N0 + 1 + 1, 2, none⟩ = some (.int .i64 e2) ∧ W.cell? ⟨N0 + 1 + 1, 3, none⟩ = some (.slice A2 l2 c2) from
    ⟨cell_of (block_below z0 h (lt_blk z0)) rfl, cell_of (block_below z0 h (lt_blk z0)) rfl, cell_of (block_below z0 h (lt_blk z0)) rfl, cell_of (block_below z0 h (lt_blk z0)) rfl, cell_of (block_below z1 h (lt_blk z1)) rfl, cell_of (block_below z1 h (lt_blk z1)) rfl, cell_of (block_below z1 h (lt_blk z1)) rfl, cell_of (block_below z1 h (lt_blk z1)) rfl, cell_of (block_below z2 h (lt_blk z2)) rfl, cell_of (block_below z2 h (lt_blk z2)) rfl, cell_of (block_below z2 h (lt_blk z2)) rfl, cell_of (block_below z2 h (lt_blk z2)) rfl⟩)
  have HAB := Lib.hid (fun W (h : Below X1.heap.size X1 W) => hab W (hwX.trans (h.mono hwX.size)))
  have HBC := Lib.hid (fun W (h : Below X1.heap.size X1 W) => hbc W (hwX.trans (h.mono hwX.size)))
  have HAC := Lib.hid (fun W (h : Below X1.heap.size X1 W) => hac W (hwX.trans (h.mono hwX.size)))
  have HBA := Lib.hid (fun W (h : Below X1.heap.size X1 W) => hba W (hwX.trans (h.mono hwX.size)))
  have HEQ := Lib.hid (fun W (h : Below X1.heap.size X1 W) => heq W (hwX.trans (h.mono hwX.size)))
  have HX3 := Lib.hid h3x
  have HY3 := Lib.hid h3y
  have HZ3 := Lib.hid h3z
  have HT := Lib.hid hT
  have HX := Lib.hid hX
  have HX1 := Lib.hid hX1
  have HBX := Lib.hid hwX
  have HB0 := Lib.hid (Below.refl X1.heap.size X1)
  have HN0 := Lib.hid hN0
  clear hab hbc hac hba heq h3x h3y h3z hT hX hX1 hbX hbX1 hwX x0 x1 x2 z0 z1 z2 hN0 h0 h1 h2
  go_enter Tryz.func5, Tryz.ntmps5
  go_wp2_with fail
  rw [HX.out, HN0.out]
  refine wp_region_held_drew (S := (fun w' => w'.cell? ⟨N0, 0, none⟩ = some (.string P0) ∧ w'.cell? ⟨N0, 1, none⟩ = some (.int .i64 b0) ∧ w'.cell? ⟨N0, 2, none⟩ = some (.int .i64 e0) ∧ w'.cell? ⟨N0, 3, none⟩ = some (.slice A0 l0 c0) ∧ w'.cell? ⟨N0 + 1, 0, none⟩ = some (.string P1) ∧ w'.cell? ⟨N0 + 1, 1, none⟩ = some (.int .i64 b1) ∧ w'.cell? ⟨N0 + 1, 2, none⟩ = some (.int .i64 e1) ∧ w'.cell? ⟨N0 + 1, 3, none⟩ = some (.slice A1 l1 c1) ∧ w'.cell? ⟨N0 + 1 + 1, 0, none⟩ = some (.string P2) ∧ w'.cell? ⟨N0 + 1 + 1, 1, none⟩ = some (.int .i64 b2) ∧ w'.cell? ⟨N0 + 1 + 1, 2, none⟩ = some (.int .i64 e2) ∧ w'.cell? ⟨N0 + 1 + 1, 3, none⟩ = some (.slice A2 l2 c2))) (by kernel_rfl) ?_ (fun hHeld => ?_)
  · (try dsimp only); (rw [HX1.out]; exact HS.out X1 HB0.out)
  rw [HX1.out] at hHeld ⊢
  refine wpAnyH_take (i := 0) (oi := ?oi1) (v := ?v1) ?hi1 (by kernel_rfl) (by kernel_rfl) (by kernel_rfl) ?hq1 ?hy1 (by assumption) ?hr1
  case hi1 => (simp only [List.getElem?_toArray, List.getElem?_cons_zero]; rfl)
  case hq1 => exact fun _ _ _ h => h
  case hy1 => exact Or.inl ⟨by rfl, by intro whSw hSw'; (try dsimp only at hSw'); (first | (go_simp; done) | (go_simp; with_reducible rfl))⟩
  try simp only [Act.put, List.setIfInBounds_toArray, List.set_cons_zero, List.set_cons_succ]
  refine wpAnyH_take (i := 1) (oi := ?oi2) (v := ?v2) ?hi2 (by kernel_rfl) (by kernel_rfl) (by kernel_rfl) ?hq2 ?hy2 (by assumption) ?hr2
  case hi2 => (simp only [List.getElem?_toArray, List.getElem?_cons_succ, List.getElem?_cons_zero]; rfl)
  case hq2 => exact fun _ _ _ h => h
  case hy2 => exact Or.inl ⟨by rfl, by intro whSw hSw'; (try dsimp only at hSw'); (first | (go_simp; done) | (go_simp; with_reducible rfl))⟩
  try simp only [Act.put, List.setIfInBounds_toArray, List.set_cons_zero, List.set_cons_succ]
  refine wpAnyH_take (i := 3) (oi := ?oi3) (v := ?v3) ?hi3 (by kernel_rfl) (by kernel_rfl) (by kernel_rfl) ?hq3 ?hy3 (by assumption) ?hr3
  case hi3 => (simp only [List.getElem?_toArray, List.getElem?_cons_succ, List.getElem?_cons_zero]; rfl)
  case hq3 => exact fun _ _ _ h => h
  case hy3 => exact Or.inl ⟨by rfl, by intro whSw hSw'; (try dsimp only at hSw'); (first | (go_simp; done) | (go_simp; with_reducible rfl))⟩
  try simp only [Act.put, List.setIfInBounds_toArray, List.set_cons_zero, List.set_cons_succ]
  refine wpAnyH_take (i := 4) (oi := ?oi4) (v := ?v4) ?hi4 (by kernel_rfl) (by kernel_rfl) (by kernel_rfl) ?hq4 ?hy4 (by assumption) ?hr4
  case hi4 => (simp only [List.getElem?_toArray, List.getElem?_cons_succ, List.getElem?_cons_zero]; rfl)
  case hq4 => exact fun _ _ _ h => h
  case hy4 => exact Or.inl ⟨by rfl, by intro whSw hSw'; (try dsimp only at hSw'); (first | (go_simp; done) | (go_simp; with_reducible rfl))⟩
  try simp only [Act.put, List.setIfInBounds_toArray, List.set_cons_zero, List.set_cons_succ]
  refine wpAnyH_take (i := 6) (oi := ?oi5) (v := ?v5) ?hi5 (by kernel_rfl) (by kernel_rfl) (by kernel_rfl) ?hq5 ?hy5 (by assumption) ?hr5
  case hi5 => (simp only [List.getElem?_toArray, List.getElem?_cons_succ, List.getElem?_cons_zero]; rfl)
  case hq5 => exact fun _ _ _ h => h
  case hy5 => exact Or.inl ⟨by rfl, by intro whSw hSw'; (try dsimp only at hSw'); (first | (go_simp; done) | (go_simp; with_reducible rfl))⟩
  try simp only [Act.put, List.setIfInBounds_toArray, List.set_cons_zero, List.set_cons_succ]
  refine wpAnyH_take (i := 7) (oi := ?oi6) (v := ?v6) ?hi6 (by kernel_rfl) (by kernel_rfl) (by kernel_rfl) ?hq6 ?hy6 (by assumption) ?hr6
  case hi6 => (simp only [List.getElem?_toArray, List.getElem?_cons_succ, List.getElem?_cons_zero]; rfl)
  case hq6 => exact fun _ _ _ h => h
  case hy6 => exact Or.inl ⟨by rfl, by intro whSw hSw'; (try dsimp only at hSw'); (first | (go_simp; done) | (go_simp; with_reducible rfl))⟩
  try simp only [Act.put, List.setIfInBounds_toArray, List.set_cons_zero, List.set_cons_succ]
  refine wpAnyH_ready (rs := [2]) (by kernel_rfl) (by simp) ?_
  refine AllReadyH.cons (o := ?oo7) ?hi7 (fun K hK => ?hs7) ?hm7
  case hi7 => (simp only [List.getElem?_toArray, List.getElem?_cons_succ, List.getElem?_cons_zero]; rfl)
  · go_simp
    refine (HAB.out X1 HB0.out).mono ?_
    rintro e x1 ⟨rfl, hbx1⟩
    have HBx1 := Lib.hid (HB0.out.trans (hbx1.mono HB0.out.size))
    clear hbx1
    (try go_wp2_with fail)
    refine hK.out _ _ ?_ (fun hHeld => ?_)
    · (try dsimp only); exact HS.out x1 HBx1.out
    clear hK K
    try simp only [Act.put, List.setIfInBounds_toArray, List.set_cons_zero, List.set_cons_succ]
    refine wpAnyH_ready (rs := [5]) (by kernel_rfl) (by simp) ?_
    refine AllReadyH.cons (o := ?oo8) ?hi8 (fun K hK => ?hs8) ?hm8
    case hi8 => (simp only [List.getElem?_toArray, List.getElem?_cons_succ, List.getElem?_cons_zero]; rfl)
    · go_simp
      refine (HBC.out x1 HBx1.out).mono ?_
      rintro e x2 ⟨rfl, hbx2⟩
      have HBx2 := Lib.hid (HBx1.out.trans (hbx2.mono HBx1.out.size))
      clear hbx2
      (try go_wp2_with fail)
      refine hK.out _ _ ?_ (fun hHeld => ?_)
      · (try dsimp only); exact HS.out x2 HBx2.out
      clear hK K
      try simp only [Act.put, List.setIfInBounds_toArray, List.set_cons_zero, List.set_cons_succ]
      refine wpAnyH_ready (rs := [8]) (by kernel_rfl) (by simp) ?_
      refine AllReadyH.cons (o := ?oo9) ?hi9 (fun K hK => ?hs9) ?hm9
      case hi9 => (simp only [List.getElem?_toArray, List.getElem?_cons_succ, List.getElem?_cons_zero]; rfl)
      · go_simp
        refine (HAC.out x2 HBx2.out).mono ?_
        rintro e x3 ⟨rfl, hbx3⟩
        have HBx3 := Lib.hid (HBx2.out.trans (hbx3.mono HBx2.out.size))
        clear hbx3
        (try go_wp2_with fail)
        refine hK.out _ _ ?_ (fun hHeld => ?_)
        · (try dsimp only); exact HS.out x3 HBx3.out
        clear hK K
        try simp only [Act.put, List.setIfInBounds_toArray, List.set_cons_zero, List.set_cons_succ]
        refine wpAnyH_take (i := 9) (oi := ?oi10) (v := ?v10) ?hi10 (by kernel_rfl) (by kernel_rfl) (by kernel_rfl) ?hq10 ?hy10 (by assumption) ?hr10
        case hi10 => (simp only [List.getElem?_toArray, List.getElem?_cons_succ, List.getElem?_cons_zero]; rfl)
        case hq10 => exact fun _ _ _ h => h
        case hy10 => exact Or.inl ⟨by rfl, by intro whSw hSw'; (try dsimp only at hSw'); (first | (go_simp; done) | (go_simp; with_reducible rfl))⟩
        try simp only [Act.put, List.setIfInBounds_toArray, List.set_cons_zero, List.set_cons_succ]
        refine wpAnyH_take (i := 10) (oi := ?oi11) (v := ?v11) ?hi11 (by kernel_rfl) (by kernel_rfl) (by kernel_rfl) ?hq11 ?hy11 (by assumption) ?hr11
        case hi11 => (simp only [List.getElem?_toArray, List.getElem?_cons_succ, List.getElem?_cons_zero]; rfl)
        case hq11 => exact fun _ _ _ h => h
        case hy11 => exact Or.inl ⟨by rfl, by intro whSw hSw'; (try dsimp only at hSw'); (first | (go_simp; done) | (go_simp; with_reducible rfl))⟩
        try simp only [Act.put, List.setIfInBounds_toArray, List.set_cons_zero, List.set_cons_succ]
        refine wpAnyH_take (i := 11) (oi := ?oi12) (v := ?v12) ?hi12 (by kernel_rfl) (by kernel_rfl) (by kernel_rfl) ?hq12 ?hy12 (by assumption) ?hr12
        case hi12 => (simp only [List.getElem?_toArray, List.getElem?_cons_succ, List.getElem?_cons_zero]; rfl)
        case hq12 => exact fun _ _ _ h => h
        case hy12 => exact Or.inl ⟨by rfl, by intro whSw hSw'; (try dsimp only at hSw'); (first | (go_simp; done) | (go_simp; with_reducible rfl))⟩
        try simp only [Act.put, List.setIfInBounds_toArray, List.set_cons_zero, List.set_cons_succ]
        refine wpAnyH_done (by kernel_rfl) ?_ _
        obtain ⟨i0, i1, i2, i3, j0, j1, j2, j3, -⟩ := HS.out x3 HBx3.out
        have jj0 := Lib.cell?_alloc_some (.cells #[.string P0, .int .i64 b0, .int .i64 e0, .slice A0 l0 c0] 39) j0
        have jj1 := Lib.cell?_alloc_some (.cells #[.string P0, .int .i64 b0, .int .i64 e0, .slice A0 l0 c0] 39) j1
        have jj2 := Lib.cell?_alloc_some (.cells #[.string P0, .int .i64 b0, .int .i64 e0, .slice A0 l0 c0] 39) j2
        have jj3 := Lib.cell?_alloc_some (.cells #[.string P0, .int .i64 b0, .int .i64 e0, .slice A0 l0 c0] 39) j3
        go_wp2_with fail
        clear jj0 jj1 jj2 jj3
        obtain ⟨Y, hY⟩ : ∃ Y, (x3.alloc (.cells #[.string P0, .int .i64 b0, .int .i64 e0, .slice A0 l0 c0] 39)).alloc (.cells #[.string P1, .int .i64 b1, .int .i64 e1, .slice A1 l1 c1] 39) = Y := ⟨_, rfl⟩
        obtain ⟨G, hG⟩ : ∃ G, x3.heap.size = G := ⟨_, rfl⟩
        have hbY : Below x3.heap.size x3 Y := by rw [← hY]; exact (below_box _ _).trans ((below_box _ _).mono (by simp))
        have y1 : Y.heap[G]? = some (.cells #[.string P0, .int .i64 b0, .int .i64 e0, .slice A0 l0 c0] 39 (0, 0)) := by rw [← hY, ← hG]; exact block_alloc _ (block_new _ _)
        have y2 : Y.heap[G + 1]? = some (.cells #[.string P1, .int .i64 b1, .int .i64 e1, .slice A1 l1 c1] 39 (0, 0)) := by
          have := block_new (x3.alloc (.cells #[.string P0, .int .i64 b0, .int .i64 e0, .slice A0 l0 c0] 39)) (.cells #[.string P1, .int .i64 b1, .int .i64 e1, .slice A1 l1 c1] 39)
          rw [alloc_sz, hG] at this
          rw [← hY]
          exact this
        have hBY : Below X1.heap.size X1 Y := HBx3.out.trans (hbY.mono HBx3.out.size)
        rw [hY, hG]
        refine (HEQ.out Y hBY G y1 y2).mono ?_
        rintro e w4 ⟨rfl, hb4⟩
        have HB4 := Lib.hid (hBY.trans (hb4.mono hBY.size))
        clear hY hG hbY y1 y2 hBY hb4 i0 i1 i2 i3 j0 j1 j2 j3
        obtain ⟨i0, i1, i2, i3, j0, j1, j2, j3, -⟩ := HS.out w4 HB4.out
        rcases HX3.out with hx | hx | hx <;> rcases HY3.out with hy | hy | hy <;> rcases HZ3.out with hz | hz | hz <;> first
          | (exfalso; have h1 := HT.out.1; have h2 := HT.out.2; omega)
          | (subst hx hy hz
             go_wp2_with fail
             refine (HBA.out w4 HB4.out).mono ?_
             rintro e w5 ⟨rfl, hb5⟩
             have HB5 := Lib.hid (HB4.out.trans (hb5.mono HB4.out.size))
             clear hb5 i0 i1 i2 i3 j0 j1 j2 j3
             go_wp2_with fail
             refine (awake_any w5).mono ?_
             rintro e w6 ⟨rfl, hb6⟩
             have HB6 := Lib.hid (HB5.out.trans (hb6.mono HB5.out.size))
             clear hb6
             go_wp2_with fail
             go_ret
             exact ⟨rfl, HBX.out.trans (HB6.out.mono HBX.out.size)⟩)
      exact AllReadyH.nil
    exact AllReadyH.nil
  exact AllReadyH.nil

theorem own : ownKnob Tryz.prog.godebug = none := by kernel_rfl

set_option maxRecDepth 100000 in
theorem lifted (os : Os) (started : os.Started) (H : Type) (enc : TypeId × Value → H) :
    ReturnsInHanded {} Tryz.checked os 5 .any (Rows.corpusOrdersSpec.pre6 enc Tryz.prog Tryz.f5 Rows.corpusOrdersRow.domain false) (Rows.corpusOrdersSpec.post enc Tryz.prog Tryz.f5 false true false false) := by
  refine returnsInHanded_of_change (C := Tryz.checked) own started (by kernel_rfl) Tryz.func5
    (ChangeSpec.witness6 (enc := enc) (C := Tryz.checked) false ⟨#[], #[.agg #[.string ⟨#[]⟩, .int .i64 0, .int .i64 0, .slice none 0 0], .agg #[.string ⟨#[]⟩, .int .i64 0, .int .i64 0, .slice none 0 0], .agg #[.string ⟨#[]⟩, .int .i64 0, .int .i64 0, .slice none 0 0]], []⟩ 8 (by kernel_rfl) (by kernel_rfl) (by kernel_rfl) (by kernel_rfl)) ?_
  intro W base args ds gs before hval0 hW hcnd _
  have hval : ∀ (j : Nat) t v, Tryz.f5.params[j]? = some t → args[j]? = some v → Value.okWide Tryz.prog W .any base t v := hval0
  have hW' := hW
  have hplt : ∀ x ∈ before, x.block < W.heap.size := fun x hx => hW.lt x hx
  obtain ⟨p, q, hA0, hV, rfl, hfz, hnd⟩ := hW
  have hA : DataW.TrodAll enc Tryz.prog W 0 (fun _ => true) true Tryz.f5.params.toList args.toList ds p := hA0
  rw [Tryz.params5] at hA hval
  obtain ⟨v0, vs0, d0, ds0, p0, q0, hargs, rfl, rfl, h0, r0⟩ := trodAll_cons hA
  obtain ⟨v1, vs1, d1, ds1, p1, q1, rfl, rfl, rfl, h1, r1⟩ := trodAll_cons r0
  obtain ⟨v2, vs2, d2, ds2, p2, q2, rfl, rfl, rfl, h2, r2⟩ := trodAll_cons r1
  obtain ⟨rfl, rfl, rfl⟩ := trodAll_nil r2
  obtain rfl : args = #[v0, v1, v2] := by cases args; simp_all
  obtain ⟨rfl, rfl⟩ := trodVars_none hV
  obtain ⟨x0, u0, rfl, s0, m0⟩ := open_reg (hval 0 39 v0 rfl rfl) h0
  obtain ⟨x1, u1, rfl, s1, m1⟩ := open_reg (hval 1 39 v1 rfl rfl) h1
  obtain ⟨x2, u2, rfl, s2, m2⟩ := open_reg (hval 2 39 v2 rfl rfl) h2
  clear hA0 hval0
  refine (walk x0 u0 s0 m0 x1 u1 s1 m1 x2 u2 s2 m2).mono fun e W' ⟨he, bel⟩ => ?_
  subst he
  exact ⟨_, rfl, _, _, _, [], _, [], hW', trodAll_mk1 (shut_bool Tryz.underlying4 _), (trodAll_cons_mk (Below.trod Tryz.laidOut (by kernel_rfl) (of_decide_eq_true (by kernel_rfl)) h0 bel (fun x hx => hplt x (by simp [hx]))) (trodAll_cons_mk (Below.trod Tryz.laidOut (by kernel_rfl) (of_decide_eq_true (by kernel_rfl)) h1 bel (fun x hx => hplt x (by simp [hx]))) (trodAll_cons_mk (Below.trod Tryz.laidOut (by kernel_rfl) (of_decide_eq_true (by kernel_rfl)) h2 bel (fun x hx => hplt x (by simp [hx]))) trodAll_mk0))), rfl, World.keptBut_mono (fun x hx => ⟨hx, Or.inr (by simpa using hx)⟩) (bel.frame (· ∈ _)), fun h => by cases h⟩

theorem over : Rows.corpusOrdersRow.holds Tryz.pinned (OpenSpec.ofChange Rows.corpusOrdersSpec) :=
  OpenClaim.holds_of_wide 5 Tryz.f5 rfl rfl rfl rfl rfl rfl rfl ⟨rfl, rfl, rfl, rfl, rfl⟩ rfl rfl rfl rfl rfl (by kernel_rfl) Tryz.func5 (by kernel_rfl)
    (of_decide_eq_true (by kernel_rfl)) (by unfold Func.isWrapper; first | (rw [if_pos (by decide +kernel)]; kernel_rfl) | (rw [if_neg (by decide +kernel)]; exact ⟨rfl, rfl⟩))
    (fun os started H enc _ => lifted os started H enc)

/-- THE STATEMENT. -/
theorem proved : Rows.CorpusOrdersSaid := over
end Go.Proofs.YtglafkonpbcegaaGreat.corpusOrders
