/-
  WALKS over the laws' sanity check about treelabel: awake.
-/
import Derived.Test.YtjialelklnjcfaaEbL
import Derived.Deep.RegionHeld3
import Derived.Deep.DrawnRows
namespace Go.Proofs.Ytjialelklnjcfaa
open Go.RowKit Go.Shelf Go.Lib
set_option linter.unusedVariables false
set_option linter.unusedSimpArgs false

def exL : List Lb := [(0, 3, 0), (1, 1, 1), (3, 2, 1), (2, 0, 2)]
theorem awakeLab : assignH [-1, 0, 0, 1] = (exL, 0, 0) := by decide +kernel
theorem awakeCom : commonL exL 3 2 = 0 := by decide +kernel
theorem awakeDom : domL (1, 1, 1) (2, 0, 2) = true := by decide
theorem awakePrec : precL (1, 1, 1) (3, 2, 1) = true := by decide
theorem block_rowsE {W : World} {B n : Nat} {cs : Array Value} (xs : List Int) (h : W.heap[B]? = some (.cells cs 3 (0, 0))) (hc : cs.toList = xs.map fun x => Value.int .i64 x) (hn : xs.length = n) (hm : n ≤ maxLen) : Rows 1 EInt W (.slice (some ⟨B, 0, none⟩) n n) xs := by
  subst hn
  refine own_rows (base := 0) ⟨by simp, .inr ⟨B, xs.length, cs, rfl, Nat.zero_le _, h, Nat.le_refl _, hm, ?_, ?_⟩⟩
  · rw [← Array.length_toList, hc]; simp
  · rw [hc, List.take_of_length_le (by simp)]
/-- The cells of the example's labels. -/
abbrev AwS (b off : Nat) (W : World) : Prop := W.cell? ⟨b, off + 3, none⟩ = some (.int .i64 1) ∧ W.cell? ⟨b, off + 3 + 1, none⟩ = some (.int .i64 1) ∧ W.cell? ⟨b, off + 3 + 2, none⟩ = some (.int .i64 1) ∧
  W.cell? ⟨b, off + 6, none⟩ = some (.int .i64 3) ∧ W.cell? ⟨b, off + 6 + 1, none⟩ = some (.int .i64 2) ∧ W.cell? ⟨b, off + 6 + 2, none⟩ = some (.int .i64 1) ∧
  W.cell? ⟨b, off + 9, none⟩ = some (.int .i64 2) ∧ W.cell? ⟨b, off + 9 + 1, none⟩ = some (.int .i64 0) ∧ W.cell? ⟨b, off + 9 + 2, none⟩ = some (.int .i64 2)

set_option maxRecDepth 100000 in
set_option maxHeartbeats 4000000 in
theorem awake_any (w : World) : Calls Try.prog 14 #[] w fun e w' => e = .returned (.bool true) ∧ Below w.heap.size w w' := by
  obtain ⟨W1, hW1⟩ : ∃ W1, w.alloc (.cells #[.int .i64 (-1), .int .i64 0, .int .i64 0, .int .i64 1] 3) = W1 := ⟨_, rfl⟩
  have hb1 : Below w.heap.size w W1 := by rw [← hW1]; exact below_box w _
  have hblk : W1.heap[w.heap.size]? = some (.cells #[.int .i64 (-1), .int .i64 0, .int .i64 0, .int .i64 1] 3 (0, 0)) := by rw [← hW1]; exact block_new w _
  have hrow := block_rowsE [-1, 0, 0, 1] hblk rfl rfl (by decide)
  have HAS := Lib.hid (assign_any hrow (by decide))
  rw [awakeLab] at HAS
  have HB1 := Lib.hid hb1
  have HW1 := Lib.hid hW1
  clear hb1 hblk hW1 hrow
  go_enter Try.func14, Try.ntmps14
  go_wp2_with fail
  rw [HW1.out]
  refine HAS.out.mono ?_
  rintro e w2 ⟨⟨lv, rfl, hlv⟩, hb2⟩
  have HB2 := Lib.hid (HB1.out.trans (hb2.mono HB1.out.size))
  have HBB2 := Lib.hid hb2
  have HLV := Lib.hid (fun W (hb : Below w2.heap.size w2 W) => hlv.below stays_lb hb)
  obtain ⟨A, cap, rfl, hcap⟩ := hlv.form
  rw [show exL.length = 4 from rfl] at HLV hcap ⊢
  obtain ⟨b, off, rfl, hbl, hc⟩ := at_lb (HLV.out w2 (Below.refl _ _)) (by decide)
  have hS : AwS b off w2 := by
    obtain ⟨a0, a1, a2⟩ := hc 1 (1, 1, 1) rfl
    obtain ⟨b0, b1, b2⟩ := hc 2 (3, 2, 1) rfl
    obtain ⟨c0, c1, c2⟩ := hc 3 (2, 0, 2) rfl
    exact ⟨a0, a1, a2, b0, b1, b2, c0, c1, c2⟩
  have HS := Lib.hid (fun W (hb : Below w2.heap.size w2 W) => show AwS b off W from by
    obtain ⟨h1, h2, h3, h4, h5, h6, h7, h8, h9⟩ := hS
    have hk : ∀ o, W.cell? ⟨b, o, none⟩ = w2.cell? ⟨b, o, none⟩ := fun o => hb.cell (p := ⟨b, o, none⟩) hbl
    exact ⟨(hk _).trans h1, (hk _).trans h2, (hk _).trans h3, (hk _).trans h4, (hk _).trans h5, (hk _).trans h6, (hk _).trans h7, (hk _).trans h8, (hk _).trans h9⟩)
  have HDOM := Lib.hid (fun W => dominates_any (1, 1, 1) (2, 0, 2) W)
  have HPRE := Lib.hid (fun W => precedes_any (1, 1, 1) (3, 2, 1) W)
  rw [awakeDom] at HDOM
  rw [awakePrec] at HPRE
  unfold lbA at HDOM HPRE
  simp only at HDOM HPRE
  have HCOM := Lib.hid (fun W (hb : Below w2.heap.size w2 W) => common_any (HLV.out W hb) (by decide) 3 2)
  rw [awakeCom] at HCOM
  have hX0 : Below w2.heap.size w2 w2.drew := (Below.refl _ _).drew
  have HX0 := Lib.hid hX0
  clear hb2 hlv hc hS hbl hX0
  go_wp2_with fail
  go_region_held3 (fun W' => W'.cell? ⟨b, off + 3, none⟩ = some (.int .i64 1) ∧ W'.cell? ⟨b, off + 3 + 1, none⟩ = some (.int .i64 1) ∧ W'.cell? ⟨b, off + 3 + 2, none⟩ = some (.int .i64 1) ∧ W'.cell? ⟨b, off + 6, none⟩ = some (.int .i64 3) ∧ W'.cell? ⟨b, off + 6 + 1, none⟩ = some (.int .i64 2) ∧ W'.cell? ⟨b, off + 6 + 2, none⟩ = some (.int .i64 1) ∧ W'.cell? ⟨b, off + 9, none⟩ = some (.int .i64 2) ∧ W'.cell? ⟨b, off + 9 + 1, none⟩ = some (.int .i64 0) ∧ W'.cell? ⟨b, off + 9 + 2, none⟩ = some (.int .i64 2))
    (first
      | (with_reducible exact HS.out _ HX0.out)
      | (with_reducible exact HS.out _ HX3.out)
      | (with_reducible exact HS.out _ HX4.out)
      | (with_reducible exact HS.out _ HX5.out)
      | fail)
    ((first
      | (go_at_call 26; (with_reducible refine (HCOM.out _ HX4.out).mono ?_); rintro e w5 ⟨rfl, hb5⟩; have HX5 := Lib.hid (HX4.out.trans (hb5.mono HX4.out.size)); clear hb5)
      | (go_at_call 21; (with_reducible refine (HPRE.out _).mono ?_); rintro e w4 ⟨rfl, hb4⟩; have HX4 := Lib.hid (HX3.out.trans (hb4.mono HX3.out.size)); clear hb4)
      | (go_at_call 20; (with_reducible refine (HDOM.out _).mono ?_); rintro e w3 ⟨rfl, hb3⟩; have HX3 := Lib.hid (HX0.out.trans (hb3.mono HX0.out.size)); clear hb3)
      | fail))
  go_wp2_with fail
  go_ret
  exact ⟨rfl, HB1.out.trans ((HBB2.out.trans (HX5.out.mono HBB2.out.size)).mono HB1.out.size)⟩
end Go.Proofs.Ytjialelklnjcfaa
