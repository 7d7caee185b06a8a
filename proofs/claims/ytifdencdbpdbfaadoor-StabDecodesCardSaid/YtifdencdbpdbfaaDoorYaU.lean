/-
  WALKS over package stab: plant; valid; Build.
-/
import Derived.Test.YtifdencdbpdbfaaDoorYaT
import Derived.Test.YtifdencdbpdbfaaDoorIbB
namespace Go.Proofs.YtifdencdbpdbfaaDoor
open Go.RowKit Go.Shelf Go.Lib Go.Sort
set_option linter.unusedVariables false
set_option linter.unusedSimpArgs false

def partP (l : List Sp) (k : Nat) : List Nd := (plantF 0 l).take k ++ List.replicate (l.length - k) ((0, 0), 0, 0)
theorem partP_zero (l : List Sp) : partP l 0 = List.replicate l.length ((0, 0), 0, 0) := by simp [partP]
theorem partP_all (l : List Sp) : partP l l.length = plantF 0 l := by
  unfold partP
  rw [List.take_of_length_le (by rw [plantF_len]; exact Nat.le_refl _), Nat.sub_self, List.replicate_zero, List.append_nil]
theorem partP_len {l : List Sp} {k : Nat} (h : k ≤ l.length) : (partP l k).length = l.length := by
  unfold partP
  rw [List.length_append, List.length_take, plantF_len, List.length_replicate]
  omega
theorem partP_step {l : List Sp} {k : Nat} {s : Sp} (h : l[k]? = some s) : (partP l k).set k (s, (k : Int), 0) = partP l (k + 1) := by
  have hk : k < l.length := (List.getElem?_eq_some_iff.1 h).1
  have hp := plantF_get l 0 k s h
  rw [Nat.zero_add] at hp
  unfold partP
  rw [List.take_add_one, hp, Option.toList_some, List.set_append_right _ _ (by rw [List.length_take, plantF_len]; omega), List.length_take, plantF_len, Nat.min_eq_left (by omega), Nat.sub_self, show l.length - k = (l.length - (k + 1)) + 1 by omega, List.replicate_succ, List.set_cons_zero]
  simp
/-- The tree stands in block g. -/
def TreeAt (W : World) (g : Nat) (l : List Sp) : Prop := ∃ L, NdAt W g L ∧ TreeOf L l
theorem TreeAt.lt {W : World} {g : Nat} {l : List Sp} (h : TreeAt W g l) : g < W.heap.size := by
  obtain ⟨L, h1, _⟩ := h
  exact h1.lt
theorem TreeAt.below {W W' : World} {g N : Nat} {l : List Sp} (h : TreeAt W g l) (hb : Below N W W') (hg : g < N) : TreeAt W' g l := by
  obtain ⟨L, h1, h2⟩ := h
  exact ⟨L, h1.below hb hg, h2⟩
def PlantV (w : World) (l : List Sp) (n : Nat) (e : Ending) (w' : World) : Prop :=
  ∃ g, e = .returned (.slice (some ⟨g, 0, none⟩) n n) ∧ w.heap.size ≤ g ∧ TreeAt w' g l ∧ Below w.heap.size w w'

set_option maxRecDepth 100000 in
set_option maxHeartbeats 8000000 in
theorem plant_any {w : World} {v : Value} {l : List Sp} (hv : Rows 2 ESp w v l) (hl : l.length ≤ 4096) : Calls Tryd.prog 32 #[v] w (PlantV w l l.length) := by
  have HV := Lib.hid (fun W (h : Below w.heap.size w W) => hv.below stays_sp h)
  obtain ⟨A, cap, rfl, hc⟩ := hv.form
  obtain ⟨n, hn⟩ : ∃ n, l.length = n := ⟨_, rfl⟩
  obtain ⟨i1, hi1, hy0, hy1, hy2⟩ := info_parts' Tryd.infoNd
  have hmk : ∀ W : World, (Instr.makeSlice 51 (.int .i64 n) (.int .i64 n)).run Tryd.prog W = .ok (.slice (some ⟨W.heap.size, 0, none⟩) n n) (W.alloc (.cells (ndRow (partP l 0)) 81)) := fun W => by
    have := run_make (P := Tryd.prog) W 51 81 i1 _ Tryd.underlying51 hi1 hy0 .i64 .i64 n n (by omega) (by omega) (by rw [hy2]; omega) (by omega)
    rw [Int.toNat_natCast, hy1] at this
    rw [partP_zero, hn, ← made_nd]
    exact this
  rw [hn] at hc HV hl ⊢
  have HN := Lib.hid hn
  obtain ⟨N, hN⟩ : ∃ N, w.heap.size = N := ⟨_, rfl⟩
  obtain ⟨W0, hW0⟩ : ∃ W0, w.alloc (.cells (ndRow (partP l 0)) 81) = W0 := ⟨_, rfl⟩
  have hb0 : W0.heap[N]? = some (.cells (ndRow (partP l 0)) 81 (0, 0)) := by rw [← hW0, ← hN]; exact block_new _ _
  have hbw : Below N w W0 := by rw [← hW0, ← hN]; exact below_box _ _
  rw [hN] at HV
  have HN0 := Lib.hid hN
  have HW0 := Lib.hid hW0
  have HB0 := Lib.hid hb0
  have HBW := Lib.hid hbw
  clear hv hn hN hW0 hb0 hbw hi1 hy0 hy1 hy2
  go_enter Tryd.func32, Tryd.ntmps32
  go_wp2_with fail
  rw [HW0.out, HN0.out]
  go_loopw [4, 11] (fun _ kv wr => ∃ i : Nat, i ≤ n ∧ kv = .int .i64 i ∧ Hid (wr.heap[N]? = some (.cells (ndRow (partP l i)) 81 (0, 0))) ∧ Hid (Below N w wr)) (fun _ kv _ => n - (Go.RowKit.intOf kv).toNat)
  case atStart => exact ⟨0, Nat.zero_le _, rfl, HB0, HBW⟩
  case round =>
    clear HB0 HBW hmk
    obtain ⟨i, hi, rfl, HB, HBL⟩ := hrel
    by_cases hlt : i < n
    · obtain ⟨x, hx⟩ : ∃ x, l[i]? = some x := ⟨_, List.getElem?_eq_getElem (by rw [HN.out]; exact hlt)⟩
      obtain ⟨bk, off, rfl, hbl, hj⟩ := at_sp (HV.out wr HBL.out) (by rw [HN.out]; omega)
      obtain ⟨c0, c1⟩ := hj i x hx
      have hst := partP_step hx
      have hin : i < (partP l i).length := by rw [partP_len (by rw [HN.out]; omega), HN.out]; exact hlt
      obtain ⟨x1, x2⟩ := x
      simp only at c0 c1
      obtain ⟨X, hX⟩ : ∃ X, wr.alloc (.cells #[.int .i64 x1, .int .i64 x2] 24) = X := ⟨_, rfl⟩
      obtain ⟨Nx, hNx⟩ : ∃ N0, wr.heap.size = N0 := ⟨_, rfl⟩
      have hbX : Below Nx wr X := by rw [← hX, ← hNx]; exact below_box wr _
      have e1 : X.heap[Nx]? = some (.cells #[.int .i64 x1, .int .i64 x2] 24 (0, 0)) := by rw [← hX, ← hNx]; exact block_new wr _
      have hNNx : N < Nx := by rw [← hNx]; exact (Array.getElem?_eq_some_iff.1 HB.out).1
      have hgX : X.heap[N]? = some (.cells (ndRow (partP l i)) 81 (0, 0)) := block_below HB.out hbX hNNx
      have g0 := cell_of (i := 0) e1 rfl
      have g1 := cell_of (i := 1) e1 rfl
      have HX := Lib.hid hX
      have HNX := Lib.hid hNx
      have HGX := Lib.hid hgX
      have HBX := Lib.hid (HBL.out.trans (hbX.mono (Nat.le_of_lt hNNx)))
      have HST := Lib.hid hst
      have hlt1 : (i : Int) < (n : Int) := by omega
      have HIN := Lib.hid hin
      obtain ⟨u, hu⟩ : ∃ u, (partP l i)[i]? = some u := ⟨_, List.getElem?_eq_getElem hin⟩
      obtain ⟨k0, k1, k2, k3⟩ := NdAt.cell hgX hu
      have f0 : X.frozen? ⟨N, i * 4, none⟩ = false := frozen_of hgX
      have f1 : X.frozen? ⟨N, i * 4 + 1, none⟩ = false := frozen_of hgX
      have f2 : X.frozen? ⟨N, i * 4 + 2, none⟩ = false := frozen_of hgX
      have f3 : X.frozen? ⟨N, i * 4 + 3, none⟩ = false := frozen_of hgX
      clear hX hNx hbX e1 hgX hst hx hj hbl hin hu HB HBL hNNx
      go_upto_region 5 with fail
      rw [HX.out, HNX.out]
      clear c0 c1
      go_wp2_with fail
      refine ⟨⟨i + 1, by omega, by go_num, Lib.hid ?_, Lib.hid ?_⟩, by simp only [Go.RowKit.intOf]; omega⟩
      · rw [set_of (set_of (set_of (set_of HGX.out _) _) _) _, ← HST.out, ← ndRow_set4 HIN.out]
      · exact (((HBX.out.setCell (p := ⟨N, i * 4, none⟩) (Nat.le_refl _) _).setCell (p := ⟨N, i * 4 + 1, none⟩) (Nat.le_refl _) _).setCell (p := ⟨N, i * 4 + 2, none⟩) (Nat.le_refl _) _).setCell (p := ⟨N, i * 4 + 3, none⟩) (Nat.le_refl _) _
    · obtain rfl : i = n := by omega
      have hb := HB.out
      rw [← HN.out, partP_all] at hb
      have HS := Lib.hid (sortNd_any (ks := plantF 0 l) (by rw [plantF_len, HN.out]) (by omega) (own_blockN (by rw [plantF_len, HN.out]) (by unfold maxLen; omega) hb))
      have HNL := Lib.hid ((Array.getElem?_eq_some_iff.1 hb).1)
      clear hb HB
      go_wp2_with fail
      refine HS.out.mono ?_
      rintro e w2 ⟨rfl, ⟨ts, hpm, hso, hown⟩, hgr⟩
      have hlen : ts.length = i := by rw [hpm.length_eq, plantF_len, HN.out]
      have hb1 : NdAt w2 N ts := block_ownN hlen hown
      have HBL2 := Lib.hid (HBL.out.trans (below_of_grown hgr (Nat.le_of_lt HNL.out) (fun k hk => by cases hk; exact Nat.le_refl _)))
      have HM := Lib.hid (measure_any (g := N) i 0 i ts (.slice (some ⟨N, 0, none⟩) i i) w2 (by omega) (by omega) (by omega) (by omega) ⟨_, i, rfl, by omega, fun _ => by rw [Nat.zero_mul]⟩ hb1)
      have HT := Lib.hid (And.intro hpm (And.intro hso hlen))
      have HN2 := Lib.hid hb1.lt
      clear hpm hso hown hgr hlen hb1 HS
      go_wp2_with fail
      refine HM.out.mono ?_
      rintro e w3 ⟨R, L, rfl, hmsd, hN3, hg3⟩
      have HE : Hid (PlantV w l i (.returned (.slice (some ⟨N, 0, none⟩) i i)) w3) := Lib.hid (by
        obtain ⟨h1, h2, h3, h4, h5⟩ := hmsd
        obtain ⟨q1, q2, q3⟩ := HT.out
        refine ⟨N, rfl, by rw [HN0.out]; exact Nat.le_refl _, ⟨L, hN3, ?_, ?_, ?_, ?_⟩, ?_⟩
        · rw [h2]
          exact q1.map _
        · have hk : (ts.map keyN).Pairwise (fun a b => a.1.1 ≤ b.1.1) := List.pairwise_map.2 q2
          rw [← h2] at hk
          exact (List.pairwise_map (f := keyN) (R := fun a b : Sp × Int => a.1.1 ≤ b.1.1)).1 hk
        · rw [h1, q3, HN.out]
        · rw [h1, q3]
          exact h4
        · rw [HN0.out]
          exact HBL2.out.trans (below_of_grown hg3 (Nat.le_of_lt HN2.out) (fun k hk => by cases hk; exact Nat.le_refl _)))
      clear hmsd hN3 hg3
      go_wp2_with fail
      go_ret
      exact HE.out
end Go.Proofs.YtifdencdbpdbfaaDoor
