/-
  WALKS over package corpus: Validate.
-/
import Derived.Test.YtmjmidgfdjcbfaaGreatDoorQhB
import Derived.Test.YtmjmidgfdjcbfaaGreatDoorQhP
namespace Go.Proofs.YtmjmidgfdjcbfaaGreatDoor
open Go.RowKit Go.Shelf Go.Lib
set_option linter.unusedVariables false

/-- The first errors of the parts. -/
def PkL (c : Cor) (k : Nat) : Nat × Nat := (((partsE c)[k]?).map (·.2)).getD (0, 0)
theorem firstPart_step {c : Cor} {k : Nat} (hk : k < 6) : firstPart ((partsE c).drop k) = if (PkL c k).2 = 0 then firstPart ((partsE c).drop (k + 1)) else (k + 1, (PkL c k).1, (PkL c k).2) := by
  unfold PkL partsE
  match k, hk with
  | 0, _ => rfl
  | 1, _ => rfl
  | 2, _ => rfl
  | 3, _ => rfl
  | 4, _ => rfl
  | 5, _ => rfl
theorem partCells_at (B n0 n1 n2 n3 n4 n5 : Nat) (k : Nat) (hk : k < 6) : ∃ (n : Nat) (gw ge : FuncId), (partCells B n0 n1 n2 n3 n4 n5)[k * 4]? = some (.int .i64 ((k + 1 : Nat) : Int)) ∧ (partCells B n0 n1 n2 n3 n4 n5)[k * 4 + 1]? = some (.int .i64 (n : Int)) ∧
    (partCells B n0 n1 n2 n3 n4 n5)[k * 4 + 2]? = some (.func (.func gw) #[.pointer (some ⟨B, 0, none⟩)] #[]) ∧ (partCells B n0 n1 n2 n3 n4 n5)[k * 4 + 3]? = some (.func (.func ge) #[.pointer (some ⟨B, 0, none⟩)] #[]) := by
  match k, hk with
  | 0, _ => exact ⟨n0, _, _, rfl, rfl, rfl, rfl⟩
  | 1, _ => exact ⟨n1, _, _, rfl, rfl, rfl, rfl⟩
  | 2, _ => exact ⟨n2, _, _, rfl, rfl, rfl, rfl⟩
  | 3, _ => exact ⟨n3, _, _, rfl, rfl, rfl, rfl⟩
  | 4, _ => exact ⟨n4, _, _, rfl, rfl, rfl, rfl⟩
  | 5, _ => exact ⟨n5, _, _, rfl, rfl, rfl, rfl⟩
/-- Part k, its cells and what its check answers. -/
theorem part_at {w0 : World} {B : Nat} {s : Sv} {c : Cor} (hC : CorAt w0 s c) (hB : w0.heap.size ≤ B) (hF : Fits c) (k : Nat) (hk : k < 6) (hpr : ∀ j, j < k → (PkL c j).2 = 0) :
    ∃ (n : Nat) (gw ge : FuncId), (partCells B c.attrs.length c.toks.length c.texts.length c.regs.length c.nodes.length c.heads.length)[k * 4]? = some (.int .i64 ((k + 1 : Nat) : Int)) ∧ (partCells B c.attrs.length c.toks.length c.texts.length c.regs.length c.nodes.length c.heads.length)[k * 4 + 1]? = some (.int .i64 (n : Int)) ∧
    (partCells B c.attrs.length c.toks.length c.texts.length c.regs.length c.nodes.length c.heads.length)[k * 4 + 2]? = some (.func (.func gw) #[.pointer (some ⟨B, 0, none⟩)] #[]) ∧ (partCells B c.attrs.length c.toks.length c.texts.length c.regs.length c.nodes.length c.heads.length)[k * 4 + 3]? = some (.func (.func ge) #[.pointer (some ⟨B, 0, none⟩)] #[]) ∧
    ∀ W, JV w0 B s k W → Calls Tryz.prog 8 #[partAgg (k + 1) n gw ge B] W (PartV w0 B s k (PkL c k) W) := by
  have hT : 2 < k → ∀ i, i < c.texts.length → textE c i = 0 := fun h => (partE_zero.1 (hpr 2 h)).2
  match k, hk with
  | 0, _ => exact ⟨_, _, _, rfl, rfl, rfl, rfl, fun W h => part0 hC hB hF W h⟩
  | 1, _ => exact ⟨_, _, _, rfl, rfl, rfl, rfl, fun W h => part1 hC hB hF W h⟩
  | 2, _ => exact ⟨_, _, _, rfl, rfl, rfl, rfl, fun W h => part2 hC hB hF W h⟩
  | 3, _ => exact ⟨_, _, _, rfl, rfl, rfl, rfl, fun W h => part3 hC hB hF (hT (by omega)) W h⟩
  | 4, _ => exact ⟨_, _, _, rfl, rfl, rfl, rfl, fun W h => part4 hC hB hF (hT (by omega)) W h⟩
  | 5, _ => exact ⟨_, _, _, rfl, rfl, rfl, rfl, fun W h => part5 hC hB hF W h⟩

set_option maxRecDepth 100000 in
set_option maxHeartbeats 8000000 in
theorem validate_any {w : World} (s : Sv) {c : Cor} (hC : CorAt w s c) (hF : Fits c) :
    Calls Tryz.prog 4 #[.agg s.arr] w fun e w' => e = .returned (.tuple #[.int .i64 ((validate c).1 : Int), .int .i64 ((validate c).2.1 : Int), .int .i64 ((validate c).2.2 : Int)]) ∧ Below w.heap.size w w' := by
  obtain ⟨A0, k0, h0, -⟩ := hC.a.form
  obtain ⟨A1, k1, h1, -⟩ := hC.t.form
  obtain ⟨A2, k2, h2, -⟩ := hC.x.form
  obtain ⟨A3, k3, h3, -⟩ := hC.r.form
  obtain ⟨A4, k4, h4, -⟩ := hC.n.form
  obtain ⟨A5, k5, h5, -⟩ := hC.h.form
  obtain ⟨A6, k6, h6, -⟩ := hC.l.form
  obtain ⟨va, vt, vx, vr, vn, vh, vl⟩ := s
  simp only at h0 h1 h2 h3 h4 h5 h6
  subst h0 h1 h2 h3 h4 h5 h6
  obtain ⟨n0, e0⟩ : ∃ n, c.attrs.length = n := ⟨_, rfl⟩
  obtain ⟨n1, e1⟩ : ∃ n, c.toks.length = n := ⟨_, rfl⟩
  obtain ⟨n2, e2⟩ : ∃ n, c.texts.length = n := ⟨_, rfl⟩
  obtain ⟨n3, e3⟩ : ∃ n, c.regs.length = n := ⟨_, rfl⟩
  obtain ⟨n4, e4⟩ : ∃ n, c.nodes.length = n := ⟨_, rfl⟩
  obtain ⟨n5, e5⟩ : ∃ n, c.heads.length = n := ⟨_, rfl⟩
  obtain ⟨n6, e6⟩ : ∃ n, c.rels.length = n := ⟨_, rfl⟩
  simp only [e0, e1, e2, e3, e4, e5, e6, Sv.arr] at hC ⊢
  obtain ⟨S, hS⟩ : ∃ S : Sv, (⟨.slice A0 n0 k0, .slice A1 n1 k1, .slice A2 n2 k2, .slice A3 n3 k3, .slice A4 n4 k4, .slice A5 n5 k5, .slice A6 n6 k6⟩ : Sv) = S := ⟨_, rfl⟩
  obtain ⟨X, hX⟩ : ∃ X, (w.alloc (.cells #[.slice A0 n0 k0, .slice A1 n1 k1, .slice A2 n2 k2, .slice A3 n3 k3, .slice A4 n4 k4, .slice A5 n5 k5, .slice A6 n6 k6] 35)).alloc (.cells #[.slice A0 n0 k0, .slice A1 n1 k1, .slice A2 n2 k2, .slice A3 n3 k3, .slice A4 n4 k4, .slice A5 n5 k5, .slice A6 n6 k6, .slice none 0 0, .slice none 0 0, .slice none 0 0] 45) = X := ⟨_, rfl⟩
  have hbX : Below w.heap.size w X := by rw [← hX]; exact (below_box w _).trans ((below_box _ _).mono (by simp))
  obtain ⟨N, hN⟩ : ∃ N, w.heap.size = N := ⟨_, rfl⟩
  have hVX : VAt X (N + 1) ⟨.slice A0 n0 k0, .slice A1 n1 k1, .slice A2 n2 k2, .slice A3 n3 k3, .slice A4 n4 k4, .slice A5 n5 k5, .slice A6 n6 k6⟩ (.slice none 0 0) (.slice none 0 0) (.slice none 0 0) := by
    have := block_new (w.alloc (.cells #[.slice A0 n0 k0, .slice A1 n1 k1, .slice A2 n2 k2, .slice A3 n3 k3, .slice A4 n4 k4, .slice A5 n5 k5, .slice A6 n6 k6] 35)) (.cells #[.slice A0 n0 k0, .slice A1 n1 k1, .slice A2 n2 k2, .slice A3 n3 k3, .slice A4 n4 k4, .slice A5 n5 k5, .slice A6 n6 k6, .slice none 0 0, .slice none 0 0, .slice none 0 0] 45)
    rw [alloc_sz, hN] at this
    unfold VAt
    rw [← hX]
    exact this
  have hXs : X.heap.size = N + 2 := by rw [← hX, alloc_sz, alloc_sz, hN]
  have hpt := parts_any (N + 1) n0 n1 n2 n3 n4 n5 n6 A0 A1 A2 A3 A4 A5 A6 k0 k1 k2 k3 k4 k5 k6 _ _ _ X hVX
  obtain ⟨Y, hY⟩ : ∃ Y, (X.alloc (.cells (partCells (N + 1) n0 n1 n2 n3 n4 n5) 51)).drew = Y := ⟨_, rfl⟩
  rw [hY] at hpt
  have hRY : Y.heap[N + 2]? = some (.cells (partCells (N + 1) n0 n1 n2 n3 n4 n5) 51 (0, 0)) := by rw [← hY, ← hXs]; exact block_new X _
  have hbXY : Below X.heap.size X Y := by rw [← hY]; exact (below_box X _).drew
  have hbY : Below w.heap.size w Y := hbX.trans (hbXY.mono hbX.size)
  -- the corpus' own box is new, too: what is kept is what lay before
  have hcb : Below (N + 1) (w.alloc (.cells #[.slice A0 n0 k0, .slice A1 n1 k1, .slice A2 n2 k2, .slice A3 n3 k3, .slice A4 n4 k4, .slice A5 n5 k5, .slice A6 n6 k6] 35)) Y := by
    have h1 := below_box (w.alloc (.cells #[.slice A0 n0 k0, .slice A1 n1 k1, .slice A2 n2 k2, .slice A3 n3 k3, .slice A4 n4 k4, .slice A5 n5 k5, .slice A6 n6 k6] 35)) (.cells #[.slice A0 n0 k0, .slice A1 n1 k1, .slice A2 n2 k2, .slice A3 n3 k3, .slice A4 n4 k4, .slice A5 n5 k5, .slice A6 n6 k6, .slice none 0 0, .slice none 0 0, .slice none 0 0] 45)
    rw [hX] at h1
    exact (h1.mono (by rw [alloc_sz, hN]; exact Nat.le_refl _)).trans (hbXY.mono (by omega))
  have hC1 : CorAt (w.alloc (.cells #[.slice A0 n0 k0, .slice A1 n1 k1, .slice A2 n2 k2, .slice A3 n3 k3, .slice A4 n4 k4, .slice A5 n5 k5, .slice A6 n6 k6] 35)) S c := by rw [← hS]; exact hC.below (below_box w _)
  have hpa := part_at (B := N + 1) hC1 (by rw [alloc_sz, hN]; exact Nat.le_refl _) hF
  obtain ⟨w1, hw1⟩ : ∃ w1, w.alloc (.cells #[.slice A0 n0 k0, .slice A1 n1 k1, .slice A2 n2 k2, .slice A3 n3 k3, .slice A4 n4 k4, .slice A5 n5 k5, .slice A6 n6 k6] 35) = w1 := ⟨_, rfl⟩
  rw [hw1] at hcb hpa
  simp only [e0, e1, e2, e3, e4, e5] at hpa
  have hJY : JV w1 (N + 1) S 0 Y := ⟨hcb, _, _, _, by rw [← hS]; exact hVX.below hbXY, fun _ => rfl, fun _ => rfl⟩
  have hww : Below N w w1 := by rw [← hw1, ← hN]; exact below_box w _
  obtain ⟨V, hV⟩ : ∃ V, validate c = V := ⟨_, rfl⟩
  rw [hV]
  have HV : Hid (firstPart ((partsE c).drop 0) = V) := Lib.hid hV
  have HP := Lib.hid hpt
  have HX := Lib.hid hX
  have HN := Lib.hid hN
  have HRY := Lib.hid hRY
  have HJY := Lib.hid hJY
  have HPA := Lib.hid hpa
  have HWW := Lib.hid hww
  clear hpt hX hN hRY hJY hpa hww hC1 hcb hbY hbXY hXs hVX hbX hC hF hV hw1 hY hS e0 e1 e2 e3 e4 e5 e6
  go_enter Tryz.func4, Tryz.ntmps4
  go_wp2_with fail
  rw [HX.out, HN.out]
  go_wp2_with fail
  refine HP.out.mono ?_
  rintro e w2 ⟨rfl, rfl⟩
  have hXs : X.heap.size = N + 2 := by rw [← HX.out, alloc_sz, alloc_sz, HN.out]
  rw [hXs]
  clear hXs
  go_wp2_with fail
  go_loopw [14] (fun iv wr => ∃ k : Nat, k ≤ 6 ∧ iv = .int .i64 k ∧ Hid (firstPart ((partsE c).drop k) = V) ∧ Hid (∀ j, j < k → (PkL c j).2 = 0) ∧ Hid (JV w1 (N + 1) S k wr) ∧ Hid (wr.heap[N + 2]? = some (.cells (partCells (N + 1) n0 n1 n2 n3 n4 n5) 51 (0, 0)))) (fun iv _ => 6 - (Go.RowKit.intOf iv).toNat)
  case atStart => exact ⟨0, Nat.zero_le _, rfl, HV, Lib.hid (fun j h => absurd h (by omega)), HJY, HRY⟩
  case round =>
    clear HV HJY HRY HP
    obtain ⟨k, hk, rfl, HV, HF, HJ, HR⟩ := hrel
    by_cases hlt : k < 6
    · obtain ⟨n, gw, ge, q0, q1, q2, q3, hcall⟩ := HPA.out k hlt HF.out
      have hst := HV.out
      rw [firstPart_step hlt] at hst
      have hk1 : ((k + 1 : Nat) : Int) = (k : Int) + 1 := by omega
      rw [hk1] at q0
      have r0 := cell_of HR.out q0
      have r1 := cell_of HR.out q1
      have r2 := cell_of HR.out q2
      have r3 := cell_of HR.out q3
      obtain ⟨Pk, hPk⟩ : ∃ Pk, PkL c k = Pk := ⟨_, rfl⟩
      rw [hPk] at hst hcall
      obtain ⟨p1, p2⟩ := Pk
      obtain ⟨Z, hZ⟩ : ∃ Z, wr.alloc (.cells #[.int .i64 ((k : Int) + 1), .int .i64 (n : Int), .func (.func gw) #[.pointer (some ⟨N + 1, 0, none⟩)] #[], .func (.func ge) #[.pointer (some ⟨N + 1, 0, none⟩)] #[]] 51) = Z := ⟨_, rfl⟩
      have hbZ : Below wr.heap.size wr Z := by rw [← hZ]; exact below_box wr _
      obtain ⟨M, hM⟩ : ∃ M, wr.heap.size = M := ⟨_, rfl⟩
      have hRZ : Z.heap[M]? = some (.cells #[.int .i64 ((k : Int) + 1), .int .i64 (n : Int), .func (.func gw) #[.pointer (some ⟨N + 1, 0, none⟩)] #[], .func (.func ge) #[.pointer (some ⟨N + 1, 0, none⟩)] #[]] 51 (0, 0)) := by rw [← hZ, ← hM]; exact block_new wr _
      have hJZ := HJ.out.below hbZ
      have hR2 := block_below HR.out hbZ (Array.getElem?_eq_some_iff.1 HR.out).1
      have hcl := hcall Z hJZ
      unfold partAgg PartV at hcl
      simp only at hcl
      rw [hk1] at hcl
      clear hk1
      have s0 : Z.cell? ⟨M, 0, none⟩ = some (.int .i64 ((k : Int) + 1)) := cell_of hRZ rfl
      have s1 : Z.cell? ⟨M, 1, none⟩ = some (.int .i64 (n : Int)) := cell_of hRZ rfl
      have s2 : Z.cell? ⟨M, 2, none⟩ = some (.func (.func gw) #[.pointer (some ⟨N + 1, 0, none⟩)] #[]) := cell_of hRZ rfl
      have s3 : Z.cell? ⟨M, 3, none⟩ = some (.func (.func ge) #[.pointer (some ⟨N + 1, 0, none⟩)] #[]) := cell_of hRZ rfl
      have HCL := Lib.hid hcl
      have HZ := Lib.hid hZ
      have HM := Lib.hid hM
      have HRZ := Lib.hid hRZ
      have HR2 := Lib.hid hR2
      have HPK := Lib.hid hPk
      have hki : (k : Int) < 6 := by omega
      have HBZ := Lib.hid hJZ.1
      have hst1 : ∀ (a : Addr) (m : Mode) (W : World), Sem.run Tryz.prog (store a (.func (.func gw) #[.pointer (some ⟨N + 1, 0, none⟩)] #[]) m) W = stored Tryz.prog W a (.func (.func gw) #[.pointer (some ⟨N + 1, 0, none⟩)] #[]) m := fun a m W => run_store Tryz.prog W a _ m rfl
      have hst2 : ∀ (a : Addr) (m : Mode) (W : World), Sem.run Tryz.prog (store a (.func (.func ge) #[.pointer (some ⟨N + 1, 0, none⟩)] #[]) m) W = stored Tryz.prog W a (.func (.func ge) #[.pointer (some ⟨N + 1, 0, none⟩)] #[]) m := fun a m W => run_store Tryz.prog W a _ m rfl
      clear hcl hcall hZ hM hRZ hJZ hR2 hbZ q0 q1 q2 q3 hPk
      by_cases h0 : p2 = 0
      · subst h0
        rw [if_pos rfl] at hst
        have HST := Lib.hid hst
        clear hst
        go_wp2_with fail
        rw [HZ.out, HM.out]
        clear r0 r1 r2 r3 hst1 hst2
        go_wp2_with fail
        refine HCL.out.mono ?_
        rintro e w3 ⟨rfl, hb3, hk3, hj3⟩
        have HJ3 := Lib.hid (by first | exact hj3 rfl | exact hj3 trivial | exact hj3)
        have HR3 := Lib.hid (hk3 _ _ _ HR2.out)
        clear hb3 hk3 hj3 s0 s1 s2 s3
        go_wp2_with fail
        exact ⟨⟨k + 1, by omega, by go_num, HST, Lib.hid (fun j hj => by
          by_cases e : j = k
          · rw [e, HPK.out]
          · exact HF.out j (by omega)), HJ3, HR3⟩, by simp only [Go.RowKit.intOf]; omega⟩
      · rw [if_neg h0] at hst
        have h0i : ¬ ((p2 : Int) = 0) := by omega
        have HST : Hid (V = (k + 1, p1, p2)) := Lib.hid hst.symm
        clear hst
        go_wp2_with fail
        rw [HZ.out, HM.out]
        clear r0 r1 r2 r3 hst1 hst2
        go_wp2_with fail
        refine HCL.out.mono ?_
        rintro e w3 ⟨rfl, hb3, hk3, -⟩
        have t0 : w3.cell? ⟨M, 0, none⟩ = some (.int .i64 ((k : Int) + 1)) := cell_of (hk3 _ _ _ HRZ.out) rfl
        have HB3 := Lib.hid (HWW.out.trans ((HBZ.out.trans hb3).mono (by omega)))
        clear hb3 hk3 s0 s1 s2 s3
        go_wp2_with fail
        go_ret3
        exact ⟨by rw [HST.out]; rfl, HN.out ▸ HB3.out⟩
    · obtain rfl : k = 6 := by omega
      have hv : V = (0, 0, 0) := by rw [← HV.out]; rfl
      have HVV := Lib.hid hv
      have HB := Lib.hid (HWW.out.trans (HJ.out.1.mono (by omega)))
      clear hv
      go_wp2_with fail
      go_ret3
      exact ⟨by rw [HVV.out]; rfl, HN.out ▸ HB.out⟩
end Go.Proofs.YtmjmidgfdjcbfaaGreatDoor
