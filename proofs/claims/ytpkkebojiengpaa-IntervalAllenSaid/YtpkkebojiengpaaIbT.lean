/-
  WALKS over the laws of interval: has, turned.
-/
import Derived.Test.YtpkkebojiengpaaIbO
import Derived.Test.YtpkkebojiengpaaIbN
namespace Go.Proofs.Ytpkkebojiengpaa
open Go Go.RowKit Go.Shelf Go.Lib
set_option linter.unusedVariables false
set_option linter.unusedSimpArgs false

set_option maxRecDepth 100000 in
set_option maxHeartbeats 4000000 in
theorem has_any {w : World} {v : Value} {l : List Sp} (hv : Rows 2 ESp w v l) (hl : l.length ≤ 1000000) (s : Sp) :
    Calls Try.prog 25 #[v, .agg #[.int .i64 s.1, .int .i64 s.2]] w (BoolV w (decide (s ∈ l))) := by
  obtain ⟨A, cap, rfl, hc⟩ := hv.form
  obtain ⟨n, hn⟩ : ∃ n, l.length = n := ⟨_, rfl⟩
  obtain ⟨r, hr⟩ : ∃ r, decide (s ∈ l) = r := ⟨_, rfl⟩
  rw [hr]
  have HR : Hid (decide (s ∈ l) = r) := Lib.hid hr
  obtain ⟨s1, s2⟩ := s
  obtain ⟨X, B, hX, hB, hbX, hBX, hcell⟩ := box1 w s1 s2
  have HV := Lib.hid (fun W (h : Below B w W) => hv.below stays_sp (by rw [hB]; exact h))
  rw [hn] at hc hl HV ⊢
  have HN := Lib.hid hn
  have HX := Lib.hid hX
  have HB := Lib.hid hB
  have HBX := Lib.hid (And.intro hbX hBX)
  have HC := Lib.hid hcell
  unfold BoolV
  rw [hB]
  clear hv hn hr hX hB hbX hBX hcell
  go_enter Try.func25, Try.ntmps25
  go_upto_region 1 with fail
  rw [HX.out, HB.out]
  go_wp2_with fail
  go_loopw [9] (fun kv wr => ∃ k : Nat, k ≤ n ∧ kv = .int .i64 k ∧ Hid ((s1, s2) ∉ l.take k) ∧ Hid (Below X.heap.size X wr)) (fun kv _ => n - (Go.RowKit.intOf kv).toNat)
  case atStart => exact ⟨0, Nat.zero_le _, rfl, Lib.hid (by simp), Lib.hid (Below.refl _ _)⟩
  case round =>
    obtain ⟨k, hk, rfl, HS, HL⟩ := hrel
    by_cases hlt : k < n
    · obtain ⟨x, hx⟩ : ∃ x, l[k]? = some x := ⟨_, List.getElem?_eq_getElem (by rw [HN.out]; omega)⟩
      obtain ⟨bk, off, rfl, hbl, hj⟩ := at_sp (HV.out wr (HBX.out.1.trans (HL.out.mono HBX.out.2))) (by rw [HN.out]; omega)
      obtain ⟨c0, c1⟩ := hj k x hx
      have HX2 := Lib.hid hx
      obtain ⟨x1, x2⟩ := x
      simp only at c0 c1
      obtain ⟨WB, hWB⟩ : ∃ X, wr.alloc (.cells #[.int .i64 x1, .int .i64 x2] 31) = X := ⟨_, rfl⟩
      obtain ⟨Nx, hNx⟩ : ∃ N, wr.heap.size = N := ⟨_, rfl⟩
      have hbx : WB.heap[Nx]? = some (.cells #[.int .i64 x1, .int .i64 x2] 31 (0, 0)) := by rw [← hWB, ← hNx]; exact block_new _ _
      have hbW : Below X.heap.size X WB := HL.out.trans (by rw [← hWB]; exact (below_box wr _).mono HL.out.size)
      obtain ⟨e0, e1⟩ := HC.out WB hbW
      have d0 := cell_of (i := 0) hbx rfl
      have d1 := cell_of (i := 1) hbx rfl
      have HBW := Lib.hid hbW
      have HWB := Lib.hid hWB
      have HNx := Lib.hid hNx
      have hki : (k : Int) < (n : Int) := by omega
      clear hx hj hbl hWB hNx hbx hbW HL
      by_cases he : (x1, x2) = (s1, s2)
      · cases he
        obtain rfl : r = true := by rw [← HR.out]; exact decide_eq_true (List.mem_of_getElem? HX2.out)
        clear HS HX2 HR
        go_upto_region 4 with fail
        rw [HWB.out, HNx.out]
        clear c0 c1
        go_wp2_with fail
        go_ret
        exact ⟨rfl, HBX.out.1.trans (HBW.out.mono HBX.out.2)⟩
      · have HS2 : Hid ((s1, s2) ∉ l.take (k + 1)) := Lib.hid (by
          rw [List.take_add_one, HX2.out]
          intro h
          rcases List.mem_append.1 h with h | h
          · exact HS.out h
          · simp only [Option.toList_some, List.mem_singleton] at h
            exact he h.symm)
        have hnp : ¬ (x1 = s1 ∧ x2 = s2) := fun e => he (by rw [e.1, e.2])
        clear he HS HX2
        by_cases e1' : x1 = s1
        · have q1 : ¬ x2 = s2 := fun e => hnp ⟨e1', e⟩
          have q2 : (x2 == s2) = false := beq_eq_false_iff_ne.2 q1
          subst e1'
          clear hnp
          go_upto_region 4 with fail
          rw [HWB.out, HNx.out]
          clear c0 c1
          go_wp2_with fail
          exact ⟨⟨k + 1, by omega, by go_num, HS2, HBW⟩, by simp only [Go.RowKit.intOf]; omega⟩
        · have q2 : (x1 == s1) = false := beq_eq_false_iff_ne.2 e1'
          clear hnp
          go_upto_region 4 with fail
          rw [HWB.out, HNx.out]
          clear c0 c1
          go_wp2_with fail
          exact ⟨⟨k + 1, by omega, by go_num, HS2, HBW⟩, by simp only [Go.RowKit.intOf]; omega⟩
    · obtain rfl : k = n := by omega
      obtain rfl : r = false := by
        rw [← HR.out]
        have := HS.out
        rw [List.take_of_length_le (by rw [HN.out]; exact Nat.le_refl _)] at this
        exact decide_eq_false this
      clear HS HR
      go_wp2_with fail
      go_ret
      exact ⟨rfl, HBX.out.1.trans (HL.out.mono HBX.out.2)⟩
/-- The turned list's first part. -/
def turnF (l : List Sp) (t i : Nat) : List Sp := (List.range i).map fun j => l.getD ((j + t) % l.length) (0, 0)
theorem turnF_step {l : List Sp} {t i : Nat} {x : Sp} (h : l[(i + t) % l.length]? = some x) : (turnF l t (i + 1)).flatMap spV = (turnF l t i).flatMap spV ++ [.int .i64 x.1, .int .i64 x.2] := by
  unfold turnF
  rw [List.range_succ, List.map_append, List.flatMap_append, List.map_singleton, List.getD_eq_getElem?_getD, h]
  rfl
theorem turnF_len (l : List Sp) (t i : Nat) : (turnF l t i).length = i := by simp [turnF]

set_option maxRecDepth 100000 in
set_option maxHeartbeats 4000000 in
theorem turned_any {w : World} {v : Value} {l : List Sp} (hv : Rows 2 ESp w v l) (hl : l.length ≤ 60) (t : Nat) (ht : t ≤ 100) :
    Calls Try.prog 26 #[v, .int .i64 t] w fun e w' => (∃ v', e = .returned v' ∧ Rows 2 ESp w' v' (turnS l t)) ∧ Below w.heap.size w w' := by
  have HV0 := Lib.hid (fun W (h : Below w.heap.size w W) => hv.below stays_sp h)
  obtain ⟨A, cap, rfl, hc⟩ := hv.form
  obtain ⟨n, hn⟩ : ∃ n, l.length = n := ⟨_, rfl⟩
  obtain ⟨N, hN⟩ : ∃ N, w.heap.size = N := ⟨_, rfl⟩
  rw [hn] at hc hl HV0 ⊢
  rw [hN] at HV0 ⊢
  have HN := Lib.hid hn
  have HSZ : Hid (∀ W, Below N w W → N ≤ W.heap.size) := Lib.hid fun W h => by rw [← hN]; exact h.size
  clear hv hn hN
  go_enter Try.func26, Try.ntmps26
  go_wp2_with fail
  go_loopw [5, 6, 9] (fun lv _ kv wr => ∃ (i : Nat) (lw : Value), lw = lv ∧ i ≤ n ∧ kv = .int .i64 i ∧ Hid (wr.ownsRow N 31 2 lw i ((turnF l t i).flatMap spV)) ∧ Hid (Below N w wr)) (fun _ _ kv _ => n - (Go.RowKit.intOf kv).toNat)
  case atStart => exact ⟨0, _, rfl, Nat.zero_le _, rfl, Lib.hid (World.ownsRow_nil _ _ _ 2), Lib.hid (Below.refl _ _)⟩
  case round =>
    obtain ⟨i, lv, hlv, hi, rfl, HO, HB⟩ := hrel
    subst hlv
    by_cases hlt : i < n
    · obtain ⟨j, hj⟩ : ∃ j, (i + t) % n = j := ⟨_, rfl⟩
      have hjn : j < n := by rw [← hj]; exact Nat.mod_lt _ (by omega)
      obtain ⟨x, hx⟩ : ∃ x, l[j]? = some x := ⟨_, List.getElem?_eq_getElem (by rw [HN.out]; omega)⟩
      obtain ⟨bk, off, rfl, hbl, hjj⟩ := at_sp (HV0.out wr HB.out) (by rw [HN.out]; omega)
      obtain ⟨c0, c1⟩ := hjj j x hx
      have hst := turnF_step (l := l) (t := t) (i := i) (x := x) (by rw [HN.out, hj]; exact hx)
      obtain ⟨x1, x2⟩ := x
      simp only at c0 c1 hst
      have HST := Lib.hid hst
      have hii : (i : Int) < (n : Int) := by omega
      have hjii : (j : Int) < (n : Int) := by omega
      have hrem : Int.tmod ((i : Int) + (t : Int)) (n : Int) = (j : Int) := by
        rw [← hj]
        have : ((i : Int) + (t : Int)) = ((i + t : Nat) : Int) := by omega
        rw [this]
        exact (Int.ofNat_tmod _ _).symm
      have hnz : ((n : Int) == 0) = false := beq_eq_false_iff_ne.2 (by omega)
      have hnz' : ¬ (n : Int) = 0 := by omega
      have hi6 : i ≤ 1000000 := by omega
      clear hst hx hjj hbl hj
      go_wp2_with (at_builtin; refine wpList_pushS rfl (.tmp 12) (.tmp 22) rfl N _ _ _ x1 x2 rfl rfl HO.out hi6 (HSZ.out wr HB.out) ?_; intro v' w' HO2 HB2')
      have HB3 := Lib.hid (HB2'.out _ _ HB.out (Nat.le_refl _))
      rw [← HST.out] at HO2
      clear c0 c1 HB2'
      go_wp2_with fail
      exact ⟨⟨i + 1, _, rfl, by omega, by go_num, HO2, HB3⟩, by simp only [Go.RowKit.intOf]; omega⟩
    · obtain rfl : i = n := by omega
      by_cases h0 : i = 0
      · subst h0
        have hl0 : l = [] := List.length_eq_zero_iff.1 HN.out
        have hrow : Rows 2 ESp wr lv (turnS l t) := by
          rw [hl0]
          exact own_sp (L := []) HO.out
        have HROW := Lib.hid hrow
        clear hrow HO
        go_wp2_with fail
        go_ret
        exact ⟨⟨_, rfl, HROW.out⟩, HB.out⟩
      · obtain ⟨x, hx⟩ : ∃ x, l[0]? = some x := ⟨_, List.getElem?_eq_getElem (by rw [HN.out]; omega)⟩
        obtain ⟨bk, off, rfl, hbl, hjj⟩ := at_sp (HV0.out wr HB.out) (by rw [HN.out]; omega)
        obtain ⟨c0, c1⟩ := hjj 0 x hx
        rw [Nat.zero_mul, Nat.add_zero] at c0 c1
        have hfin : (turnF l t i).flatMap spV ++ [.int .i64 x.1, .int .i64 x.2] = (turnS l t).flatMap spV := by
          unfold turnS turnF
          rw [HN.out, List.flatMap_append]
          have : l.take 1 = [x] := by rw [List.take_add_one, hx]; rfl
          rw [this]
          rfl
        have hlen : (turnS l t).length = i + 1 := by
          unfold turnS
          simp only [List.length_append, List.length_map, List.length_range, List.length_take, HN.out]
          omega
        obtain ⟨x1, x2⟩ := x
        simp only at c0 c1 hfin
        have HFIN := Lib.hid (And.intro hfin hlen)
        have hpos : (0 : Int) < (i : Int) := by omega
        have hi6 : i ≤ 1000000 := by omega
        clear hfin hlen hx hjj hbl
        go_wp2_with (at_builtin; refine wpList_pushS rfl (.tmp 28) (.tmp 32) rfl N _ _ _ x1 x2 rfl rfl HO.out hi6 (HSZ.out wr HB.out) ?_; intro v' w' HO2 HB2')
        have HB3 := Lib.hid (HB2'.out _ _ HB.out (Nat.le_refl _))
        have HROW : Hid (Rows 2 ESp w' v' (turnS l t)) := Lib.hid (own_sp (base := N) (T := 31) (by rw [HFIN.out.2, ← HFIN.out.1]; exact HO2.out))
        clear c0 c1 HB2' HO2
        go_wp2_with fail
        go_ret
        exact ⟨⟨_, rfl, HROW.out⟩, HB3.out⟩
end Go.Proofs.Ytpkkebojiengpaa
