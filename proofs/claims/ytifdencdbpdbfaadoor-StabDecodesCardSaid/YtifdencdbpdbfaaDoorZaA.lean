/-
  WALKS over the reference of package stab: Check, Stab, Ask.
-/
import Derived.Test.YtifdencdbpdbfaaDoorYaZ
namespace Go.Proofs.YtifdencdbpdbfaaDoor
open Go.RowKit Go.Shelf Go.Lib Go.Sort
set_option linter.unusedVariables false
set_option linter.unusedSimpArgs false

/-- append of one number to a row of the call's own. -/
theorem wpList_pushI {w : World} {ops : Array Oper} {rest : List Oper} {o : Oper} {a : Act} {Q : Exit → Act → World → Prop} (hgd : o.guard = none) (s x : Operand)
    (ho : o.op = .call { callee := .builtin .append, args := #[s, x], argTypes := #[37, 37] })
    (base : Nat) (v : Value) (n : Nat) (l : List Value) (p : Int) (hs : a.eval s = v) (hx : a.eval x = .slice (some ⟨w.heap.size, 0, none⟩) 1 1)
    (hown : w.ownsRow base 3 1 v n l) (hn : n ≤ 1000000) (hbase : base ≤ w.heap.size)
    (h : ∀ v' w', Hid (w'.ownsRow base 3 1 v' (n + 1) (l ++ [.int .i64 p])) → Hid (∀ B W, Below B W w → B ≤ base → Below B W w') → wpList Tryd.prog ops Q rest (a.put o.dst v') w') :
    wpList Tryd.prog ops Q (o :: rest) a (w.alloc (.cells #[.int .i64 p] 3)) := by
  obtain ⟨i0, hi, hz0, hz1, hz2⟩ := info_parts' Tryd.infoInt2
  refine wpList_append_own _ hgd s x 37 ho base 3 i0 _ 1 8 Tryd.underlying37 hi hz0 hz1 hz2 rfl (by decide) v n _ hs (hown.alloc _) _ 1 1 [.int .i64 p] hx rfl (news_at w [.int .i64 p] 3) (by simp [Value.oneCell']) (by unfold maxLen; omega) (by omega) (by simp; omega) ?_
  intro v' w' h1 h2 _
  have hlow := own_low hown
  refine h v' w' (Lib.hid h1) (Lib.hid fun B W hb hB => ?_)
  exact (hb.alloc (Nat.le_trans hB hbase) _).grown h2 (by simp; omega) (fun k e => Nat.le_trans hB (hlow k e).1)
theorem chkR_bad {l : List Sp} {k : Nat} {x : Sp} (h : chkS l = 0) (hx : l[k]? = some x) (hk : 2147483647 < x.2) : chkT l = 8 := by
  rw [chkT_ref, h, if_neg (by simp), if_neg]
  intro ha
  have := List.all_eq_true.1 ha x (List.mem_of_getElem? hx)
  simp at this
  omega
theorem chkR_good {l : List Sp} (h : chkS l = 0) (hk : ∀ (j : Nat) (y : Sp), j < l.length → l[j]? = some y → y.2 ≤ 2147483647) : chkT l = 0 := by
  rw [chkT_ref, h, if_neg (by simp), if_pos]
  refine List.all_eq_true.2 fun x hx => ?_
  obtain ⟨j, hj⟩ := List.getElem?_of_mem hx
  simpa using hk j x (List.getElem?_eq_some_iff.1 hj).1 hj

set_option maxRecDepth 100000 in
set_option maxHeartbeats 8000000 in
theorem refCheckT_any {w : World} {v : Value} {l : List Sp} (hv : Rows 2 ESp w v l) :
    Calls Tryd.prog 16 #[v] w (IntV w (chkT l)) := by
  have hck := refCheck_any hv
  have HV := Lib.hid (fun W (h : Below w.heap.size w W) => hv.below stays_sp h)
  obtain ⟨A, cap, rfl, hc⟩ := hv.form
  obtain ⟨n, hn⟩ : ∃ n, l.length = n := ⟨_, rfl⟩
  rw [hn] at hc HV hck ⊢
  have HN := Lib.hid hn
  obtain ⟨r, hr⟩ : ∃ r, chkT l = r := ⟨_, rfl⟩
  obtain ⟨c, hcc⟩ : ∃ c, chkS l = c := ⟨_, rfl⟩
  have hln : c = 0 → n ≤ 4096 := fun h => by rw [← hn]; exact (chk_ok (by rw [hcc, h])).1
  have hne : c ≠ 0 → r = c := fun h => by rw [← hr, chkT_ref, hcc, if_pos h]
  have hbad := fun (h : c = 0) (k : Nat) (x : Sp) (hx : l[k]? = some x) (hk : 2147483647 < x.2) => hr.symm.trans (chkR_bad (by rw [hcc, h]) hx hk)
  have hgood := fun (h : c = 0) (hk : ∀ (j : Nat) (y : Sp), j < l.length → l[j]? = some y → y.2 ≤ 2147483647) => hr.symm.trans (chkR_good (by rw [hcc, h]) hk)
  rw [hcc] at hck
  rw [hr]
  have HCK := Lib.hid hck
  have HLN := Lib.hid hln
  have HNE := Lib.hid hne
  have HBAD := Lib.hid hbad
  have HGOOD := Lib.hid hgood
  obtain ⟨N0, hN0⟩ : ∃ N, w.heap.size = N := ⟨_, rfl⟩
  unfold IntV at HCK ⊢
  rw [hN0] at HV HCK ⊢
  have HN0 := Lib.hid hN0
  clear hv hn hr hcc hN0 hck hln hne hbad hgood
  by_cases h0 : c = 0
  · subst h0
    have hlim := HLN.out rfl
    clear HLN HNE
    go_enter Tryd.func16, Tryd.ntmps16
    go_wp2_with fail
    refine HCK.out.mono ?_
    rintro e w1 ⟨rfl, hb1⟩
    have HB1 := Lib.hid hb1
    clear hb1
    go_wp2_with fail
    go_loopw [13] (fun i wr => ∃ k : Nat, k ≤ n ∧ i = .int .i64 k ∧ Hid (∀ (j : Nat) (y : Sp), j < k → l[j]? = some y → y.2 ≤ 2147483647) ∧ Hid (Below N0 w wr)) (fun i _ => n - (Go.RowKit.intOf i).toNat)
    case atStart => exact ⟨0, Nat.zero_le _, rfl, Lib.hid (fun j y h => absurd h (by omega)), HB1⟩
    case round =>
      clear HB1
      obtain ⟨k, hk, rfl, HS, HB⟩ := hrel
      by_cases hlt : k < n
      · obtain ⟨x, hx⟩ : ∃ x, l[k]? = some x := ⟨_, List.getElem?_eq_getElem (by rw [HN.out]; omega)⟩
        obtain ⟨bk, off, rfl, hbl, hj⟩ := at_sp (HV.out wr HB.out) (by rw [HN.out]; omega)
        obtain ⟨c0, c1⟩ := hj k x hx
        have HX := Lib.hid hx
        obtain ⟨x1, x2⟩ := x
        simp only at c0 c1
        obtain ⟨WB, hWB⟩ : ∃ X, wr.alloc (.cells #[.int .i64 x1, .int .i64 x2] 24) = X := ⟨_, rfl⟩
        obtain ⟨Nx, hNx⟩ : ∃ N, wr.heap.size = N := ⟨_, rfl⟩
        have hbx : WB.heap[Nx]? = some (.cells #[.int .i64 x1, .int .i64 x2] 24 (0, 0)) := by rw [← hWB, ← hNx]; exact block_new _ _
        have hN0x : N0 ≤ Nx := by rw [← hNx, ← HN0.out]; exact HB.out.size
        have hbW : Below Nx wr WB := by rw [← hWB, ← hNx]; exact below_box _ _
        have d0 := cell_of (i := 0) hbx rfl
        have d1 := cell_of (i := 1) hbx rfl
        have HBW := Lib.hid (HB.out.trans (hbW.mono hN0x))
        have HWB := Lib.hid hWB
        have HNx := Lib.hid hNx
        have hlti : (k : Int) < (n : Int) := by omega
        clear hx hj hbl hWB hNx hbx hN0x hbW HB
        by_cases hbig : 2147483647 < x2
        · obtain rfl : r = 8 := HBAD.out (by trivial) k _ HX.out hbig
          clear HBAD HGOOD
          go_upto_region 7 with fail
          rw [HWB.out, HNx.out]
          clear c0 c1
          go_wp2_with fail
          go_ret
          exact ⟨rfl, HBW.out⟩
        · go_upto_region 7 with fail
          rw [HWB.out, HNx.out]
          clear c0 c1
          go_wp2_with fail
          refine ⟨⟨k + 1, by omega, by go_num, Lib.hid (fun j y hj hy => ?_), HBW⟩, by simp only [Go.RowKit.intOf]; omega⟩
          by_cases e : j = k
          · subst e
            rw [HX.out] at hy
            cases hy
            show x2 ≤ 2147483647
            omega
          · exact HS.out j y (by omega) hy
      · obtain rfl : k = n := by omega
        obtain rfl : r = 0 := HGOOD.out (by trivial) (by rw [HN.out]; exact HS.out)
        clear HS HGOOD HBAD
        go_wp2_with fail
        go_ret
        exact ⟨rfl, HB.out⟩
  · obtain rfl : r = c := HNE.out h0
    have hcb : (r != 0) = true := by simp [h0]
    clear HNE HLN HBAD HGOOD
    go_enter Tryd.func16, Tryd.ntmps16
    go_wp2_with fail
    refine HCK.out.mono ?_
    rintro e w1 ⟨rfl, hb1⟩
    have HB1 := Lib.hid hb1
    clear hb1
    go_wp2_with fail
    go_ret
    exact ⟨rfl, HB1.out⟩

end Go.Proofs.YtifdencdbpdbfaaDoor
