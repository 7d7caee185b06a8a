/-
  WALKS over the reference of package stab: Check, Stab, Ask.
-/
import Derived.Test.YtifdencdbpdbfaaYaZ
namespace Go.Proofs.Ytifdencdbpdbfaa
open Go.RowKit Go.Shelf Go.Lib Go.Sort
set_option linter.unusedVariables false
set_option linter.unusedSimpArgs false

/-- append of one number to a row of the call's own. -/
theorem wpList_pushI {w : World} {ops : Array Oper} {rest : List Oper} {o : Oper} {a : Act} {Q : Exit → Act → World → Prop} (hgd : o.guard = none) (s x : Operand)
    (ho : o.op = .call { callee := .builtin .append, args := #[s, x], argTypes := #[30, 30] })
    (base : Nat) (v : Value) (n : Nat) (l : List Value) (p : Int) (hs : a.eval s = v) (hx : a.eval x = .slice (some ⟨w.heap.size, 0, none⟩) 1 1)
    (hown : w.ownsRow base 3 1 v n l) (hn : n ≤ 1000000) (hbase : base ≤ w.heap.size)
    (h : ∀ v' w', Hid (w'.ownsRow base 3 1 v' (n + 1) (l ++ [.int .i64 p])) → Hid (∀ B W, Below B W w → B ≤ base → Below B W w') → wpList Try.prog ops Q rest (a.put o.dst v') w') :
    wpList Try.prog ops Q (o :: rest) a (w.alloc (.cells #[.int .i64 p] 3)) := by
  obtain ⟨i0, hi, hz0, hz1, hz2⟩ := info_parts' Try.infoInt2
  refine wpList_append_own _ hgd s x 30 ho base 3 i0 _ 1 8 Try.underlying30 hi hz0 hz1 hz2 rfl (by decide) v n _ hs (hown.alloc _) _ 1 1 [.int .i64 p] hx rfl (news_at w [.int .i64 p] 3) (by simp [Value.oneCell']) (by unfold maxLen; omega) (by omega) (by simp; omega) ?_
  intro v' w' h1 h2 _
  have hlow := own_low hown
  refine h v' w' (Lib.hid h1) (Lib.hid fun B W hb hB => ?_)
  exact (hb.alloc (Nat.le_trans hB hbase) _).grown h2 (by simp; omega) (fun k e => Nat.le_trans hB (hlow k e).1)
theorem chkR_bad {l : List Sp} {k : Nat} {x : Sp} (h : chkS l = 0) (hx : l[k]? = some x) (hk : 2147483647 < x.2) : chkT l = 8 := by
  rw [chkT_ref, h, if_neg (by simp), if_neg]
  intro ha
  have := List.all_eq_true.1 ha x (List.mem_of_getElem? hx)
  simp at this
  omega
theorem chkR_good {l : List Sp} (h : chkS l = 0) (hk : ∀ (j : Nat) (y : Sp), j < l.length → l[j]? = some y → y.2 ≤ 2147483647) : chkT l = 0 := by
  rw [chkT_ref, h, if_neg (by simp), if_pos]
  refine List.all_eq_true.2 fun x hx => ?_
  obtain ⟨j, hj⟩ := List.getElem?_of_mem hx
  simpa using hk j x (List.getElem?_eq_some_iff.1 hj).1 hj

set_option maxRecDepth 100000 in
set_option maxHeartbeats 8000000 in
theorem refCheckT_any {w : World} {v : Value} {l : List Sp} (hv : Rows 2 ESp w v l) :
    Calls Try.prog 20 #[v] w (IntV w (chkT l)) := by
  have hck := refCheck_any hv
  have HV := Lib.hid (fun W (h : Below w.heap.size w W) => hv.below stays_sp h)
  obtain ⟨A, cap, rfl, hc⟩ := hv.form
  obtain ⟨n, hn⟩ : ∃ n, l.length = n := ⟨_, rfl⟩
  rw [hn] at hc HV hck ⊢
  have HN := Lib.hid hn
  obtain ⟨r, hr⟩ : ∃ r, chkT l = r := ⟨_, rfl⟩
  obtain ⟨c, hcc⟩ : ∃ c, chkS l = c := ⟨_, rfl⟩
  have hln : c = 0 → n ≤ 4096 := fun h => by rw [← hn]; exact (chk_ok (by rw [hcc, h])).1
  have hne : c ≠ 0 → r = c := fun h => by rw [← hr, chkT_ref, hcc, if_pos h]
  have hbad := fun (h : c = 0) (k : Nat) (x : Sp) (hx : l[k]? = some x) (hk : 2147483647 < x.2) => hr.symm.trans (chkR_bad (by rw [hcc, h]) hx hk)
  have hgood := fun (h : c = 0) (hk : ∀ (j : Nat) (y : Sp), j < l.length → l[j]? = some y → y.2 ≤ 2147483647) => hr.symm.trans (chkR_good (by rw [hcc, h]) hk)
  rw [hcc] at hck
  rw [hr]
  have HCK := Lib.hid hck
  have HLN := Lib.hid hln
  have HNE := Lib.hid hne
  have HBAD := Lib.hid hbad
  have HGOOD := Lib.hid hgood
  obtain ⟨N0, hN0⟩ : ∃ N, w.heap.size = N := ⟨_, rfl⟩
  unfold IntV at HCK ⊢
  rw [hN0] at HV HCK ⊢
  have HN0 := Lib.hid hN0
  clear hv hn hr hcc hN0 hck hln hne hbad hgood
  by_cases h0 : c = 0
  · subst h0
    have hlim := HLN.out rfl
    clear HLN HNE
    go_enter Try.func20, Try.ntmps20
    go_wp2_with fail
    refine HCK.out.mono ?_
    rintro e w1 ⟨rfl, hb1⟩
    have HB1 := Lib.hid hb1
    clear hb1
    go_wp2_with fail
    go_loopw [13] (fun i wr => ∃ k : Nat, k ≤ n ∧ i = .int .i64 k ∧ Hid (∀ (j : Nat) (y : Sp), j < k → l[j]? = some y → y.2 ≤ 2147483647) ∧ Hid (Below N0 w wr)) (fun i _ => n - (Go.RowKit.intOf i).toNat)
    case atStart => exact ⟨0, Nat.zero_le _, rfl, Lib.hid (fun j y h => absurd h (by omega)), HB1⟩
    case round =>
      clear HB1
      obtain ⟨k, hk, rfl, HS, HB⟩ := hrel
      by_cases hlt : k < n
      · obtain ⟨x, hx⟩ : ∃ x, l[k]? = some x := ⟨_, List.getElem?_eq_getElem (by rw [HN.out]; omega)⟩
        obtain ⟨bk, off, rfl, hbl, hj⟩ := at_sp (HV.out wr HB.out) (by rw [HN.out]; omega)
        obtain ⟨c0, c1⟩ := hj k x hx
        have HX := Lib.hid hx
        obtain ⟨x1, x2⟩ := x
        simp only at c0 c1
        obtain ⟨WB, hWB⟩ : ∃ X, wr.alloc (.cells #[.int .i64 x1, .int .i64 x2] 35) = X := ⟨_, rfl⟩
        obtain ⟨Nx, hNx⟩ : ∃ N, wr.heap.size = N := ⟨_, rfl⟩
        have hbx : WB.heap[Nx]? = some (.cells #[.int .i64 x1, .int .i64 x2] 35 (0, 0)) := by rw [← hWB, ← hNx]; exact block_new _ _
        have hN0x : N0 ≤ Nx := by rw [← hNx, ← HN0.out]; exact HB.out.size
        have hbW : Below Nx wr WB := by rw [← hWB, ← hNx]; exact below_box _ _
        have d0 := cell_of (i := 0) hbx rfl
        have d1 := cell_of (i := 1) hbx rfl
        have HBW := Lib.hid (HB.out.trans (hbW.mono hN0x))
        have HWB := Lib.hid hWB
        have HNx := Lib.hid hNx
        have hlti : (k : Int) < (n : Int) := by omega
        clear hx hj hbl hWB hNx hbx hN0x hbW HB
        by_cases hbig : 2147483647 < x2
        · obtain rfl : r = 8 := HBAD.out (by trivial) k _ HX.out hbig
          clear HBAD HGOOD
          go_upto_region 7 with fail
          rw [HWB.out, HNx.out]
          clear c0 c1
          go_wp2_with fail
          go_ret
          exact ⟨rfl, HBW.out⟩
        · go_upto_region 7 with fail
          rw [HWB.out, HNx.out]
          clear c0 c1
          go_wp2_with fail
          refine ⟨⟨k + 1, by omega, by go_num, Lib.hid (fun j y hj hy => ?_), HBW⟩, by simp only [Go.RowKit.intOf]; omega⟩
          by_cases e : j = k
          · subst e
            rw [HX.out] at hy
            cases hy
            show x2 ≤ 2147483647
            omega
          · exact HS.out j y (by omega) hy
      · obtain rfl : k = n := by omega
        obtain rfl : r = 0 := HGOOD.out (by trivial) (by rw [HN.out]; exact HS.out)
        clear HS HGOOD HBAD
        go_wp2_with fail
        go_ret
        exact ⟨rfl, HB.out⟩
  · obtain rfl : r = c := HNE.out h0
    have hcb : (r != 0) = true := by simp [h0]
    clear HNE HLN HBAD HGOOD
    go_enter Try.func20, Try.ntmps20
    go_wp2_with fail
    refine HCK.out.mono ?_
    rintro e w1 ⟨rfl, hb1⟩
    have HB1 := Lib.hid hb1
    clear hb1
    go_wp2_with fail
    go_ret
    exact ⟨rfl, HB1.out⟩

set_option maxRecDepth 100000 in
set_option maxHeartbeats 8000000 in
theorem refStab_any {w : World} {v : Value} {l : List Sp} (hv : Rows 2 ESp w v l) (hl : l.length ≤ 4096) (pos : Int) :
    Calls Try.prog 13 #[v, .int .i64 pos] w (ListV w (idxs (stabP pos) l)) := by
  have HV := Lib.hid (fun W (h : Below w.heap.size w W) => hv.below stays_sp h)
  obtain ⟨A, cap, rfl, hc⟩ := hv.form
  obtain ⟨n, hn⟩ : ∃ n, l.length = n := ⟨_, rfl⟩
  obtain ⟨P, hP⟩ : ∃ P, stabP pos = P := ⟨_, rfl⟩
  rw [hn] at hc HV hl ⊢
  have HN := Lib.hid hn
  have HP := Lib.hid (fun (k : Nat) (x : Sp) (h : l[k]? = some x) => idxs_step (P := P) h)
  have HPX := Lib.hid (fun (x : Sp) => show P x = (decide (x.1 ≤ pos) && decide (pos < x.2)) by rw [← hP]; rfl)
  have HLEN := Lib.hid (fun (k : Nat) (hk : k ≤ n) => Nat.le_trans (idxs_len P (l.take k)) (by rw [List.length_take]; omega : (l.take k).length ≤ n))
  rw [hP]
  obtain ⟨N0, hN0⟩ : ∃ N, w.heap.size = N := ⟨_, rfl⟩
  unfold ListV
  rw [hN0] at HV ⊢
  have HN0 := Lib.hid hN0
  clear hv hn hN0 hP
  go_enter Try.func13, Try.ntmps13
  go_wp2_with fail
  go_loopw [5, 10] (fun lv kv wr => ∃ (k : Nat) (lw : Value), lw = lv ∧ k ≤ n ∧ kv = .int .i64 k ∧ Hid (wr.ownsRow N0 3 1 lw (idxs P (l.take k)).length ((idxs P (l.take k)).map fun x => Value.int .i64 x)) ∧ Hid (Below N0 w wr)) (fun _ kv _ => n - (Go.RowKit.intOf kv).toNat)
  case atStart => exact ⟨0, _, rfl, Nat.zero_le _, rfl, Lib.hid (World.ownsRow_nil _ _ _ _), Lib.hid (Below.refl _ _)⟩
  case round =>
    obtain ⟨k, lv, hlv, hk, rfl, HO, HB⟩ := hrel
    subst hlv
    by_cases hlt : k < n
    · obtain ⟨x, hx⟩ : ∃ x, l[k]? = some x := ⟨_, List.getElem?_eq_getElem (by rw [HN.out]; omega)⟩
      obtain ⟨bk, off, rfl, hbl, hj⟩ := at_sp (HV.out wr HB.out) (by rw [HN.out]; omega)
      obtain ⟨c0, c1⟩ := hj k x hx
      have hst := HP.out k x hx
      have hpx := HPX.out x
      obtain ⟨q, hq⟩ : ∃ q, P x = q := ⟨_, rfl⟩
      rw [hq] at hst hpx
      obtain ⟨x1, x2⟩ := x
      simp only at c0 c1 hpx
      obtain ⟨WB, hWB⟩ : ∃ X, wr.alloc (.cells #[.int .i64 x1, .int .i64 x2] 35) = X := ⟨_, rfl⟩
      obtain ⟨Nx, hNx⟩ : ∃ N, wr.heap.size = N := ⟨_, rfl⟩
      have hbx : WB.heap[Nx]? = some (.cells #[.int .i64 x1, .int .i64 x2] 35 (0, 0)) := by rw [← hWB, ← hNx]; exact block_new _ _
      have hN0x : N0 ≤ Nx := by rw [← hNx, ← HN0.out]; exact HB.out.size
      have hbW : Below Nx wr WB := by rw [← hWB, ← hNx]; exact below_box _ _
      have hown : WB.ownsRow N0 3 1 lv (idxs P (l.take k)).length ((idxs P (l.take k)).map fun x => Value.int .i64 x) := by rw [← hWB]; exact HO.out.alloc _
      have d0 := cell_of (i := 0) hbx rfl
      have d1 := cell_of (i := 1) hbx rfl
      have HBW := Lib.hid (HB.out.trans (hbW.mono hN0x))
      have HOW := Lib.hid hown
      have HST := Lib.hid hst
      have HSZ : Hid (N0 ≤ WB.heap.size) := Lib.hid (by rw [← hWB, alloc_sz, hNx]; omega)
      have HWB := Lib.hid hWB
      have HNx := Lib.hid hNx
      have hlti : (k : Int) < (n : Int) := by omega
      have hlen : (idxs P (l.take k)).length ≤ 1000000 := by have := HLEN.out k hk; omega
      obtain ⟨m, hm⟩ : ∃ m, (idxs P (l.take k)).length = m := ⟨_, rfl⟩
      rw [hm] at HOW hlen
      have HM := Lib.hid hm
      clear hx hj hbl hWB hNx hbx hN0x hbW HB hst hown hm hq
      cases q with
      | true =>
        have h1 : x1 ≤ pos := by have := hpx.symm; simp at this; exact this.1
        have h2 : pos < x2 := by have := hpx.symm; simp at this; exact this.2
        clear hpx
        go_upto_region 5 with fail
        rw [HWB.out, HNx.out]
        clear c0 c1
        go_wp2_with (at_builtin; refine wpList_pushI rfl (.tmp 25) (.tmp 27) rfl N0 _ _ _ (k : Int) rfl rfl HOW.out hlen HSZ.out ?_; intro v' w' HO2 HB2')
        refine ⟨⟨k + 1, _, rfl, by omega, by go_num, Lib.hid ?_, Lib.hid (HB2'.out _ _ HBW.out (Nat.le_refl _))⟩, by simp only [Go.RowKit.intOf]; omega⟩
        rw [HST.out, if_pos rfl, List.length_append, List.map_append, HM.out]
        exact HO2.out
      | false =>
        by_cases h1 : x1 ≤ pos
        · have h2 : ¬ pos < x2 := fun h => by simp [h1, h] at hpx
          clear hpx
          go_upto_region 5 with fail
          rw [HWB.out, HNx.out]
          clear c0 c1
          go_wp2_with fail
          refine ⟨⟨k + 1, _, rfl, by omega, by go_num, Lib.hid ?_, HBW⟩, by simp only [Go.RowKit.intOf]; omega⟩
          rw [HST.out, if_neg (by simp), List.append_nil, HM.out]
          exact HOW.out
        · clear hpx
          go_upto_region 5 with fail
          rw [HWB.out, HNx.out]
          clear c0 c1
          go_wp2_with fail
          refine ⟨⟨k + 1, _, rfl, by omega, by go_num, Lib.hid ?_, HBW⟩, by simp only [Go.RowKit.intOf]; omega⟩
          rw [HST.out, if_neg (by simp), List.append_nil, HM.out]
          exact HOW.out
    · obtain rfl : k = n := by omega
      have ho := HO.out
      rw [List.take_of_length_le (by rw [HN.out]; exact Nat.le_refl _)] at ho
      have HRR := Lib.hid (own_rows ho)
      clear ho HO
      go_wp2_with fail
      go_ret
      exact ⟨⟨_, rfl, HRR.out⟩, HB.out⟩

set_option maxRecDepth 100000 in
set_option maxHeartbeats 8000000 in
theorem refAskO_any {w : World} {v : Value} {l : List Sp} (hv : Rows 2 ESp w v l) (hl : l.length ≤ 4096) (s : Sp) :
    Calls Try.prog 15 #[v, spA s, .int .i64 1] w (ListV w (askL (fun t => ovB t s) s l)) := by
  have HV := Lib.hid (fun W (h : Below w.heap.size w W) => hv.below stays_sp h)
  obtain ⟨A, cap, rfl, hc⟩ := hv.form
  obtain ⟨n, hn⟩ : ∃ n, l.length = n := ⟨_, rfl⟩
  rw [hn] at hc HV hl ⊢
  have HN := Lib.hid hn
  have hvd := fun W => refValid_any s W
  unfold askL
  obtain ⟨z, hz⟩ : ∃ z, okS s = z := ⟨_, rfl⟩
  rw [hz] at hvd ⊢
  have hcl := fun (t : Sp) W => refOverlap_any t s W
  obtain ⟨P, hP⟩ : ∃ P : Sp → Bool, (fun t => ovB t s) = P := ⟨_, rfl⟩
  have hPx : ∀ t, ovB t s = P t := fun t => by rw [← hP]
  have hcl2 : ∀ (t : Sp) W, Calls Try.prog 26 #[.agg #[.int .i64 t.1, .int .i64 t.2], .agg #[.int .i64 s.1, .int .i64 s.2]] W (BoolV W (P t)) := fun t W => by
    have := hcl t W
    rw [hPx] at this
    exact this
  have HP := Lib.hid (fun (k : Nat) (x : Sp) (h : l[k]? = some x) => idxs_step (P := P) h)
  have HLEN := Lib.hid (fun (k : Nat) (hk : k ≤ n) => Nat.le_trans (idxs_len P (l.take k)) (by rw [List.length_take]; omega : (l.take k).length ≤ n))
  rw [hP]
  obtain ⟨s1, s2⟩ := s
  unfold spA
  simp only at hvd hcl2 ⊢
  have hb0 := below_box w (.cells #[.int .i64 s1, .int .i64 s2] 35)
  obtain ⟨X, hX⟩ : ∃ X, w.alloc (.cells #[.int .i64 s1, .int .i64 s2] 35) = X := ⟨_, rfl⟩
  obtain ⟨N0, hN0⟩ : ∃ N, w.heap.size = N := ⟨_, rfl⟩
  have hbx : X.heap[N0]? = some (.cells #[.int .i64 s1, .int .i64 s2] 35 (0, 0)) := by rw [← hX, ← hN0]; exact block_new _ _
  rw [hX, hN0] at hb0
  have hXs : X.heap.size = N0 + 1 := by rw [← hX, alloc_sz, hN0]
  have HD := Lib.hid (fun W (h : Below (N0 + 1) X W) => And.intro ((h.cell (p := ⟨N0, 0, none⟩) (Nat.lt_succ_self _)).trans (cell_of (i := 0) hbx rfl)) ((h.cell (p := ⟨N0, 1, none⟩) (Nat.lt_succ_self _)).trans (cell_of (i := 1) hbx rfl)))
  have d0 : X.cell? ⟨N0, 0, none⟩ = some (.int .i64 s1) := cell_of (i := 0) hbx rfl
  have d1 : X.cell? ⟨N0, 1, none⟩ = some (.int .i64 s2) := cell_of (i := 1) hbx rfl
  have HX := Lib.hid hX
  have HXS := Lib.hid hXs
  have HB0 := Lib.hid hb0
  have HVD := Lib.hid hvd
  have HCL := Lib.hid hcl2
  unfold ListV
  rw [hN0] at HV ⊢
  have HN0 := Lib.hid hN0
  clear hv hn hN0 hP hPx hcl hcl2 hvd hX hb0 hbx hz hXs
  cases z with
  | false =>
    go_enter Try.func15, Try.ntmps15
    go_upto_region 1 with fail
    rw [HX.out, HN0.out]
    go_wp2_with fail
    refine (HVD.out _).mono ?_
    rintro e w2 ⟨rfl, hb2⟩
    have HB2 := Lib.hid (HB0.out.trans (hb2.mono (by rw [HXS.out]; omega)))
    clear d0 d1 hb2
    go_wp2_with fail
    go_ret
    exact ⟨⟨_, rfl, Rows.nil _⟩, HB2.out⟩
  | true =>
    go_enter Try.func15, Try.ntmps15
    go_upto_region 1 with fail
    rw [HX.out, HN0.out]
    go_wp2_with fail
    refine (HVD.out _).mono ?_
    rintro e w2 ⟨rfl, hb2⟩
    have hbX2 : Below (N0 + 1) X w2 := by rw [← HXS.out]; exact hb2
    have HBX2 := Lib.hid hbX2
    have hsz2 : N0 + 1 ≤ w2.heap.size := by rw [← HXS.out]; exact hb2.size
    have HSZ2 := Lib.hid hsz2
    clear d0 d1 hb2 hbX2 hsz2
    go_wp2_with fail
    go_loopw [7, 16] (fun lv kv wr => ∃ (k : Nat) (lw : Value), lw = lv ∧ k ≤ n ∧ kv = .int .i64 k ∧ Hid (wr.ownsRow (N0 + 1) 3 1 lw (idxs P (l.take k)).length ((idxs P (l.take k)).map fun x => Value.int .i64 x)) ∧ Hid (Below (N0 + 1) X wr)) (fun _ kv _ => n - (Go.RowKit.intOf kv).toNat)
    case atStart => exact ⟨0, _, rfl, Nat.zero_le _, rfl, Lib.hid (World.ownsRow_nil _ _ _ _), HBX2⟩
    case round =>
      clear HBX2
      obtain ⟨k, lv, hlv, hk, rfl, HO, HB⟩ := hrel
      subst hlv
      by_cases hlt : k < n
      · obtain ⟨x, hx⟩ : ∃ x, l[k]? = some x := ⟨_, List.getElem?_eq_getElem (by rw [HN.out]; omega)⟩
        obtain ⟨bk, off, rfl, hbl, hj⟩ := at_sp (HV.out wr (HB0.out.trans (HB.out.mono (Nat.le_succ _)))) (by rw [HN.out]; omega)
        obtain ⟨c0, c1⟩ := hj k x hx
        have hst := HP.out k x hx
        have hcl := HCL.out x
        obtain ⟨q, hq⟩ : ∃ q, P x = q := ⟨_, rfl⟩
        rw [hq] at hst hcl
        obtain ⟨x1, x2⟩ := x
        simp only at c0 c1 hcl
        obtain ⟨WB, hWB⟩ : ∃ X, wr.alloc (.cells #[.int .i64 x1, .int .i64 x2] 35) = X := ⟨_, rfl⟩
        obtain ⟨Nx, hNx⟩ : ∃ N, wr.heap.size = N := ⟨_, rfl⟩
        have hbx : WB.heap[Nx]? = some (.cells #[.int .i64 x1, .int .i64 x2] 35 (0, 0)) := by rw [← hWB, ← hNx]; exact block_new _ _
        have hN0x : N0 + 1 ≤ Nx := by rw [← hNx]; have := HB.out.size; rw [HXS.out] at this; exact this
        have hbW : Below Nx wr WB := by rw [← hWB, ← hNx]; exact below_box _ _
        have hown : WB.ownsRow (N0 + 1) 3 1 lv (idxs P (l.take k)).length ((idxs P (l.take k)).map fun x => Value.int .i64 x) := by rw [← hWB]; exact HO.out.alloc _
        have d0 := cell_of (i := 0) hbx rfl
        have d1 := cell_of (i := 1) hbx rfl
        have HBW := Lib.hid (HB.out.trans (hbW.mono hN0x))
        obtain ⟨g0, g1⟩ := HD.out WB HBW.out
        have HOW := Lib.hid hown
        have HST := Lib.hid hst
        have HSZ : Hid (N0 + 1 ≤ WB.heap.size) := Lib.hid (by rw [← hWB, alloc_sz, hNx]; omega)
        have HWB := Lib.hid hWB
        have HNx := Lib.hid hNx
        have HC := Lib.hid (hcl WB)
        have hlti : (k : Int) < (n : Int) := by omega
        have hlen : (idxs P (l.take k)).length ≤ 1000000 := by have := HLEN.out k hk; omega
        obtain ⟨m, hm⟩ : ∃ m, (idxs P (l.take k)).length = m := ⟨_, rfl⟩
        rw [hm] at HOW hlen
        have HM := Lib.hid hm
        clear hx hj hbl hWB hNx hbx hN0x hbW HB hst hown hm hq hcl HO
        go_upto_region 7 with fail
        rw [HWB.out, HNx.out]
        clear c0 c1
        go_wp2_with fail
        refine HC.out.mono ?_
        rintro e w3 ⟨rfl, hb3⟩
        have HB3 := Lib.hid (HBW.out.trans (hb3.mono HSZ.out))
        have HO3 := Lib.hid (own_below HOW.out (fun k hk => hb3.block k (own_low HOW.out k hk).2))
        have HSZ3 := Lib.hid (Nat.le_trans HSZ.out hb3.size)
        clear hb3 d0 d1 g0 g1
        cases q with
        | true =>
          have HST2 : Hid (idxs P (l.take (k + 1)) = idxs P (l.take k) ++ [(k : Int)]) := Lib.hid (by have := HST.out; simpa using this)
          clear HST
          go_wp2_with (at_builtin; refine wpList_pushI rfl (.tmp 38) (.tmp 40) rfl (N0 + 1) _ _ _ (k : Int) rfl rfl HO3.out hlen HSZ3.out ?_; intro v' w' HO2 HB2')
          refine ⟨⟨k + 1, _, rfl, by omega, by go_num, Lib.hid ?_, Lib.hid (HB2'.out _ _ HB3.out (Nat.le_refl _))⟩, by simp only [Go.RowKit.intOf]; omega⟩
          rw [HST2.out, List.length_append, List.map_append, HM.out]
          exact HO2.out
        | false =>
          have HST2 : Hid (idxs P (l.take (k + 1)) = idxs P (l.take k)) := Lib.hid (by have := HST.out; simpa using this)
          clear HST
          go_wp2_with fail
          refine ⟨⟨k + 1, _, rfl, by omega, by go_num, Lib.hid ?_, HB3⟩, by simp only [Go.RowKit.intOf]; omega⟩
          rw [HST2.out, HM.out]
          exact HO3.out
      · obtain rfl : k = n := by omega
        have ho := HO.out
        rw [List.take_of_length_le (by rw [HN.out]; exact Nat.le_refl _)] at ho
        have HRR := Lib.hid (own_rows ho)
        clear ho HO
        go_wp2_with fail
        go_ret
        exact ⟨⟨_, rfl, HRR.out⟩, HB0.out.trans (HB.out.mono (Nat.le_succ _))⟩

set_option maxRecDepth 100000 in
set_option maxHeartbeats 8000000 in
theorem refAskI_any {w : World} {v : Value} {l : List Sp} (hv : Rows 2 ESp w v l) (hl : l.length ≤ 4096) (s : Sp) :
    Calls Try.prog 15 #[v, spA s, .int .i64 2] w (ListV w (askL (fun t => inB s t) s l)) := by
  have HV := Lib.hid (fun W (h : Below w.heap.size w W) => hv.below stays_sp h)
  obtain ⟨A, cap, rfl, hc⟩ := hv.form
  obtain ⟨n, hn⟩ : ∃ n, l.length = n := ⟨_, rfl⟩
  rw [hn] at hc HV hl ⊢
  have HN := Lib.hid hn
  have hvd := fun W => refValid_any s W
  unfold askL
  obtain ⟨z, hz⟩ : ∃ z, okS s = z := ⟨_, rfl⟩
  rw [hz] at hvd ⊢
  have hcl := fun (t : Sp) W => refContains_any s t W
  obtain ⟨P, hP⟩ : ∃ P : Sp → Bool, (fun t => inB s t) = P := ⟨_, rfl⟩
  have hPx : ∀ t, inB s t = P t := fun t => by rw [← hP]
  have hcl2 : ∀ (t : Sp) W, Calls Try.prog 27 #[.agg #[.int .i64 s.1, .int .i64 s.2], .agg #[.int .i64 t.1, .int .i64 t.2]] W (BoolV W (P t)) := fun t W => by
    have := hcl t W
    rw [hPx] at this
    exact this
  have HP := Lib.hid (fun (k : Nat) (x : Sp) (h : l[k]? = some x) => idxs_step (P := P) h)
  have HLEN := Lib.hid (fun (k : Nat) (hk : k ≤ n) => Nat.le_trans (idxs_len P (l.take k)) (by rw [List.length_take]; omega : (l.take k).length ≤ n))
  rw [hP]
  obtain ⟨s1, s2⟩ := s
  unfold spA
  simp only at hvd hcl2 ⊢
  have hb0 := below_box w (.cells #[.int .i64 s1, .int .i64 s2] 35)
  obtain ⟨X, hX⟩ : ∃ X, w.alloc (.cells #[.int .i64 s1, .int .i64 s2] 35) = X := ⟨_, rfl⟩
  obtain ⟨N0, hN0⟩ : ∃ N, w.heap.size = N := ⟨_, rfl⟩
  have hbx : X.heap[N0]? = some (.cells #[.int .i64 s1, .int .i64 s2] 35 (0, 0)) := by rw [← hX, ← hN0]; exact block_new _ _
  rw [hX, hN0] at hb0
  have hXs : X.heap.size = N0 + 1 := by rw [← hX, alloc_sz, hN0]
  have HD := Lib.hid (fun W (h : Below (N0 + 1) X W) => And.intro ((h.cell (p := ⟨N0, 0, none⟩) (Nat.lt_succ_self _)).trans (cell_of (i := 0) hbx rfl)) ((h.cell (p := ⟨N0, 1, none⟩) (Nat.lt_succ_self _)).trans (cell_of (i := 1) hbx rfl)))
  have d0 : X.cell? ⟨N0, 0, none⟩ = some (.int .i64 s1) := cell_of (i := 0) hbx rfl
  have d1 : X.cell? ⟨N0, 1, none⟩ = some (.int .i64 s2) := cell_of (i := 1) hbx rfl
  have HX := Lib.hid hX
  have HXS := Lib.hid hXs
  have HB0 := Lib.hid hb0
  have HVD := Lib.hid hvd
  have HCL := Lib.hid hcl2
  unfold ListV
  rw [hN0] at HV ⊢
  have HN0 := Lib.hid hN0
  clear hv hn hN0 hP hPx hcl hcl2 hvd hX hb0 hbx hz hXs
  cases z with
  | false =>
    go_enter Try.func15, Try.ntmps15
    go_upto_region 1 with fail
    rw [HX.out, HN0.out]
    go_wp2_with fail
    refine (HVD.out _).mono ?_
    rintro e w2 ⟨rfl, hb2⟩
    have HB2 := Lib.hid (HB0.out.trans (hb2.mono (by rw [HXS.out]; omega)))
    clear d0 d1 hb2
    go_wp2_with fail
    go_ret
    exact ⟨⟨_, rfl, Rows.nil _⟩, HB2.out⟩
  | true =>
    go_enter Try.func15, Try.ntmps15
    go_upto_region 1 with fail
    rw [HX.out, HN0.out]
    go_wp2_with fail
    refine (HVD.out _).mono ?_
    rintro e w2 ⟨rfl, hb2⟩
    have hbX2 : Below (N0 + 1) X w2 := by rw [← HXS.out]; exact hb2
    have HBX2 := Lib.hid hbX2
    have hsz2 : N0 + 1 ≤ w2.heap.size := by rw [← HXS.out]; exact hb2.size
    have HSZ2 := Lib.hid hsz2
    clear d0 d1 hb2 hbX2 hsz2
    go_wp2_with fail
    go_loopw [7, 16] (fun lv kv wr => ∃ (k : Nat) (lw : Value), lw = lv ∧ k ≤ n ∧ kv = .int .i64 k ∧ Hid (wr.ownsRow (N0 + 1) 3 1 lw (idxs P (l.take k)).length ((idxs P (l.take k)).map fun x => Value.int .i64 x)) ∧ Hid (Below (N0 + 1) X wr)) (fun _ kv _ => n - (Go.RowKit.intOf kv).toNat)
    case atStart => exact ⟨0, _, rfl, Nat.zero_le _, rfl, Lib.hid (World.ownsRow_nil _ _ _ _), HBX2⟩
    case round =>
      clear HBX2
      obtain ⟨k, lv, hlv, hk, rfl, HO, HB⟩ := hrel
      subst hlv
      by_cases hlt : k < n
      · obtain ⟨x, hx⟩ : ∃ x, l[k]? = some x := ⟨_, List.getElem?_eq_getElem (by rw [HN.out]; omega)⟩
        obtain ⟨bk, off, rfl, hbl, hj⟩ := at_sp (HV.out wr (HB0.out.trans (HB.out.mono (Nat.le_succ _)))) (by rw [HN.out]; omega)
        obtain ⟨c0, c1⟩ := hj k x hx
        have hst := HP.out k x hx
        have hcl := HCL.out x
        obtain ⟨q, hq⟩ : ∃ q, P x = q := ⟨_, rfl⟩
        rw [hq] at hst hcl
        obtain ⟨x1, x2⟩ := x
        simp only at c0 c1 hcl
        obtain ⟨WB, hWB⟩ : ∃ X, wr.alloc (.cells #[.int .i64 x1, .int .i64 x2] 35) = X := ⟨_, rfl⟩
        obtain ⟨Nx, hNx⟩ : ∃ N, wr.heap.size = N := ⟨_, rfl⟩
        have hbx : WB.heap[Nx]? = some (.cells #[.int .i64 x1, .int .i64 x2] 35 (0, 0)) := by rw [← hWB, ← hNx]; exact block_new _ _
        have hN0x : N0 + 1 ≤ Nx := by rw [← hNx]; have := HB.out.size; rw [HXS.out] at this; exact this
        have hbW : Below Nx wr WB := by rw [← hWB, ← hNx]; exact below_box _ _
        have hown : WB.ownsRow (N0 + 1) 3 1 lv (idxs P (l.take k)).length ((idxs P (l.take k)).map fun x => Value.int .i64 x) := by rw [← hWB]; exact HO.out.alloc _
        have d0 := cell_of (i := 0) hbx rfl
        have d1 := cell_of (i := 1) hbx rfl
        have HBW := Lib.hid (HB.out.trans (hbW.mono hN0x))
        obtain ⟨g0, g1⟩ := HD.out WB HBW.out
        have HOW := Lib.hid hown
        have HST := Lib.hid hst
        have HSZ : Hid (N0 + 1 ≤ WB.heap.size) := Lib.hid (by rw [← hWB, alloc_sz, hNx]; omega)
        have HWB := Lib.hid hWB
        have HNx := Lib.hid hNx
        have HC := Lib.hid (hcl WB)
        have hlti : (k : Int) < (n : Int) := by omega
        have hlen : (idxs P (l.take k)).length ≤ 1000000 := by have := HLEN.out k hk; omega
        obtain ⟨m, hm⟩ : ∃ m, (idxs P (l.take k)).length = m := ⟨_, rfl⟩
        rw [hm] at HOW hlen
        have HM := Lib.hid hm
        clear hx hj hbl hWB hNx hbx hN0x hbW HB hst hown hm hq hcl HO
        go_upto_region 7 with fail
        rw [HWB.out, HNx.out]
        clear c0 c1
        go_wp2_with fail
        refine HC.out.mono ?_
        rintro e w3 ⟨rfl, hb3⟩
        have HB3 := Lib.hid (HBW.out.trans (hb3.mono HSZ.out))
        have HO3 := Lib.hid (own_below HOW.out (fun k hk => hb3.block k (own_low HOW.out k hk).2))
        have HSZ3 := Lib.hid (Nat.le_trans HSZ.out hb3.size)
        clear hb3 d0 d1 g0 g1
        cases q with
        | true =>
          have HST2 : Hid (idxs P (l.take (k + 1)) = idxs P (l.take k) ++ [(k : Int)]) := Lib.hid (by have := HST.out; simpa using this)
          clear HST
          go_wp2_with (at_builtin; refine wpList_pushI rfl (.tmp 38) (.tmp 40) rfl (N0 + 1) _ _ _ (k : Int) rfl rfl HO3.out hlen HSZ3.out ?_; intro v' w' HO2 HB2')
          refine ⟨⟨k + 1, _, rfl, by omega, by go_num, Lib.hid ?_, Lib.hid (HB2'.out _ _ HB3.out (Nat.le_refl _))⟩, by simp only [Go.RowKit.intOf]; omega⟩
          rw [HST2.out, List.length_append, List.map_append, HM.out]
          exact HO2.out
        | false =>
          have HST2 : Hid (idxs P (l.take (k + 1)) = idxs P (l.take k)) := Lib.hid (by have := HST.out; simpa using this)
          clear HST
          go_wp2_with fail
          refine ⟨⟨k + 1, _, rfl, by omega, by go_num, Lib.hid ?_, HB3⟩, by simp only [Go.RowKit.intOf]; omega⟩
          rw [HST2.out, HM.out]
          exact HO3.out
      · obtain rfl : k = n := by omega
        have ho := HO.out
        rw [List.take_of_length_le (by rw [HN.out]; exact Nat.le_refl _)] at ho
        have HRR := Lib.hid (own_rows ho)
        clear ho HO
        go_wp2_with fail
        go_ret
        exact ⟨⟨_, rfl, HRR.out⟩, HB0.out.trans (HB.out.mono (Nat.le_succ _))⟩

set_option maxRecDepth 100000 in
set_option maxHeartbeats 8000000 in
theorem refAskA_any {w : World} {v : Value} {l : List Sp} (hv : Rows 2 ESp w v l) (hl : l.length ≤ 4096) (s : Sp) :
    Calls Try.prog 15 #[v, spA s, .int .i64 3] w (ListV w (askL (fun t => inB t s) s l)) := by
  have HV := Lib.hid (fun W (h : Below w.heap.size w W) => hv.below stays_sp h)
  obtain ⟨A, cap, rfl, hc⟩ := hv.form
  obtain ⟨n, hn⟩ : ∃ n, l.length = n := ⟨_, rfl⟩
  rw [hn] at hc HV hl ⊢
  have HN := Lib.hid hn
  have hvd := fun W => refValid_any s W
  unfold askL
  obtain ⟨z, hz⟩ : ∃ z, okS s = z := ⟨_, rfl⟩
  rw [hz] at hvd ⊢
  have hcl := fun (t : Sp) W => refContains_any t s W
  obtain ⟨P, hP⟩ : ∃ P : Sp → Bool, (fun t => inB t s) = P := ⟨_, rfl⟩
  have hPx : ∀ t, inB t s = P t := fun t => by rw [← hP]
  have hcl2 : ∀ (t : Sp) W, Calls Try.prog 27 #[.agg #[.int .i64 t.1, .int .i64 t.2], .agg #[.int .i64 s.1, .int .i64 s.2]] W (BoolV W (P t)) := fun t W => by
    have := hcl t W
    rw [hPx] at this
    exact this
  have HP := Lib.hid (fun (k : Nat) (x : Sp) (h : l[k]? = some x) => idxs_step (P := P) h)
  have HLEN := Lib.hid (fun (k : Nat) (hk : k ≤ n) => Nat.le_trans (idxs_len P (l.take k)) (by rw [List.length_take]; omega : (l.take k).length ≤ n))
  rw [hP]
  obtain ⟨s1, s2⟩ := s
  unfold spA
  simp only at hvd hcl2 ⊢
  have hb0 := below_box w (.cells #[.int .i64 s1, .int .i64 s2] 35)
  obtain ⟨X, hX⟩ : ∃ X, w.alloc (.cells #[.int .i64 s1, .int .i64 s2] 35) = X := ⟨_, rfl⟩
  obtain ⟨N0, hN0⟩ : ∃ N, w.heap.size = N := ⟨_, rfl⟩
  have hbx : X.heap[N0]? = some (.cells #[.int .i64 s1, .int .i64 s2] 35 (0, 0)) := by rw [← hX, ← hN0]; exact block_new _ _
  rw [hX, hN0] at hb0
  have hXs : X.heap.size = N0 + 1 := by rw [← hX, alloc_sz, hN0]
  have HD := Lib.hid (fun W (h : Below (N0 + 1) X W) => And.intro ((h.cell (p := ⟨N0, 0, none⟩) (Nat.lt_succ_self _)).trans (cell_of (i := 0) hbx rfl)) ((h.cell (p := ⟨N0, 1, none⟩) (Nat.lt_succ_self _)).trans (cell_of (i := 1) hbx rfl)))
  have d0 : X.cell? ⟨N0, 0, none⟩ = some (.int .i64 s1) := cell_of (i := 0) hbx rfl
  have d1 : X.cell? ⟨N0, 1, none⟩ = some (.int .i64 s2) := cell_of (i := 1) hbx rfl
  have HX := Lib.hid hX
  have HXS := Lib.hid hXs
  have HB0 := Lib.hid hb0
  have HVD := Lib.hid hvd
  have HCL := Lib.hid hcl2
  unfold ListV
  rw [hN0] at HV ⊢
  have HN0 := Lib.hid hN0
  clear hv hn hN0 hP hPx hcl hcl2 hvd hX hb0 hbx hz hXs
  cases z with
  | false =>
    go_enter Try.func15, Try.ntmps15
    go_upto_region 1 with fail
    rw [HX.out, HN0.out]
    go_wp2_with fail
    refine (HVD.out _).mono ?_
    rintro e w2 ⟨rfl, hb2⟩
    have HB2 := Lib.hid (HB0.out.trans (hb2.mono (by rw [HXS.out]; omega)))
    clear d0 d1 hb2
    go_wp2_with fail
    go_ret
    exact ⟨⟨_, rfl, Rows.nil _⟩, HB2.out⟩
  | true =>
    go_enter Try.func15, Try.ntmps15
    go_upto_region 1 with fail
    rw [HX.out, HN0.out]
    go_wp2_with fail
    refine (HVD.out _).mono ?_
    rintro e w2 ⟨rfl, hb2⟩
    have hbX2 : Below (N0 + 1) X w2 := by rw [← HXS.out]; exact hb2
    have HBX2 := Lib.hid hbX2
    have hsz2 : N0 + 1 ≤ w2.heap.size := by rw [← HXS.out]; exact hb2.size
    have HSZ2 := Lib.hid hsz2
    clear d0 d1 hb2 hbX2 hsz2
    go_wp2_with fail
    go_loopw [7, 16] (fun lv kv wr => ∃ (k : Nat) (lw : Value), lw = lv ∧ k ≤ n ∧ kv = .int .i64 k ∧ Hid (wr.ownsRow (N0 + 1) 3 1 lw (idxs P (l.take k)).length ((idxs P (l.take k)).map fun x => Value.int .i64 x)) ∧ Hid (Below (N0 + 1) X wr)) (fun _ kv _ => n - (Go.RowKit.intOf kv).toNat)
    case atStart => exact ⟨0, _, rfl, Nat.zero_le _, rfl, Lib.hid (World.ownsRow_nil _ _ _ _), HBX2⟩
    case round =>
      clear HBX2
      obtain ⟨k, lv, hlv, hk, rfl, HO, HB⟩ := hrel
      subst hlv
      by_cases hlt : k < n
      · obtain ⟨x, hx⟩ : ∃ x, l[k]? = some x := ⟨_, List.getElem?_eq_getElem (by rw [HN.out]; omega)⟩
        obtain ⟨bk, off, rfl, hbl, hj⟩ := at_sp (HV.out wr (HB0.out.trans (HB.out.mono (Nat.le_succ _)))) (by rw [HN.out]; omega)
        obtain ⟨c0, c1⟩ := hj k x hx
        have hst := HP.out k x hx
        have hcl := HCL.out x
        obtain ⟨q, hq⟩ : ∃ q, P x = q := ⟨_, rfl⟩
        rw [hq] at hst hcl
        obtain ⟨x1, x2⟩ := x
        simp only at c0 c1 hcl
        obtain ⟨WB, hWB⟩ : ∃ X, wr.alloc (.cells #[.int .i64 x1, .int .i64 x2] 35) = X := ⟨_, rfl⟩
        obtain ⟨Nx, hNx⟩ : ∃ N, wr.heap.size = N := ⟨_, rfl⟩
        have hbx : WB.heap[Nx]? = some (.cells #[.int .i64 x1, .int .i64 x2] 35 (0, 0)) := by rw [← hWB, ← hNx]; exact block_new _ _
        have hN0x : N0 + 1 ≤ Nx := by rw [← hNx]; have := HB.out.size; rw [HXS.out] at this; exact this
        have hbW : Below Nx wr WB := by rw [← hWB, ← hNx]; exact below_box _ _
        have hown : WB.ownsRow (N0 + 1) 3 1 lv (idxs P (l.take k)).length ((idxs P (l.take k)).map fun x => Value.int .i64 x) := by rw [← hWB]; exact HO.out.alloc _
        have d0 := cell_of (i := 0) hbx rfl
        have d1 := cell_of (i := 1) hbx rfl
        have HBW := Lib.hid (HB.out.trans (hbW.mono hN0x))
        obtain ⟨g0, g1⟩ := HD.out WB HBW.out
        have HOW := Lib.hid hown
        have HST := Lib.hid hst
        have HSZ : Hid (N0 + 1 ≤ WB.heap.size) := Lib.hid (by rw [← hWB, alloc_sz, hNx]; omega)
        have HWB := Lib.hid hWB
        have HNx := Lib.hid hNx
        have HC := Lib.hid (hcl WB)
        have hlti : (k : Int) < (n : Int) := by omega
        have hlen : (idxs P (l.take k)).length ≤ 1000000 := by have := HLEN.out k hk; omega
        obtain ⟨m, hm⟩ : ∃ m, (idxs P (l.take k)).length = m := ⟨_, rfl⟩
        rw [hm] at HOW hlen
        have HM := Lib.hid hm
        clear hx hj hbl hWB hNx hbx hN0x hbW HB hst hown hm hq hcl HO
        go_upto_region 7 with fail
        rw [HWB.out, HNx.out]
        clear c0 c1
        go_wp2_with fail
        refine HC.out.mono ?_
        rintro e w3 ⟨rfl, hb3⟩
        have HB3 := Lib.hid (HBW.out.trans (hb3.mono HSZ.out))
        have HO3 := Lib.hid (own_below HOW.out (fun k hk => hb3.block k (own_low HOW.out k hk).2))
        have HSZ3 := Lib.hid (Nat.le_trans HSZ.out hb3.size)
        clear hb3 d0 d1 g0 g1
        cases q with
        | true =>
          have HST2 : Hid (idxs P (l.take (k + 1)) = idxs P (l.take k) ++ [(k : Int)]) := Lib.hid (by have := HST.out; simpa using this)
          clear HST
          go_wp2_with (at_builtin; refine wpList_pushI rfl (.tmp 38) (.tmp 40) rfl (N0 + 1) _ _ _ (k : Int) rfl rfl HO3.out hlen HSZ3.out ?_; intro v' w' HO2 HB2')
          refine ⟨⟨k + 1, _, rfl, by omega, by go_num, Lib.hid ?_, Lib.hid (HB2'.out _ _ HB3.out (Nat.le_refl _))⟩, by simp only [Go.RowKit.intOf]; omega⟩
          rw [HST2.out, List.length_append, List.map_append, HM.out]
          exact HO2.out
        | false =>
          have HST2 : Hid (idxs P (l.take (k + 1)) = idxs P (l.take k)) := Lib.hid (by have := HST.out; simpa using this)
          clear HST
          go_wp2_with fail
          refine ⟨⟨k + 1, _, rfl, by omega, by go_num, Lib.hid ?_, HB3⟩, by simp only [Go.RowKit.intOf]; omega⟩
          rw [HST2.out, HM.out]
          exact HO3.out
      · obtain rfl : k = n := by omega
        have ho := HO.out
        rw [List.take_of_length_le (by rw [HN.out]; exact Nat.le_refl _)] at ho
        have HRR := Lib.hid (own_rows ho)
        clear ho HO
        go_wp2_with fail
        go_ret
        exact ⟨⟨_, rfl, HRR.out⟩, HB0.out.trans (HB.out.mono (Nat.le_succ _))⟩
end Go.Proofs.Ytifdencdbpdbfaa
