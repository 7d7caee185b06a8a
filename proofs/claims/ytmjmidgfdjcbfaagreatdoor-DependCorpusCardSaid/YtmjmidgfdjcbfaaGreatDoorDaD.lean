/-
  WALKS over package depend, second part: Check, valid, way, Depth, meeting.
-/
import Derived.Test.YtmjmidgfdjcbfaaGreatDoorDaC
namespace Go.Proofs.YtmjmidgfdjcbfaaGreatDoor.Dep
open Go.RowKit Go.Shelf Go.Lib
set_option linter.unusedVariables false

theorem checkH_cases (h : List Int) : (4096 < h.length ∧ checkH h = (0, 2)) ∨ (h.length ≤ 4096 ∧ 0 ≤ findZ (outH h.length) h ∧ checkH h = (findZ (outH h.length) h, 8)) ∨
    (h.length ≤ 4096 ∧ findZ (outH h.length) h < 0 ∧ (∀ x ∈ h, x = -1 ∨ (0 ≤ x ∧ x < h.length)) ∧ ((0 ≤ findZ (cyc h) (List.range h.length) ∧ checkH h = (findZ (cyc h) (List.range h.length), 12)) ∨ (findZ (cyc h) (List.range h.length) < 0 ∧ checkH h = (0, 0)))) := by
  unfold checkH
  by_cases h1 : 4096 < h.length
  · rw [if_pos h1]; exact .inl ⟨h1, rfl⟩
  · rw [if_neg h1]
    by_cases h2 : 0 ≤ findZ (outH h.length) h
    · rw [if_pos h2]; exact .inr (.inl ⟨by omega, h2, rfl⟩)
    · rw [if_neg h2]
      refine .inr (.inr ⟨by omega, by omega, fun x hx => outH_false.1 (findZ_neg.1 (by omega) x hx), ?_⟩)
      by_cases h3 : 0 ≤ findZ (cyc h) (List.range h.length)
      · rw [if_pos h3]; exact .inl ⟨h3, rfl⟩
      · rw [if_neg h3]; exact .inr ⟨by omega, rfl⟩

set_option maxRecDepth 100000 in
set_option maxHeartbeats 4000000 in
theorem check_any {w : World} {v : Value} {h : List Int} (hv : Rows 1 EInt w v h) (hl : h.length ≤ maxLen) :
    Calls Tryz.prog 9 #[v] w fun e w' => e = .returned (.tuple #[.int .i64 (checkH h).1, .int .i64 (checkH h).2]) ∧ Below w.heap.size w w' := by
  have hcs := checkH_cases h
  obtain ⟨A, cap, rfl, hc⟩ := hv.form
  obtain ⟨n, hn⟩ : ∃ n, h.length = n := ⟨_, rfl⟩
  obtain ⟨N, hN⟩ : ∃ N, w.heap.size = N := ⟨_, rfl⟩
  obtain ⟨W0, hW0⟩ : ∃ W0, w.alloc (.cells #[.slice A n cap] 22) = W0 := ⟨_, rfl⟩
  have hb0 : Below w.heap.size w W0 := by rw [← hW0]; exact below_box w _
  have hcell : W0.heap[N]? = some (.cells #[.slice A n cap] 22 (0, 0)) := by rw [← hW0, ← hN]; exact block_new w _
  have hix : ∀ (W : World), Below W0.heap.size W0 W → Calls Tryz.prog 33 #[.slice A n cap, .func (.func 31) #[] #[.pointer (some ⟨N, 0, none⟩)]] W fun e w' => e = .returned (.int .i64 (findZ (outH n) h)) ∧ Below W.heap.size W w' := fun W hW => by
    have hbW := hb0.trans (hW.mono hb0.size)
    have hr : Rows 1 EInt W (.slice A n cap) h := by rw [← hn]; exact hv.below stays_int hbW
    refine indexFunc_int stays_int hr hl 31 _ (fun args w => by kernel_rfl) (outH n) (fun W1 x u0 hW1 _ hu => ?_)
    obtain rfl : u0 = .int .i64 x := by
      have : [u0] = [Value.int .i64 x] := hu
      injection this
    have hcW : W.heap[N]? = some (.cells #[.slice A n cap] 22 (0, 0)) := block_below hcell hW (Array.getElem?_eq_some_iff.1 hcell).1
    have hcW1 : W1.heap[N]? = some (.cells #[.slice A n cap] 22 (0, 0)) := block_below hcW hW1 (Array.getElem?_eq_some_iff.1 hcW).1
    refine (outside_any x A n cap N W1 (cell_of hcW1 rfl)).mono fun e w' hh => ?_
    obtain ⟨h1, rfl⟩ := hh
    exact ⟨h1, Below.refl _ _⟩
  have hfo : (∀ x ∈ h, x = -1 ∨ (0 ≤ x ∧ x < h.length)) → n ≤ 4096 → ∀ W, Below W0.heap.size W0 W → Calls Tryz.prog 34 #[.slice A n cap] W fun e w' => e = .returned (.int .i64 (findZ (cyc h) (List.range n))) ∧ Below W.heap.size W w' := fun hi h4 W hW => by
    have hbW := hb0.trans (hW.mono hb0.size)
    have hr : Rows 1 EInt W (.slice A n cap) h := by rw [← hn]; exact hv.below stays_int hbW
    have := firstOnCycle_any hr (by omega) hi
    rw [hn] at this
    exact this
  have hc0 : ∀ W, Below W0.heap.size W0 W → W.cell? ⟨N, 0, none⟩ = some (.slice A n cap) := fun W hW => cell_of (block_below hcell hW (Array.getElem?_eq_some_iff.1 hcell).1) rfl
  rw [hn] at hcs hc hl ⊢
  have HIX := Lib.hid hix
  have HW0 := Lib.hid hW0
  have HNN := Lib.hid hN
  have HB0 := Lib.hid hb0
  have HC0 := Lib.hid hc0
  have HFO := Lib.hid hfo
  have hc00 := hc0 W0 (Below.refl _ _)
  clear hix hW0 hN hcell hb0 hv hfo hc0
  unfold maxLen at hl
  rcases hcs with ⟨h1, e1⟩ | ⟨h1, h2, e1⟩ | ⟨h1, h2, hi, hcs⟩
  · rw [e1]
    go_enter Tryz.func9, Tryz.ntmps9
    go_wp2_with fail
    go_ret2
    exact ⟨rfl, below_box w _⟩
  · rw [e1]
    obtain ⟨z, hz⟩ : ∃ z, findZ (outH n) h = z := ⟨_, rfl⟩
    rw [hz] at HIX h2 ⊢
    clear hz e1
    go_enter Tryz.func9, Tryz.ntmps9
    go_wp2_with fail
    rw [HW0.out, HNN.out]
    refine (HIX.out _ (Below.refl _ _)).mono ?_
    rintro e w1 ⟨rfl, hb1⟩
    have HB1 := Lib.hid (HB0.out.trans (hb1.mono HB0.out.size))
    clear hb1
    go_wp2_with fail
    go_ret2
    exact ⟨rfl, HB1.out⟩
  · have HI := Lib.hid (HFO.out (by rw [hn]; exact hi) h1)
    obtain ⟨z, hz⟩ : ∃ z, findZ (outH n) h = z := ⟨_, rfl⟩
    obtain ⟨y, hy⟩ : ∃ y, findZ (cyc h) (List.range n) = y := ⟨_, rfl⟩
    rw [hz] at HIX h2
    rw [hy] at HI hcs
    have hz0 : ¬ (0 ≤ z) := by omega
    have walk : ∀ (r : Int × Int), (0 ≤ y ∧ r = (y, 12)) ∨ (y < 0 ∧ r = (0, 0)) → Calls Tryz.prog 9 #[.slice A n cap] w fun e w' => e = .returned (.tuple #[.int .i64 r.1, .int .i64 r.2]) ∧ Below w.heap.size w w' := by
      clear hcs hz hy hi HFO
      rintro r (⟨hy, rfl⟩ | ⟨hy, rfl⟩)
      · go_enter Tryz.func9, Tryz.ntmps9
        go_wp2_with fail
        rw [HW0.out, HNN.out]
        refine (HIX.out _ (Below.refl _ _)).mono ?_
        rintro e w1 ⟨rfl, hb1⟩
        have HB1 := Lib.hid (HB0.out.trans (hb1.mono HB0.out.size))
        have c1 := HC0.out w1 hb1
        have HI1 := Lib.hid (HI.out w1 hb1)
        clear hb1 hc00
        go_wp2_with fail
        refine HI1.out.mono ?_
        rintro e w2 ⟨rfl, hb2⟩
        have HB2 := Lib.hid (HB1.out.trans (hb2.mono HB1.out.size))
        clear hb2
        go_wp2_with fail
        go_ret2
        exact ⟨rfl, HB2.out⟩
      · have hy0 : ¬ (0 ≤ y) := by omega
        go_enter Tryz.func9, Tryz.ntmps9
        go_wp2_with fail
        rw [HW0.out, HNN.out]
        refine (HIX.out _ (Below.refl _ _)).mono ?_
        rintro e w1 ⟨rfl, hb1⟩
        have HB1 := Lib.hid (HB0.out.trans (hb1.mono HB0.out.size))
        have c1 := HC0.out w1 hb1
        have HI1 := Lib.hid (HI.out w1 hb1)
        clear hb1 hc00
        go_wp2_with fail
        refine HI1.out.mono ?_
        rintro e w2 ⟨rfl, hb2⟩
        have HB2 := Lib.hid (HB1.out.trans (hb2.mono HB1.out.size))
        clear hb2
        go_wp2_with fail
        go_ret2
        exact ⟨rfl, HB2.out⟩
    exact walk _ hcs
theorem valid_any {w : World} {v : Value} {h : List Int} (hv : Rows 1 EInt w v h) (hl : h.length ≤ maxLen) :
    Calls Tryz.prog 40 #[v] w fun e w' => e = .returned (.bool (okH h)) ∧ Below w.heap.size w w' := by
  have HC := Lib.hid (check_any hv hl)
  have ho : ((checkH h).2 == 0) = okH h := by unfold okH; rw [Bool.eq_iff_iff]; simp
  obtain ⟨z, hz⟩ : ∃ z, checkH h = z := ⟨_, rfl⟩
  rw [hz] at HC ho
  obtain ⟨a, b⟩ := z
  simp only at ho HC
  rw [← ho]
  clear hz ho hv hl
  go_enter Tryz.func40, Tryz.ntmps40
  go_wp2_with fail
  refine HC.out.mono ?_
  rintro e w1 ⟨rfl, hb1⟩
  have HB1 := Lib.hid hb1
  clear hb1
  go_wp2_with fail
  go_ret
  exact ⟨rfl, HB1.out⟩

def natV (l : List Nat) : List Value := l.map fun (n : Nat) => Value.int .i64 (n : Int)
theorem natV_app (a b : List Nat) : natV (a ++ b) = natV a ++ natV b := by simp [natV]
theorem natV_len (l : List Nat) : (natV l).length = l.length := by simp [natV]
def intsN (l : List Nat) : List Int := l.map fun (n : Nat) => (n : Int)
theorem intsN_len (l : List Nat) : (intsN l).length = l.length := by simp [intsN]
theorem intsN_get {l : List Nat} {k x : Nat} (h : l[k]? = some x) : (intsN l)[k]? = some (x : Int) := by simp [intsN, h]
/-- A row of the call's own, of tokens, read. -/
theorem own_rowsN {w : World} {base : Nat} {v : Value} {xs : List Nat} {n : Nat} (hn : xs.length = n) (h : w.ownsRow base 3 1 v n (natV xs)) : Rows 1 EInt w v (intsN xs) := by
  subst hn
  refine own_rows (base := base) ?_
  rw [intsN_len]
  have : (intsN xs).map (fun x => Value.int .i64 x) = natV xs := by simp [intsN, natV]
  rw [this]
  exact h
theorem own_after {w w' : World} {base : Nat} {e : TypeId} {size n : Nat} {v : Value} {xs : List Value} (h : w.ownsRow base e size v n xs) (hb : Below w.heap.size w w') : w'.ownsRow base e size v n xs :=
  own_below h fun k hk => hb.block k (own_low h k hk).2
/-- append of one number to a row of the call's own. -/
theorem wpList_pushI {w : World} {ops : Array Oper} {rest : List Oper} {o : Oper} {a : Act} {Q : Exit → Act → World → Prop} (hgd : o.guard = none) (s x : Operand)
    (ho : o.op = .call { callee := .builtin .append, args := #[s, x], argTypes := #[22, 22] })
    (base : Nat) (v : Value) (n : Nat) (l : List Value) (p : Int) (hs : a.eval s = v) (hx : a.eval x = .slice (some ⟨w.heap.size, 0, none⟩) 1 1)
    (hown : w.ownsRow base 3 1 v n l) (hn : n ≤ 1000000) (hbase : base ≤ w.heap.size)
    (h : ∀ v' w', Hid (w'.ownsRow base 3 1 v' (n + 1) (l ++ [.int .i64 p])) → Hid (∀ B W, Below B W w → B ≤ base → Below B W w') → Hid (∀ k, k < w.heap.size → v.ownBlock ≠ some k → w'.heap[k]? = w.heap[k]?) → wpList Tryz.prog ops Q rest (a.put o.dst v') w') :
    wpList Tryz.prog ops Q (o :: rest) a (w.alloc (.cells #[.int .i64 p] 3)) := by
  obtain ⟨i0, hi, hz0, hz1, hz2⟩ := info_parts' Tryz.infoInt2
  refine wpList_append_own _ hgd s x 22 ho base 3 i0 _ 1 8 Tryz.underlying22 hi hz0 hz1 hz2 rfl (by decide) v n _ hs (hown.alloc _) _ 1 1 [.int .i64 p] hx rfl (news_at w [.int .i64 p] 3) (by simp [Value.oneCell']) (by unfold maxLen; omega) (by omega) (by simp; omega) ?_
  intro v' w' h1 h2 _
  have hlow := own_low hown
  refine h v' w' (Lib.hid h1) (Lib.hid fun B W hb hB => ?_) (Lib.hid fun k hk hne => ?_)
  · exact (hb.alloc (Nat.le_trans hB hbase) _).grown h2 (by simp; omega) (fun k e => Nat.le_trans hB (hlow k e).1)
  · rw [h2.block k (by simp; omega) (fun e => hne e.symm)]
    exact heap_alloc_old w _ hk

set_option maxRecDepth 100000 in
set_option maxHeartbeats 4000000 in
theorem way_any {w : World} {v : Value} {h : List Int} (hv : Rows 1 EInt w v h) (hO : Okh h) (i : Nat) (hi : i < h.length) :
    Calls Tryz.prog 41 #[v, .int .i64 i] w fun e w' => (∃ vr, e = .returned vr ∧ w'.ownsRow w.heap.size 3 1 vr (way h i).length (natV (way h i))) ∧ Below w.heap.size w w' := by
  obtain ⟨A, cap, rfl, hc⟩ := hv.form
  obtain ⟨n, hn⟩ : ∃ n, h.length = n := ⟨_, rfl⟩
  have HV := Lib.hid (fun W (hb : Below w.heap.size w W) => hv.below stays_int hb)
  have hl := hO.len
  have HAT := Lib.hid (fun t (ht : t < n) => hO.at (i := t) (by rw [hn]; exact ht))
  have hwl := way_len hO hi
  rw [hn] at hc hl hi HV hwl
  have HN := Lib.hid hn
  have HO := Lib.hid hO
  have HWL := Lib.hid hwl
  obtain ⟨L, hL⟩ : ∃ L, way h i = L := ⟨_, rfl⟩
  have hstart : ∃ rest, L = [] ++ rest ∧ rest = way h i := ⟨L, rfl, hL.symm⟩
  rw [hL] at HWL ⊢
  have HL := Lib.hid hL
  have hcell : ∀ (W : World), Below w.heap.size w W → ∃ bk off, A = some ⟨bk, off, none⟩ ∧ ∀ (j : Nat) (x : Int), h[j]? = some x → W.cell? ⟨bk, off + j, none⟩ = some (.int .i64 x) := fun W hb => by
    obtain ⟨bk, off, h1, h3, h2⟩ := at_int (HV.out W hb) (by rw [HN.out]; omega)
    exact ⟨bk, off, h1, h2⟩
  have HCELL := Lib.hid hcell
  rw [hn]
  clear hn hv hO hwl hL hstart hcell
  go_enter Tryz.func41, Tryz.ntmps41
  go_wp2_with fail
  obtain ⟨wo, rfl⟩ : ∃ wo, wo = w := ⟨_, rfl⟩
  go_loopg [5, 6] (L.length) (fun gg sv av wr => ∃ (done rest : List Nat) (a : Int), av = .int .i64 a ∧ rest.length ≤ gg ∧ Hid (L = done ++ rest) ∧ Hid ((a = -1 ∧ rest = []) ∨ ∃ t : Nat, a = (t : Int) ∧ t < n ∧ rest = way h t) ∧ Hid (wr.ownsRow wo.heap.size 3 1 sv done.length (natV done)) ∧ Hid (Below wo.heap.size wo wr))
  case atStart => exact ⟨[], L, i, rfl, Nat.le_refl _, Lib.hid rfl, Lib.hid (.inr ⟨i, rfl, hi, HL.out.symm⟩), Lib.hid (World.ownsRow_nil _ _ _ 1), Lib.hid (Below.refl _ _)⟩
  case round =>
    obtain ⟨done, rest, a, rfl, hgg, HD, HR, HOW, HB⟩ := hrel
    obtain ⟨As, cs, rfl, hcs⟩ := own_form HOW.out
    rcases HR.out with ⟨ha, hr⟩ | ⟨t, ha, ht, hr⟩
    · subst ha
      subst hr
      have hd : L = done := by have := HD.out; rw [List.append_nil] at this; exact this
      subst hd
      clear HR HD
      go_wp2_with fail
      go_ret
      exact ⟨⟨_, rfl, HOW.out⟩, HB.out⟩
    · subst ha
      obtain ⟨bk, off, rfl, hcel⟩ := HCELL.out wr HB.out
      have hti : (t : Int) < (n : Int) := by omega
      have ht1 : ((t : Int) != -1) = true := by simp <;> omega
      have hdl : done.length + rest.length ≤ n := by
        have h1 := HWL.out
        have h2 := congrArg List.length HD.out
        rw [List.length_append] at h2
        omega
      have hbase : wo.heap.size ≤ wr.heap.size := HB.out.size
      have HDL := Lib.hid hdl
      have HRW := Lib.hid hr
      have HT := Lib.hid ht
      have HBS := Lib.hid hbase
      have hk : ∀ x, h[t]? = some x → ∀ W, Below wo.heap.size wo W → W.cell? ⟨bk, off + t, none⟩ = some (.int .i64 x) := fun x hx W hW => by
        obtain ⟨_, _, he, hc2⟩ := HCELL.out W hW
        cases he
        exact hc2 t x hx
      have hpre : ∀ rest', way h t = t :: rest' → L = (done ++ [t]) ++ rest' ∧ rest.length = rest'.length + 1 := fun rest' e => by
        rw [HD.out, hr, e]
        simp
      rcases HAT.out t ht with ⟨hx, hs⟩ | ⟨b, hx, hb, hs⟩
      · have HK := Lib.hid (hk _ hx)
        have HP := Lib.hid (hpre [] (way_root HO.out hs))
        clear HR hr ht hdl hcel hcs hbase hk hpre hx hs
        go_wp2_with (at_builtin; refine wpList_pushI rfl (.tmp 14) (.tmp 16) rfl wo.heap.size _ _ _ (t : Int) rfl rfl HOW.out (by have := HDL.out; omega) HBS.out ?_; intro v' w' HO2 HB2 HK2; have HB' := Lib.hid (HB2.out _ _ HB.out (Nat.le_refl _)); have u0 := HK.out w' HB'.out; clear HK2)
        go_roundg 0
        case measure => have := HP.out.2; simp only [List.length_nil] at this; omega
        case rel => exact ⟨done ++ [t], [], -1, rfl, Nat.le_refl _, Lib.hid HP.out.1, Lib.hid (.inl ⟨rfl, rfl⟩), Lib.hid (by rw [natV_app, List.length_append]; exact HO2.out), HB'⟩
      · have HK := Lib.hid (hk _ hx)
        have HP := Lib.hid (hpre _ (way_step HO.out hs))
        have hbn : b < n := by rw [← HN.out]; exact hb
        have HBN := Lib.hid hbn
        clear HR hr ht hdl hcel hcs hbase hk hpre hx hs hb hbn
        go_wp2_with (at_builtin; refine wpList_pushI rfl (.tmp 14) (.tmp 16) rfl wo.heap.size _ _ _ (t : Int) rfl rfl HOW.out (by have := HDL.out; omega) HBS.out ?_; intro v' w' HO2 HB2 HK2; have HB' := Lib.hid (HB2.out _ _ HB.out (Nat.le_refl _)); have u0 := HK.out w' HB'.out; clear HK2)
        go_roundg (way h b).length
        case measure => have := HP.out.2; omega
        case rel => exact ⟨done ++ [t], way h b, b, rfl, Nat.le_refl _, Lib.hid HP.out.1, Lib.hid (.inr ⟨b, rfl, HBN.out, rfl⟩), Lib.hid (by rw [natV_app, List.length_append]; exact HO2.out), HB'⟩

set_option maxRecDepth 100000 in
set_option maxHeartbeats 4000000 in
theorem depth_any {w : World} {v : Value} {h : List Int} (hv : Rows 1 EInt w v h) (hl : h.length ≤ maxLen) (i : Int) :
    Calls Tryz.prog 16 #[v, .int .i64 i] w fun e w' => e = .returned (.int .i64 (depthH h i)) ∧ Below w.heap.size w w' := by
  obtain ⟨A, cap, rfl, hc⟩ := hv.form
  have HVA := Lib.hid (valid_any hv hl)
  have HTK := Lib.hid (fun W => isToken_any i A h.length cap W)
  unfold depthH
  by_cases hok : okH h = true
  · by_cases hi : 0 ≤ i ∧ i < (h.length : Int)
    · rw [if_pos ⟨hok, hi⟩]
      obtain ⟨t, rfl⟩ : ∃ t : Nat, i = (t : Int) := ⟨i.toNat, by omega⟩
      have hO := okh_iff.1 hok
      have ht : t < h.length := by omega
      have hwl := way_len hO ht
      have h4 := hO.len
      have HW := Lib.hid (fun (W : World) (hb : Below w.heap.size w W) => way_any (hv.below stays_int hb) hO t ht)
      rw [Int.toNat_natCast]
      obtain ⟨n, hn⟩ : ∃ n, h.length = n := ⟨_, rfl⟩
      obtain ⟨m, hm⟩ : ∃ m, (way h t).length = m := ⟨_, rfl⟩
      rw [hok] at HVA
      have hd : decide (0 ≤ (t : Int) ∧ (t : Int) < (h.length : Int)) = true := decide_eq_true hi
      rw [hd] at HTK
      rw [hn] at hc HVA HTK HW hwl h4 ⊢
      rw [hm] at HW hwl ⊢
      have hm1 : 1 ≤ m := by
        rw [← hm]
        exact List.length_pos_of_mem (way_self t)
      have hm64 : IntKind.i64.wrap ((m : Int) - 1) = (m : Int) - 1 := by rw [IntKind.wrap_i64]; omega
      have HM := Lib.hid hm
      clear hm hd hok hi hO ht hn hv hl
      go_enter Tryz.func16, Tryz.ntmps16
      go_wp2_with fail
      refine HVA.out.mono ?_
      rintro e w1 ⟨rfl, hb1⟩
      have HB1 := Lib.hid hb1
      clear hb1
      go_wp2_with fail
      refine (HTK.out w1).mono ?_
      rintro e w2 ⟨rfl, rfl⟩
      go_wp2_with fail
      refine (HW.out _ HB1.out).mono ?_
      rintro e w3 ⟨⟨vr, rfl, hown⟩, hb3⟩
      obtain ⟨A3, c3, rfl, hc3⟩ := own_form hown
      have HB3 := Lib.hid (HB1.out.trans (hb3.mono HB1.out.size))
      clear hb3 hown
      go_wp2_with fail
      go_ret
      exact ⟨rfl, HB3.out⟩
    · rw [if_neg (fun hh => hi hh.2)]
      have hd : decide (0 ≤ i ∧ i < (h.length : Int)) = false := decide_eq_false hi
      rw [hd] at HTK
      rw [hok] at HVA
      clear hd hi hok hv hl
      go_enter Tryz.func16, Tryz.ntmps16
      go_wp2_with fail
      refine HVA.out.mono ?_
      rintro e w1 ⟨rfl, hb1⟩
      have HB1 := Lib.hid hb1
      clear hb1
      go_wp2_with fail
      refine (HTK.out w1).mono ?_
      rintro e w2 ⟨rfl, rfl⟩
      go_wp2_with fail
      go_ret
      exact ⟨rfl, HB1.out⟩
  · rw [if_neg (fun hh => hok hh.1)]
    have hok2 : okH h = false := by simpa using hok
    rw [hok2] at HVA
    clear hok hok2 hv hl
    go_enter Tryz.func16, Tryz.ntmps16
    go_wp2_with fail
    refine HVA.out.mono ?_
    rintro e w1 ⟨rfl, hb1⟩
    have HB1 := Lib.hid hb1
    clear hb1
    go_wp2_with fail
    go_ret
    exact ⟨rfl, HB1.out⟩

/-- Where two rows come together: the first element of the one that stands in the other. -/
structure Mt (X Y : List Nat) (i k : Nat) : Prop where
  x : ∃ c, X[i]? = some c ∧ Y[k]? = some c
  low : ∀ (j y : Nat), j < i → X[j]? = some y → y ∉ Y
  lowY : ∀ (j y : Nat), j < k → Y[j]? = some y → X[i]? ≠ some y

set_option maxRecDepth 100000 in
set_option maxHeartbeats 4000000 in
theorem meeting_any {w : World} {v1 v2 : Value} {X Y : List Nat} (h1 : Rows 1 EInt w v1 (intsN X)) (h2 : Rows 1 EInt w v2 (intsN Y)) (hX : X.length ≤ 4096) (hY : Y.length ≤ 4096) (hm : ∃ x, x ∈ X ∧ x ∈ Y) :
    Calls Tryz.prog 42 #[v1, v2] w fun e w' => (∃ i k : Nat, e = .returned (.tuple #[.int .i64 i, .int .i64 k]) ∧ Mt X Y i k) ∧ Below w.heap.size w w' := by
  obtain ⟨A, cap, rfl, hc⟩ := h1.form
  obtain ⟨B, cap2, rfl, hc2⟩ := h2.form
  obtain ⟨n, hn⟩ : ∃ n, X.length = n := ⟨_, rfl⟩
  obtain ⟨m, hm'⟩ : ∃ m, Y.length = m := ⟨_, rfl⟩
  rw [intsN_len] at hc hc2 h1 h2 ⊢
  rw [intsN_len]
  rw [hn] at hc h1 hX ⊢
  rw [hm'] at hc2 h2 hY ⊢
  have HV1 := Lib.hid (fun W (hb : Below w.heap.size w W) => h1.below stays_int hb)
  have HV2 := Lib.hid (fun W (hb : Below w.heap.size w W) => h2.below stays_int hb)
  have HN := Lib.hid (And.intro hn hm')
  have HM := Lib.hid hm
  clear hn hm' hm h1 h2
  go_enter Tryz.func42, Tryz.ntmps42
  go_wp2_with fail
  go_step3
  go_wp2_with fail
  go_step3
  go_wp2_with fail
  obtain ⟨wo, rfl⟩ : ∃ wo, wo = w := ⟨_, rfl⟩
  go_loopw [10] (fun iv wr => ∃ i : Nat, i ≤ n ∧ iv = .int .i64 i ∧ Hid (∀ (j y : Nat), j < i → X[j]? = some y → y ∉ Y) ∧ Hid (Below wo.heap.size wo wr)) (fun iv _ => n - (Go.RowKit.intOf iv).toNat)
  case atStart => exact ⟨0, Nat.zero_le _, rfl, Lib.hid (fun j y h => absurd h (by omega)), Lib.hid (Below.refl _ _)⟩
  case round =>
    obtain ⟨i, hin, rfl, HL, HB⟩ := hrel
    by_cases hlt : i < n
    · have hlti : (i : Int) < (n : Int) := by omega
      obtain ⟨x, hx⟩ : ∃ x, X[i]? = some x := ⟨_, List.getElem?_eq_getElem (by rw [HN.out.1]; exact hlt)⟩
      have HX := Lib.hid hx
      clear hx
      go_wp2_with fail
      obtain ⟨wi, rfl⟩ : ∃ wi, wi = wr := ⟨_, rfl⟩
      go_loopw [15] (fun kv wr => ∃ k : Nat, k ≤ m ∧ kv = .int .i64 k ∧ Hid (∀ (j y : Nat), j < k → Y[j]? = some y → y ≠ x) ∧ Hid (Below wo.heap.size wo wr)) (fun kv _ => m - (Go.RowKit.intOf kv).toNat)
      case atStart => exact ⟨0, Nat.zero_le _, rfl, Lib.hid (fun j y h => absurd h (by omega)), HB⟩
      case round =>
        clear HB
        obtain ⟨k, hkm, rfl, HK, HB⟩ := hrel
        by_cases hlt2 : k < m
        · have hlti2 : (k : Int) < (m : Int) := by omega
          obtain ⟨y, hy⟩ : ∃ y, Y[k]? = some y := ⟨_, List.getElem?_eq_getElem (by rw [HN.out.2]; exact hlt2)⟩
          obtain ⟨b1, o1, rfl, -, hj1⟩ := at_int (HV1.out wr HB.out) (by rw [intsN_len, HN.out.1]; omega)
          obtain ⟨b2, o2, rfl, -, hj2⟩ := at_int (HV2.out wr HB.out) (by rw [intsN_len, HN.out.2]; omega)
          have u1 := hj1 i x (intsN_get HX.out)
          have u2 := hj2 k y (intsN_get hy)
          have HY := Lib.hid hy
          clear hj1 hj2 hy
          by_cases he : x = y
          · subst he
            have eb : ((x : Int) == (x : Int)) = true := by simp
            have HF := Lib.hid (show Mt X Y i k from ⟨⟨x, HX.out, HY.out⟩, HL.out, fun j z hj hz e => HK.out j z hj hz (by rw [HX.out] at e; exact (Option.some.inj e).symm)⟩)
            clear HX HY HL HK
            go_wp2_with fail
            go_quiet (fail)
            go_wp2_with fail
            rw [Exit.noGoto_ret]
            go_ret2
            exact ⟨⟨i, k, rfl, HF.out⟩, below_drewN HB.out _⟩
          · have eb : ((x : Int) == (y : Int)) = false := by simp <;> omega
            have hne : ¬ ((x : Int) = (y : Int)) := by omega
            have HK2 := Lib.hid (show ∀ (j z : Nat), j < k + 1 → Y[j]? = some z → z ≠ x from fun j z hj hz => by
              by_cases e : j = k
              · subst e
                rw [HY.out] at hz
                cases hz
                exact fun e => he e.symm
              · exact HK.out j z (by omega) hz)
            clear HY HK he
            go_wp2_with fail
            go_quiet (fail)
            go_wp2_with fail
            exact ⟨⟨k + 1, by omega, by go_num, HK2, Lib.hid (below_drewN HB.out _)⟩, by simp only [Go.RowKit.intOf]; omega⟩
        · obtain rfl : k = m := by omega
          have HL2 := Lib.hid (show ∀ (j y : Nat), j < i + 1 → X[j]? = some y → y ∉ Y from fun j y hj hy hm => by
            by_cases e : j = i
            · subst e
              rw [HX.out] at hy
              cases hy
              obtain ⟨p, hp⟩ := List.getElem?_of_mem hm
              exact HK.out p _ (by rw [← HN.out.2]; exact (List.getElem?_eq_some_iff.1 hp).1) hp rfl
            · exact HL.out j y (by omega) hy hm)
          clear HL HK HX
          go_wp2_with fail
          exact ⟨⟨i + 1, by omega, by go_num, HL2, HB⟩, by simp only [Go.RowKit.intOf]; omega⟩
    · exfalso
      obtain rfl : i = n := by omega
      obtain ⟨x, hx, hy⟩ := HM.out
      obtain ⟨p, hp⟩ := List.getElem?_of_mem hx
      exact HL.out p x (by rw [← HN.out.1]; exact (List.getElem?_eq_some_iff.1 hp).1) hp hy
end Go.Proofs.YtmjmidgfdjcbfaaGreatDoor.Dep
