/-
 WALKS over package corpus: slices.BinarySearchFunc with a position, firstFrom.
-/
import Derived.Test.YtebmfkkkhmjkoaaGreatQeE
namespace Go.Proofs.YtebmfkkkhmjkoaaGreat
open Go.RowKit Go.Shelf Go.Lib
set_option linter.unusedVariables false

/-- How many elements stand in front of the first one that is not less. -/
def cntL {α : Type} (less : α → Bool) (xs : List α) : Nat := (xs.takeWhile less).length
theorem cntL_at {α : Type} {less : α → Bool} : ∀ {xs : List α} {i : Nat}, i ≤ xs.length → (∀ (k : Nat) (x : α), k < i → xs[k]? = some x → less x = true) → (∀ (x : α), xs[i]? = some x → less x = false) → cntL less xs = i
 | [], i, hi, _, _ => by simp at hi; subst hi; rfl
 | y :: l, 0, _, _, h => by
   have := h y rfl
   simp [cntL, this]
 | y :: l, i + 1, hi, h1, h2 => by
   have hy := h1 0 y (Nat.succ_pos _) rfl
   have ih := cntL_at (xs := l) (i := i) (by simpa using hi) (fun k x hk hx => h1 (k + 1) x (by omega) (by simpa using hx)) (fun x hx => h2 x (by simpa using hx))
   unfold cntL at ih ⊢
   rw [List.takeWhile_cons_of_pos hy, List.length_cons, ih]
set_option maxRecDepth 100000 in
set_option maxHeartbeats 4000000 in
theorem bsearch_reg {α : Type} {E : World → List Value → α → Prop} (hE : Stays E) {w : World} {v : Value} {xs : List α} (hv : Rows 4 E w v xs) (hl : xs.length ≤ 100000) (pos : Int) (g : FuncId) (lb : Array Value)
 (eg : ∀ args w, (callFunc g args).run Tryz.prog w = .ok (.enter g args) w) (cz : α → Int) (hmono : ∀ (i j : Nat) (x y : α), i < j → xs[i]? = some x → xs[j]? = some y → cz y < 0 → cz x < 0)
 (hp : ∀ (W : World) (x : α) (u0 u1 u2 u3 : Value), Below w.heap.size w W → x ∈ xs → E W [u0, u1, u2, u3] x → Calls Tryz.prog g (#[.agg #[u0, u1, u2, u3], .int .i64 pos] ++ lb) W fun e w' => e = .returned (.int .i64 (cz x)) ∧ Below W.heap.size W w') :
 Calls Tryz.prog 112 #[v, .int .i64 pos, .func (.func g) #[] lb] w fun e w' => Hid (∃ b : Bool, e = .returned (.tuple #[.int .i64 (cntL (fun x => decide (cz x < 0)) xs : Nat), .bool b])) ∧ Below w.heap.size w w' := by
 obtain ⟨A, cap, rfl, hc⟩ := hv.form
 obtain ⟨n, hn⟩ : ∃ n, xs.length = n := ⟨_, rfl⟩
 have HV := Lib.hid (fun W (h : Below w.heap.size w W) => hv.below hE h)
 rw [hn] at hc hl HV ⊢
 obtain ⟨r, hr⟩ : ∃ r, cntL (fun x => decide (cz x < 0)) xs = r := ⟨_, rfl⟩
 rw [hr]
 have HN := Lib.hid hn
 have HP := Lib.hid hp
 have HM := Lib.hid hmono
 have HR := Lib.hid hr
 clear hn hv hp hE hmono hr
 go_enter Tryz.func112, Tryz.ntmps112
 go_wp2_with fail
 go_loopw [9, 10] (fun v9 v10 wr => ∃ i j : Nat, i ≤ j ∧ j ≤ n ∧ v9 = .int .i64 i ∧ v10 = .int .i64 j ∧ Hid (∀ (k : Nat) (x : α), k < i → xs[k]? = some x → cz x < 0) ∧ Hid (∀ (k : Nat) (x : α), j ≤ k → xs[k]? = some x → 0 ≤ cz x) ∧ Hid (Below w.heap.size w wr)) (fun v9 v10 _ => (Go.RowKit.intOf v10).toNat - (Go.RowKit.intOf v9).toNat)
 case atStart => exact ⟨0, n, Nat.zero_le _, Nat.le_refl _, rfl, rfl, Lib.hid (fun k x h => absurd h (by omega)), Lib.hid (fun k x h hx => by have := (List.getElem?_eq_some_iff.1 hx).1; rw [HN.out] at this; omega), Lib.hid (Below.refl _ _)⟩
 obtain ⟨i, j, hij, hjn, rfl, rfl, hlo, hhi, hb⟩ := hrel
 by_cases hlt : i < j
 ·
  have h1 : i ≤ (i + j) / 2 := by omega
  have h2 : (i + j) / 2 < j := by omega
  obtain ⟨x, hx⟩ : ∃ x, xs[(i + j) / 2]? = some x := ⟨_, List.getElem?_eq_getElem (by rw [HN.out]; omega)⟩
  obtain ⟨bk, off, rfl, hbl, hj⟩ := (HV.out wr hb.out).at' (by rw [HN.out]; omega)
  obtain ⟨cs, hcl, hec, hcell⟩ := hj _ x hx
  obtain ⟨u0, u1, u2, u3, rfl⟩ : ∃ u0 u1 u2 u3, cs = [u0, u1, u2, u3] := by
   match cs, hcl with
   | [u0, u1, u2, u3], _ => exact ⟨u0, u1, u2, u3, rfl⟩
  have c0 := hcell 0 _ rfl
  have c1 := hcell 1 _ rfl
  have c2 := hcell 2 _ rfl
  have c3 := hcell 3 _ rfl
  rw [Nat.add_zero] at c0
  have hcall := HP.out wr x u0 u1 u2 u3 hb.out (List.mem_of_getElem? hx) hec
  obtain ⟨q, hq⟩ : ∃ q, cz x = q := ⟨_, rfl⟩
  rw [hq] at hcall
  have HC := Lib.hid hcall
  have HX := Lib.hid hx
  have HQ := Lib.hid hq
  have H12 := Lib.hid (And.intro h1 h2)
  clear hcall hx hq hj hec hcell hbl h1 h2
  by_cases hq0 : q < 0
  ·
   go_wp2_with (go_at_fn g; refine HC.out.mono ?_; rintro e w' ⟨rfl, hb'⟩; have HB' := Lib.hid hb'; clear hb')
   refine ⟨⟨(i + j) / 2 + 1, j, by have := H12.out; omega, hjn, congrArg (Value.int .i64) (by omega), rfl, Lib.hid (fun k y hk hy => ?_), hhi, Lib.hid (hb.out.trans (HB'.out.mono hb.out.size))⟩, by have := H12.out; simp only [Go.RowKit.intOf]; omega⟩
   by_cases e : k = (i + j) / 2
   ·
    subst e
    rw [HX.out] at hy
    cases hy
    rw [HQ.out]
    exact hq0
   exact HM.out k _ y x (by omega) hy HX.out (by rw [HQ.out]; exact hq0)
  go_wp2_with (go_at_fn g; refine HC.out.mono ?_; rintro e w' ⟨rfl, hb'⟩; have HB' := Lib.hid hb'; clear hb')
  refine ⟨⟨i, (i + j) / 2, H12.out.1, by have := H12.out; omega, rfl, congrArg (Value.int .i64) (by omega), hlo, Lib.hid (fun k y hk hy => Int.not_lt.1 fun hn0 => ?_), Lib.hid (hb.out.trans (HB'.out.mono hb.out.size))⟩, by have := H12.out; simp only [Go.RowKit.intOf]; omega⟩
  by_cases e : k = (i + j) / 2
  ·
   subst e
   rw [HX.out] at hy
   cases hy
   rw [HQ.out] at hn0
   omega
  have := HM.out _ k x y (by omega) HX.out hy hn0
  rw [HQ.out] at this
  omega
 obtain rfl : i = j := by omega
 have hri : r = i := by
  rw [← HR.out]
  exact cntL_at (by rw [HN.out]; exact hjn) (fun k x hk hx => by simpa using hlo.out k x hk hx) (fun x hx => by simpa using hhi.out i x (Nat.le_refl _) hx)
 subst hri
 clear HM HR hlo hhi
 by_cases hin : r < n
 ·
  obtain ⟨x, hx⟩ : ∃ x, xs[r]? = some x := ⟨_, List.getElem?_eq_getElem (by rw [HN.out]; omega)⟩
  obtain ⟨bk, off, rfl, hbl, hj⟩ := (HV.out wr hb.out).at' (by rw [HN.out]; omega)
  obtain ⟨cs, hcl, hec, hcell⟩ := hj _ x hx
  obtain ⟨u0, u1, u2, u3, rfl⟩ : ∃ u0 u1 u2 u3, cs = [u0, u1, u2, u3] := by
   match cs, hcl with
   | [u0, u1, u2, u3], _ => exact ⟨u0, u1, u2, u3, rfl⟩
  have c0 := hcell 0 _ rfl
  have c1 := hcell 1 _ rfl
  have c2 := hcell 2 _ rfl
  have c3 := hcell 3 _ rfl
  rw [Nat.add_zero] at c0
  have HC := Lib.hid (HP.out wr x u0 u1 u2 u3 hb.out (List.mem_of_getElem? hx) hec)
  clear hx hj hec hcell hbl
  go_wp2_with (go_at_fn g; refine HC.out.mono ?_; rintro e w' ⟨rfl, hb'⟩; have HB' := Lib.hid hb'; clear hb')
  go_ret2
  exact ⟨Lib.hid ⟨_, rfl⟩, hb.out.trans (HB'.out.mono hb.out.size)⟩
 go_wp2_with fail
 go_ret2
 exact ⟨Lib.hid ⟨_, rfl⟩, hb.out⟩

set_option maxHeartbeats 1000000 in
/-- The begin of an element. -/
theorem begin_reg (u0 u3 : Value) (b e : Int) (W : World) (h0 : u0.oneCell' = true) (h3 : u3.oneCell' = true) :
 Calls Tryz.prog 71 #[.agg #[u0, .int .i64 b, .int .i64 e, u3]] W fun r w' => r = .returned (.int .i64 b) ∧ Below W.heap.size W w' := by
 have hst0 : ∀ (a : Addr) (m : Mode) (W : World), Sem.run Tryz.prog (store a u0 m) W = stored Tryz.prog W a u0 m := fun a m W => run_store Tryz.prog W a _ m h0
 have hst3 : ∀ (a : Addr) (m : Mode) (W : World), Sem.run Tryz.prog (store a u3 m) W = stored Tryz.prog W a u3 m := fun a m W => run_store Tryz.prog W a _ m h3
 go_enter Tryz.func71, Tryz.ntmps71
 go_wp2_with fail
 go_ret
 exact ⟨rfl, below_box W _⟩
set_option maxRecDepth 100000 in
set_option maxHeartbeats 2000000 in
theorem from1_reg (u0 u3 : Value) (b e pos : Int) (P : Nat) (W : World) (h0 : u0.oneCell' = true) (h3 : u3.oneCell' = true) (hP : P < W.heap.size) (hc : W.cell? ⟨P, 0, none⟩ = some (.func (.func 71) #[] #[])) :
 Calls Tryz.prog 113 (#[.agg #[u0, .int .i64 b, .int .i64 e, u3], .int .i64 pos] ++ #[.pointer (some ⟨P, 0, none⟩)]) W fun r w' => r = .returned (.int .i64 (cmpI b pos)) ∧ Below W.heap.size W w' := by
 have hst0 : ∀ (a : Addr) (m : Mode) (W : World), Sem.run Tryz.prog (store a u0 m) W = stored Tryz.prog W a u0 m := fun a m W => run_store Tryz.prog W a _ m h0
 have hst3 : ∀ (a : Addr) (m : Mode) (W : World), Sem.run Tryz.prog (store a u3 m) W = stored Tryz.prog W a u3 m := fun a m W => run_store Tryz.prog W a _ m h3
 have h1 := fun W => Tryz.cmp_Compare_int b pos W
 simp only [cmpInt_eq] at h1
 obtain ⟨z, hz⟩ : ∃ z, cmpI b pos = z := ⟨_, rfl⟩
 rw [hz] at h1 ⊢
 have p0 : (W.alloc (.cells #[u0, .int .i64 b, .int .i64 e, u3] 54)).cell? ⟨P, 0, none⟩ = some (.func (.func 71) #[] #[]) := Lib.cell?_alloc_some _ hc
 have HB := Lib.hid (fun W => begin_reg u0 u3 b e W h0 h3)
 have H1 := Lib.hid h1
 clear h1 hz hP hc h0 h3
 go_enter Tryz.func113, Tryz.ntmps113
 go_wp2_with fail
 refine (HB.out _).mono ?_
 rintro r w' ⟨rfl, hb'⟩
 have HB' := Lib.hid hb'
 clear hb'
 go_wp2_with fail
 refine (H1.out _).mono ?_
 rintro r w'' ⟨rfl, rfl⟩
 go_wp2_with fail
 go_ret
 exact ⟨rfl, (below_box W _).trans (HB'.out.mono (below_box W _).size)⟩
set_option maxRecDepth 100000 in
set_option maxHeartbeats 2000000 in
theorem firstFrom_reg {w : World} {v : Value} {xs : List (Ex)} (hv : Rows 4 EEx w v xs) (hl : xs.length ≤ 100000) (pos : Int) (hmono : ∀ (i j : Nat) (x y : Ex), i < j → xs[i]? = some x → xs[j]? = some y → x.b ≤ y.b) :
 Calls Tryz.prog 74 #[v, .int .i64 pos, .func (.func 71) #[] #[]] w fun e w' => e = .returned (.int .i64 (cntL (fun x => decide (x.b < pos)) xs : Nat)) ∧ Below w.heap.size w w' := by
 obtain ⟨N0, hN0⟩ : ∃ N0, w.heap.size = N0 := ⟨_, rfl⟩
 obtain ⟨X, hX⟩ : ∃ X, w.alloc (.cells #[.func (.func 71) #[] #[]] 103) = X := ⟨_, rfl⟩
 have hbX : Below w.heap.size w X := by rw [← hX]; exact below_box w _
 have e1 : X.heap[N0]? = some (.cells #[.func (.func 71) #[] #[]] 103 (0, 0)) := by rw [← hX, ← hN0]; exact block_new w _
 have p0 : X.cell? ⟨N0, 0, none⟩ = some (.func (.func 71) #[] #[]) := cell_of e1 rfl
 have hN0l : N0 < X.heap.size := (Array.getElem?_eq_some_iff.1 e1).1
 have hcc : (fun x : Ex => decide (cmpI x.b pos < 0)) = fun x => decide (x.b < pos) := by
  funext x
  unfold cmpI
  by_cases h : x.b < pos
  · simp [h]
  rw [if_neg h]
  by_cases h2 : pos < x.b
  · simp [h, h2]
  simp [h, h2]
 have hbs := bsearch_reg stays_ex (hv.below stays_ex hbX) hl pos 113 #[.pointer (some ⟨N0, 0, none⟩)] (enters_of Tryz.func113 (by kernel_rfl) rfl) (fun x => cmpI x.b pos) (fun i j x y hij hx hy h => by
  have := hmono i j x y hij hx hy
  unfold cmpI at h ⊢
  split at h
  · rw [if_pos (by omega)]; omega
  · split at h <;> omega) (fun W x u0 u1 u2 u3 hb hx hE => by
  obtain ⟨v1, h1, h2⟩ := hE
  obtain ⟨A1, c1, rfl, -⟩ := h2.form
  cases h1
  exact from1_reg _ _ _ _ pos N0 W rfl rfl (Nat.lt_of_lt_of_le hN0l hb.size) ((hb.cell hN0l).trans p0))
 rw [hcc] at hbs
 obtain ⟨A, cap, rfl, -⟩ := hv.form
 obtain ⟨n, hn⟩ : ∃ n, xs.length = n := ⟨_, rfl⟩
 obtain ⟨r, hr⟩ : ∃ r, cntL (fun x : Ex => decide (x.b < pos)) xs = r := ⟨_, rfl⟩
 rw [hr, hn] at hbs
 rw [hr, hn]
 have HBS := Lib.hid hbs
 have HX := Lib.hid hX
 have HBX := Lib.hid hbX
 have HN0 := Lib.hid hN0
 clear hbs hX hbX hN0 e1 p0 hN0l hcc hv hl hmono hn hr
 go_enter Tryz.func74, Tryz.ntmps74
 go_wp2_with fail
 rw [HX.out, HN0.out]
 go_wp2_with fail
 refine HBS.out.mono ?_
 rintro e w2 ⟨hq, hb2⟩
 obtain ⟨b, rfl⟩ := hq.out
 have HB2 := Lib.hid hb2
 clear hb2 hq
 go_wp2_with fail
 go_ret
 exact ⟨rfl, HN0.out ▸ HBX.out.trans (HB2.out.mono HBX.out.size)⟩

set_option maxRecDepth 100000 in
set_option maxHeartbeats 4000000 in
theorem bsearch_nd {α : Type} {E : World → List Value → α → Prop} (hE : Stays E) {w : World} {v : Value} {xs : List α} (hv : Rows 4 E w v xs) (hl : xs.length ≤ 100000) (pos : Int) (g : FuncId) (lb : Array Value)
 (eg : ∀ args w, (callFunc g args).run Tryz.prog w = .ok (.enter g args) w) (cz : α → Int) (hmono : ∀ (i j : Nat) (x y : α), i < j → xs[i]? = some x → xs[j]? = some y → cz y < 0 → cz x < 0)
 (hp : ∀ (W : World) (x : α) (u0 u1 u2 u3 : Value), Below w.heap.size w W → x ∈ xs → E W [u0, u1, u2, u3] x → Calls Tryz.prog g (#[.agg #[u0, u1, u2, u3], .int .i64 pos] ++ lb) W fun e w' => e = .returned (.int .i64 (cz x)) ∧ Below W.heap.size W w') :
 Calls Tryz.prog 109 #[v, .int .i64 pos, .func (.func g) #[] lb] w fun e w' => Hid (∃ b : Bool, e = .returned (.tuple #[.int .i64 (cntL (fun x => decide (cz x < 0)) xs : Nat), .bool b])) ∧ Below w.heap.size w w' := by
 obtain ⟨A, cap, rfl, hc⟩ := hv.form
 obtain ⟨n, hn⟩ : ∃ n, xs.length = n := ⟨_, rfl⟩
 have HV := Lib.hid (fun W (h : Below w.heap.size w W) => hv.below hE h)
 rw [hn] at hc hl HV ⊢
 obtain ⟨r, hr⟩ : ∃ r, cntL (fun x => decide (cz x < 0)) xs = r := ⟨_, rfl⟩
 rw [hr]
 have HN := Lib.hid hn
 have HP := Lib.hid hp
 have HM := Lib.hid hmono
 have HR := Lib.hid hr
 clear hn hv hp hE hmono hr
 go_enter Tryz.func109, Tryz.ntmps109
 go_wp2_with fail
 go_loopw [9, 10] (fun v9 v10 wr => ∃ i j : Nat, i ≤ j ∧ j ≤ n ∧ v9 = .int .i64 i ∧ v10 = .int .i64 j ∧ Hid (∀ (k : Nat) (x : α), k < i → xs[k]? = some x → cz x < 0) ∧ Hid (∀ (k : Nat) (x : α), j ≤ k → xs[k]? = some x → 0 ≤ cz x) ∧ Hid (Below w.heap.size w wr)) (fun v9 v10 _ => (Go.RowKit.intOf v10).toNat - (Go.RowKit.intOf v9).toNat)
 case atStart => exact ⟨0, n, Nat.zero_le _, Nat.le_refl _, rfl, rfl, Lib.hid (fun k x h => absurd h (by omega)), Lib.hid (fun k x h hx => by have := (List.getElem?_eq_some_iff.1 hx).1; rw [HN.out] at this; omega), Lib.hid (Below.refl _ _)⟩
 obtain ⟨i, j, hij, hjn, rfl, rfl, hlo, hhi, hb⟩ := hrel
 by_cases hlt : i < j
 ·
  have h1 : i ≤ (i + j) / 2 := by omega
  have h2 : (i + j) / 2 < j := by omega
  obtain ⟨x, hx⟩ : ∃ x, xs[(i + j) / 2]? = some x := ⟨_, List.getElem?_eq_getElem (by rw [HN.out]; omega)⟩
  obtain ⟨bk, off, rfl, hbl, hj⟩ := (HV.out wr hb.out).at' (by rw [HN.out]; omega)
  obtain ⟨cs, hcl, hec, hcell⟩ := hj _ x hx
  obtain ⟨u0, u1, u2, u3, rfl⟩ : ∃ u0 u1 u2 u3, cs = [u0, u1, u2, u3] := by
   match cs, hcl with
   | [u0, u1, u2, u3], _ => exact ⟨u0, u1, u2, u3, rfl⟩
  have c0 := hcell 0 _ rfl
  have c1 := hcell 1 _ rfl
  have c2 := hcell 2 _ rfl
  have c3 := hcell 3 _ rfl
  rw [Nat.add_zero] at c0
  have hcall := HP.out wr x u0 u1 u2 u3 hb.out (List.mem_of_getElem? hx) hec
  obtain ⟨q, hq⟩ : ∃ q, cz x = q := ⟨_, rfl⟩
  rw [hq] at hcall
  have HC := Lib.hid hcall
  have HX := Lib.hid hx
  have HQ := Lib.hid hq
  have H12 := Lib.hid (And.intro h1 h2)
  clear hcall hx hq hj hec hcell hbl h1 h2
  by_cases hq0 : q < 0
  ·
   go_wp2_with (go_at_fn g; refine HC.out.mono ?_; rintro e w' ⟨rfl, hb'⟩; have HB' := Lib.hid hb'; clear hb')
   refine ⟨⟨(i + j) / 2 + 1, j, by have := H12.out; omega, hjn, congrArg (Value.int .i64) (by omega), rfl, Lib.hid (fun k y hk hy => ?_), hhi, Lib.hid (hb.out.trans (HB'.out.mono hb.out.size))⟩, by have := H12.out; simp only [Go.RowKit.intOf]; omega⟩
   by_cases e : k = (i + j) / 2
   ·
    subst e
    rw [HX.out] at hy
    cases hy
    rw [HQ.out]
    exact hq0
   exact HM.out k _ y x (by omega) hy HX.out (by rw [HQ.out]; exact hq0)
  go_wp2_with (go_at_fn g; refine HC.out.mono ?_; rintro e w' ⟨rfl, hb'⟩; have HB' := Lib.hid hb'; clear hb')
  refine ⟨⟨i, (i + j) / 2, H12.out.1, by have := H12.out; omega, rfl, congrArg (Value.int .i64) (by omega), hlo, Lib.hid (fun k y hk hy => Int.not_lt.1 fun hn0 => ?_), Lib.hid (hb.out.trans (HB'.out.mono hb.out.size))⟩, by have := H12.out; simp only [Go.RowKit.intOf]; omega⟩
  by_cases e : k = (i + j) / 2
  ·
   subst e
   rw [HX.out] at hy
   cases hy
   rw [HQ.out] at hn0
   omega
  have := HM.out _ k x y (by omega) HX.out hy hn0
  rw [HQ.out] at this
  omega
 obtain rfl : i = j := by omega
 have hri : r = i := by
  rw [← HR.out]
  exact cntL_at (by rw [HN.out]; exact hjn) (fun k x hk hx => by simpa using hlo.out k x hk hx) (fun x hx => by simpa using hhi.out i x (Nat.le_refl _) hx)
 subst hri
 clear HM HR hlo hhi
 by_cases hin : r < n
 ·
  obtain ⟨x, hx⟩ : ∃ x, xs[r]? = some x := ⟨_, List.getElem?_eq_getElem (by rw [HN.out]; omega)⟩
  obtain ⟨bk, off, rfl, hbl, hj⟩ := (HV.out wr hb.out).at' (by rw [HN.out]; omega)
  obtain ⟨cs, hcl, hec, hcell⟩ := hj _ x hx
  obtain ⟨u0, u1, u2, u3, rfl⟩ : ∃ u0 u1 u2 u3, cs = [u0, u1, u2, u3] := by
   match cs, hcl with
   | [u0, u1, u2, u3], _ => exact ⟨u0, u1, u2, u3, rfl⟩
  have c0 := hcell 0 _ rfl
  have c1 := hcell 1 _ rfl
  have c2 := hcell 2 _ rfl
  have c3 := hcell 3 _ rfl
  rw [Nat.add_zero] at c0
  have HC := Lib.hid (HP.out wr x u0 u1 u2 u3 hb.out (List.mem_of_getElem? hx) hec)
  clear hx hj hec hcell hbl
  go_wp2_with (go_at_fn g; refine HC.out.mono ?_; rintro e w' ⟨rfl, hb'⟩; have HB' := Lib.hid hb'; clear hb')
  go_ret2
  exact ⟨Lib.hid ⟨_, rfl⟩, hb.out.trans (HB'.out.mono hb.out.size)⟩
 go_wp2_with fail
 go_ret2
 exact ⟨Lib.hid ⟨_, rfl⟩, hb.out⟩

set_option maxHeartbeats 1000000 in
/-- The begin of an element. -/
theorem begin_nd (u0 u3 : Value) (b e : Int) (W : World) (h0 : u0.oneCell' = true) (h3 : u3.oneCell' = true) :
 Calls Tryz.prog 72 #[.agg #[u0, .int .i64 b, .int .i64 e, u3]] W fun r w' => r = .returned (.int .i64 b) ∧ Below W.heap.size W w' := by
 have hst0 : ∀ (a : Addr) (m : Mode) (W : World), Sem.run Tryz.prog (store a u0 m) W = stored Tryz.prog W a u0 m := fun a m W => run_store Tryz.prog W a _ m h0
 have hst3 : ∀ (a : Addr) (m : Mode) (W : World), Sem.run Tryz.prog (store a u3 m) W = stored Tryz.prog W a u3 m := fun a m W => run_store Tryz.prog W a _ m h3
 go_enter Tryz.func72, Tryz.ntmps72
 go_wp2_with fail
 go_ret
 exact ⟨rfl, below_box W _⟩
set_option maxRecDepth 100000 in
set_option maxHeartbeats 2000000 in
theorem from1_nd (u0 u3 : Value) (b e pos : Int) (P : Nat) (W : World) (h0 : u0.oneCell' = true) (h3 : u3.oneCell' = true) (hP : P < W.heap.size) (hc : W.cell? ⟨P, 0, none⟩ = some (.func (.func 72) #[] #[])) :
 Calls Tryz.prog 110 (#[.agg #[u0, .int .i64 b, .int .i64 e, u3], .int .i64 pos] ++ #[.pointer (some ⟨P, 0, none⟩)]) W fun r w' => r = .returned (.int .i64 (cmpI b pos)) ∧ Below W.heap.size W w' := by
 have hst0 : ∀ (a : Addr) (m : Mode) (W : World), Sem.run Tryz.prog (store a u0 m) W = stored Tryz.prog W a u0 m := fun a m W => run_store Tryz.prog W a _ m h0
 have hst3 : ∀ (a : Addr) (m : Mode) (W : World), Sem.run Tryz.prog (store a u3 m) W = stored Tryz.prog W a u3 m := fun a m W => run_store Tryz.prog W a _ m h3
 have h1 := fun W => Tryz.cmp_Compare_int b pos W
 simp only [cmpInt_eq] at h1
 obtain ⟨z, hz⟩ : ∃ z, cmpI b pos = z := ⟨_, rfl⟩
 rw [hz] at h1 ⊢
 have p0 : (W.alloc (.cells #[u0, .int .i64 b, .int .i64 e, u3] 56)).cell? ⟨P, 0, none⟩ = some (.func (.func 72) #[] #[]) := Lib.cell?_alloc_some _ hc
 have HB := Lib.hid (fun W => begin_nd u0 u3 b e W h0 h3)
 have H1 := Lib.hid h1
 clear h1 hz hP hc h0 h3
 go_enter Tryz.func110, Tryz.ntmps110
 go_wp2_with fail
 refine (HB.out _).mono ?_
 rintro r w' ⟨rfl, hb'⟩
 have HB' := Lib.hid hb'
 clear hb'
 go_wp2_with fail
 refine (H1.out _).mono ?_
 rintro r w'' ⟨rfl, rfl⟩
 go_wp2_with fail
 go_ret
 exact ⟨rfl, (below_box W _).trans (HB'.out.mono (below_box W _).size)⟩
set_option maxRecDepth 100000 in
set_option maxHeartbeats 2000000 in
theorem firstFrom_nd {w : World} {v : Value} {xs : List (Nd)} (hv : Rows 4 ENd w v xs) (hl : xs.length ≤ 100000) (pos : Int) (hmono : ∀ (i j : Nat) (x y : Nd), i < j → xs[i]? = some x → xs[j]? = some y → x.b ≤ y.b) :
 Calls Tryz.prog 73 #[v, .int .i64 pos, .func (.func 72) #[] #[]] w fun e w' => e = .returned (.int .i64 (cntL (fun x => decide (x.b < pos)) xs : Nat)) ∧ Below w.heap.size w w' := by
 obtain ⟨N0, hN0⟩ : ∃ N0, w.heap.size = N0 := ⟨_, rfl⟩
 obtain ⟨X, hX⟩ : ∃ X, w.alloc (.cells #[.func (.func 72) #[] #[]] 104) = X := ⟨_, rfl⟩
 have hbX : Below w.heap.size w X := by rw [← hX]; exact below_box w _
 have e1 : X.heap[N0]? = some (.cells #[.func (.func 72) #[] #[]] 104 (0, 0)) := by rw [← hX, ← hN0]; exact block_new w _
 have p0 : X.cell? ⟨N0, 0, none⟩ = some (.func (.func 72) #[] #[]) := cell_of e1 rfl
 have hN0l : N0 < X.heap.size := (Array.getElem?_eq_some_iff.1 e1).1
 have hcc : (fun x : Nd => decide (cmpI x.b pos < 0)) = fun x => decide (x.b < pos) := by
  funext x
  unfold cmpI
  by_cases h : x.b < pos
  · simp [h]
  rw [if_neg h]
  by_cases h2 : pos < x.b
  · simp [h, h2]
  simp [h, h2]
 have hbs := bsearch_nd stays_nd (hv.below stays_nd hbX) hl pos 110 #[.pointer (some ⟨N0, 0, none⟩)] (enters_of Tryz.func110 (by kernel_rfl) rfl) (fun x => cmpI x.b pos) (fun i j x y hij hx hy h => by
  have := hmono i j x y hij hx hy
  unfold cmpI at h ⊢
  split at h
  · rw [if_pos (by omega)]; omega
  · split at h <;> omega) (fun W x u0 u1 u2 u3 hb hx hE => by
  have h1 : [u0, u1, u2, u3] = _ := hE
  cases h1
  exact from1_nd _ _ _ _ pos N0 W rfl rfl (Nat.lt_of_lt_of_le hN0l hb.size) ((hb.cell hN0l).trans p0))
 rw [hcc] at hbs
 obtain ⟨A, cap, rfl, -⟩ := hv.form
 obtain ⟨n, hn⟩ : ∃ n, xs.length = n := ⟨_, rfl⟩
 obtain ⟨r, hr⟩ : ∃ r, cntL (fun x : Nd => decide (x.b < pos)) xs = r := ⟨_, rfl⟩
 rw [hr, hn] at hbs
 rw [hr, hn]
 have HBS := Lib.hid hbs
 have HX := Lib.hid hX
 have HBX := Lib.hid hbX
 have HN0 := Lib.hid hN0
 clear hbs hX hbX hN0 e1 p0 hN0l hcc hv hl hmono hn hr
 go_enter Tryz.func73, Tryz.ntmps73
 go_wp2_with fail
 rw [HX.out, HN0.out]
 go_wp2_with fail
 refine HBS.out.mono ?_
 rintro e w2 ⟨hq, hb2⟩
 obtain ⟨b, rfl⟩ := hq.out
 have HB2 := Lib.hid hb2
 clear hb2 hq
 go_wp2_with fail
 go_ret
 exact ⟨rfl, HN0.out ▸ HBX.out.trans (HB2.out.mono HBX.out.size)⟩
end Go.Proofs.YtebmfkkkhmjkoaaGreat
