/-
  WALKS over package corpus: changed, at its five element types.
-/
import Derived.Test.YtglafkonpbcegaaGreatQeB
import Derived.Test.YtglafkonpbcegaaGreatFmA
import Derived.BigQuiet
namespace Go.Proofs.YtglafkonpbcegaaGreat
open Go.RowKit Go.Shelf Go.Lib

/-- What changed answers. -/
def ChV {β : Type} (T : TypeId) (sz : Nat) (E : World → List Value → β → Prop) (w : World) (ys : List β) (e : Ending) (w' : World) : Prop :=
  ∃ A : Option Addr, e = .returned (.slice A ys.length ys.length) ∧ OwnF w.heap.size T sz E w' (.slice A ys.length ys.length) ys ∧ Below w.heap.size w w'

theorem Tryz.infoE_tok : (Tryz.prog.info? 28).map (fun i => (i.zero, i.size, i.bytes)) = some (some (.slice none 0 0), 1, 24) := by kernel_rfl
set_option maxRecDepth 100000 in
set_option maxHeartbeats 4000000 in
theorem changed_tok {α β : Type} {E : World → List Value → α → Prop} (hE : Stays E) (hE1 : ∀ (W : World) (cs : List Value) (x : α), E W cs x → ∀ u ∈ cs, u.oneCell' = true) {E' : World → List Value → β → Prop} {w : World} {v : Value} {xs : List α} (hv : Rows 1 E w v xs) (hl : xs.length ≤ 100000) (g : FuncId) (lb : Array Value)
    (eg : ∀ args w, (callFunc g args).run Tryz.prog w = .ok (.enter g args) w) (f : α → β)
    (hp : ∀ (W : World) (x : α) (u0 : Value), Below w.heap.size w W → x ∈ xs → E W [u0] x → Calls Tryz.prog g (#[u0] ++ lb) W fun e w' => (∃ (yA : Option Addr) (yn yc : Nat), e = .returned (.slice yA yn yc) ∧ Fresh W.heap.size E' w' [Value.slice yA yn yc] (f x) ∧ ∀ u ∈ [Value.slice yA yn yc], u.oneCell' = true) ∧ Below W.heap.size W w') :
    Calls Tryz.prog 99 #[v, .func (.func g) #[] lb] w (ChV 28 1 E' w (xs.map f)) := by
  obtain ⟨A, cap, rfl, hc⟩ := hv.form
  obtain ⟨n, hn⟩ : ∃ n, xs.length = n := ⟨_, rfl⟩
  have HV := Lib.hid (fun W (h : Below w.heap.size w W) => hv.below hE h)
  obtain ⟨i0, hi, hz0, hz1, hz2⟩ := info_parts' Tryz.infoE_tok
  rw [hn] at hc hl HV ⊢
  obtain ⟨cur0, hcur⟩ : ∃ cur0 : Array Value, madeCells (Value.cells ((.slice none 0 0))) (n * 1) = cur0 := ⟨_, rfl⟩
  have hcs : cur0.size = n * 1 := by rw [← hcur, size_madeCells]
  have hmk : ∀ W : World, (Instr.makeSlice 23 (.int .i64 0) (.int .i64 n)).run Tryz.prog W = .ok (.slice (some ⟨W.heap.size, 0, none⟩) 0 n) (W.alloc (.cells cur0 28)) := fun W => by
    have h := run_make (P := Tryz.prog) W 23 28 i0 _ Tryz.underlying23 hi hz0 .i64 .i64 0 (n : Int) (Int.le_refl _) (by omega) (by rw [hz2]; omega) (by omega)
    simp only [Int.toNat_zero, Int.toNat_natCast, hz1] at h
    rw [hcur] at h
    exact h
  obtain ⟨M, hM⟩ : ∃ M, w.heap.size = M := ⟨_, rfl⟩
  have hch : ∀ W : World, W.heap.size = M → ChgAt M 28 1 n E' (W.alloc (.cells cur0 28)) ([] : List β) := fun W h => by rw [← h]; exact chg_new W cur0 hcs
  have HN := Lib.hid hn
  have HP := Lib.hid hp
  have HM := Lib.hid hM
  have HCH := Lib.hid hch
  have HE := Lib.hid hE
  clear hn hv hp hE hi hz0 hz1 hz2 hcur hcs hM hch
  go_enter Tryz.func99, Tryz.ntmps99
  go_wp2_with fail
  rw [HM.out]
  go_loopw [5, 13] (fun v5 i wr => ∃ k : Nat, k ≤ n ∧ i = .int .i64 k ∧ v5 = .slice (some ⟨M, 0, none⟩) k n ∧ Hid (ChgAt M 28 1 n E' wr ((xs.take k).map f)) ∧ Hid (Below M w wr)) (fun _ i _ => n - (Go.RowKit.intOf i).toNat)
  case atStart => exact ⟨0, Nat.zero_le _, rfl, rfl, Lib.hid (HCH.out _ HM.out), Lib.hid (by rw [← HM.out]; exact below_box w _)⟩
  case round =>
    clear HCH hmk
    obtain ⟨k, hk, rfl, rfl, hs, hb⟩ := hrel
    by_cases hlt : k < n
    · have hb0 := hb.out
      rw [← HM.out] at hb0
      obtain ⟨x, hx⟩ : ∃ x, xs[k]? = some x := ⟨_, List.getElem?_eq_getElem (by rw [HN.out]; omega)⟩
      obtain ⟨bk, off, rfl, hbl, hj⟩ := (HV.out wr hb0).at' (by rw [HN.out]; omega)
      obtain ⟨cs, hcl, hec, hcell⟩ := hj k x hx
      obtain ⟨u0, rfl⟩ : ∃ u0, cs = [u0] := by
        match cs, hcl with
        | [u0], _ => exact ⟨u0, rfl⟩
      have c0 := hcell 0 _ rfl
      rw [Nat.mul_one, Nat.add_zero] at c0
      have hone := hE1 _ _ _ hec
      have hMs : M < wr.heap.size := by
        obtain ⟨_, _, _, hg, _⟩ := hs.out
        exact (Array.getElem?_eq_some_iff.1 hg).1
      have hbb : Below wr.heap.size wr wr := Below.refl _ _
      have hcall := HP.out wr x u0 hb0 (List.mem_of_getElem? hx) hec
      have HBB := Lib.hid hbb
      have HC := Lib.hid hcall
      have HX := Lib.hid hx
      have HMS := Lib.hid hMs
      clear hcall hx hb0 hj hec hcell hbl hMs hone hbb
      have hlen : ((xs.take k).map f).length = k := by
        rw [List.length_map, List.length_take, HN.out]
        omega
      have HLEN := Lib.hid hlen
      clear hlen
      go_wp2_with (first
        | (go_at_fn g; refine HC.out.mono ?_; rintro e w' ⟨⟨yA, yn, yc, rfl, hf, h1⟩, hb'⟩; have HB' := Lib.hid (Below.trans HBB.out (Below.mono hb' HBB.out.size)); have HF := Lib.hid hf; have H1 := Lib.hid h1; clear hb' hf h1)
        | (at_builtin; refine wpList_chg Tryz.underlying23 Tryz.infoE_tok (by rfl) _ _ (by rfl) M n k E' ((xs.take k).map f) (f x) [Value.slice yA yn yc] (by rfl) H1.out HLEN.out (by rfl) (by rfl) (hs.out.kept (kept_below _ HB'.out)) (HF.out.mono (by have := HMS.out; omega)) hlt ?_; intro w2 HCH HBL)
        | fail)
      refine ⟨⟨k + 1, by omega, by go_num, rfl, Lib.hid ?_, Lib.hid (HBL.out _ _ (hb.out.trans (HB'.out.mono (by have := HMS.out; omega))) (Nat.le_refl _))⟩, by simp only [Go.RowKit.intOf]; omega⟩
      rw [List.take_add_one, HX.out, List.map_append]
      exact HCH.out
    · obtain rfl : k = n := by omega
      have hfin : (xs.take k).map f = xs.map f := by rw [List.take_of_length_le (by rw [HN.out]; exact Nat.le_refl _)]
      have hlm : (xs.map f).length = k := by rw [List.length_map, HN.out]
      have hown := hs.out.own (by rw [hfin, hlm]; exact Nat.le_refl _) (by unfold maxLen; omega)
      rw [hfin, hlm] at hown
      have HO := Lib.hid hown
      have HL := Lib.hid hlm
      clear hfin hlm hown hs
      go_wp2_with fail
      go_ret
      unfold ChV
      rw [HM.out, HL.out]
      exact ⟨_, rfl, HO.out, hb.out⟩

theorem Tryz.infoE_text : (Tryz.prog.info? 73).map (fun i => (i.zero, i.size, i.bytes)) = some (some (.agg #[.string ⟨#[]⟩, .int .i64 0, .int .i64 0, .slice none 0 0]), 4, 56) := by kernel_rfl
set_option maxRecDepth 100000 in
set_option maxHeartbeats 4000000 in
theorem changed_text {α β : Type} {E : World → List Value → α → Prop} (hE : Stays E) (hE1 : ∀ (W : World) (cs : List Value) (x : α), E W cs x → ∀ u ∈ cs, u.oneCell' = true) {E' : World → List Value → β → Prop} {w : World} {v : Value} {xs : List α} (hv : Rows 4 E w v xs) (hl : xs.length ≤ 100000) (g : FuncId) (lb : Array Value)
    (eg : ∀ args w, (callFunc g args).run Tryz.prog w = .ok (.enter g args) w) (f : α → β)
    (hp : ∀ (W : World) (x : α) (u0 u1 u2 u3 : Value), Below w.heap.size w W → x ∈ xs → E W [u0, u1, u2, u3] x → Calls Tryz.prog g (#[.agg #[u0, u1, u2, u3]] ++ lb) W fun e w' => (∃ y0 y1 y2 y3 : Value, e = .returned (.agg #[y0, y1, y2, y3]) ∧ Fresh W.heap.size E' w' [y0, y1, y2, y3] (f x) ∧ ∀ u ∈ [y0, y1, y2, y3], u.oneCell' = true) ∧ Below W.heap.size W w') :
    Calls Tryz.prog 101 #[v, .func (.func g) #[] lb] w (ChV 73 4 E' w (xs.map f)) := by
  obtain ⟨A, cap, rfl, hc⟩ := hv.form
  obtain ⟨n, hn⟩ : ∃ n, xs.length = n := ⟨_, rfl⟩
  have HV := Lib.hid (fun W (h : Below w.heap.size w W) => hv.below hE h)
  obtain ⟨i0, hi, hz0, hz1, hz2⟩ := info_parts' Tryz.infoE_text
  rw [hn] at hc hl HV ⊢
  obtain ⟨cur0, hcur⟩ : ∃ cur0 : Array Value, madeCells (Value.cells ((.agg #[.string ⟨#[]⟩, .int .i64 0, .int .i64 0, .slice none 0 0]))) (n * 4) = cur0 := ⟨_, rfl⟩
  have hcs : cur0.size = n * 4 := by rw [← hcur, size_madeCells]
  have hmk : ∀ W : World, (Instr.makeSlice 24 (.int .i64 0) (.int .i64 n)).run Tryz.prog W = .ok (.slice (some ⟨W.heap.size, 0, none⟩) 0 n) (W.alloc (.cells cur0 73)) := fun W => by
    have h := run_make (P := Tryz.prog) W 24 73 i0 _ Tryz.underlying24 hi hz0 .i64 .i64 0 (n : Int) (Int.le_refl _) (by omega) (by rw [hz2]; omega) (by omega)
    simp only [Int.toNat_zero, Int.toNat_natCast, hz1] at h
    rw [hcur] at h
    exact h
  obtain ⟨M, hM⟩ : ∃ M, w.heap.size = M := ⟨_, rfl⟩
  have hch : ∀ W : World, W.heap.size = M → ChgAt M 73 4 n E' (W.alloc (.cells cur0 73)) ([] : List β) := fun W h => by rw [← h]; exact chg_new W cur0 hcs
  have HN := Lib.hid hn
  have HP := Lib.hid hp
  have HM := Lib.hid hM
  have HCH := Lib.hid hch
  have HE := Lib.hid hE
  clear hn hv hp hE hi hz0 hz1 hz2 hcur hcs hM hch
  go_enter Tryz.func101, Tryz.ntmps101
  go_wp2_with fail
  rw [HM.out]
  go_loopw [5, 13] (fun v5 i wr => ∃ k : Nat, k ≤ n ∧ i = .int .i64 k ∧ v5 = .slice (some ⟨M, 0, none⟩) k n ∧ Hid (ChgAt M 73 4 n E' wr ((xs.take k).map f)) ∧ Hid (Below M w wr)) (fun _ i _ => n - (Go.RowKit.intOf i).toNat)
  case atStart => exact ⟨0, Nat.zero_le _, rfl, rfl, Lib.hid (HCH.out _ HM.out), Lib.hid (by rw [← HM.out]; exact below_box w _)⟩
  case round =>
    clear HCH hmk
    obtain ⟨k, hk, rfl, rfl, hs, hb⟩ := hrel
    by_cases hlt : k < n
    · have hb0 := hb.out
      rw [← HM.out] at hb0
      obtain ⟨x, hx⟩ : ∃ x, xs[k]? = some x := ⟨_, List.getElem?_eq_getElem (by rw [HN.out]; omega)⟩
      obtain ⟨bk, off, rfl, hbl, hj⟩ := (HV.out wr hb0).at' (by rw [HN.out]; omega)
      obtain ⟨cs, hcl, hec, hcell⟩ := hj k x hx
      obtain ⟨u0, u1, u2, u3, rfl⟩ : ∃ u0 u1 u2 u3, cs = [u0, u1, u2, u3] := by
        match cs, hcl with
        | [u0, u1, u2, u3], _ => exact ⟨u0, u1, u2, u3, rfl⟩
      have c0 := hcell 0 _ rfl
      have c1 := hcell 1 _ rfl
      have c2 := hcell 2 _ rfl
      have c3 := hcell 3 _ rfl
      rw [Nat.add_zero] at c0
      have hone := hE1 _ _ _ hec
      have hst0 : ∀ (a : Addr) (m : Mode) (W : World), Sem.run Tryz.prog (store a u0 m) W = stored Tryz.prog W a u0 m := fun a m W => run_store Tryz.prog W a _ m (hone _ (by simp))
      have hst1 : ∀ (a : Addr) (m : Mode) (W : World), Sem.run Tryz.prog (store a u1 m) W = stored Tryz.prog W a u1 m := fun a m W => run_store Tryz.prog W a _ m (hone _ (by simp))
      have hst2 : ∀ (a : Addr) (m : Mode) (W : World), Sem.run Tryz.prog (store a u2 m) W = stored Tryz.prog W a u2 m := fun a m W => run_store Tryz.prog W a _ m (hone _ (by simp))
      have hst3 : ∀ (a : Addr) (m : Mode) (W : World), Sem.run Tryz.prog (store a u3 m) W = stored Tryz.prog W a u3 m := fun a m W => run_store Tryz.prog W a _ m (hone _ (by simp))
      have hMs : M < wr.heap.size := by
        obtain ⟨_, _, _, hg, _⟩ := hs.out
        exact (Array.getElem?_eq_some_iff.1 hg).1
      have hbb : Below wr.heap.size wr (wr.alloc (.cells #[u0, u1, u2, u3] 73)) := below_box wr _
      have hcall := HP.out (wr.alloc (.cells #[u0, u1, u2, u3] 73)) x u0 u1 u2 u3 (hb0.trans (hbb.mono hb0.size)) (List.mem_of_getElem? hx) (HE.out _ _ _ _ hbb hec)
      have HBB := Lib.hid hbb
      have HC := Lib.hid hcall
      have HX := Lib.hid hx
      have HMS := Lib.hid hMs
      clear hcall hx hb0 hj hec hcell hbl hMs hone hbb
      have hlen : ((xs.take k).map f).length = k := by
        rw [List.length_map, List.length_take, HN.out]
        omega
      have HLEN := Lib.hid hlen
      clear hlen
      go_wp2_with (first
        | (go_at_fn g; refine HC.out.mono ?_; rintro e w' ⟨⟨y0, y1, y2, y3, rfl, hf, h1⟩, hb'⟩; have HB' := Lib.hid (Below.trans HBB.out (Below.mono hb' HBB.out.size)); have HF := Lib.hid hf; have H1 := Lib.hid h1; clear hb' hf h1)
        | (at_builtin; refine wpList_chg Tryz.underlying24 Tryz.infoE_text (by rfl) _ _ (by rfl) M n k E' ((xs.take k).map f) (f x) [y0, y1, y2, y3] (by rfl) H1.out HLEN.out (by rfl) (by rfl) (hs.out.kept (kept_below _ HB'.out)) (HF.out.mono (by have := HMS.out; simp; omega)) hlt ?_; intro w2 HCH HBL)
        | fail)
      refine ⟨⟨k + 1, by omega, by go_num, rfl, Lib.hid ?_, Lib.hid (HBL.out _ _ (hb.out.trans (HB'.out.mono (by have := HMS.out; omega))) (Nat.le_refl _))⟩, by simp only [Go.RowKit.intOf]; omega⟩
      rw [List.take_add_one, HX.out, List.map_append]
      exact HCH.out
    · obtain rfl : k = n := by omega
      have hfin : (xs.take k).map f = xs.map f := by rw [List.take_of_length_le (by rw [HN.out]; exact Nat.le_refl _)]
      have hlm : (xs.map f).length = k := by rw [List.length_map, HN.out]
      have hown := hs.out.own (by rw [hfin, hlm]; exact Nat.le_refl _) (by unfold maxLen; omega)
      rw [hfin, hlm] at hown
      have HO := Lib.hid hown
      have HL := Lib.hid hlm
      clear hfin hlm hown hs
      go_wp2_with fail
      go_ret
      unfold ChV
      rw [HM.out, HL.out]
      exact ⟨_, rfl, HO.out, hb.out⟩

theorem Tryz.infoE_reg : (Tryz.prog.info? 39).map (fun i => (i.zero, i.size, i.bytes)) = some (some (.agg #[.string ⟨#[]⟩, .int .i64 0, .int .i64 0, .slice none 0 0]), 4, 56) := by kernel_rfl
set_option maxRecDepth 100000 in
set_option maxHeartbeats 4000000 in
theorem changed_reg {α β : Type} {E : World → List Value → α → Prop} (hE : Stays E) (hE1 : ∀ (W : World) (cs : List Value) (x : α), E W cs x → ∀ u ∈ cs, u.oneCell' = true) {E' : World → List Value → β → Prop} {w : World} {v : Value} {xs : List α} (hv : Rows 4 E w v xs) (hl : xs.length ≤ 100000) (g : FuncId) (lb : Array Value)
    (eg : ∀ args w, (callFunc g args).run Tryz.prog w = .ok (.enter g args) w) (f : α → β)
    (hp : ∀ (W : World) (x : α) (u0 u1 u2 u3 : Value), Below w.heap.size w W → x ∈ xs → E W [u0, u1, u2, u3] x → Calls Tryz.prog g (#[.agg #[u0, u1, u2, u3]] ++ lb) W fun e w' => (∃ y0 y1 y2 y3 : Value, e = .returned (.agg #[y0, y1, y2, y3]) ∧ Fresh W.heap.size E' w' [y0, y1, y2, y3] (f x) ∧ ∀ u ∈ [y0, y1, y2, y3], u.oneCell' = true) ∧ Below W.heap.size W w') :
    Calls Tryz.prog 103 #[v, .func (.func g) #[] lb] w (ChV 39 4 E' w (xs.map f)) := by
  obtain ⟨A, cap, rfl, hc⟩ := hv.form
  obtain ⟨n, hn⟩ : ∃ n, xs.length = n := ⟨_, rfl⟩
  have HV := Lib.hid (fun W (h : Below w.heap.size w W) => hv.below hE h)
  obtain ⟨i0, hi, hz0, hz1, hz2⟩ := info_parts' Tryz.infoE_reg
  rw [hn] at hc hl HV ⊢
  obtain ⟨cur0, hcur⟩ : ∃ cur0 : Array Value, madeCells (Value.cells ((.agg #[.string ⟨#[]⟩, .int .i64 0, .int .i64 0, .slice none 0 0]))) (n * 4) = cur0 := ⟨_, rfl⟩
  have hcs : cur0.size = n * 4 := by rw [← hcur, size_madeCells]
  have hmk : ∀ W : World, (Instr.makeSlice 25 (.int .i64 0) (.int .i64 n)).run Tryz.prog W = .ok (.slice (some ⟨W.heap.size, 0, none⟩) 0 n) (W.alloc (.cells cur0 39)) := fun W => by
    have h := run_make (P := Tryz.prog) W 25 39 i0 _ Tryz.underlying25 hi hz0 .i64 .i64 0 (n : Int) (Int.le_refl _) (by omega) (by rw [hz2]; omega) (by omega)
    simp only [Int.toNat_zero, Int.toNat_natCast, hz1] at h
    rw [hcur] at h
    exact h
  obtain ⟨M, hM⟩ : ∃ M, w.heap.size = M := ⟨_, rfl⟩
  have hch : ∀ W : World, W.heap.size = M → ChgAt M 39 4 n E' (W.alloc (.cells cur0 39)) ([] : List β) := fun W h => by rw [← h]; exact chg_new W cur0 hcs
  have HN := Lib.hid hn
  have HP := Lib.hid hp
  have HM := Lib.hid hM
  have HCH := Lib.hid hch
  have HE := Lib.hid hE
  clear hn hv hp hE hi hz0 hz1 hz2 hcur hcs hM hch
  go_enter Tryz.func103, Tryz.ntmps103
  go_wp2_with fail
  rw [HM.out]
  go_loopw [5, 13] (fun v5 i wr => ∃ k : Nat, k ≤ n ∧ i = .int .i64 k ∧ v5 = .slice (some ⟨M, 0, none⟩) k n ∧ Hid (ChgAt M 39 4 n E' wr ((xs.take k).map f)) ∧ Hid (Below M w wr)) (fun _ i _ => n - (Go.RowKit.intOf i).toNat)
  case atStart => exact ⟨0, Nat.zero_le _, rfl, rfl, Lib.hid (HCH.out _ HM.out), Lib.hid (by rw [← HM.out]; exact below_box w _)⟩
  case round =>
    clear HCH hmk
    obtain ⟨k, hk, rfl, rfl, hs, hb⟩ := hrel
    by_cases hlt : k < n
    · have hb0 := hb.out
      rw [← HM.out] at hb0
      obtain ⟨x, hx⟩ : ∃ x, xs[k]? = some x := ⟨_, List.getElem?_eq_getElem (by rw [HN.out]; omega)⟩
      obtain ⟨bk, off, rfl, hbl, hj⟩ := (HV.out wr hb0).at' (by rw [HN.out]; omega)
      obtain ⟨cs, hcl, hec, hcell⟩ := hj k x hx
      obtain ⟨u0, u1, u2, u3, rfl⟩ : ∃ u0 u1 u2 u3, cs = [u0, u1, u2, u3] := by
        match cs, hcl with
        | [u0, u1, u2, u3], _ => exact ⟨u0, u1, u2, u3, rfl⟩
      have c0 := hcell 0 _ rfl
      have c1 := hcell 1 _ rfl
      have c2 := hcell 2 _ rfl
      have c3 := hcell 3 _ rfl
      rw [Nat.add_zero] at c0
      have hone := hE1 _ _ _ hec
      have hst0 : ∀ (a : Addr) (m : Mode) (W : World), Sem.run Tryz.prog (store a u0 m) W = stored Tryz.prog W a u0 m := fun a m W => run_store Tryz.prog W a _ m (hone _ (by simp))
      have hst1 : ∀ (a : Addr) (m : Mode) (W : World), Sem.run Tryz.prog (store a u1 m) W = stored Tryz.prog W a u1 m := fun a m W => run_store Tryz.prog W a _ m (hone _ (by simp))
      have hst2 : ∀ (a : Addr) (m : Mode) (W : World), Sem.run Tryz.prog (store a u2 m) W = stored Tryz.prog W a u2 m := fun a m W => run_store Tryz.prog W a _ m (hone _ (by simp))
      have hst3 : ∀ (a : Addr) (m : Mode) (W : World), Sem.run Tryz.prog (store a u3 m) W = stored Tryz.prog W a u3 m := fun a m W => run_store Tryz.prog W a _ m (hone _ (by simp))
      have hMs : M < wr.heap.size := by
        obtain ⟨_, _, _, hg, _⟩ := hs.out
        exact (Array.getElem?_eq_some_iff.1 hg).1
      have hbb : Below wr.heap.size wr (wr.alloc (.cells #[u0, u1, u2, u3] 39)) := below_box wr _
      have hcall := HP.out (wr.alloc (.cells #[u0, u1, u2, u3] 39)) x u0 u1 u2 u3 (hb0.trans (hbb.mono hb0.size)) (List.mem_of_getElem? hx) (HE.out _ _ _ _ hbb hec)
      have HBB := Lib.hid hbb
      have HC := Lib.hid hcall
      have HX := Lib.hid hx
      have HMS := Lib.hid hMs
      clear hcall hx hb0 hj hec hcell hbl hMs hone hbb
      have hlen : ((xs.take k).map f).length = k := by
        rw [List.length_map, List.length_take, HN.out]
        omega
      have HLEN := Lib.hid hlen
      clear hlen
      go_wp2_with (first
        | (go_at_fn g; refine HC.out.mono ?_; rintro e w' ⟨⟨y0, y1, y2, y3, rfl, hf, h1⟩, hb'⟩; have HB' := Lib.hid (Below.trans HBB.out (Below.mono hb' HBB.out.size)); have HF := Lib.hid hf; have H1 := Lib.hid h1; clear hb' hf h1)
        | (at_builtin; refine wpList_chg Tryz.underlying25 Tryz.infoE_reg (by rfl) _ _ (by rfl) M n k E' ((xs.take k).map f) (f x) [y0, y1, y2, y3] (by rfl) H1.out HLEN.out (by rfl) (by rfl) (hs.out.kept (kept_below _ HB'.out)) (HF.out.mono (by have := HMS.out; simp; omega)) hlt ?_; intro w2 HCH HBL)
        | fail)
      refine ⟨⟨k + 1, by omega, by go_num, rfl, Lib.hid ?_, Lib.hid (HBL.out _ _ (hb.out.trans (HB'.out.mono (by have := HMS.out; omega))) (Nat.le_refl _))⟩, by simp only [Go.RowKit.intOf]; omega⟩
      rw [List.take_add_one, HX.out, List.map_append]
      exact HCH.out
    · obtain rfl : k = n := by omega
      have hfin : (xs.take k).map f = xs.map f := by rw [List.take_of_length_le (by rw [HN.out]; exact Nat.le_refl _)]
      have hlm : (xs.map f).length = k := by rw [List.length_map, HN.out]
      have hown := hs.out.own (by rw [hfin, hlm]; exact Nat.le_refl _) (by unfold maxLen; omega)
      rw [hfin, hlm] at hown
      have HO := Lib.hid hown
      have HL := Lib.hid hlm
      clear hfin hlm hown hs
      go_wp2_with fail
      go_ret
      unfold ChV
      rw [HM.out, HL.out]
      exact ⟨_, rfl, HO.out, hb.out⟩

theorem Tryz.infoE_nd : (Tryz.prog.info? 85).map (fun i => (i.zero, i.size, i.bytes)) = some (some (.agg #[.string ⟨#[]⟩, .int .i64 0, .int .i64 0, .int .i64 0]), 4, 40) := by kernel_rfl
set_option maxRecDepth 100000 in
set_option maxHeartbeats 4000000 in
theorem changed_nd {α β : Type} {E : World → List Value → α → Prop} (hE : Stays E) (hE1 : ∀ (W : World) (cs : List Value) (x : α), E W cs x → ∀ u ∈ cs, u.oneCell' = true) {E' : World → List Value → β → Prop} {w : World} {v : Value} {xs : List α} (hv : Rows 4 E w v xs) (hl : xs.length ≤ 100000) (g : FuncId) (lb : Array Value)
    (eg : ∀ args w, (callFunc g args).run Tryz.prog w = .ok (.enter g args) w) (f : α → β)
    (hp : ∀ (W : World) (x : α) (u0 u1 u2 u3 : Value), Below w.heap.size w W → x ∈ xs → E W [u0, u1, u2, u3] x → Calls Tryz.prog g (#[.agg #[u0, u1, u2, u3]] ++ lb) W fun e w' => (∃ y0 y1 y2 y3 : Value, e = .returned (.agg #[y0, y1, y2, y3]) ∧ Fresh W.heap.size E' w' [y0, y1, y2, y3] (f x) ∧ ∀ u ∈ [y0, y1, y2, y3], u.oneCell' = true) ∧ Below W.heap.size W w') :
    Calls Tryz.prog 105 #[v, .func (.func g) #[] lb] w (ChV 85 4 E' w (xs.map f)) := by
  obtain ⟨A, cap, rfl, hc⟩ := hv.form
  obtain ⟨n, hn⟩ : ∃ n, xs.length = n := ⟨_, rfl⟩
  have HV := Lib.hid (fun W (h : Below w.heap.size w W) => hv.below hE h)
  obtain ⟨i0, hi, hz0, hz1, hz2⟩ := info_parts' Tryz.infoE_nd
  rw [hn] at hc hl HV ⊢
  obtain ⟨cur0, hcur⟩ : ∃ cur0 : Array Value, madeCells (Value.cells ((.agg #[.string ⟨#[]⟩, .int .i64 0, .int .i64 0, .int .i64 0]))) (n * 4) = cur0 := ⟨_, rfl⟩
  have hcs : cur0.size = n * 4 := by rw [← hcur, size_madeCells]
  have hmk : ∀ W : World, (Instr.makeSlice 26 (.int .i64 0) (.int .i64 n)).run Tryz.prog W = .ok (.slice (some ⟨W.heap.size, 0, none⟩) 0 n) (W.alloc (.cells cur0 85)) := fun W => by
    have h := run_make (P := Tryz.prog) W 26 85 i0 _ Tryz.underlying26 hi hz0 .i64 .i64 0 (n : Int) (Int.le_refl _) (by omega) (by rw [hz2]; omega) (by omega)
    simp only [Int.toNat_zero, Int.toNat_natCast, hz1] at h
    rw [hcur] at h
    exact h
  obtain ⟨M, hM⟩ : ∃ M, w.heap.size = M := ⟨_, rfl⟩
  have hch : ∀ W : World, W.heap.size = M → ChgAt M 85 4 n E' (W.alloc (.cells cur0 85)) ([] : List β) := fun W h => by rw [← h]; exact chg_new W cur0 hcs
  have HN := Lib.hid hn
  have HP := Lib.hid hp
  have HM := Lib.hid hM
  have HCH := Lib.hid hch
  have HE := Lib.hid hE
  clear hn hv hp hE hi hz0 hz1 hz2 hcur hcs hM hch
  go_enter Tryz.func105, Tryz.ntmps105
  go_wp2_with fail
  rw [HM.out]
  go_loopw [5, 13] (fun v5 i wr => ∃ k : Nat, k ≤ n ∧ i = .int .i64 k ∧ v5 = .slice (some ⟨M, 0, none⟩) k n ∧ Hid (ChgAt M 85 4 n E' wr ((xs.take k).map f)) ∧ Hid (Below M w wr)) (fun _ i _ => n - (Go.RowKit.intOf i).toNat)
  case atStart => exact ⟨0, Nat.zero_le _, rfl, rfl, Lib.hid (HCH.out _ HM.out), Lib.hid (by rw [← HM.out]; exact below_box w _)⟩
  case round =>
    clear HCH hmk
    obtain ⟨k, hk, rfl, rfl, hs, hb⟩ := hrel
    by_cases hlt : k < n
    · have hb0 := hb.out
      rw [← HM.out] at hb0
      obtain ⟨x, hx⟩ : ∃ x, xs[k]? = some x := ⟨_, List.getElem?_eq_getElem (by rw [HN.out]; omega)⟩
      obtain ⟨bk, off, rfl, hbl, hj⟩ := (HV.out wr hb0).at' (by rw [HN.out]; omega)
      obtain ⟨cs, hcl, hec, hcell⟩ := hj k x hx
      obtain ⟨u0, u1, u2, u3, rfl⟩ : ∃ u0 u1 u2 u3, cs = [u0, u1, u2, u3] := by
        match cs, hcl with
        | [u0, u1, u2, u3], _ => exact ⟨u0, u1, u2, u3, rfl⟩
      have c0 := hcell 0 _ rfl
      have c1 := hcell 1 _ rfl
      have c2 := hcell 2 _ rfl
      have c3 := hcell 3 _ rfl
      rw [Nat.add_zero] at c0
      have hone := hE1 _ _ _ hec
      have hst0 : ∀ (a : Addr) (m : Mode) (W : World), Sem.run Tryz.prog (store a u0 m) W = stored Tryz.prog W a u0 m := fun a m W => run_store Tryz.prog W a _ m (hone _ (by simp))
      have hst1 : ∀ (a : Addr) (m : Mode) (W : World), Sem.run Tryz.prog (store a u1 m) W = stored Tryz.prog W a u1 m := fun a m W => run_store Tryz.prog W a _ m (hone _ (by simp))
      have hst2 : ∀ (a : Addr) (m : Mode) (W : World), Sem.run Tryz.prog (store a u2 m) W = stored Tryz.prog W a u2 m := fun a m W => run_store Tryz.prog W a _ m (hone _ (by simp))
      have hst3 : ∀ (a : Addr) (m : Mode) (W : World), Sem.run Tryz.prog (store a u3 m) W = stored Tryz.prog W a u3 m := fun a m W => run_store Tryz.prog W a _ m (hone _ (by simp))
      have hMs : M < wr.heap.size := by
        obtain ⟨_, _, _, hg, _⟩ := hs.out
        exact (Array.getElem?_eq_some_iff.1 hg).1
      have hbb : Below wr.heap.size wr (wr.alloc (.cells #[u0, u1, u2, u3] 85)) := below_box wr _
      have hcall := HP.out (wr.alloc (.cells #[u0, u1, u2, u3] 85)) x u0 u1 u2 u3 (hb0.trans (hbb.mono hb0.size)) (List.mem_of_getElem? hx) (HE.out _ _ _ _ hbb hec)
      have HBB := Lib.hid hbb
      have HC := Lib.hid hcall
      have HX := Lib.hid hx
      have HMS := Lib.hid hMs
      clear hcall hx hb0 hj hec hcell hbl hMs hone hbb
      have hlen : ((xs.take k).map f).length = k := by
        rw [List.length_map, List.length_take, HN.out]
        omega
      have HLEN := Lib.hid hlen
      clear hlen
      go_wp2_with (first
        | (go_at_fn g; refine HC.out.mono ?_; rintro e w' ⟨⟨y0, y1, y2, y3, rfl, hf, h1⟩, hb'⟩; have HB' := Lib.hid (Below.trans HBB.out (Below.mono hb' HBB.out.size)); have HF := Lib.hid hf; have H1 := Lib.hid h1; clear hb' hf h1)
        | (at_builtin; refine wpList_chg Tryz.underlying26 Tryz.infoE_nd (by rfl) _ _ (by rfl) M n k E' ((xs.take k).map f) (f x) [y0, y1, y2, y3] (by rfl) H1.out HLEN.out (by rfl) (by rfl) (hs.out.kept (kept_below _ HB'.out)) (HF.out.mono (by have := HMS.out; simp; omega)) hlt ?_; intro w2 HCH HBL)
        | fail)
      refine ⟨⟨k + 1, by omega, by go_num, rfl, Lib.hid ?_, Lib.hid (HBL.out _ _ (hb.out.trans (HB'.out.mono (by have := HMS.out; omega))) (Nat.le_refl _))⟩, by simp only [Go.RowKit.intOf]; omega⟩
      rw [List.take_add_one, HX.out, List.map_append]
      exact HCH.out
    · obtain rfl : k = n := by omega
      have hfin : (xs.take k).map f = xs.map f := by rw [List.take_of_length_le (by rw [HN.out]; exact Nat.le_refl _)]
      have hlm : (xs.map f).length = k := by rw [List.length_map, HN.out]
      have hown := hs.out.own (by rw [hfin, hlm]; exact Nat.le_refl _) (by unfold maxLen; omega)
      rw [hfin, hlm] at hown
      have HO := Lib.hid hown
      have HL := Lib.hid hlm
      clear hfin hlm hown hs
      go_wp2_with fail
      go_ret
      unfold ChV
      rw [HM.out, HL.out]
      exact ⟨_, rfl, HO.out, hb.out⟩

theorem Tryz.infoE_int : (Tryz.prog.info? 3).map (fun i => (i.zero, i.size, i.bytes)) = some (some (.int .i64 0), 1, 8) := by kernel_rfl
set_option maxRecDepth 100000 in
set_option maxHeartbeats 4000000 in
theorem changed_int {α β : Type} {E : World → List Value → α → Prop} (hE : Stays E) (hE1 : ∀ (W : World) (cs : List Value) (x : α), E W cs x → ∀ u ∈ cs, u.oneCell' = true) {E' : World → List Value → β → Prop} {w : World} {v : Value} {xs : List α} (hv : Rows 1 E w v xs) (hl : xs.length ≤ 100000) (g : FuncId) (lb : Array Value)
    (eg : ∀ args w, (callFunc g args).run Tryz.prog w = .ok (.enter g args) w) (f : α → β)
    (hp : ∀ (W : World) (x : α) (u0 : Value), Below w.heap.size w W → x ∈ xs → E W [u0] x → Calls Tryz.prog g (#[u0] ++ lb) W fun e w' => (∃ (yz : Int), e = .returned (.int .i64 yz) ∧ Fresh W.heap.size E' w' [Value.int .i64 yz] (f x) ∧ ∀ u ∈ [Value.int .i64 yz], u.oneCell' = true) ∧ Below W.heap.size W w') :
    Calls Tryz.prog 108 #[v, .func (.func g) #[] lb] w (ChV 3 1 E' w (xs.map f)) := by
  obtain ⟨A, cap, rfl, hc⟩ := hv.form
  obtain ⟨n, hn⟩ : ∃ n, xs.length = n := ⟨_, rfl⟩
  have HV := Lib.hid (fun W (h : Below w.heap.size w W) => hv.below hE h)
  obtain ⟨i0, hi, hz0, hz1, hz2⟩ := info_parts' Tryz.infoE_int
  rw [hn] at hc hl HV ⊢
  obtain ⟨cur0, hcur⟩ : ∃ cur0 : Array Value, madeCells (Value.cells ((.int .i64 0))) (n * 1) = cur0 := ⟨_, rfl⟩
  have hcs : cur0.size = n * 1 := by rw [← hcur, size_madeCells]
  have hmk : ∀ W : World, (Instr.makeSlice 27 (.int .i64 0) (.int .i64 n)).run Tryz.prog W = .ok (.slice (some ⟨W.heap.size, 0, none⟩) 0 n) (W.alloc (.cells cur0 3)) := fun W => by
    have h := run_make (P := Tryz.prog) W 27 3 i0 _ Tryz.underlying27 hi hz0 .i64 .i64 0 (n : Int) (Int.le_refl _) (by omega) (by rw [hz2]; omega) (by omega)
    simp only [Int.toNat_zero, Int.toNat_natCast, hz1] at h
    rw [hcur] at h
    exact h
  obtain ⟨M, hM⟩ : ∃ M, w.heap.size = M := ⟨_, rfl⟩
  have hch : ∀ W : World, W.heap.size = M → ChgAt M 3 1 n E' (W.alloc (.cells cur0 3)) ([] : List β) := fun W h => by rw [← h]; exact chg_new W cur0 hcs
  have HN := Lib.hid hn
  have HP := Lib.hid hp
  have HM := Lib.hid hM
  have HCH := Lib.hid hch
  have HE := Lib.hid hE
  clear hn hv hp hE hi hz0 hz1 hz2 hcur hcs hM hch
  go_enter Tryz.func108, Tryz.ntmps108
  go_wp2_with fail
  rw [HM.out]
  go_loopw [5, 13] (fun v5 i wr => ∃ k : Nat, k ≤ n ∧ i = .int .i64 k ∧ v5 = .slice (some ⟨M, 0, none⟩) k n ∧ Hid (ChgAt M 3 1 n E' wr ((xs.take k).map f)) ∧ Hid (Below M w wr)) (fun _ i _ => n - (Go.RowKit.intOf i).toNat)
  case atStart => exact ⟨0, Nat.zero_le _, rfl, rfl, Lib.hid (HCH.out _ HM.out), Lib.hid (by rw [← HM.out]; exact below_box w _)⟩
  case round =>
    clear HCH hmk
    obtain ⟨k, hk, rfl, rfl, hs, hb⟩ := hrel
    by_cases hlt : k < n
    · have hb0 := hb.out
      rw [← HM.out] at hb0
      obtain ⟨x, hx⟩ : ∃ x, xs[k]? = some x := ⟨_, List.getElem?_eq_getElem (by rw [HN.out]; omega)⟩
      obtain ⟨bk, off, rfl, hbl, hj⟩ := (HV.out wr hb0).at' (by rw [HN.out]; omega)
      obtain ⟨cs, hcl, hec, hcell⟩ := hj k x hx
      obtain ⟨u0, rfl⟩ : ∃ u0, cs = [u0] := by
        match cs, hcl with
        | [u0], _ => exact ⟨u0, rfl⟩
      have c0 := hcell 0 _ rfl
      rw [Nat.mul_one, Nat.add_zero] at c0
      have hone := hE1 _ _ _ hec
      have hMs : M < wr.heap.size := by
        obtain ⟨_, _, _, hg, _⟩ := hs.out
        exact (Array.getElem?_eq_some_iff.1 hg).1
      have hbb : Below wr.heap.size wr wr := Below.refl _ _
      have hcall := HP.out wr x u0 hb0 (List.mem_of_getElem? hx) hec
      have HBB := Lib.hid hbb
      have HC := Lib.hid hcall
      have HX := Lib.hid hx
      have HMS := Lib.hid hMs
      clear hcall hx hb0 hj hec hcell hbl hMs hone hbb
      have hlen : ((xs.take k).map f).length = k := by
        rw [List.length_map, List.length_take, HN.out]
        omega
      have HLEN := Lib.hid hlen
      clear hlen
      go_wp2_with (first
        | (go_at_fn g; refine HC.out.mono ?_; rintro e w' ⟨⟨yz, rfl, hf, h1⟩, hb'⟩; have HB' := Lib.hid (Below.trans HBB.out (Below.mono hb' HBB.out.size)); have HF := Lib.hid hf; have H1 := Lib.hid h1; clear hb' hf h1)
        | (at_builtin; refine wpList_chg Tryz.underlying27 Tryz.infoE_int (by rfl) _ _ (by rfl) M n k E' ((xs.take k).map f) (f x) [Value.int .i64 yz] (by rfl) H1.out HLEN.out (by rfl) (by rfl) (hs.out.kept (kept_below _ HB'.out)) (HF.out.mono (by have := HMS.out; omega)) hlt ?_; intro w2 HCH HBL)
        | fail)
      refine ⟨⟨k + 1, by omega, by go_num, rfl, Lib.hid ?_, Lib.hid (HBL.out _ _ (hb.out.trans (HB'.out.mono (by have := HMS.out; omega))) (Nat.le_refl _))⟩, by simp only [Go.RowKit.intOf]; omega⟩
      rw [List.take_add_one, HX.out, List.map_append]
      exact HCH.out
    · obtain rfl : k = n := by omega
      have hfin : (xs.take k).map f = xs.map f := by rw [List.take_of_length_le (by rw [HN.out]; exact Nat.le_refl _)]
      have hlm : (xs.map f).length = k := by rw [List.length_map, HN.out]
      have hown := hs.out.own (by rw [hfin, hlm]; exact Nat.le_refl _) (by unfold maxLen; omega)
      rw [hfin, hlm] at hown
      have HO := Lib.hid hown
      have HL := Lib.hid hlm
      clear hfin hlm hown hs
      go_wp2_with fail
      go_ret
      unfold ChV
      rw [HM.out, HL.out]
      exact ⟨_, rfl, HO.out, hb.out⟩
end Go.Proofs.YtglafkonpbcegaaGreat
