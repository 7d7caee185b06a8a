/-
 MEMORY: rows of the call's own whose elements read as a list; what depends on new blocks alone; append where there is room.
 WALKS over package corpus: changed, at its five element types.
 WALKS over the library: slices.Clone at pairs, attributes, strings.
 WALKS over package corpus: increased, the closures of moved.
-/
import Derived.Test.YtebmfkkkhmjkoaaGreatQdB
import Derived.Test.YtebmfkkkhmjkoaaGreatFaZ
import Derived.BigQuiet
import Derived.Test.YtebmfkkkhmjkoaaGreatShf
import Derived.Deep.RegionHeld3
import Derived.Deep.DrawnRows
namespace Go.Proofs.YtebmfkkkhmjkoaaGreat
open Go.RowKit Go.Shelf Go.Lib

abbrev Cs (sz : Nat) := {c : List Value // c.length = sz}
theorem cs_len {sz : Nat} (c : Cs sz) : c.1.length = sz := c.2
/-- The blocks from N on, as far as there are any, lie as they lay. -/
def Kept (N : Nat) (w w' : World) : Prop := w.heap.size ≤ w'.heap.size ∧ ∀ k, N ≤ k → k < w.heap.size → w'.heap[k]? = w.heap[k]?
theorem Kept.refl (N : Nat) (w : World) : Kept N w w := ⟨Nat.le_refl _, fun _ _ _ => rfl⟩
theorem Kept.trans {N : Nat} {w w1 w2 : World} (h : Kept N w w1) (k : Kept N w1 w2) : Kept N w w2 :=
 ⟨Nat.le_trans h.1 k.1, fun j h1 h2 => (k.2 j h1 (Nat.lt_of_lt_of_le h2 h.1)).trans (h.2 j h1 h2)⟩
theorem Kept.mono {N M : Nat} {w w' : World} (h : Kept N w w') (hm : N ≤ M) : Kept M w w' := ⟨h.1, fun k h1 h2 => h.2 k (Nat.le_trans hm h1) h2⟩
theorem kept_below {w w' : World} (N : Nat) (h : Below w.heap.size w w') : Kept N w w' := ⟨h.size, fun k _ h2 => h.block k h2⟩
/-- A reading that depends on blocks from N on alone. -/
def Fresh {β : Type} (N : Nat) (E : World → List Value → β → Prop) (w : World) (cs : List Value) (y : β) : Prop := ∀ w', Kept N w w' → E w' cs y
theorem Fresh.kept {β : Type} {N : Nat} {E : World → List Value → β → Prop} {w w' : World} {cs : List Value} {y : β} (h : Fresh N E w cs y) (k : Kept N w w') : Fresh N E w' cs y := fun w2 k2 => h w2 (k.trans k2)
theorem Fresh.here {β : Type} {N : Nat} {E : World → List Value → β → Prop} {w : World} {cs : List Value} {y : β} (h : Fresh N E w cs y) : E w cs y := h w (Kept.refl _ _)
theorem Fresh.mono {β : Type} {N M : Nat} {E : World → List Value → β → Prop} {w : World} {cs : List Value} {y : β} (h : Fresh M E w cs y) (hm : N ≤ M) : Fresh N E w cs y := fun w' k => h w' (k.mono hm)
theorem fresh_flat {β : Type} {E : World → List Value → β → Prop} {cs : List Value} {y : β} (N : Nat) (w : World) (h : ∀ w, E w cs y) : Fresh N E w cs y := fun w' _ => h w'
def RowsF {β : Type} (N : Nat) (sz : Nat) (E : World → List Value → β → Prop) (w : World) (v : Value) (ys : List β) : Prop := ∀ w', Kept N w w' → Rows sz E w' v ys
theorem RowsF.kept {β : Type} {N sz : Nat} {E : World → List Value → β → Prop} {w w' : World} {v : Value} {ys : List β} (h : RowsF N sz E w v ys) (k : Kept N w w') : RowsF N sz E w' v ys := fun w2 k2 => h w2 (k.trans k2)
theorem RowsF.mono {β : Type} {N M sz : Nat} {E : World → List Value → β → Prop} {w : World} {v : Value} {ys : List β} (h : RowsF M sz E w v ys) (hm : N ≤ M) : RowsF N sz E w v ys := fun w' k => h w' (k.mono hm)
/-- A row of the call's own whose elements read as ys; all lies in blocks from base on. -/
def OwnF {β : Type} (base : Nat) (T : TypeId) (sz : Nat) (E : World → List Value → β → Prop) (w : World) (v : Value) (ys : List β) : Prop :=
 ∃ css : List (Cs sz), css.length = ys.length ∧ w.ownsRow base T sz v ys.length (css.flatMap fun c => c.1) ∧ ∀ (j : Nat) (y : β) (c : Cs sz), ys[j]? = some y → css[j]? = some c → Fresh base E w c.1 y
theorem OwnF.kept {β : Type} {base : Nat} {T : TypeId} {sz : Nat} {E : World → List Value → β → Prop} {w w' : World} {v : Value} {ys : List β} (h : OwnF base T sz E w v ys) (k : Kept base w w') : OwnF base T sz E w' v ys := by
 obtain ⟨css, hl, ho, hE⟩ := h
 exact ⟨css, hl, own_below ho (fun j hj => k.2 j (own_low ho j hj).1 (own_low ho j hj).2), fun j y c h1 h2 => (hE j y c h1 h2).kept k⟩
theorem OwnF.rows {β : Type} {base : Nat} {T : TypeId} {sz : Nat} {E : World → List Value → β → Prop} {w : World} {v : Value} {ys : List β} (h : OwnF base T sz E w v ys) : Rows sz E w v ys := by
 obtain ⟨css, hl, ho, hE⟩ := h
 rw [← hl] at ho
 obtain ⟨A, cap, hv, hc, hr⟩ := rows_of_own (enc := fun c : Cs sz => c.1) cs_len ho
 rw [hl] at hv hc hr
 refine ⟨A, cap, hv, hc, fun h0 => ?_⟩
 obtain ⟨b, off, hA, hb, hj⟩ := hr h0
 refine ⟨b, off, hA, hb, fun j y hy => ?_⟩
 have hjl : j < css.length := by rw [hl]; exact (List.getElem?_eq_some_iff.1 hy).1
 obtain ⟨cs, h1, h2, h3⟩ := hj j css[j] (List.getElem?_eq_getElem hjl)
 exact ⟨cs, h1, by rw [h2]; exact (hE j y _ hy (List.getElem?_eq_getElem hjl)).here, h3⟩
theorem OwnF.rowsF {β : Type} {base : Nat} {T : TypeId} {sz : Nat} {E : World → List Value → β → Prop} {w : World} {v : Value} {ys : List β} (h : OwnF base T sz E w v ys) : RowsF base sz E w v ys := fun _ k => (h.kept k).rows
theorem own_enc {β : Type} {base : Nat} {T : TypeId} {sz : Nat} {E : World → List Value → β → Prop} {enc : β → List Value} (he : ∀ x, (enc x).length = sz) (hE : ∀ w x, E w (enc x) x) {w : World} {v : Value} {ys : List β} (h : w.ownsRow base T sz v ys.length (ys.flatMap enc)) : OwnF base T sz E w v ys := by
 refine ⟨ys.map fun x => ⟨enc x, he x⟩, by simp, ?_, fun j y c h1 h2 => ?_⟩
 · rw [List.flatMap_map]
   exact h
 rw [List.getElem?_map, h1] at h2
 cases h2
 exact fun w' _ => hE w' y
/-- A row in block g with room for n elements, of which those of ys are there. -/
def ChgAt {β : Type} (g : Nat) (T : TypeId) (sz n : Nat) (E : World → List Value → β → Prop) (w : World) (ys : List β) : Prop :=
 ∃ (css : List (Cs sz)) (cur : Array Value), css.length = ys.length ∧ w.heap[g]? = some (.cells cur T (0, 0)) ∧ cur.size = n * sz ∧ cur.toList.take (ys.length * sz) = (css.flatMap fun c => c.1) ∧ ∀ (j : Nat) (y : β) (c : Cs sz), ys[j]? = some y → css[j]? = some c → Fresh (g + 1) E w c.1 y
theorem ChgAt.kept {β : Type} {g : Nat} {T : TypeId} {sz n : Nat} {E : World → List Value → β → Prop} {w w' : World} {ys : List β} (h : ChgAt g T sz n E w ys) (k : Kept g w w') : ChgAt g T sz n E w' ys := by
 obtain ⟨css, cur, hl, hg, hs, ht, hE⟩ := h
 exact ⟨css, cur, hl, (k.2 g (Nat.le_refl _) (Array.getElem?_eq_some_iff.1 hg).1).trans hg, hs, ht, fun j y c h1 h2 => (hE j y c h1 h2).kept (k.mono (Nat.le_succ _))⟩
theorem ChgAt.own {β : Type} {g : Nat} {T : TypeId} {sz n : Nat} {E : World → List Value → β → Prop} {w : World} {ys : List β} (h : ChgAt g T sz n E w ys) (hn : ys.length ≤ n) (hm : n ≤ maxLen) : OwnF g T sz E w (.slice (some ⟨g, 0, none⟩) ys.length n) ys := by
 obtain ⟨css, cur, hl, hg, hs, ht, hE⟩ := h
 refine ⟨css, hl, ⟨?_, .inr ⟨g, n, cur, rfl, Nat.le_refl _, hg, hn, hm, hs, ht⟩⟩, fun j y c h1 h2 => (hE j y c h1 h2).mono (Nat.le_succ _)⟩
 rw [flatM_len (enc := fun c : Cs sz => c.1) cs_len, hl]
theorem chg_new {β : Type} {T : TypeId} {sz n : Nat} {E : World → List Value → β → Prop} (w : World) (cur : Array Value) (hs : cur.size = n * sz) : ChgAt w.heap.size T sz n E (w.alloc (.cells cur T)) ([] : List β) :=
 ⟨[], cur, rfl, block_new w _, hs, by simp, fun j y c h => by simp at h⟩
theorem wpList_chg {β : Type} {sl T : TypeId} {sz : Nat} {z : Value} {bytes : Nat} (hu : Tryz.prog.underlying sl = some (.slice T)) (hinfo : (Tryz.prog.info? T).map (fun i => (i.zero, i.size, i.bytes)) = some (some z, sz, bytes))
 {w : World} {ops : Array Oper} {rest : List Oper} {o : Oper} {a : Act} {Q : Exit → Act → World → Prop} (hgd : o.guard = none) (s x : Operand) (ho : o.op = .call { callee := .builtin .append, args := #[s, x], argTypes := #[sl, sl] })
 (g n k : Nat) (E : World → List Value → β → Prop) (ys : List β) (y : β) (c : List Value) (hc : c.length = sz) (h1 : ∀ u ∈ c, u.oneCell' = true) (hk : ys.length = k)
 (hs : a.eval s = .slice (some ⟨g, 0, none⟩) k n) (hx : a.eval x = .slice (some ⟨w.heap.size, 0, none⟩) 1 1)
 (hchg : ChgAt g T sz n E w ys) (hy : Fresh (g + 1) E w c y) (hn : k < n)
 (h : ∀ w', Hid (ChgAt g T sz n E w' (ys ++ [y])) → Hid (∀ B W, Below B W w → B ≤ g → Below B W w') → wpList Tryz.prog ops Q rest (a.put o.dst (.slice (some ⟨g, 0, none⟩) (k + 1) n)) w') :
 wpList Tryz.prog ops Q (o :: rest) a (w.alloc (.cells c.toArray T)) := by
 subst hk
 obtain ⟨i0, hi, hz0, hz1, hz2⟩ := info_parts' hinfo
 obtain ⟨css, cur, hl, hg, hsz, ht, hE⟩ := hchg
 have hg1 : (w.alloc (.cells c.toArray T)).heap[g]? = some (.cells cur T (0, 0)) := block_alloc _ hg
 have hgl : g < w.heap.size := (Array.getElem?_eq_some_iff.1 hg).1
 have hroom : (ys.length + 1) * sz ≤ n * sz := Nat.mul_le_mul_right _ hn
 rw [Nat.add_mul, Nat.one_mul] at hroom
 have hr := fun ty => run_append_room (P := Tryz.prog) (w.alloc (.cells c.toArray T)) sl ty T i0 hu hi g ys.length n cur hg1 ⟨w.heap.size, 0, none⟩ 1 1 c (by rw [hz1, hc, Nat.one_mul]) (news_at w c T) h1 hn (by rw [hz1, hc, hsz]; exact hroom)
 refine wpList_plain hgd fun K hK => ?_
 unfold Oper.wp execOp
 simp only [ho, resolve, invoke, builtin, Sem.run_bind, Sem.run_pure, Result.andThen_ok, List.map_toArray, List.map_cons, List.map_nil, hs, hx, hr]
 refine hK _ _ (h _ (Lib.hid ?_) (Lib.hid fun B W hb hB => ?_))
 ·
  have hk : Kept (g + 1) w ((w.alloc (.cells c.toArray T)).setRow g (cur.toList.take (ys.length * i0.size) ++ c ++ cur.toList.drop (ys.length * i0.size + c.length)).toArray) := by
   refine ⟨by rw [setRow_size]; simp, fun k h1 h2 => ?_⟩
   rw [setRow_other _ _ _ _ (by omega)]
   exact heap_alloc_old w _ h2
  refine ⟨css ++ [⟨c, hc⟩], _, by simp [hl], setRow_heap _ g cur _ T _ hg1, ?_, ?_, fun j y' c' h2 h3 => ?_⟩
  · simp only [List.size_toArray, List.length_append, List.length_take, List.length_drop, Array.length_toList, hz1, hc, hsz]
    omega
  ·
   rw [hz1, ht, List.length_append, List.length_singleton, Nat.add_mul, Nat.one_mul, List.flatMap_append]
   have hlen : (css.flatMap fun c => c.1).length = ys.length * sz := by rw [flatM_len (enc := fun c : Cs sz => c.1) cs_len, hl]
   simp only [List.flatMap_cons, List.flatMap_nil, List.append_nil]
   rw [show ys.length * sz + sz = ((css.flatMap fun c => c.1) ++ c).length by rw [List.length_append, hlen, hc]]
   exact List.take_left
  by_cases hj : j < ys.length
  · rw [List.getElem?_append_left hj] at h2
    rw [List.getElem?_append_left (by omega)] at h3
    exact (hE j y' c' h2 h3).kept hk
  have hjl : j < (ys ++ [y]).length := (List.getElem?_eq_some_iff.1 h2).1
  have hje : j = ys.length := by simp at hjl; omega
  subst hje
  rw [List.getElem?_append_right (Nat.le_refl _)] at h2
  rw [← hl, List.getElem?_append_right (Nat.le_refl _)] at h3
  simp at h2 h3
  subst h2 h3
  exact hy.kept hk
 refine ⟨hb.os, hb.tape, hb.output, ?_, fun k hk => ?_⟩
 ·
  rw [setRow_size]
  have := hb.size
  simp
  omega
 rw [setRow_other _ _ _ _ (by omega), heap_alloc_old w _ (by omega)]
 exact hb.block k hk
end Go.Proofs.YtebmfkkkhmjkoaaGreat
namespace Go.Proofs.YtebmfkkkhmjkoaaGreat
open Go.RowKit Go.Shelf Go.Lib

/-- What changed answers. -/
def ChV {β : Type} (T : TypeId) (sz : Nat) (E : World → List Value → β → Prop) (w : World) (ys : List β) (e : Ending) (w' : World) : Prop :=
 ∃ A : Option Addr, e = .returned (.slice A ys.length ys.length) ∧ OwnF w.heap.size T sz E w' (.slice A ys.length ys.length) ys ∧ Below w.heap.size w w'

theorem Tryz.infoE_tok : (Tryz.prog.info? 28).map (fun i => (i.zero, i.size, i.bytes)) = some (some (.slice none 0 0), 1, 24) := by kernel_rfl
set_option maxRecDepth 100000 in
set_option maxHeartbeats 4000000 in
theorem changed_tok {α β : Type} {E : World → List Value → α → Prop} (hE : Stays E) (hE1 : ∀ (W : World) (cs : List Value) (x : α), E W cs x → ∀ u ∈ cs, u.oneCell' = true) {E' : World → List Value → β → Prop} {w : World} {v : Value} {xs : List α} (hv : Rows 1 E w v xs) (hl : xs.length ≤ 100000) (g : FuncId) (lb : Array Value)
 (eg : ∀ args w, (callFunc g args).run Tryz.prog w = .ok (.enter g args) w) (f : α → β)
 (hp : ∀ (W : World) (x : α) (u0 : Value), Below w.heap.size w W → x ∈ xs → E W [u0] x → Calls Tryz.prog g (#[u0] ++ lb) W fun e w' => (∃ (yA : Option Addr) (yn yc : Nat), e = .returned (.slice yA yn yc) ∧ Fresh W.heap.size E' w' [Value.slice yA yn yc] (f x) ∧ ∀ u ∈ [Value.slice yA yn yc], u.oneCell' = true) ∧ Below W.heap.size W w') :
 Calls Tryz.prog 46 #[v, .func (.func g) #[] lb] w (ChV 28 1 E' w (xs.map f)) := by
 obtain ⟨A, cap, rfl, hc⟩ := hv.form
 obtain ⟨n, hn⟩ : ∃ n, xs.length = n := ⟨_, rfl⟩
 have HV := Lib.hid (fun W (h : Below w.heap.size w W) => hv.below hE h)
 obtain ⟨i0, hi, hz0, hz1, hz2⟩ := info_parts' Tryz.infoE_tok
 rw [hn] at hc hl HV ⊢
 obtain ⟨cur0, hcur⟩ : ∃ cur0 : Array Value, madeCells (Value.cells ((.slice none 0 0))) (n * 1) = cur0 := ⟨_, rfl⟩
 have hcs : cur0.size = n * 1 := by rw [← hcur, size_madeCells]
 have hmk : ∀ W : World, (Instr.makeSlice 23 (.int .i64 0) (.int .i64 n)).run Tryz.prog W = .ok (.slice (some ⟨W.heap.size, 0, none⟩) 0 n) (W.alloc (.cells cur0 28)) := fun W => by
  have h := run_make (P := Tryz.prog) W 23 28 i0 _ Tryz.underlying23 hi hz0 .i64 .i64 0 (n : Int) (Int.le_refl _) (by omega) (by rw [hz2]; omega) (by omega)
  simp only [Int.toNat_zero, Int.toNat_natCast, hz1] at h
  rw [hcur] at h
  exact h
 obtain ⟨M, hM⟩ : ∃ M, w.heap.size = M := ⟨_, rfl⟩
 have hch : ∀ W : World, W.heap.size = M → ChgAt M 28 1 n E' (W.alloc (.cells cur0 28)) ([] : List β) := fun W h => by rw [← h]; exact chg_new W cur0 hcs
 have HN := Lib.hid hn
 have HP := Lib.hid hp
 have HM := Lib.hid hM
 have HCH := Lib.hid hch
 have HE := Lib.hid hE
 clear hn hv hp hE hi hz0 hz1 hz2 hcur hcs hM hch
 go_enter Tryz.func46, Tryz.ntmps46
 go_wp2_with fail
 rw [HM.out]
 go_loopw [5, 13] (fun v5 i wr => ∃ k : Nat, k ≤ n ∧ i = .int .i64 k ∧ v5 = .slice (some ⟨M, 0, none⟩) k n ∧ Hid (ChgAt M 28 1 n E' wr ((xs.take k).map f)) ∧ Hid (Below M w wr)) (fun _ i _ => n - (Go.RowKit.intOf i).toNat)
 case atStart => exact ⟨0, Nat.zero_le _, rfl, rfl, Lib.hid (HCH.out _ HM.out), Lib.hid (by rw [← HM.out]; exact below_box w _)⟩
 clear HCH hmk
 obtain ⟨k, hk, rfl, rfl, hs, hb⟩ := hrel
 by_cases hlt : k < n
 ·
  have hb0 := hb.out
  rw [← HM.out] at hb0
  obtain ⟨x, hx⟩ : ∃ x, xs[k]? = some x := ⟨_, List.getElem?_eq_getElem (by rw [HN.out]; omega)⟩
  obtain ⟨bk, off, rfl, hbl, hj⟩ := (HV.out wr hb0).at' (by rw [HN.out]; omega)
  obtain ⟨cs, hcl, hec, hcell⟩ := hj k x hx
  obtain ⟨u0, rfl⟩ : ∃ u0, cs = [u0] := by
   match cs, hcl with
   | [u0], _ => exact ⟨u0, rfl⟩
  have c0 := hcell 0 _ rfl
  rw [Nat.mul_one, Nat.add_zero] at c0
  have hone := hE1 _ _ _ hec
  have hMs : M < wr.heap.size := by
   obtain ⟨_, _, _, hg, _⟩ := hs.out
   exact (Array.getElem?_eq_some_iff.1 hg).1
  have hbb : Below wr.heap.size wr wr := Below.refl _ _
  have hcall := HP.out wr x u0 hb0 (List.mem_of_getElem? hx) hec
  have HBB := Lib.hid hbb
  have HC := Lib.hid hcall
  have HX := Lib.hid hx
  have HMS := Lib.hid hMs
  clear hcall hx hb0 hj hec hcell hbl hMs hone hbb
  have hlen : ((xs.take k).map f).length = k := by
   rw [List.length_map, List.length_take, HN.out]
   omega
  have HLEN := Lib.hid hlen
  clear hlen
  go_wp2_with (first
   | (go_at_fn g; refine HC.out.mono ?_; rintro e w' ⟨⟨yA, yn, yc, rfl, hf, h1⟩, hb'⟩; have HB' := Lib.hid (Below.trans HBB.out (Below.mono hb' HBB.out.size)); have HF := Lib.hid hf; have H1 := Lib.hid h1; clear hb' hf h1)
   | (at_builtin; refine wpList_chg Tryz.underlying23 Tryz.infoE_tok (by rfl) _ _ (by rfl) M n k E' ((xs.take k).map f) (f x) [Value.slice yA yn yc] (by rfl) H1.out HLEN.out (by rfl) (by rfl) (hs.out.kept (kept_below _ HB'.out)) (HF.out.mono (by have := HMS.out; omega)) hlt ?_; intro w2 HCH HBL)
   | fail)
  refine ⟨⟨k + 1, by omega, by go_num, rfl, Lib.hid ?_, Lib.hid (HBL.out _ _ (hb.out.trans (HB'.out.mono (by have := HMS.out; omega))) (Nat.le_refl _))⟩, by simp only [Go.RowKit.intOf]; omega⟩
  rw [List.take_add_one, HX.out, List.map_append]
  exact HCH.out
 obtain rfl : k = n := by omega
 have hfin : (xs.take k).map f = xs.map f := by rw [List.take_of_length_le (by rw [HN.out]; exact Nat.le_refl _)]
 have hlm : (xs.map f).length = k := by rw [List.length_map, HN.out]
 have hown := hs.out.own (by rw [hfin, hlm]; exact Nat.le_refl _) (by unfold maxLen; omega)
 rw [hfin, hlm] at hown
 have HO := Lib.hid hown
 have HL := Lib.hid hlm
 clear hfin hlm hown hs
 go_wp2_with fail
 go_ret
 unfold ChV
 rw [HM.out, HL.out]
 exact ⟨_, rfl, HO.out, hb.out⟩

theorem Tryz.infoE_text : (Tryz.prog.info? 51).map (fun i => (i.zero, i.size, i.bytes)) = some (some (.agg #[.string ⟨#[]⟩, .int .i64 0, .int .i64 0, .slice none 0 0]), 4, 56) := by kernel_rfl
set_option maxRecDepth 100000 in
set_option maxHeartbeats 4000000 in
theorem changed_text {α β : Type} {E : World → List Value → α → Prop} (hE : Stays E) (hE1 : ∀ (W : World) (cs : List Value) (x : α), E W cs x → ∀ u ∈ cs, u.oneCell' = true) {E' : World → List Value → β → Prop} {w : World} {v : Value} {xs : List α} (hv : Rows 4 E w v xs) (hl : xs.length ≤ 100000) (g : FuncId) (lb : Array Value)
 (eg : ∀ args w, (callFunc g args).run Tryz.prog w = .ok (.enter g args) w) (f : α → β)
 (hp : ∀ (W : World) (x : α) (u0 u1 u2 u3 : Value), Below w.heap.size w W → x ∈ xs → E W [u0, u1, u2, u3] x → Calls Tryz.prog g (#[.agg #[u0, u1, u2, u3]] ++ lb) W fun e w' => (∃ y0 y1 y2 y3 : Value, e = .returned (.agg #[y0, y1, y2, y3]) ∧ Fresh W.heap.size E' w' [y0, y1, y2, y3] (f x) ∧ ∀ u ∈ [y0, y1, y2, y3], u.oneCell' = true) ∧ Below W.heap.size W w') :
 Calls Tryz.prog 48 #[v, .func (.func g) #[] lb] w (ChV 51 4 E' w (xs.map f)) := by
 obtain ⟨A, cap, rfl, hc⟩ := hv.form
 obtain ⟨n, hn⟩ : ∃ n, xs.length = n := ⟨_, rfl⟩
 have HV := Lib.hid (fun W (h : Below w.heap.size w W) => hv.below hE h)
 obtain ⟨i0, hi, hz0, hz1, hz2⟩ := info_parts' Tryz.infoE_text
 rw [hn] at hc hl HV ⊢
 obtain ⟨cur0, hcur⟩ : ∃ cur0 : Array Value, madeCells (Value.cells ((.agg #[.string ⟨#[]⟩, .int .i64 0, .int .i64 0, .slice none 0 0]))) (n * 4) = cur0 := ⟨_, rfl⟩
 have hcs : cur0.size = n * 4 := by rw [← hcur, size_madeCells]
 have hmk : ∀ W : World, (Instr.makeSlice 24 (.int .i64 0) (.int .i64 n)).run Tryz.prog W = .ok (.slice (some ⟨W.heap.size, 0, none⟩) 0 n) (W.alloc (.cells cur0 51)) := fun W => by
  have h := run_make (P := Tryz.prog) W 24 51 i0 _ Tryz.underlying24 hi hz0 .i64 .i64 0 (n : Int) (Int.le_refl _) (by omega) (by rw [hz2]; omega) (by omega)
  simp only [Int.toNat_zero, Int.toNat_natCast, hz1] at h
  rw [hcur] at h
  exact h
 obtain ⟨M, hM⟩ : ∃ M, w.heap.size = M := ⟨_, rfl⟩
 have hch : ∀ W : World, W.heap.size = M → ChgAt M 51 4 n E' (W.alloc (.cells cur0 51)) ([] : List β) := fun W h => by rw [← h]; exact chg_new W cur0 hcs
 have HN := Lib.hid hn
 have HP := Lib.hid hp
 have HM := Lib.hid hM
 have HCH := Lib.hid hch
 have HE := Lib.hid hE
 clear hn hv hp hE hi hz0 hz1 hz2 hcur hcs hM hch
 go_enter Tryz.func48, Tryz.ntmps48
 go_wp2_with fail
 rw [HM.out]
 go_loopw [5, 13] (fun v5 i wr => ∃ k : Nat, k ≤ n ∧ i = .int .i64 k ∧ v5 = .slice (some ⟨M, 0, none⟩) k n ∧ Hid (ChgAt M 51 4 n E' wr ((xs.take k).map f)) ∧ Hid (Below M w wr)) (fun _ i _ => n - (Go.RowKit.intOf i).toNat)
 case atStart => exact ⟨0, Nat.zero_le _, rfl, rfl, Lib.hid (HCH.out _ HM.out), Lib.hid (by rw [← HM.out]; exact below_box w _)⟩
 clear HCH hmk
 obtain ⟨k, hk, rfl, rfl, hs, hb⟩ := hrel
 by_cases hlt : k < n
 ·
  have hb0 := hb.out
  rw [← HM.out] at hb0
  obtain ⟨x, hx⟩ : ∃ x, xs[k]? = some x := ⟨_, List.getElem?_eq_getElem (by rw [HN.out]; omega)⟩
  obtain ⟨bk, off, rfl, hbl, hj⟩ := (HV.out wr hb0).at' (by rw [HN.out]; omega)
  obtain ⟨cs, hcl, hec, hcell⟩ := hj k x hx
  obtain ⟨u0, u1, u2, u3, rfl⟩ : ∃ u0 u1 u2 u3, cs = [u0, u1, u2, u3] := by
   match cs, hcl with
   | [u0, u1, u2, u3], _ => exact ⟨u0, u1, u2, u3, rfl⟩
  have c0 := hcell 0 _ rfl
  have c1 := hcell 1 _ rfl
  have c2 := hcell 2 _ rfl
  have c3 := hcell 3 _ rfl
  rw [Nat.add_zero] at c0
  have hone := hE1 _ _ _ hec
  have hst0 : ∀ (a : Addr) (m : Mode) (W : World), Sem.run Tryz.prog (store a u0 m) W = stored Tryz.prog W a u0 m := fun a m W => run_store Tryz.prog W a _ m (hone _ (by simp))
  have hst1 : ∀ (a : Addr) (m : Mode) (W : World), Sem.run Tryz.prog (store a u1 m) W = stored Tryz.prog W a u1 m := fun a m W => run_store Tryz.prog W a _ m (hone _ (by simp))
  have hst2 : ∀ (a : Addr) (m : Mode) (W : World), Sem.run Tryz.prog (store a u2 m) W = stored Tryz.prog W a u2 m := fun a m W => run_store Tryz.prog W a _ m (hone _ (by simp))
  have hst3 : ∀ (a : Addr) (m : Mode) (W : World), Sem.run Tryz.prog (store a u3 m) W = stored Tryz.prog W a u3 m := fun a m W => run_store Tryz.prog W a _ m (hone _ (by simp))
  have hMs : M < wr.heap.size := by
   obtain ⟨_, _, _, hg, _⟩ := hs.out
   exact (Array.getElem?_eq_some_iff.1 hg).1
  have hbb : Below wr.heap.size wr (wr.alloc (.cells #[u0, u1, u2, u3] 51)) := below_box wr _
  have hcall := HP.out (wr.alloc (.cells #[u0, u1, u2, u3] 51)) x u0 u1 u2 u3 (hb0.trans (hbb.mono hb0.size)) (List.mem_of_getElem? hx) (HE.out _ _ _ _ hbb hec)
  have HBB := Lib.hid hbb
  have HC := Lib.hid hcall
  have HX := Lib.hid hx
  have HMS := Lib.hid hMs
  clear hcall hx hb0 hj hec hcell hbl hMs hone hbb
  have hlen : ((xs.take k).map f).length = k := by
   rw [List.length_map, List.length_take, HN.out]
   omega
  have HLEN := Lib.hid hlen
  clear hlen
  go_wp2_with (first
   | (go_at_fn g; refine HC.out.mono ?_; rintro e w' ⟨⟨y0, y1, y2, y3, rfl, hf, h1⟩, hb'⟩; have HB' := Lib.hid (Below.trans HBB.out (Below.mono hb' HBB.out.size)); have HF := Lib.hid hf; have H1 := Lib.hid h1; clear hb' hf h1)
   | (at_builtin; refine wpList_chg Tryz.underlying24 Tryz.infoE_text (by rfl) _ _ (by rfl) M n k E' ((xs.take k).map f) (f x) [y0, y1, y2, y3] (by rfl) H1.out HLEN.out (by rfl) (by rfl) (hs.out.kept (kept_below _ HB'.out)) (HF.out.mono (by have := HMS.out; simp; omega)) hlt ?_; intro w2 HCH HBL)
   | fail)
  refine ⟨⟨k + 1, by omega, by go_num, rfl, Lib.hid ?_, Lib.hid (HBL.out _ _ (hb.out.trans (HB'.out.mono (by have := HMS.out; omega))) (Nat.le_refl _))⟩, by simp only [Go.RowKit.intOf]; omega⟩
  rw [List.take_add_one, HX.out, List.map_append]
  exact HCH.out
 obtain rfl : k = n := by omega
 have hfin : (xs.take k).map f = xs.map f := by rw [List.take_of_length_le (by rw [HN.out]; exact Nat.le_refl _)]
 have hlm : (xs.map f).length = k := by rw [List.length_map, HN.out]
 have hown := hs.out.own (by rw [hfin, hlm]; exact Nat.le_refl _) (by unfold maxLen; omega)
 rw [hfin, hlm] at hown
 have HO := Lib.hid hown
 have HL := Lib.hid hlm
 clear hfin hlm hown hs
 go_wp2_with fail
 go_ret
 unfold ChV
 rw [HM.out, HL.out]
 exact ⟨_, rfl, HO.out, hb.out⟩

theorem Tryz.infoE_reg : (Tryz.prog.info? 54).map (fun i => (i.zero, i.size, i.bytes)) = some (some (.agg #[.string ⟨#[]⟩, .int .i64 0, .int .i64 0, .slice none 0 0]), 4, 56) := by kernel_rfl
set_option maxRecDepth 100000 in
set_option maxHeartbeats 4000000 in
theorem changed_reg {α β : Type} {E : World → List Value → α → Prop} (hE : Stays E) (hE1 : ∀ (W : World) (cs : List Value) (x : α), E W cs x → ∀ u ∈ cs, u.oneCell' = true) {E' : World → List Value → β → Prop} {w : World} {v : Value} {xs : List α} (hv : Rows 4 E w v xs) (hl : xs.length ≤ 100000) (g : FuncId) (lb : Array Value)
 (eg : ∀ args w, (callFunc g args).run Tryz.prog w = .ok (.enter g args) w) (f : α → β)
 (hp : ∀ (W : World) (x : α) (u0 u1 u2 u3 : Value), Below w.heap.size w W → x ∈ xs → E W [u0, u1, u2, u3] x → Calls Tryz.prog g (#[.agg #[u0, u1, u2, u3]] ++ lb) W fun e w' => (∃ y0 y1 y2 y3 : Value, e = .returned (.agg #[y0, y1, y2, y3]) ∧ Fresh W.heap.size E' w' [y0, y1, y2, y3] (f x) ∧ ∀ u ∈ [y0, y1, y2, y3], u.oneCell' = true) ∧ Below W.heap.size W w') :
 Calls Tryz.prog 51 #[v, .func (.func g) #[] lb] w (ChV 54 4 E' w (xs.map f)) := by
 obtain ⟨A, cap, rfl, hc⟩ := hv.form
 obtain ⟨n, hn⟩ : ∃ n, xs.length = n := ⟨_, rfl⟩
 have HV := Lib.hid (fun W (h : Below w.heap.size w W) => hv.below hE h)
 obtain ⟨i0, hi, hz0, hz1, hz2⟩ := info_parts' Tryz.infoE_reg
 rw [hn] at hc hl HV ⊢
 obtain ⟨cur0, hcur⟩ : ∃ cur0 : Array Value, madeCells (Value.cells ((.agg #[.string ⟨#[]⟩, .int .i64 0, .int .i64 0, .slice none 0 0]))) (n * 4) = cur0 := ⟨_, rfl⟩
 have hcs : cur0.size = n * 4 := by rw [← hcur, size_madeCells]
 have hmk : ∀ W : World, (Instr.makeSlice 25 (.int .i64 0) (.int .i64 n)).run Tryz.prog W = .ok (.slice (some ⟨W.heap.size, 0, none⟩) 0 n) (W.alloc (.cells cur0 54)) := fun W => by
  have h := run_make (P := Tryz.prog) W 25 54 i0 _ Tryz.underlying25 hi hz0 .i64 .i64 0 (n : Int) (Int.le_refl _) (by omega) (by rw [hz2]; omega) (by omega)
  simp only [Int.toNat_zero, Int.toNat_natCast, hz1] at h
  rw [hcur] at h
  exact h
 obtain ⟨M, hM⟩ : ∃ M, w.heap.size = M := ⟨_, rfl⟩
 have hch : ∀ W : World, W.heap.size = M → ChgAt M 54 4 n E' (W.alloc (.cells cur0 54)) ([] : List β) := fun W h => by rw [← h]; exact chg_new W cur0 hcs
 have HN := Lib.hid hn
 have HP := Lib.hid hp
 have HM := Lib.hid hM
 have HCH := Lib.hid hch
 have HE := Lib.hid hE
 clear hn hv hp hE hi hz0 hz1 hz2 hcur hcs hM hch
 go_enter Tryz.func51, Tryz.ntmps51
 go_wp2_with fail
 rw [HM.out]
 go_loopw [5, 13] (fun v5 i wr => ∃ k : Nat, k ≤ n ∧ i = .int .i64 k ∧ v5 = .slice (some ⟨M, 0, none⟩) k n ∧ Hid (ChgAt M 54 4 n E' wr ((xs.take k).map f)) ∧ Hid (Below M w wr)) (fun _ i _ => n - (Go.RowKit.intOf i).toNat)
 case atStart => exact ⟨0, Nat.zero_le _, rfl, rfl, Lib.hid (HCH.out _ HM.out), Lib.hid (by rw [← HM.out]; exact below_box w _)⟩
 clear HCH hmk
 obtain ⟨k, hk, rfl, rfl, hs, hb⟩ := hrel
 by_cases hlt : k < n
 ·
  have hb0 := hb.out
  rw [← HM.out] at hb0
  obtain ⟨x, hx⟩ : ∃ x, xs[k]? = some x := ⟨_, List.getElem?_eq_getElem (by rw [HN.out]; omega)⟩
  obtain ⟨bk, off, rfl, hbl, hj⟩ := (HV.out wr hb0).at' (by rw [HN.out]; omega)
  obtain ⟨cs, hcl, hec, hcell⟩ := hj k x hx
  obtain ⟨u0, u1, u2, u3, rfl⟩ : ∃ u0 u1 u2 u3, cs = [u0, u1, u2, u3] := by
   match cs, hcl with
   | [u0, u1, u2, u3], _ => exact ⟨u0, u1, u2, u3, rfl⟩
  have c0 := hcell 0 _ rfl
  have c1 := hcell 1 _ rfl
  have c2 := hcell 2 _ rfl
  have c3 := hcell 3 _ rfl
  rw [Nat.add_zero] at c0
  have hone := hE1 _ _ _ hec
  have hst0 : ∀ (a : Addr) (m : Mode) (W : World), Sem.run Tryz.prog (store a u0 m) W = stored Tryz.prog W a u0 m := fun a m W => run_store Tryz.prog W a _ m (hone _ (by simp))
  have hst1 : ∀ (a : Addr) (m : Mode) (W : World), Sem.run Tryz.prog (store a u1 m) W = stored Tryz.prog W a u1 m := fun a m W => run_store Tryz.prog W a _ m (hone _ (by simp))
  have hst2 : ∀ (a : Addr) (m : Mode) (W : World), Sem.run Tryz.prog (store a u2 m) W = stored Tryz.prog W a u2 m := fun a m W => run_store Tryz.prog W a _ m (hone _ (by simp))
  have hst3 : ∀ (a : Addr) (m : Mode) (W : World), Sem.run Tryz.prog (store a u3 m) W = stored Tryz.prog W a u3 m := fun a m W => run_store Tryz.prog W a _ m (hone _ (by simp))
  have hMs : M < wr.heap.size := by
   obtain ⟨_, _, _, hg, _⟩ := hs.out
   exact (Array.getElem?_eq_some_iff.1 hg).1
  have hbb : Below wr.heap.size wr (wr.alloc (.cells #[u0, u1, u2, u3] 54)) := below_box wr _
  have hcall := HP.out (wr.alloc (.cells #[u0, u1, u2, u3] 54)) x u0 u1 u2 u3 (hb0.trans (hbb.mono hb0.size)) (List.mem_of_getElem? hx) (HE.out _ _ _ _ hbb hec)
  have HBB := Lib.hid hbb
  have HC := Lib.hid hcall
  have HX := Lib.hid hx
  have HMS := Lib.hid hMs
  clear hcall hx hb0 hj hec hcell hbl hMs hone hbb
  have hlen : ((xs.take k).map f).length = k := by
   rw [List.length_map, List.length_take, HN.out]
   omega
  have HLEN := Lib.hid hlen
  clear hlen
  go_wp2_with (first
   | (go_at_fn g; refine HC.out.mono ?_; rintro e w' ⟨⟨y0, y1, y2, y3, rfl, hf, h1⟩, hb'⟩; have HB' := Lib.hid (Below.trans HBB.out (Below.mono hb' HBB.out.size)); have HF := Lib.hid hf; have H1 := Lib.hid h1; clear hb' hf h1)
   | (at_builtin; refine wpList_chg Tryz.underlying25 Tryz.infoE_reg (by rfl) _ _ (by rfl) M n k E' ((xs.take k).map f) (f x) [y0, y1, y2, y3] (by rfl) H1.out HLEN.out (by rfl) (by rfl) (hs.out.kept (kept_below _ HB'.out)) (HF.out.mono (by have := HMS.out; simp; omega)) hlt ?_; intro w2 HCH HBL)
   | fail)
  refine ⟨⟨k + 1, by omega, by go_num, rfl, Lib.hid ?_, Lib.hid (HBL.out _ _ (hb.out.trans (HB'.out.mono (by have := HMS.out; omega))) (Nat.le_refl _))⟩, by simp only [Go.RowKit.intOf]; omega⟩
  rw [List.take_add_one, HX.out, List.map_append]
  exact HCH.out
 obtain rfl : k = n := by omega
 have hfin : (xs.take k).map f = xs.map f := by rw [List.take_of_length_le (by rw [HN.out]; exact Nat.le_refl _)]
 have hlm : (xs.map f).length = k := by rw [List.length_map, HN.out]
 have hown := hs.out.own (by rw [hfin, hlm]; exact Nat.le_refl _) (by unfold maxLen; omega)
 rw [hfin, hlm] at hown
 have HO := Lib.hid hown
 have HL := Lib.hid hlm
 clear hfin hlm hown hs
 go_wp2_with fail
 go_ret
 unfold ChV
 rw [HM.out, HL.out]
 exact ⟨_, rfl, HO.out, hb.out⟩

theorem Tryz.infoE_nd : (Tryz.prog.info? 56).map (fun i => (i.zero, i.size, i.bytes)) = some (some (.agg #[.string ⟨#[]⟩, .int .i64 0, .int .i64 0, .int .i64 0]), 4, 40) := by kernel_rfl
set_option maxRecDepth 100000 in
set_option maxHeartbeats 4000000 in
theorem changed_nd {α β : Type} {E : World → List Value → α → Prop} (hE : Stays E) (hE1 : ∀ (W : World) (cs : List Value) (x : α), E W cs x → ∀ u ∈ cs, u.oneCell' = true) {E' : World → List Value → β → Prop} {w : World} {v : Value} {xs : List α} (hv : Rows 4 E w v xs) (hl : xs.length ≤ 100000) (g : FuncId) (lb : Array Value)
 (eg : ∀ args w, (callFunc g args).run Tryz.prog w = .ok (.enter g args) w) (f : α → β)
 (hp : ∀ (W : World) (x : α) (u0 u1 u2 u3 : Value), Below w.heap.size w W → x ∈ xs → E W [u0, u1, u2, u3] x → Calls Tryz.prog g (#[.agg #[u0, u1, u2, u3]] ++ lb) W fun e w' => (∃ y0 y1 y2 y3 : Value, e = .returned (.agg #[y0, y1, y2, y3]) ∧ Fresh W.heap.size E' w' [y0, y1, y2, y3] (f x) ∧ ∀ u ∈ [y0, y1, y2, y3], u.oneCell' = true) ∧ Below W.heap.size W w') :
 Calls Tryz.prog 53 #[v, .func (.func g) #[] lb] w (ChV 56 4 E' w (xs.map f)) := by
 obtain ⟨A, cap, rfl, hc⟩ := hv.form
 obtain ⟨n, hn⟩ : ∃ n, xs.length = n := ⟨_, rfl⟩
 have HV := Lib.hid (fun W (h : Below w.heap.size w W) => hv.below hE h)
 obtain ⟨i0, hi, hz0, hz1, hz2⟩ := info_parts' Tryz.infoE_nd
 rw [hn] at hc hl HV ⊢
 obtain ⟨cur0, hcur⟩ : ∃ cur0 : Array Value, madeCells (Value.cells ((.agg #[.string ⟨#[]⟩, .int .i64 0, .int .i64 0, .int .i64 0]))) (n * 4) = cur0 := ⟨_, rfl⟩
 have hcs : cur0.size = n * 4 := by rw [← hcur, size_madeCells]
 have hmk : ∀ W : World, (Instr.makeSlice 26 (.int .i64 0) (.int .i64 n)).run Tryz.prog W = .ok (.slice (some ⟨W.heap.size, 0, none⟩) 0 n) (W.alloc (.cells cur0 56)) := fun W => by
  have h := run_make (P := Tryz.prog) W 26 56 i0 _ Tryz.underlying26 hi hz0 .i64 .i64 0 (n : Int) (Int.le_refl _) (by omega) (by rw [hz2]; omega) (by omega)
  simp only [Int.toNat_zero, Int.toNat_natCast, hz1] at h
  rw [hcur] at h
  exact h
 obtain ⟨M, hM⟩ : ∃ M, w.heap.size = M := ⟨_, rfl⟩
 have hch : ∀ W : World, W.heap.size = M → ChgAt M 56 4 n E' (W.alloc (.cells cur0 56)) ([] : List β) := fun W h => by rw [← h]; exact chg_new W cur0 hcs
 have HN := Lib.hid hn
 have HP := Lib.hid hp
 have HM := Lib.hid hM
 have HCH := Lib.hid hch
 have HE := Lib.hid hE
 clear hn hv hp hE hi hz0 hz1 hz2 hcur hcs hM hch
 go_enter Tryz.func53, Tryz.ntmps53
 go_wp2_with fail
 rw [HM.out]
 go_loopw [5, 13] (fun v5 i wr => ∃ k : Nat, k ≤ n ∧ i = .int .i64 k ∧ v5 = .slice (some ⟨M, 0, none⟩) k n ∧ Hid (ChgAt M 56 4 n E' wr ((xs.take k).map f)) ∧ Hid (Below M w wr)) (fun _ i _ => n - (Go.RowKit.intOf i).toNat)
 case atStart => exact ⟨0, Nat.zero_le _, rfl, rfl, Lib.hid (HCH.out _ HM.out), Lib.hid (by rw [← HM.out]; exact below_box w _)⟩
 clear HCH hmk
 obtain ⟨k, hk, rfl, rfl, hs, hb⟩ := hrel
 by_cases hlt : k < n
 ·
  have hb0 := hb.out
  rw [← HM.out] at hb0
  obtain ⟨x, hx⟩ : ∃ x, xs[k]? = some x := ⟨_, List.getElem?_eq_getElem (by rw [HN.out]; omega)⟩
  obtain ⟨bk, off, rfl, hbl, hj⟩ := (HV.out wr hb0).at' (by rw [HN.out]; omega)
  obtain ⟨cs, hcl, hec, hcell⟩ := hj k x hx
  obtain ⟨u0, u1, u2, u3, rfl⟩ : ∃ u0 u1 u2 u3, cs = [u0, u1, u2, u3] := by
   match cs, hcl with
   | [u0, u1, u2, u3], _ => exact ⟨u0, u1, u2, u3, rfl⟩
  have c0 := hcell 0 _ rfl
  have c1 := hcell 1 _ rfl
  have c2 := hcell 2 _ rfl
  have c3 := hcell 3 _ rfl
  rw [Nat.add_zero] at c0
  have hone := hE1 _ _ _ hec
  have hst0 : ∀ (a : Addr) (m : Mode) (W : World), Sem.run Tryz.prog (store a u0 m) W = stored Tryz.prog W a u0 m := fun a m W => run_store Tryz.prog W a _ m (hone _ (by simp))
  have hst1 : ∀ (a : Addr) (m : Mode) (W : World), Sem.run Tryz.prog (store a u1 m) W = stored Tryz.prog W a u1 m := fun a m W => run_store Tryz.prog W a _ m (hone _ (by simp))
  have hst2 : ∀ (a : Addr) (m : Mode) (W : World), Sem.run Tryz.prog (store a u2 m) W = stored Tryz.prog W a u2 m := fun a m W => run_store Tryz.prog W a _ m (hone _ (by simp))
  have hst3 : ∀ (a : Addr) (m : Mode) (W : World), Sem.run Tryz.prog (store a u3 m) W = stored Tryz.prog W a u3 m := fun a m W => run_store Tryz.prog W a _ m (hone _ (by simp))
  have hMs : M < wr.heap.size := by
   obtain ⟨_, _, _, hg, _⟩ := hs.out
   exact (Array.getElem?_eq_some_iff.1 hg).1
  have hbb : Below wr.heap.size wr (wr.alloc (.cells #[u0, u1, u2, u3] 56)) := below_box wr _
  have hcall := HP.out (wr.alloc (.cells #[u0, u1, u2, u3] 56)) x u0 u1 u2 u3 (hb0.trans (hbb.mono hb0.size)) (List.mem_of_getElem? hx) (HE.out _ _ _ _ hbb hec)
  have HBB := Lib.hid hbb
  have HC := Lib.hid hcall
  have HX := Lib.hid hx
  have HMS := Lib.hid hMs
  clear hcall hx hb0 hj hec hcell hbl hMs hone hbb
  have hlen : ((xs.take k).map f).length = k := by
   rw [List.length_map, List.length_take, HN.out]
   omega
  have HLEN := Lib.hid hlen
  clear hlen
  go_wp2_with (first
   | (go_at_fn g; refine HC.out.mono ?_; rintro e w' ⟨⟨y0, y1, y2, y3, rfl, hf, h1⟩, hb'⟩; have HB' := Lib.hid (Below.trans HBB.out (Below.mono hb' HBB.out.size)); have HF := Lib.hid hf; have H1 := Lib.hid h1; clear hb' hf h1)
   | (at_builtin; refine wpList_chg Tryz.underlying26 Tryz.infoE_nd (by rfl) _ _ (by rfl) M n k E' ((xs.take k).map f) (f x) [y0, y1, y2, y3] (by rfl) H1.out HLEN.out (by rfl) (by rfl) (hs.out.kept (kept_below _ HB'.out)) (HF.out.mono (by have := HMS.out; simp; omega)) hlt ?_; intro w2 HCH HBL)
   | fail)
  refine ⟨⟨k + 1, by omega, by go_num, rfl, Lib.hid ?_, Lib.hid (HBL.out _ _ (hb.out.trans (HB'.out.mono (by have := HMS.out; omega))) (Nat.le_refl _))⟩, by simp only [Go.RowKit.intOf]; omega⟩
  rw [List.take_add_one, HX.out, List.map_append]
  exact HCH.out
 obtain rfl : k = n := by omega
 have hfin : (xs.take k).map f = xs.map f := by rw [List.take_of_length_le (by rw [HN.out]; exact Nat.le_refl _)]
 have hlm : (xs.map f).length = k := by rw [List.length_map, HN.out]
 have hown := hs.out.own (by rw [hfin, hlm]; exact Nat.le_refl _) (by unfold maxLen; omega)
 rw [hfin, hlm] at hown
 have HO := Lib.hid hown
 have HL := Lib.hid hlm
 clear hfin hlm hown hs
 go_wp2_with fail
 go_ret
 unfold ChV
 rw [HM.out, HL.out]
 exact ⟨_, rfl, HO.out, hb.out⟩

theorem Tryz.infoE_int : (Tryz.prog.info? 3).map (fun i => (i.zero, i.size, i.bytes)) = some (some (.int .i64 0), 1, 8) := by kernel_rfl
set_option maxRecDepth 100000 in
set_option maxHeartbeats 4000000 in
theorem changed_int {α β : Type} {E : World → List Value → α → Prop} (hE : Stays E) (hE1 : ∀ (W : World) (cs : List Value) (x : α), E W cs x → ∀ u ∈ cs, u.oneCell' = true) {E' : World → List Value → β → Prop} {w : World} {v : Value} {xs : List α} (hv : Rows 1 E w v xs) (hl : xs.length ≤ 100000) (g : FuncId) (lb : Array Value)
 (eg : ∀ args w, (callFunc g args).run Tryz.prog w = .ok (.enter g args) w) (f : α → β)
 (hp : ∀ (W : World) (x : α) (u0 : Value), Below w.heap.size w W → x ∈ xs → E W [u0] x → Calls Tryz.prog g (#[u0] ++ lb) W fun e w' => (∃ (yz : Int), e = .returned (.int .i64 yz) ∧ Fresh W.heap.size E' w' [Value.int .i64 yz] (f x) ∧ ∀ u ∈ [Value.int .i64 yz], u.oneCell' = true) ∧ Below W.heap.size W w') :
 Calls Tryz.prog 56 #[v, .func (.func g) #[] lb] w (ChV 3 1 E' w (xs.map f)) := by
 obtain ⟨A, cap, rfl, hc⟩ := hv.form
 obtain ⟨n, hn⟩ : ∃ n, xs.length = n := ⟨_, rfl⟩
 have HV := Lib.hid (fun W (h : Below w.heap.size w W) => hv.below hE h)
 obtain ⟨i0, hi, hz0, hz1, hz2⟩ := info_parts' Tryz.infoE_int
 rw [hn] at hc hl HV ⊢
 obtain ⟨cur0, hcur⟩ : ∃ cur0 : Array Value, madeCells (Value.cells ((.int .i64 0))) (n * 1) = cur0 := ⟨_, rfl⟩
 have hcs : cur0.size = n * 1 := by rw [← hcur, size_madeCells]
 have hmk : ∀ W : World, (Instr.makeSlice 27 (.int .i64 0) (.int .i64 n)).run Tryz.prog W = .ok (.slice (some ⟨W.heap.size, 0, none⟩) 0 n) (W.alloc (.cells cur0 3)) := fun W => by
  have h := run_make (P := Tryz.prog) W 27 3 i0 _ Tryz.underlying27 hi hz0 .i64 .i64 0 (n : Int) (Int.le_refl _) (by omega) (by rw [hz2]; omega) (by omega)
  simp only [Int.toNat_zero, Int.toNat_natCast, hz1] at h
  rw [hcur] at h
  exact h
 obtain ⟨M, hM⟩ : ∃ M, w.heap.size = M := ⟨_, rfl⟩
 have hch : ∀ W : World, W.heap.size = M → ChgAt M 3 1 n E' (W.alloc (.cells cur0 3)) ([] : List β) := fun W h => by rw [← h]; exact chg_new W cur0 hcs
 have HN := Lib.hid hn
 have HP := Lib.hid hp
 have HM := Lib.hid hM
 have HCH := Lib.hid hch
 have HE := Lib.hid hE
 clear hn hv hp hE hi hz0 hz1 hz2 hcur hcs hM hch
 go_enter Tryz.func56, Tryz.ntmps56
 go_wp2_with fail
 rw [HM.out]
 go_loopw [5, 13] (fun v5 i wr => ∃ k : Nat, k ≤ n ∧ i = .int .i64 k ∧ v5 = .slice (some ⟨M, 0, none⟩) k n ∧ Hid (ChgAt M 3 1 n E' wr ((xs.take k).map f)) ∧ Hid (Below M w wr)) (fun _ i _ => n - (Go.RowKit.intOf i).toNat)
 case atStart => exact ⟨0, Nat.zero_le _, rfl, rfl, Lib.hid (HCH.out _ HM.out), Lib.hid (by rw [← HM.out]; exact below_box w _)⟩
 clear HCH hmk
 obtain ⟨k, hk, rfl, rfl, hs, hb⟩ := hrel
 by_cases hlt : k < n
 ·
  have hb0 := hb.out
  rw [← HM.out] at hb0
  obtain ⟨x, hx⟩ : ∃ x, xs[k]? = some x := ⟨_, List.getElem?_eq_getElem (by rw [HN.out]; omega)⟩
  obtain ⟨bk, off, rfl, hbl, hj⟩ := (HV.out wr hb0).at' (by rw [HN.out]; omega)
  obtain ⟨cs, hcl, hec, hcell⟩ := hj k x hx
  obtain ⟨u0, rfl⟩ : ∃ u0, cs = [u0] := by
   match cs, hcl with
   | [u0], _ => exact ⟨u0, rfl⟩
  have c0 := hcell 0 _ rfl
  rw [Nat.mul_one, Nat.add_zero] at c0
  have hone := hE1 _ _ _ hec
  have hMs : M < wr.heap.size := by
   obtain ⟨_, _, _, hg, _⟩ := hs.out
   exact (Array.getElem?_eq_some_iff.1 hg).1
  have hbb : Below wr.heap.size wr wr := Below.refl _ _
  have hcall := HP.out wr x u0 hb0 (List.mem_of_getElem? hx) hec
  have HBB := Lib.hid hbb
  have HC := Lib.hid hcall
  have HX := Lib.hid hx
  have HMS := Lib.hid hMs
  clear hcall hx hb0 hj hec hcell hbl hMs hone hbb
  have hlen : ((xs.take k).map f).length = k := by
   rw [List.length_map, List.length_take, HN.out]
   omega
  have HLEN := Lib.hid hlen
  clear hlen
  go_wp2_with (first
   | (go_at_fn g; refine HC.out.mono ?_; rintro e w' ⟨⟨yz, rfl, hf, h1⟩, hb'⟩; have HB' := Lib.hid (Below.trans HBB.out (Below.mono hb' HBB.out.size)); have HF := Lib.hid hf; have H1 := Lib.hid h1; clear hb' hf h1)
   | (at_builtin; refine wpList_chg Tryz.underlying27 Tryz.infoE_int (by rfl) _ _ (by rfl) M n k E' ((xs.take k).map f) (f x) [Value.int .i64 yz] (by rfl) H1.out HLEN.out (by rfl) (by rfl) (hs.out.kept (kept_below _ HB'.out)) (HF.out.mono (by have := HMS.out; omega)) hlt ?_; intro w2 HCH HBL)
   | fail)
  refine ⟨⟨k + 1, by omega, by go_num, rfl, Lib.hid ?_, Lib.hid (HBL.out _ _ (hb.out.trans (HB'.out.mono (by have := HMS.out; omega))) (Nat.le_refl _))⟩, by simp only [Go.RowKit.intOf]; omega⟩
  rw [List.take_add_one, HX.out, List.map_append]
  exact HCH.out
 obtain rfl : k = n := by omega
 have hfin : (xs.take k).map f = xs.map f := by rw [List.take_of_length_le (by rw [HN.out]; exact Nat.le_refl _)]
 have hlm : (xs.map f).length = k := by rw [List.length_map, HN.out]
 have hown := hs.out.own (by rw [hfin, hlm]; exact Nat.le_refl _) (by unfold maxLen; omega)
 rw [hfin, hlm] at hown
 have HO := Lib.hid hown
 have HL := Lib.hid hlm
 clear hfin hlm hown hs
 go_wp2_with fail
 go_ret
 unfold ChV
 rw [HM.out, HL.out]
 exact ⟨_, rfl, HO.out, hb.out⟩
end Go.Proofs.YtebmfkkkhmjkoaaGreat
namespace Go.Proofs.YtebmfkkkhmjkoaaGreat
open Go.RowKit Go.Shelf Go.Lib

theorem own_emptyS (w : World) (t : TypeId) (sz : Nat) : (w.alloc (.cells #[] t)).ownsRow w.heap.size t sz (.slice (some ⟨w.heap.size, 0, none⟩) 0 0) 0 [] :=
 ⟨by simp, .inr ⟨w.heap.size, 0, #[], rfl, Nat.le_refl _, block_new w _, Nat.le_refl _, by unfold maxLen; omega, by simp, by simp⟩⟩
/-- The cells of a row of flat elements, one by one. -/
theorem flatE_get {β : Type} {sz : Nat} {enc : β → List Value} (he : ∀ x, (enc x).length = sz) (hsz : 0 < sz) {w : World} {b off : Nat} {xs : List β}
 (hj : ∀ (j : Nat) (x : β), xs[j]? = some x → ∃ cs : List Value, cs.length = sz ∧ cs = enc x ∧ ∀ (i : Nat) (u : Value), cs[i]? = some u → w.cell? ⟨b, off + j * sz + i, none⟩ = some u) :
 ∀ (j : Nat) (u : Value), (xs.flatMap enc)[j]? = some u → w.cell? ⟨b, off + j, none⟩ = some u := by
 intro j u hu
 have hjl : j < xs.length * sz := by rw [← flatM_len he]; exact (List.getElem?_eq_some_iff.1 hu).1
 have hq : j / sz < xs.length := Nat.div_lt_of_lt_mul (by rw [Nat.mul_comm]; exact hjl)
 have hm : j % sz < sz := Nat.mod_lt _ hsz
 have e : j / sz * sz + j % sz = j := by rw [Nat.mul_comm]; exact Nat.div_add_mod j sz
 have hx : xs[j / sz]? = some (xs[j / sz]'hq) := List.getElem?_eq_getElem hq
 obtain ⟨cs, -, rfl, h3⟩ := hj _ _ hx
 have h4 := flatM_get he xs (j / sz) _ (j % sz) hx hm
 rw [e, hu] at h4
 have h5 := h3 (j % sz) u h4.symm
 rw [Nat.add_assoc, e] at h5
 exact h5
/-- What Clone answers. -/
def ClV {β : Type} (T : TypeId) (sz : Nat) (E : World → List Value → β → Prop) (w : World) (ys : List β) (e : Ending) (w' : World) : Prop :=
 ∃ (A : Option Addr) (c : Nat), e = .returned (.slice A ys.length c) ∧ OwnF w.heap.size T sz E w' (.slice A ys.length c) ys ∧ Below w.heap.size w w'
def encS (s : Bs) : List Value := [.string ⟨s.toArray⟩]
def encA (a : Bs × Bool) : List Value := [.string ⟨a.1.toArray⟩, .bool a.2]
def encQ (p : Bs × Bs) : List Value := [.string ⟨p.1.toArray⟩, .string ⟨p.2.toArray⟩]

theorem Tryz.infoC_pair : (Tryz.prog.info? 93).map (fun i => (i.zero, i.size, i.bytes)) = some (some (.agg #[.string ⟨#[]⟩, .string ⟨#[]⟩]), 2, 32) := by kernel_rfl
set_option maxRecDepth 100000 in
set_option maxHeartbeats 1000000 in
theorem clone_pair {w : World} {v : Value} {xs : List (Bs × Bs)} (hv : Rows 2 EPair w v xs) (hl : xs.length ≤ 100000) :
 Calls Tryz.prog 50 #[v] w (ClV 93 2 EPair w xs) := by
 obtain ⟨A, cap, rfl, hc⟩ := hv.form
 have he : ∀ x : Bs × Bs, (encQ x).length = 2 := fun _ => rfl
 have hE : ∀ (w : World) (x : Bs × Bs), EPair w (encQ x) x := fun _ _ => rfl
 unfold ClV
 cases A with
 | none =>
   have h0 : xs = [] := by
    by_cases h : 0 < xs.length
    · obtain ⟨b, off, hA, _⟩ := hv.at' h
      cases hA
    exact List.length_eq_zero_iff.1 (by omega)
   subst h0
   refine (AnyE.slices_Clone_nil Tryz.laysClone 0 cap w).mono ?_
   rintro e w' ⟨rfl, rfl⟩
   exact ⟨none, 0, rfl, own_enc he hE (World.ownsRow_nil _ _ _ _), Below.refl _ _⟩
 | some ad =>
   obtain ⟨i0, hi, hz0, hz1, hz2⟩ := info_parts' Tryz.infoC_pair
   have hnews : ∀ (j : Nat) (u : Value), (xs.flatMap encQ)[j]? = some u → (w.alloc (.cells #[] 93)).cell? (ad.add j) = some u := by
    intro j u hu
    have h0 : 0 < xs.length := by
     have := (List.getElem?_eq_some_iff.1 hu).1
     rw [flatM_len he] at this
     omega
    obtain ⟨b, off, hA, hb, hj⟩ := hv.at' h0
    cases hA
    rw [add_plain]
    have := flatE_get he (by decide) hj j u hu
    exact (((Below.refl w.heap.size w).alloc (Nat.le_refl _) (.cells #[] 93)).cell (p := ⟨b, off + j, none⟩) hb).trans this
   have hlen := flatM_len he xs
   have h1 : ∀ u ∈ xs.flatMap encQ, u.oneCell' = true := by
    intro u hu
    obtain ⟨p, _, hp⟩ := List.mem_flatMap.1 hu
    simp [encQ] at hp
    first | (subst hp; rfl) | (rcases hp with rfl | rfl <;> rfl)
   have hback := fun (w' : World) (v' : Value) (h : w'.ownsRow w.heap.size 93 2 v' xs.length (xs.flatMap encQ)) => own_enc (E := EPair) he hE h
   have HBK := Lib.hid hback
   obtain ⟨n, hn⟩ : ∃ n, xs.length = n := ⟨_, rfl⟩
   rw [hn] at hlen hl hc HBK ⊢
   obtain ⟨F, hF⟩ : ∃ F, xs.flatMap encQ = F := ⟨_, rfl⟩
   rw [hF] at hlen hnews h1 HBK
   have HN := Lib.hid (And.intro hnews (And.intro h1 hlen))
   clear hn hF hnews h1 hlen hc hv hback he hE
   have hnn : (binOp BinOp.eql 49 (Value.slice (some ad) n cap) (Value.slice none 0 0)).run Tryz.prog w = .ok (.bool false) w := by kernel_rfl
   go_enter Tryz.func50, Tryz.ntmps50
   go_wp2_with (at_builtin; (refine wpList_append_own _ rfl (.tmp 5) (.tmp 6) 49 rfl w.heap.size 93 i0 _ 2 32 Tryz.underlying49 hi hz0 hz1 hz2 rfl (by decide) _ 0 _ rfl (own_emptyS w 93 2) ad n cap _ rfl HN.out.2.2 HN.out.1 HN.out.2.1 (by unfold maxLen; omega) (by omega) (by simp) ?_))
   intro v' w' hown hg _
   try simp only [Nat.zero_add, List.nil_append] at hown
   obtain ⟨A', c', rfl, -⟩ := own_form hown
   have HO := Lib.hid (And.intro hown hg)
   clear hown hg
   go_wp2_with fail
   go_ret
   exact ⟨_, _, rfl, HBK.out _ _ HO.out.1, ((Below.refl _ w).alloc (Nat.le_refl _) _).grown HO.out.2 (by simp) (fun k e => by simp [Value.ownBlock] at e; omega)⟩

theorem Tryz.infoC_attr : (Tryz.prog.info? 61).map (fun i => (i.zero, i.size, i.bytes)) = some (some (.agg #[.string ⟨#[]⟩, .bool false]), 2, 24) := by kernel_rfl
set_option maxRecDepth 100000 in
set_option maxHeartbeats 1000000 in
theorem clone_attr {w : World} {v : Value} {xs : List (Bs × Bool)} (hv : Rows 2 EAttr w v xs) (hl : xs.length ≤ 100000) :
 Calls Tryz.prog 45 #[v] w (ClV 61 2 EAttr w xs) := by
 obtain ⟨A, cap, rfl, hc⟩ := hv.form
 have he : ∀ x : Bs × Bool, (encA x).length = 2 := fun _ => rfl
 have hE : ∀ (w : World) (x : Bs × Bool), EAttr w (encA x) x := fun _ _ => rfl
 unfold ClV
 cases A with
 | none =>
   have h0 : xs = [] := by
    by_cases h : 0 < xs.length
    · obtain ⟨b, off, hA, _⟩ := hv.at' h
      cases hA
    exact List.length_eq_zero_iff.1 (by omega)
   subst h0
   refine (AnyE.slices_Clone_nil Tryz.laysCloneAttr 0 cap w).mono ?_
   rintro e w' ⟨rfl, rfl⟩
   exact ⟨none, 0, rfl, own_enc he hE (World.ownsRow_nil _ _ _ _), Below.refl _ _⟩
 | some ad =>
   obtain ⟨i0, hi, hz0, hz1, hz2⟩ := info_parts' Tryz.infoC_attr
   have hnews : ∀ (j : Nat) (u : Value), (xs.flatMap encA)[j]? = some u → (w.alloc (.cells #[] 61)).cell? (ad.add j) = some u := by
    intro j u hu
    have h0 : 0 < xs.length := by
     have := (List.getElem?_eq_some_iff.1 hu).1
     rw [flatM_len he] at this
     omega
    obtain ⟨b, off, hA, hb, hj⟩ := hv.at' h0
    cases hA
    rw [add_plain]
    have := flatE_get he (by decide) hj j u hu
    exact (((Below.refl w.heap.size w).alloc (Nat.le_refl _) (.cells #[] 61)).cell (p := ⟨b, off + j, none⟩) hb).trans this
   have hlen := flatM_len he xs
   have h1 : ∀ u ∈ xs.flatMap encA, u.oneCell' = true := by
    intro u hu
    obtain ⟨p, _, hp⟩ := List.mem_flatMap.1 hu
    simp [encA] at hp
    first | (subst hp; rfl) | (rcases hp with rfl | rfl <;> rfl)
   have hback := fun (w' : World) (v' : Value) (h : w'.ownsRow w.heap.size 61 2 v' xs.length (xs.flatMap encA)) => own_enc (E := EAttr) he hE h
   have HBK := Lib.hid hback
   obtain ⟨n, hn⟩ : ∃ n, xs.length = n := ⟨_, rfl⟩
   rw [hn] at hlen hl hc HBK ⊢
   obtain ⟨F, hF⟩ : ∃ F, xs.flatMap encA = F := ⟨_, rfl⟩
   rw [hF] at hlen hnews h1 HBK
   have HN := Lib.hid (And.intro hnews (And.intro h1 hlen))
   clear hn hF hnews h1 hlen hc hv hback he hE
   have hnn : (binOp BinOp.eql 22 (Value.slice (some ad) n cap) (Value.slice none 0 0)).run Tryz.prog w = .ok (.bool false) w := by kernel_rfl
   go_enter Tryz.func45, Tryz.ntmps45
   go_wp2_with (at_builtin; (refine wpList_append_own _ rfl (.tmp 5) (.tmp 6) 22 rfl w.heap.size 61 i0 _ 2 24 Tryz.underlying22 hi hz0 hz1 hz2 rfl (by decide) _ 0 _ rfl (own_emptyS w 61 2) ad n cap _ rfl HN.out.2.2 HN.out.1 HN.out.2.1 (by unfold maxLen; omega) (by omega) (by simp) ?_))
   intro v' w' hown hg _
   try simp only [Nat.zero_add, List.nil_append] at hown
   obtain ⟨A', c', rfl, -⟩ := own_form hown
   have HO := Lib.hid (And.intro hown hg)
   clear hown hg
   go_wp2_with fail
   go_ret
   exact ⟨_, _, rfl, HBK.out _ _ HO.out.1, ((Below.refl _ w).alloc (Nat.le_refl _) _).grown HO.out.2 (by simp) (fun k e => by simp [Value.ownBlock] at e; omega)⟩

theorem Tryz.infoC_str : (Tryz.prog.info? 9).map (fun i => (i.zero, i.size, i.bytes)) = some (some (.string ⟨#[]⟩), 1, 16) := by kernel_rfl
set_option maxRecDepth 100000 in
set_option maxHeartbeats 1000000 in
theorem clone_str {w : World} {v : Value} {xs : List (Bs)} (hv : Rows 1 EStr w v xs) (hl : xs.length ≤ 100000) :
 Calls Tryz.prog 47 #[v] w (ClV 9 1 EStr w xs) := by
 obtain ⟨A, cap, rfl, hc⟩ := hv.form
 have he : ∀ x : Bs, (encS x).length = 1 := fun _ => rfl
 have hE : ∀ (w : World) (x : Bs), EStr w (encS x) x := fun _ _ => rfl
 unfold ClV
 cases A with
 | none =>
   have h0 : xs = [] := by
    by_cases h : 0 < xs.length
    · obtain ⟨b, off, hA, _⟩ := hv.at' h
      cases hA
    exact List.length_eq_zero_iff.1 (by omega)
   subst h0
   refine (AnyE.slices_Clone_nil Tryz.laysCloneStr 0 cap w).mono ?_
   rintro e w' ⟨rfl, rfl⟩
   exact ⟨none, 0, rfl, own_enc he hE (World.ownsRow_nil _ _ _ _), Below.refl _ _⟩
 | some ad =>
   obtain ⟨i0, hi, hz0, hz1, hz2⟩ := info_parts' Tryz.infoC_str
   have hnews : ∀ (j : Nat) (u : Value), (xs.flatMap encS)[j]? = some u → (w.alloc (.cells #[] 9)).cell? (ad.add j) = some u := by
    intro j u hu
    have h0 : 0 < xs.length := by
     have := (List.getElem?_eq_some_iff.1 hu).1
     rw [flatM_len he] at this
     omega
    obtain ⟨b, off, hA, hb, hj⟩ := hv.at' h0
    cases hA
    rw [add_plain]
    have := flatE_get he (by decide) hj j u hu
    exact (((Below.refl w.heap.size w).alloc (Nat.le_refl _) (.cells #[] 9)).cell (p := ⟨b, off + j, none⟩) hb).trans this
   have hlen := flatM_len he xs
   have h1 : ∀ u ∈ xs.flatMap encS, u.oneCell' = true := by
    intro u hu
    obtain ⟨p, _, hp⟩ := List.mem_flatMap.1 hu
    simp [encS] at hp
    first | (subst hp; rfl) | (rcases hp with rfl | rfl <;> rfl)
   have hback := fun (w' : World) (v' : Value) (h : w'.ownsRow w.heap.size 9 1 v' xs.length (xs.flatMap encS)) => own_enc (E := EStr) he hE h
   have HBK := Lib.hid hback
   obtain ⟨n, hn⟩ : ∃ n, xs.length = n := ⟨_, rfl⟩
   rw [hn] at hlen hl hc HBK ⊢
   obtain ⟨F, hF⟩ : ∃ F, xs.flatMap encS = F := ⟨_, rfl⟩
   rw [hF] at hlen hnews h1 HBK
   have HN := Lib.hid (And.intro hnews (And.intro h1 hlen))
   clear hn hF hnews h1 hlen hc hv hback he hE
   have hnn : (binOp BinOp.eql 28 (Value.slice (some ad) n cap) (Value.slice none 0 0)).run Tryz.prog w = .ok (.bool false) w := by kernel_rfl
   go_enter Tryz.func47, Tryz.ntmps47
   go_wp2_with (at_builtin; (refine wpList_append_own _ rfl (.tmp 5) (.tmp 6) 28 rfl w.heap.size 9 i0 _ 1 16 Tryz.underlying28 hi hz0 hz1 hz2 rfl (by decide) _ 0 _ rfl (own_emptyS w 9 1) ad n cap _ rfl HN.out.2.2 HN.out.1 HN.out.2.1 (by unfold maxLen; omega) (by omega) (by simp) ?_))
   intro v' w' hown hg _
   try simp only [Nat.zero_add, List.nil_append] at hown
   obtain ⟨A', c', rfl, -⟩ := own_form hown
   have HO := Lib.hid (And.intro hown hg)
   clear hown hg
   go_wp2_with fail
   go_ret
   exact ⟨_, _, rfl, HBK.out _ _ HO.out.1, ((Below.refl _ w).alloc (Nat.le_refl _) _).grown HO.out.2 (by simp) (fun k e => by simp [Value.ownBlock] at e; omega)⟩
end Go.Proofs.YtebmfkkkhmjkoaaGreat
namespace Go.Proofs.YtebmfkkkhmjkoaaGreat
open Go.RowKit Go.Shelf Go.Lib
attribute [local go_sem ↓] Go.wp_at_zero Go.wp_at_succ

/-- Numbers far from the ends of int. -/
def Mid (x : Int) : Prop := -1000000 ≤ x ∧ x ≤ 1000000
def incZ (d x : Int) : Int := if x = -1 then -1 else x + d
def mvEx (d : Int) (x : Ex) : Ex := ⟨x.name, x.b + d, x.e + d, x.ps⟩
def mvNd (d m : Int) (x : Nd) : Nd := ⟨x.label, x.b + d, x.e + d, incZ m x.parent⟩
theorem inc_any (x d : Int) (hx : Mid x) (hd : Mid d) (w : World) :
 Calls Tryz.prog 55 #[.int .i64 x, .int .i64 d] w fun e w' => e = .returned (.int .i64 (incZ d x)) ∧ w = w' := by
 obtain ⟨h1, h2⟩ := hx
 obtain ⟨h3, h4⟩ := hd
 unfold incZ
 by_cases h : x = -1
 ·
  rw [if_pos h]
  subst h
  go_enter Tryz.func55, Tryz.ntmps55
  go_wp2_with fail
  go_ret
  exact ⟨rfl, rfl⟩
 rw [if_neg h]
 go_enter Tryz.func55, Tryz.ntmps55
 go_wp2_with fail
 go_ret
 exact ⟨rfl, rfl⟩
/-- What a closure answers that makes an element of four cells. -/
def Cb4 {β : Type} (E : World → List Value → β → Prop) (W : World) (y : β) (e : Ending) (w' : World) : Prop :=
 (∃ y0 y1 y2 y3 : Value, e = .returned (.agg #[y0, y1, y2, y3]) ∧ Fresh W.heap.size E w' [y0, y1, y2, y3] y ∧ ∀ u ∈ [y0, y1, y2, y3], u.oneCell' = true) ∧ Below W.heap.size W w'
theorem moved4_any (x d : Int) (hx : Mid x) (hd : Mid d) (P : Nat) (W : World) (hc : W.cell? ⟨P, 0, none⟩ = some (.int .i64 d)) :
 Calls Tryz.prog 57 (#[.int .i64 x] ++ #[.pointer (some ⟨P, 0, none⟩)]) W fun e w' => e = .returned (.int .i64 (incZ d x)) ∧ W = w' := by
 have HI := Lib.hid (inc_any x d hx hd)
 clear hx hd
 obtain ⟨z, hz⟩ : ∃ z, incZ d x = z := ⟨_, rfl⟩
 rw [hz] at HI ⊢
 clear hz
 go_enter Tryz.func57, Tryz.ntmps57
 go_wp2_with fail
 refine (HI.out _).mono ?_
 rintro e w' ⟨rfl, rfl⟩
 go_wp2_with fail
 go_ret
 exact ⟨rfl, rfl⟩

theorem Tryz.sizeM_moved1 : (Tryz.prog.info? 51).map (·.size) = some 4 := by kernel_rfl
set_option maxRecDepth 100000 in
set_option maxHeartbeats 4000000 in
theorem moved1_any (x : Ex) (v : Value) (d : Int) (P : Nat) (W : World) (hb : Mid x.b) (he : Mid x.e) (hd : Mid d) (hv : Rows 2 EPair W v x.ps) (hl : x.ps.length ≤ 100000) (hP : P < W.heap.size) (hc : W.cell? ⟨P, 0, none⟩ = some (.int .i64 d)) :
 Calls Tryz.prog 49 (#[.agg #[.string ⟨x.name.toArray⟩, .int .i64 x.b, .int .i64 x.e, v]] ++ #[.pointer (some ⟨P, 0, none⟩)]) W (Cb4 EEx W (mvEx d x)) := by
 obtain ⟨A, cap, rfl, hcp⟩ := hv.form
 have hcl := fun W' (h : Below W.heap.size W W') => clone_pair (hv.below stays_pair h) hl
 obtain ⟨nm, xb, xe, ps⟩ := x
 simp only at hb he hv hl hcl hcp ⊢
 obtain ⟨hb1, hb2⟩ := hb
 obtain ⟨he1, he2⟩ := he
 obtain ⟨hd1, hd2⟩ := hd
 obtain ⟨S, hS⟩ : ∃ s : ByteArray, (⟨nm.toArray⟩ : ByteArray) = s := ⟨_, rfl⟩
 have hfin : ∀ (w' : World) (A' : Option Addr) (c' : Nat), RowsF W.heap.size 2 EPair w' (.slice A' ps.length c') ps → Fresh W.heap.size EEx w' [.string S, .int .i64 (xb + d), .int .i64 (xe + d), .slice A' ps.length c'] (mvEx d ⟨nm, xb, xe, ps⟩) :=
  fun w' A' c' h w2 k => ⟨_, by rw [← hS]; rfl, h w2 k⟩
 have HFIN := Lib.hid hfin
 unfold Cb4
 rw [hS]
 obtain ⟨y, hy⟩ : ∃ y, mvEx d ⟨nm, xb, xe, ps⟩ = y := ⟨_, rfl⟩
 rw [hy] at HFIN ⊢
 obtain ⟨N0, hN0⟩ : ∃ N0, W.heap.size = N0 := ⟨_, rfl⟩
 obtain ⟨X, hX⟩ : ∃ X, (W.alloc (.cells #[.string S, .int .i64 xb, .int .i64 xe, .slice A ps.length cap] 51)).alloc (.cells #[.string ⟨#[]⟩, .int .i64 0, .int .i64 0, .slice none 0 0] 51) = X := ⟨_, rfl⟩
 have hbX : Below W.heap.size W X := by rw [← hX]; exact (below_box W _).trans ((below_box _ _).mono (by simp))
 have e1 : X.heap[N0]? = some (.cells #[.string S, .int .i64 xb, .int .i64 xe, .slice A ps.length cap] 51 (0, 0)) := by rw [← hX, ← hN0]; exact block_alloc _ (block_new W _)
 have e2 : X.heap[N0 + 1]? = some (.cells #[.string ⟨#[]⟩, .int .i64 0, .int .i64 0, .slice none 0 0] 51 (0, 0)) := by
  have := block_new (W.alloc (.cells #[.string S, .int .i64 xb, .int .i64 xe, .slice A ps.length cap] 51)) (.cells #[.string ⟨#[]⟩, .int .i64 0, .int .i64 0, .slice none 0 0] 51)
  rw [← hX, ← hN0]
  simpa using this
 have hXs : X.heap.size = N0 + 2 := by rw [← hX, ← hN0]; simp
 rw [hN0] at hbX hP hcl HFIN
 have p0 : X.cell? ⟨P, 0, none⟩ = some (.int .i64 d) := (hbX.cell (p := ⟨P, 0, none⟩) hP).trans hc
 have c0 : X.cell? ⟨N0, 0, none⟩ = some (.string S) := cell_of e1 rfl
 have c1 : X.cell? ⟨N0, 1, none⟩ = some (.int .i64 xb) := cell_of e1 rfl
 have c2 : X.cell? ⟨N0, 2, none⟩ = some (.int .i64 xe) := cell_of e1 rfl
 have c3 : X.cell? ⟨N0, 3, none⟩ = some (.slice A ps.length cap) := cell_of e1 rfl
 have HS := Lib.hid (fun W' (h : Below (N0 + 1) X W') => And.intro ((h.cell (p := ⟨N0, 0, none⟩) (Nat.lt_succ_self _)).trans c0) (And.intro ((h.cell (p := ⟨N0, 1, none⟩) (Nat.lt_succ_self _)).trans c1) (And.intro ((h.cell (p := ⟨N0, 2, none⟩) (Nat.lt_succ_self _)).trans c2) (And.intro ((h.cell (p := ⟨N0, 3, none⟩) (Nat.lt_succ_self _)).trans c3) ((h.cell (p := ⟨P, 0, none⟩) (Nat.lt_succ_of_lt hP)).trans p0)))))
 have hblk : ∀ W', Below X.drew.heap.size X.drew W' → W'.heap[N0 + 1]? = some (.cells #[.string ⟨#[]⟩, .int .i64 0, .int .i64 0, .slice none 0 0] 51 (0, 0)) := fun W' h => (h.block (N0 + 1) (by show N0 + 1 < X.heap.size; omega)).trans e2
 have HBLK := Lib.hid hblk
 have HCL := Lib.hid (hcl X.drew hbX.drew)
 have HX := Lib.hid hX
 have HXS := Lib.hid hXs
 have HN0 := Lib.hid hN0
 have HBX := Lib.hid hbX
 have w1 : IntKind.i64.wrap (xb + d) = xb + d := by rw [IntKind.wrap_i64]; omega
 have w2 : IntKind.i64.wrap (xe + d) = xe + d := by rw [IntKind.wrap_i64]; omega
 have hPne : ¬ P = N0 + 1 := by omega
 have hPne2 : ¬ N0 + 1 = P := by omega
 clear hcl hX hXs hbX e1 e2 hN0 hv hl hc hP hy hS hfin hblk hcp
 go_enter Tryz.func49, Tryz.ntmps49
 go_wp2_with fail
 rw [HX.out, HN0.out]
 go_region_held3 (fun w' => w'.cell? ⟨N0, 0, none⟩ = some (.string S) ∧ w'.cell? ⟨N0, 1, none⟩ = some (.int .i64 xb) ∧ w'.cell? ⟨N0, 2, none⟩ = some (.int .i64 xe) ∧ w'.cell? ⟨N0, 3, none⟩ = some (.slice A ps.length cap) ∧ w'.cell? ⟨P, 0, none⟩ = some (.int .i64 d))
  (first
   | go_keep
   | (exact HS.out _ (HB3.out))
   | (exact HS.out _ ((((HB3.out.setCell (Nat.le_refl _) _).setCell (Nat.le_refl _) _).setCell (Nat.le_refl _) _).setCell (Nat.le_refl _) _))
   | fail)
  ((first
    | (go_at_call 50; (with_reducible refine HCL.out.mono ?_); rintro e w3 ⟨A', c', rfl, ho, hb3⟩; have hk3 := HBLK.out _ hb3; have HB3 := Lib.hid (show Below (N0 + 1) X w3 from (Below.refl _ X).drew.trans (hb3.mono (by have := HXS.out; show N0 + 1 ≤ X.heap.size; omega))); have t0 : w3.cell? ⟨N0 + 1, 0, none⟩ = some (.string ⟨#[]⟩) := cell_of hk3 rfl; have t1 : w3.cell? ⟨N0 + 1, 1, none⟩ = some (.int .i64 0) := cell_of hk3 rfl; have t2 : w3.cell? ⟨N0 + 1, 2, none⟩ = some (.int .i64 0) := cell_of hk3 rfl; have t3 : w3.cell? ⟨N0 + 1, 3, none⟩ = some (.slice none 0 0) := cell_of hk3 rfl; have f0 : ∀ i, w3.frozen? ⟨N0 + 1, i, none⟩ = false := fun i => frozen_of hk3; have HO := Lib.hid ho; have HK3 := Lib.hid hk3; clear ho hb3 hk3)
    | fail))
 go_wp2_with fail
 have hz : ((((w3.setCell ⟨N0 + 1, 0, none⟩ (.string S)).setCell ⟨N0 + 1, 1, none⟩ (.int .i64 (xb + d))).setCell ⟨N0 + 1, 2, none⟩ (.int .i64 (xe + d))).setCell ⟨N0 + 1, 3, none⟩ (.slice A' ps.length c')).heap[N0 + 1]? = some (.cells #[.string S, .int .i64 (xb + d), .int .i64 (xe + d), .slice A' ps.length c'] 51 (0, 0)) :=
  set_of (set_of (set_of (set_of HK3.out _) _) _) _
 have hk : Kept (N0 + 2) w3 ((((w3.setCell ⟨N0 + 1, 0, none⟩ (.string S)).setCell ⟨N0 + 1, 1, none⟩ (.int .i64 (xb + d))).setCell ⟨N0 + 1, 2, none⟩ (.int .i64 (xe + d))).setCell ⟨N0 + 1, 3, none⟩ (.slice A' ps.length c')) :=
  ⟨by simp [World.setCell], fun k h1 h2 => by rw [Below.heap_setCell _ _ _ k (by show k ≠ N0 + 1; omega), Below.heap_setCell _ _ _ k (by show k ≠ N0 + 1; omega), Below.heap_setCell _ _ _ k (by show k ≠ N0 + 1; omega), Below.heap_setCell _ _ _ k (by show k ≠ N0 + 1; omega)]⟩
 have hXd : X.drew.heap.size = N0 + 2 := HXS.out
 have ho := HO.out
 rw [hXd] at ho
 have hf := HFIN.out _ _ _ ((ho.rowsF.kept hk).mono (by omega))
 exact bodyPost_ret (v := .agg #[.string S, .int .i64 (xb + d), .int .i64 (xe + d), .slice A' ps.length c']) (results_cell_row Tryz.results49 _ _ (N0 + 1) _ _ _ _ rfl hz Tryz.underlying51 rfl Tryz.sizeM_moved1) rfl
  ⟨⟨_, _, _, _, rfl, by rw [HN0.out]; exact hf, by simp [Value.oneCell']⟩, by rw [HN0.out]; exact HBX.out.trans ((((((Below.mono HB3.out (Nat.le_succ _)).setCell (Nat.le_succ _) _).setCell (Nat.le_succ _) _).setCell (Nat.le_succ _) _).setCell (Nat.le_succ _) _))⟩

theorem Tryz.sizeM_moved2 : (Tryz.prog.info? 54).map (·.size) = some 4 := by kernel_rfl
set_option maxRecDepth 100000 in
set_option maxHeartbeats 4000000 in
theorem moved2_any (x : Ex) (v : Value) (d : Int) (P : Nat) (W : World) (hb : Mid x.b) (he : Mid x.e) (hd : Mid d) (hv : Rows 2 EPair W v x.ps) (hl : x.ps.length ≤ 100000) (hP : P < W.heap.size) (hc : W.cell? ⟨P, 0, none⟩ = some (.int .i64 d)) :
 Calls Tryz.prog 52 (#[.agg #[.string ⟨x.name.toArray⟩, .int .i64 x.b, .int .i64 x.e, v]] ++ #[.pointer (some ⟨P, 0, none⟩)]) W (Cb4 EEx W (mvEx d x)) := by
 obtain ⟨A, cap, rfl, hcp⟩ := hv.form
 have hcl := fun W' (h : Below W.heap.size W W') => clone_pair (hv.below stays_pair h) hl
 obtain ⟨nm, xb, xe, ps⟩ := x
 simp only at hb he hv hl hcl hcp ⊢
 obtain ⟨hb1, hb2⟩ := hb
 obtain ⟨he1, he2⟩ := he
 obtain ⟨hd1, hd2⟩ := hd
 obtain ⟨S, hS⟩ : ∃ s : ByteArray, (⟨nm.toArray⟩ : ByteArray) = s := ⟨_, rfl⟩
 have hfin : ∀ (w' : World) (A' : Option Addr) (c' : Nat), RowsF W.heap.size 2 EPair w' (.slice A' ps.length c') ps → Fresh W.heap.size EEx w' [.string S, .int .i64 (xb + d), .int .i64 (xe + d), .slice A' ps.length c'] (mvEx d ⟨nm, xb, xe, ps⟩) :=
  fun w' A' c' h w2 k => ⟨_, by rw [← hS]; rfl, h w2 k⟩
 have HFIN := Lib.hid hfin
 unfold Cb4
 rw [hS]
 obtain ⟨y, hy⟩ : ∃ y, mvEx d ⟨nm, xb, xe, ps⟩ = y := ⟨_, rfl⟩
 rw [hy] at HFIN ⊢
 obtain ⟨N0, hN0⟩ : ∃ N0, W.heap.size = N0 := ⟨_, rfl⟩
 obtain ⟨X, hX⟩ : ∃ X, (W.alloc (.cells #[.string S, .int .i64 xb, .int .i64 xe, .slice A ps.length cap] 54)).alloc (.cells #[.string ⟨#[]⟩, .int .i64 0, .int .i64 0, .slice none 0 0] 54) = X := ⟨_, rfl⟩
 have hbX : Below W.heap.size W X := by rw [← hX]; exact (below_box W _).trans ((below_box _ _).mono (by simp))
 have e1 : X.heap[N0]? = some (.cells #[.string S, .int .i64 xb, .int .i64 xe, .slice A ps.length cap] 54 (0, 0)) := by rw [← hX, ← hN0]; exact block_alloc _ (block_new W _)
 have e2 : X.heap[N0 + 1]? = some (.cells #[.string ⟨#[]⟩, .int .i64 0, .int .i64 0, .slice none 0 0] 54 (0, 0)) := by
  have := block_new (W.alloc (.cells #[.string S, .int .i64 xb, .int .i64 xe, .slice A ps.length cap] 54)) (.cells #[.string ⟨#[]⟩, .int .i64 0, .int .i64 0, .slice none 0 0] 54)
  rw [← hX, ← hN0]
  simpa using this
 have hXs : X.heap.size = N0 + 2 := by rw [← hX, ← hN0]; simp
 rw [hN0] at hbX hP hcl HFIN
 have p0 : X.cell? ⟨P, 0, none⟩ = some (.int .i64 d) := (hbX.cell (p := ⟨P, 0, none⟩) hP).trans hc
 have c0 : X.cell? ⟨N0, 0, none⟩ = some (.string S) := cell_of e1 rfl
 have c1 : X.cell? ⟨N0, 1, none⟩ = some (.int .i64 xb) := cell_of e1 rfl
 have c2 : X.cell? ⟨N0, 2, none⟩ = some (.int .i64 xe) := cell_of e1 rfl
 have c3 : X.cell? ⟨N0, 3, none⟩ = some (.slice A ps.length cap) := cell_of e1 rfl
 have HS := Lib.hid (fun W' (h : Below (N0 + 1) X W') => And.intro ((h.cell (p := ⟨N0, 0, none⟩) (Nat.lt_succ_self _)).trans c0) (And.intro ((h.cell (p := ⟨N0, 1, none⟩) (Nat.lt_succ_self _)).trans c1) (And.intro ((h.cell (p := ⟨N0, 2, none⟩) (Nat.lt_succ_self _)).trans c2) (And.intro ((h.cell (p := ⟨N0, 3, none⟩) (Nat.lt_succ_self _)).trans c3) ((h.cell (p := ⟨P, 0, none⟩) (Nat.lt_succ_of_lt hP)).trans p0)))))
 have hblk : ∀ W', Below X.drew.heap.size X.drew W' → W'.heap[N0 + 1]? = some (.cells #[.string ⟨#[]⟩, .int .i64 0, .int .i64 0, .slice none 0 0] 54 (0, 0)) := fun W' h => (h.block (N0 + 1) (by show N0 + 1 < X.heap.size; omega)).trans e2
 have HBLK := Lib.hid hblk
 have HCL := Lib.hid (hcl X.drew hbX.drew)
 have HX := Lib.hid hX
 have HXS := Lib.hid hXs
 have HN0 := Lib.hid hN0
 have HBX := Lib.hid hbX
 have w1 : IntKind.i64.wrap (xb + d) = xb + d := by rw [IntKind.wrap_i64]; omega
 have w2 : IntKind.i64.wrap (xe + d) = xe + d := by rw [IntKind.wrap_i64]; omega
 have hPne : ¬ P = N0 + 1 := by omega
 have hPne2 : ¬ N0 + 1 = P := by omega
 clear hcl hX hXs hbX e1 e2 hN0 hv hl hc hP hy hS hfin hblk hcp
 go_enter Tryz.func52, Tryz.ntmps52
 go_wp2_with fail
 rw [HX.out, HN0.out]
 go_region_held3 (fun w' => w'.cell? ⟨N0, 0, none⟩ = some (.string S) ∧ w'.cell? ⟨N0, 1, none⟩ = some (.int .i64 xb) ∧ w'.cell? ⟨N0, 2, none⟩ = some (.int .i64 xe) ∧ w'.cell? ⟨N0, 3, none⟩ = some (.slice A ps.length cap) ∧ w'.cell? ⟨P, 0, none⟩ = some (.int .i64 d))
  (first
   | go_keep
   | (exact HS.out _ (HB3.out))
   | (exact HS.out _ ((((HB3.out.setCell (Nat.le_refl _) _).setCell (Nat.le_refl _) _).setCell (Nat.le_refl _) _).setCell (Nat.le_refl _) _))
   | fail)
  ((first
    | (go_at_call 50; (with_reducible refine HCL.out.mono ?_); rintro e w3 ⟨A', c', rfl, ho, hb3⟩; have hk3 := HBLK.out _ hb3; have HB3 := Lib.hid (show Below (N0 + 1) X w3 from (Below.refl _ X).drew.trans (hb3.mono (by have := HXS.out; show N0 + 1 ≤ X.heap.size; omega))); have t0 : w3.cell? ⟨N0 + 1, 0, none⟩ = some (.string ⟨#[]⟩) := cell_of hk3 rfl; have t1 : w3.cell? ⟨N0 + 1, 1, none⟩ = some (.int .i64 0) := cell_of hk3 rfl; have t2 : w3.cell? ⟨N0 + 1, 2, none⟩ = some (.int .i64 0) := cell_of hk3 rfl; have t3 : w3.cell? ⟨N0 + 1, 3, none⟩ = some (.slice none 0 0) := cell_of hk3 rfl; have f0 : ∀ i, w3.frozen? ⟨N0 + 1, i, none⟩ = false := fun i => frozen_of hk3; have HO := Lib.hid ho; have HK3 := Lib.hid hk3; clear ho hb3 hk3)
    | fail))
 go_wp2_with fail
 have hz : ((((w3.setCell ⟨N0 + 1, 0, none⟩ (.string S)).setCell ⟨N0 + 1, 1, none⟩ (.int .i64 (xb + d))).setCell ⟨N0 + 1, 2, none⟩ (.int .i64 (xe + d))).setCell ⟨N0 + 1, 3, none⟩ (.slice A' ps.length c')).heap[N0 + 1]? = some (.cells #[.string S, .int .i64 (xb + d), .int .i64 (xe + d), .slice A' ps.length c'] 54 (0, 0)) :=
  set_of (set_of (set_of (set_of HK3.out _) _) _) _
 have hk : Kept (N0 + 2) w3 ((((w3.setCell ⟨N0 + 1, 0, none⟩ (.string S)).setCell ⟨N0 + 1, 1, none⟩ (.int .i64 (xb + d))).setCell ⟨N0 + 1, 2, none⟩ (.int .i64 (xe + d))).setCell ⟨N0 + 1, 3, none⟩ (.slice A' ps.length c')) :=
  ⟨by simp [World.setCell], fun k h1 h2 => by rw [Below.heap_setCell _ _ _ k (by show k ≠ N0 + 1; omega), Below.heap_setCell _ _ _ k (by show k ≠ N0 + 1; omega), Below.heap_setCell _ _ _ k (by show k ≠ N0 + 1; omega), Below.heap_setCell _ _ _ k (by show k ≠ N0 + 1; omega)]⟩
 have hXd : X.drew.heap.size = N0 + 2 := HXS.out
 have ho := HO.out
 rw [hXd] at ho
 have hf := HFIN.out _ _ _ ((ho.rowsF.kept hk).mono (by omega))
 exact bodyPost_ret (v := .agg #[.string S, .int .i64 (xb + d), .int .i64 (xe + d), .slice A' ps.length c']) (results_cell_row Tryz.results52 _ _ (N0 + 1) _ _ _ _ rfl hz Tryz.underlying54 rfl Tryz.sizeM_moved2) rfl
  ⟨⟨_, _, _, _, rfl, by rw [HN0.out]; exact hf, by simp [Value.oneCell']⟩, by rw [HN0.out]; exact HBX.out.trans ((((((Below.mono HB3.out (Nat.le_succ _)).setCell (Nat.le_succ _) _).setCell (Nat.le_succ _) _).setCell (Nat.le_succ _) _).setCell (Nat.le_succ _) _))⟩

theorem Tryz.sizeM_moved3 : (Tryz.prog.info? 56).map (·.size) = some 4 := by kernel_rfl
set_option maxRecDepth 100000 in
set_option maxHeartbeats 4000000 in
theorem moved3_any (x : Nd) (d m : Int) (P Q : Nat) (W : World) (hb : Mid x.b) (he : Mid x.e) (hp : Mid x.parent) (hd : Mid d) (hm : Mid m) (hP : P < W.heap.size) (hQ : Q < W.heap.size) (hc : W.cell? ⟨P, 0, none⟩ = some (.int .i64 d)) (hc2 : W.cell? ⟨Q, 0, none⟩ = some (.int .i64 m)) :
 Calls Tryz.prog 54 (#[.agg #[.string ⟨x.label.toArray⟩, .int .i64 x.b, .int .i64 x.e, .int .i64 x.parent]] ++ #[.pointer (some ⟨P, 0, none⟩), .pointer (some ⟨Q, 0, none⟩)]) W (Cb4 ENd W (mvNd d m x)) := by
 have HI := Lib.hid (inc_any x.parent m hp hm)
 obtain ⟨nm, xb, xe, xp⟩ := x
 simp only at hb he HI ⊢
 obtain ⟨hb1, hb2⟩ := hb
 obtain ⟨he1, he2⟩ := he
 obtain ⟨hd1, hd2⟩ := hd
 have hmv : mvNd d m ⟨nm, xb, xe, xp⟩ = ⟨nm, xb + d, xe + d, incZ m xp⟩ := rfl
 rw [hmv]
 obtain ⟨z, hz⟩ : ∃ z, incZ m xp = z := ⟨_, rfl⟩
 rw [hz] at HI ⊢
 obtain ⟨S, hS⟩ : ∃ s : ByteArray, (⟨nm.toArray⟩ : ByteArray) = s := ⟨_, rfl⟩
 have hfin : ∀ (w' : World), Fresh W.heap.size ENd w' [.string S, .int .i64 (xb + d), .int .i64 (xe + d), .int .i64 z] ⟨nm, xb + d, xe + d, z⟩ :=
  fun w' => fresh_flat _ _ fun _ => by rw [← hS]; rfl
 have HFIN := Lib.hid hfin
 unfold Cb4
 rw [hS]
 obtain ⟨N0, hN0⟩ : ∃ N0, W.heap.size = N0 := ⟨_, rfl⟩
 obtain ⟨X, hX⟩ : ∃ X, (W.alloc (.cells #[.string S, .int .i64 xb, .int .i64 xe, .int .i64 xp] 56)).alloc (.cells #[.string ⟨#[]⟩, .int .i64 0, .int .i64 0, .int .i64 0] 56) = X := ⟨_, rfl⟩
 have hbX : Below W.heap.size W X := by rw [← hX]; exact (below_box W _).trans ((below_box _ _).mono (by simp))
 have e1 : X.heap[N0]? = some (.cells #[.string S, .int .i64 xb, .int .i64 xe, .int .i64 xp] 56 (0, 0)) := by rw [← hX, ← hN0]; exact block_alloc _ (block_new W _)
 have e2 : X.heap[N0 + 1]? = some (.cells #[.string ⟨#[]⟩, .int .i64 0, .int .i64 0, .int .i64 0] 56 (0, 0)) := by
  have := block_new (W.alloc (.cells #[.string S, .int .i64 xb, .int .i64 xe, .int .i64 xp] 56)) (.cells #[.string ⟨#[]⟩, .int .i64 0, .int .i64 0, .int .i64 0] 56)
  rw [← hX, ← hN0]
  simpa using this
 rw [hN0] at hbX hP hQ HFIN
 have p0 : X.cell? ⟨P, 0, none⟩ = some (.int .i64 d) := (hbX.cell (p := ⟨P, 0, none⟩) hP).trans hc
 have q0 : X.cell? ⟨Q, 0, none⟩ = some (.int .i64 m) := (hbX.cell (p := ⟨Q, 0, none⟩) hQ).trans hc2
 have c0 : X.cell? ⟨N0, 0, none⟩ = some (.string S) := cell_of e1 rfl
 have c1 : X.cell? ⟨N0, 1, none⟩ = some (.int .i64 xb) := cell_of e1 rfl
 have c2 : X.cell? ⟨N0, 2, none⟩ = some (.int .i64 xe) := cell_of e1 rfl
 have c3 : X.cell? ⟨N0, 3, none⟩ = some (.int .i64 xp) := cell_of e1 rfl
 have t0 : X.cell? ⟨N0 + 1, 0, none⟩ = some (.string ⟨#[]⟩) := cell_of e2 rfl
 have t1 : X.cell? ⟨N0 + 1, 1, none⟩ = some (.int .i64 0) := cell_of e2 rfl
 have t2 : X.cell? ⟨N0 + 1, 2, none⟩ = some (.int .i64 0) := cell_of e2 rfl
 have t3 : X.cell? ⟨N0 + 1, 3, none⟩ = some (.int .i64 0) := cell_of e2 rfl
 have f0 : ∀ i, X.frozen? ⟨N0 + 1, i, none⟩ = false := fun i => frozen_of e2
 have HE2 := Lib.hid e2
 have HX := Lib.hid hX
 have HN0 := Lib.hid hN0
 have HBX := Lib.hid hbX
 have w1 : IntKind.i64.wrap (xb + d) = xb + d := by rw [IntKind.wrap_i64]; omega
 have w2 : IntKind.i64.wrap (xe + d) = xe + d := by rw [IntKind.wrap_i64]; omega
 have hPne : ¬ P = N0 + 1 := by omega
 have hPne2 : ¬ N0 + 1 = P := by omega
 have hQne : ¬ Q = N0 + 1 := by omega
 have hQne2 : ¬ N0 + 1 = Q := by omega
 clear hX hbX e1 e2 hN0 hc hc2 hP hQ hS hfin hmv hz hp hm
 go_enter Tryz.func54, Tryz.ntmps54
 go_wp2_with fail
 rw [HX.out, HN0.out]
 go_region_held3 (fun w' => w'.cell? ⟨N0, 0, none⟩ = some (.string S) ∧ w'.cell? ⟨N0, 1, none⟩ = some (.int .i64 xb) ∧ w'.cell? ⟨N0, 2, none⟩ = some (.int .i64 xe) ∧ w'.cell? ⟨N0, 3, none⟩ = some (.int .i64 xp) ∧ w'.cell? ⟨P, 0, none⟩ = some (.int .i64 d) ∧ w'.cell? ⟨Q, 0, none⟩ = some (.int .i64 m))
  (go_keep)
  ((first
    | (go_at_call 55; (with_reducible refine (HI.out _).mono ?_); rintro e w3 ⟨rfl, rfl⟩)
    | fail))
 go_wp2_with fail
 have hz : ((((X.drew.setCell ⟨N0 + 1, 0, none⟩ (.string S)).setCell ⟨N0 + 1, 1, none⟩ (.int .i64 (xb + d))).setCell ⟨N0 + 1, 2, none⟩ (.int .i64 (xe + d))).setCell ⟨N0 + 1, 3, none⟩ (.int .i64 z)).heap[N0 + 1]? = some (.cells #[.string S, .int .i64 (xb + d), .int .i64 (xe + d), .int .i64 z] 56 (0, 0)) :=
  set_of (set_of (set_of (set_of (W := X.drew) HE2.out _) _) _) _
 exact bodyPost_ret (v := .agg #[.string S, .int .i64 (xb + d), .int .i64 (xe + d), .int .i64 z]) (results_cell_row Tryz.results54 _ _ (N0 + 1) _ _ _ _ rfl hz Tryz.underlying56 rfl Tryz.sizeM_moved3) rfl
  ⟨⟨_, _, _, _, rfl, by rw [HN0.out]; exact HFIN.out _, by simp [Value.oneCell']⟩, by rw [HN0.out]; exact ((((HBX.out.drew.setCell (Nat.le_succ _) _).setCell (Nat.le_succ _) _).setCell (Nat.le_succ _) _).setCell (Nat.le_succ _) _)⟩
end Go.Proofs.YtebmfkkkhmjkoaaGreat
