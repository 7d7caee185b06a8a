/-
  MEMORY: rows of the call's own whose elements read as a list; what depends on new blocks alone; append where there is room.
-/
import Derived.Test.YtglafkonpbcegaaGreatQdB
namespace Go.Proofs.YtglafkonpbcegaaGreat
open Go.RowKit Go.Shelf Go.Lib

abbrev Cs (sz : Nat) := {c : List Value // c.length = sz}
theorem cs_len {sz : Nat} (c : Cs sz) : c.1.length = sz := c.2
/-- The blocks from N on, as far as there are any, lie as they lay. -/
def Kept (N : Nat) (w w' : World) : Prop := w.heap.size ≤ w'.heap.size ∧ ∀ k, N ≤ k → k < w.heap.size → w'.heap[k]? = w.heap[k]?
theorem Kept.refl (N : Nat) (w : World) : Kept N w w := ⟨Nat.le_refl _, fun _ _ _ => rfl⟩
theorem Kept.trans {N : Nat} {w w1 w2 : World} (h : Kept N w w1) (k : Kept N w1 w2) : Kept N w w2 :=
  ⟨Nat.le_trans h.1 k.1, fun j h1 h2 => (k.2 j h1 (Nat.lt_of_lt_of_le h2 h.1)).trans (h.2 j h1 h2)⟩
theorem Kept.mono {N M : Nat} {w w' : World} (h : Kept N w w') (hm : N ≤ M) : Kept M w w' := ⟨h.1, fun k h1 h2 => h.2 k (Nat.le_trans hm h1) h2⟩
theorem kept_below {w w' : World} (N : Nat) (h : Below w.heap.size w w') : Kept N w w' := ⟨h.size, fun k _ h2 => h.block k h2⟩
/-- A reading that depends on blocks from N on alone. -/
def Fresh {β : Type} (N : Nat) (E : World → List Value → β → Prop) (w : World) (cs : List Value) (y : β) : Prop := ∀ w', Kept N w w' → E w' cs y
theorem Fresh.kept {β : Type} {N : Nat} {E : World → List Value → β → Prop} {w w' : World} {cs : List Value} {y : β} (h : Fresh N E w cs y) (k : Kept N w w') : Fresh N E w' cs y := fun w2 k2 => h w2 (k.trans k2)
theorem Fresh.here {β : Type} {N : Nat} {E : World → List Value → β → Prop} {w : World} {cs : List Value} {y : β} (h : Fresh N E w cs y) : E w cs y := h w (Kept.refl _ _)
theorem Fresh.mono {β : Type} {N M : Nat} {E : World → List Value → β → Prop} {w : World} {cs : List Value} {y : β} (h : Fresh M E w cs y) (hm : N ≤ M) : Fresh N E w cs y := fun w' k => h w' (k.mono hm)
theorem fresh_flat {β : Type} {E : World → List Value → β → Prop} {cs : List Value} {y : β} (N : Nat) (w : World) (h : ∀ w, E w cs y) : Fresh N E w cs y := fun w' _ => h w'
def RowsF {β : Type} (N : Nat) (sz : Nat) (E : World → List Value → β → Prop) (w : World) (v : Value) (ys : List β) : Prop := ∀ w', Kept N w w' → Rows sz E w' v ys
theorem RowsF.here {β : Type} {N sz : Nat} {E : World → List Value → β → Prop} {w : World} {v : Value} {ys : List β} (h : RowsF N sz E w v ys) : Rows sz E w v ys := h w (Kept.refl _ _)
theorem RowsF.kept {β : Type} {N sz : Nat} {E : World → List Value → β → Prop} {w w' : World} {v : Value} {ys : List β} (h : RowsF N sz E w v ys) (k : Kept N w w') : RowsF N sz E w' v ys := fun w2 k2 => h w2 (k.trans k2)
theorem RowsF.mono {β : Type} {N M sz : Nat} {E : World → List Value → β → Prop} {w : World} {v : Value} {ys : List β} (h : RowsF M sz E w v ys) (hm : N ≤ M) : RowsF N sz E w v ys := fun w' k => h w' (k.mono hm)
/-- A row of the call's own whose elements read as ys; all lies in blocks from base on. -/
def OwnF {β : Type} (base : Nat) (T : TypeId) (sz : Nat) (E : World → List Value → β → Prop) (w : World) (v : Value) (ys : List β) : Prop :=
  ∃ css : List (Cs sz), css.length = ys.length ∧ w.ownsRow base T sz v ys.length (css.flatMap fun c => c.1) ∧ ∀ (j : Nat) (y : β) (c : Cs sz), ys[j]? = some y → css[j]? = some c → Fresh base E w c.1 y
theorem OwnF.kept {β : Type} {base : Nat} {T : TypeId} {sz : Nat} {E : World → List Value → β → Prop} {w w' : World} {v : Value} {ys : List β} (h : OwnF base T sz E w v ys) (k : Kept base w w') : OwnF base T sz E w' v ys := by
  obtain ⟨css, hl, ho, hE⟩ := h
  exact ⟨css, hl, own_below ho (fun j hj => k.2 j (own_low ho j hj).1 (own_low ho j hj).2), fun j y c h1 h2 => (hE j y c h1 h2).kept k⟩
theorem OwnF.rows {β : Type} {base : Nat} {T : TypeId} {sz : Nat} {E : World → List Value → β → Prop} {w : World} {v : Value} {ys : List β} (h : OwnF base T sz E w v ys) : Rows sz E w v ys := by
  obtain ⟨css, hl, ho, hE⟩ := h
  rw [← hl] at ho
  obtain ⟨A, cap, hv, hc, hr⟩ := rows_of_own (enc := fun c : Cs sz => c.1) cs_len ho
  rw [hl] at hv hc hr
  refine ⟨A, cap, hv, hc, fun h0 => ?_⟩
  obtain ⟨b, off, hA, hb, hj⟩ := hr h0
  refine ⟨b, off, hA, hb, fun j y hy => ?_⟩
  have hjl : j < css.length := by rw [hl]; exact (List.getElem?_eq_some_iff.1 hy).1
  obtain ⟨cs, h1, h2, h3⟩ := hj j css[j] (List.getElem?_eq_getElem hjl)
  exact ⟨cs, h1, by rw [h2]; exact (hE j y _ hy (List.getElem?_eq_getElem hjl)).here, h3⟩
theorem OwnF.rowsF {β : Type} {base : Nat} {T : TypeId} {sz : Nat} {E : World → List Value → β → Prop} {w : World} {v : Value} {ys : List β} (h : OwnF base T sz E w v ys) : RowsF base sz E w v ys := fun _ k => (h.kept k).rows
theorem own_enc {β : Type} {base : Nat} {T : TypeId} {sz : Nat} {E : World → List Value → β → Prop} {enc : β → List Value} (he : ∀ x, (enc x).length = sz) (hE : ∀ w x, E w (enc x) x) {w : World} {v : Value} {ys : List β} (h : w.ownsRow base T sz v ys.length (ys.flatMap enc)) : OwnF base T sz E w v ys := by
  refine ⟨ys.map fun x => ⟨enc x, he x⟩, by simp, ?_, fun j y c h1 h2 => ?_⟩
  · rw [List.flatMap_map]
    exact h
  · rw [List.getElem?_map, h1] at h2
    cases h2
    exact fun w' _ => hE w' y
/-- A row in block g with room for n elements, of which those of ys are there. -/
def ChgAt {β : Type} (g : Nat) (T : TypeId) (sz n : Nat) (E : World → List Value → β → Prop) (w : World) (ys : List β) : Prop :=
  ∃ (css : List (Cs sz)) (cur : Array Value), css.length = ys.length ∧ w.heap[g]? = some (.cells cur T (0, 0)) ∧ cur.size = n * sz ∧ cur.toList.take (ys.length * sz) = (css.flatMap fun c => c.1) ∧ ∀ (j : Nat) (y : β) (c : Cs sz), ys[j]? = some y → css[j]? = some c → Fresh (g + 1) E w c.1 y
theorem ChgAt.kept {β : Type} {g : Nat} {T : TypeId} {sz n : Nat} {E : World → List Value → β → Prop} {w w' : World} {ys : List β} (h : ChgAt g T sz n E w ys) (k : Kept g w w') : ChgAt g T sz n E w' ys := by
  obtain ⟨css, cur, hl, hg, hs, ht, hE⟩ := h
  exact ⟨css, cur, hl, (k.2 g (Nat.le_refl _) (Array.getElem?_eq_some_iff.1 hg).1).trans hg, hs, ht, fun j y c h1 h2 => (hE j y c h1 h2).kept (k.mono (Nat.le_succ _))⟩
theorem ChgAt.own {β : Type} {g : Nat} {T : TypeId} {sz n : Nat} {E : World → List Value → β → Prop} {w : World} {ys : List β} (h : ChgAt g T sz n E w ys) (hn : ys.length ≤ n) (hm : n ≤ maxLen) : OwnF g T sz E w (.slice (some ⟨g, 0, none⟩) ys.length n) ys := by
  obtain ⟨css, cur, hl, hg, hs, ht, hE⟩ := h
  refine ⟨css, hl, ⟨?_, .inr ⟨g, n, cur, rfl, Nat.le_refl _, hg, hn, hm, hs, ht⟩⟩, fun j y c h1 h2 => (hE j y c h1 h2).mono (Nat.le_succ _)⟩
  rw [flatM_len (enc := fun c : Cs sz => c.1) cs_len, hl]
theorem chg_new {β : Type} {T : TypeId} {sz n : Nat} {E : World → List Value → β → Prop} (w : World) (cur : Array Value) (hs : cur.size = n * sz) : ChgAt w.heap.size T sz n E (w.alloc (.cells cur T)) ([] : List β) :=
  ⟨[], cur, rfl, block_new w _, hs, by simp, fun j y c h => by simp at h⟩
theorem wpList_chg {β : Type} {sl T : TypeId} {sz : Nat} {z : Value} {bytes : Nat} (hu : Tryz.prog.underlying sl = some (.slice T)) (hinfo : (Tryz.prog.info? T).map (fun i => (i.zero, i.size, i.bytes)) = some (some z, sz, bytes))
    {w : World} {ops : Array Oper} {rest : List Oper} {o : Oper} {a : Act} {Q : Exit → Act → World → Prop} (hgd : o.guard = none) (s x : Operand) (ho : o.op = .call { callee := .builtin .append, args := #[s, x], argTypes := #[sl, sl] })
    (g n k : Nat) (E : World → List Value → β → Prop) (ys : List β) (y : β) (c : List Value) (hc : c.length = sz) (h1 : ∀ u ∈ c, u.oneCell' = true) (hk : ys.length = k)
    (hs : a.eval s = .slice (some ⟨g, 0, none⟩) k n) (hx : a.eval x = .slice (some ⟨w.heap.size, 0, none⟩) 1 1)
    (hchg : ChgAt g T sz n E w ys) (hy : Fresh (g + 1) E w c y) (hn : k < n)
    (h : ∀ w', Hid (ChgAt g T sz n E w' (ys ++ [y])) → Hid (∀ B W, Below B W w → B ≤ g → Below B W w') → wpList Tryz.prog ops Q rest (a.put o.dst (.slice (some ⟨g, 0, none⟩) (k + 1) n)) w') :
    wpList Tryz.prog ops Q (o :: rest) a (w.alloc (.cells c.toArray T)) := by
  subst hk
  obtain ⟨i0, hi, hz0, hz1, hz2⟩ := info_parts' hinfo
  obtain ⟨css, cur, hl, hg, hsz, ht, hE⟩ := hchg
  have hg1 : (w.alloc (.cells c.toArray T)).heap[g]? = some (.cells cur T (0, 0)) := block_alloc _ hg
  have hgl : g < w.heap.size := (Array.getElem?_eq_some_iff.1 hg).1
  have hroom : (ys.length + 1) * sz ≤ n * sz := Nat.mul_le_mul_right _ hn
  rw [Nat.add_mul, Nat.one_mul] at hroom
  have hr := fun ty => run_append_room (P := Tryz.prog) (w.alloc (.cells c.toArray T)) sl ty T i0 hu hi g ys.length n cur hg1 ⟨w.heap.size, 0, none⟩ 1 1 c (by rw [hz1, hc, Nat.one_mul]) (news_at w c T) h1 hn (by rw [hz1, hc, hsz]; exact hroom)
  refine wpList_plain hgd fun K hK => ?_
  unfold Oper.wp execOp
  simp only [ho, resolve, invoke, builtin, Sem.run_bind, Sem.run_pure, Result.andThen_ok, List.map_toArray, List.map_cons, List.map_nil, hs, hx, hr]
  refine hK _ _ (h _ (Lib.hid ?_) (Lib.hid fun B W hb hB => ?_))
  · have hk : Kept (g + 1) w ((w.alloc (.cells c.toArray T)).setRow g (cur.toList.take (ys.length * i0.size) ++ c ++ cur.toList.drop (ys.length * i0.size + c.length)).toArray) := by
      refine ⟨by rw [setRow_size]; simp, fun k h1 h2 => ?_⟩
      rw [setRow_other _ _ _ _ (by omega)]
      exact heap_alloc_old w _ h2
    refine ⟨css ++ [⟨c, hc⟩], _, by simp [hl], setRow_heap _ g cur _ T _ hg1, ?_, ?_, fun j y' c' h2 h3 => ?_⟩
    · simp only [List.size_toArray, List.length_append, List.length_take, List.length_drop, Array.length_toList, hz1, hc, hsz]
      omega
    · rw [hz1, ht, List.length_append, List.length_singleton, Nat.add_mul, Nat.one_mul, List.flatMap_append]
      have hlen : (css.flatMap fun c => c.1).length = ys.length * sz := by rw [flatM_len (enc := fun c : Cs sz => c.1) cs_len, hl]
      simp only [List.flatMap_cons, List.flatMap_nil, List.append_nil]
      rw [show ys.length * sz + sz = ((css.flatMap fun c => c.1) ++ c).length by rw [List.length_append, hlen, hc]]
      exact List.take_left
    · by_cases hj : j < ys.length
      · rw [List.getElem?_append_left hj] at h2
        rw [List.getElem?_append_left (by omega)] at h3
        exact (hE j y' c' h2 h3).kept hk
      · have hjl : j < (ys ++ [y]).length := (List.getElem?_eq_some_iff.1 h2).1
        have hje : j = ys.length := by simp at hjl; omega
        subst hje
        rw [List.getElem?_append_right (Nat.le_refl _)] at h2
        rw [← hl, List.getElem?_append_right (Nat.le_refl _)] at h3
        simp at h2 h3
        subst h2 h3
        exact hy.kept hk
  · refine ⟨hb.os, hb.tape, hb.output, ?_, fun k hk => ?_⟩
    · rw [setRow_size]
      have := hb.size
      simp
      omega
    · rw [setRow_other _ _ _ _ (by omega), heap_alloc_old w _ (by omega)]
      exact hb.block k hk
end Go.Proofs.YtglafkonpbcegaaGreat
