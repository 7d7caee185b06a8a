/-
  WALKS over package depend, seventh part: all lines of a text.
-/
import Derived.Test.YtmjmidgfdjcbfaaGreatDoorDzB
import Derived.Test.YtmjmidgfdjcbfaaGreatDoorRnd
import Derived.RegionTactic
namespace Go.Proofs.YtmjmidgfdjcbfaaGreatDoor.Dep
open Go Go.RowKit Go.Shelf Go.Lib
set_option linter.unusedVariables false
attribute [local go_sem] Oper.semAt_some

theorem step_push1 {w : World} {ops : Array Oper} {o : Oper} {a : Act} {K : Act → World → Prop} {Q : Exit → Act → World → Prop} {E : Prop} (hgd : o.guard = none) (s x : Operand) (TS e : TypeId) (i : TypeInfo) (z : Value) (bytes : Nat)
    (ho : o.op = .call { callee := .builtin .append, args := #[s, x], argTypes := #[TS, TS] })
    (ht : Tryz.prog.underlying TS = some (.slice e)) (hi : Tryz.prog.info? e = some i) (hz : i.zero = some z) (hz1 : i.size = 1) (hz2 : i.bytes = bytes) (hzs : z.cells.size = 1) (hb16 : bytes ≤ 16)
    (base : Nat) (v : Value) (n : Nat) (l : List Value) (p : Value) (hp : p.oneCell' = true) (hs : a.eval s = v) (hx : a.eval x = .slice (some ⟨w.heap.size, 0, none⟩) 1 1)
    (hown : w.ownsRow base e 1 v n l) (hn : n ≤ 1000000) (hbase : base ≤ w.heap.size)
    (h : ∀ v' w', Hid (w'.ownsRow base e 1 v' (n + 1) (l ++ [p])) → Hid (w.grownBy w' v.ownBlock) → Hid (v'.ownBlock = v.ownBlock ∨ ∃ k, v'.ownBlock = some k ∧ w.heap.size ≤ k) → K (a.put o.dst v') w') :
    if Region.wanted o (yielded ops a.tmps) = true then Oper.wp Tryz.prog o a (w.alloc (.cells #[p] e)) K Q else E := by
  have hw : Region.wanted o (yielded ops a.tmps) = true := by simp [Region.wanted, hgd]
  rw [if_pos hw]
  obtain ⟨v', w', hr, h1, h2, _, h3⟩ := run_append_own_at (P := Tryz.prog) (w.alloc (.cells #[p] e)) base TS o.type e i z 1 bytes ht hi hz hz1 hz2 hzs (by decide) v n l (hown.alloc _) ⟨w.heap.size, 0, none⟩ 1 1 [p] rfl (news_at w [p] e) (by simp [hp]) (by unfold maxLen; omega) (by have := Nat.mul_le_mul_left (n + 1) hb16; omega) (by simp; omega)
  unfold Oper.wp execOp
  simp only [ho, resolve, invoke, builtin, Sem.run_bind, Sem.run_pure, Result.andThen_ok, List.map_toArray, List.map_cons, List.map_nil, hs, hx, hr]
  refine h v' w' (Lib.hid h1) (Lib.hid (grown_trans ((World.grownBy_alloc w _ _)) h2)) (Lib.hid ?_)
  rcases h3 with h3 | h3
  · exact .inl h3
  · exact .inr ⟨_, h3, by simp⟩

/-! All lines, one behind the other. -/
def trimNL (l : Bs) : Bs := trimSuffix l [10]
structure Rst where
  err : Option (Int × Int)
  off : Nat
  bs : List Nat
  hs : List Int
  rs : Fs
def stepL (T : Nat) (s : Rst) (l : Bs) : Rst := match s.err with
  | some e => s
  | none => if (lineR T s.hs.length (trimNL l)).2.1 = 0 then ⟨none, s.off + l.length, s.bs ++ [s.off], s.hs ++ [(lineR T s.hs.length (trimNL l)).2.2.1], s.rs ++ [(lineR T s.hs.length (trimNL l)).2.2.2]⟩
      else { s with err := some ((s.off : Int) + (lineR T s.hs.length (trimNL l)).1, (lineR T s.hs.length (trimNL l)).2.1) }
def rd (T : Nat) (pre : List Bs) : Rst := pre.foldl (stepL T) ⟨none, 0, [], [], []⟩
theorem rd_snoc (T : Nat) (pre : List Bs) (x : Bs) : rd T (pre ++ [x]) = stepL T (rd T pre) x := by simp [rd]
theorem rd_stuck (T : Nat) (pre : List Bs) {e : Int × Int} (h : (rd T pre).err = some e) : ∀ ys, rd T (pre ++ ys) = rd T pre := by
  intro ys
  have : ∀ (ys : List Bs) (s : Rst), s.err = some e → ys.foldl (stepL T) s = s := by
    intro ys
    induction ys with
    | nil => intro s _; rfl
    | cons y ys ih =>
      intro s hs
      rw [List.foldl_cons]
      have : stepL T s y = s := by unfold stepL; rw [hs]
      rw [this]
      exact ih s hs
  unfold rd at h ⊢
  rw [List.foldl_append]
  exact this ys _ h
structure Rok (T : Nat) (pre : List Bs) (s : Rst) : Prop where
  len : s.hs.length = pre.length
  lr : s.rs.length = pre.length
  lb : s.bs.length = pre.length
  le : s.hs.length ≤ T
  off : s.off = pre.flatten.length
  ob : ∀ b ∈ s.bs, b ≤ s.off
theorem lineR_full {T k : Nat} {l : Bs} (h : (lineR T k l).2.1 = 0) : k ≠ T := by
  intro e
  unfold lineR at h
  rw [if_pos e] at h
  cases h
theorem rd_ok (T : Nat) (pre : List Bs) : (rd T pre).err = none → Rok T pre (rd T pre) := by
  induction hn : pre.length generalizing pre with
  | zero =>
    intro _
    have := List.length_eq_zero_iff.1 hn
    subst this
    exact ⟨rfl, rfl, rfl, Nat.zero_le _, rfl, fun b hb => by cases hb⟩
  | succ n ih =>
    rcases List.eq_nil_or_concat pre with rfl | ⟨q, x, rfl⟩
    · simp at hn
    · rw [List.concat_eq_append] at hn ⊢
      rw [rd_snoc]
      intro he
      have hq : (rd T q).err = none := by
        cases h : (rd T q).err with
        | none => rfl
        | some e =>
          unfold stepL at he
          rw [h] at he
          simp only at he
          rw [h] at he
          cases he
      have hR := ih q (by simp at hn; omega) hq
      unfold stepL at he ⊢
      rw [hq] at he ⊢
      simp only at he ⊢
      by_cases hz : (lineR T (rd T q).hs.length (trimNL x)).2.1 = 0
      · rw [if_pos hz]
        have hf := lineR_full hz
        refine ⟨?_, ?_, ?_, ?_, ?_, ?_⟩
        · simp [hR.len]
        · simp [hR.lr]
        · simp [hR.lb]
        · simp only [List.length_append, List.length_cons, List.length_nil]
          have := hR.le
          omega
        · simp [hR.off]
        · intro b hb
          simp only [List.mem_append, List.mem_singleton] at hb
          rcases hb with hb | rfl
          · have := hR.ob b hb
            simp only
            omega
          · simp
      · rw [if_neg hz] at he
        cases he
theorem linF_flat : ∀ (f : Nat) (s : Bs), s.length ≤ f → (linF f s).flatten = s
  | 0, s, h => by
    have : s = [] := List.length_eq_zero_iff.1 (by omega)
    subst this
    rfl
  | f + 1, s, h => by
    by_cases hs : s = []
    · subst hs; rw [linF_nil]; rfl
    · by_cases hi : indexByte s 10 = -1
      · rw [linF_last hs hi]; simp
      · have hge := indexByte_ge s 10
        obtain ⟨i, e⟩ : ∃ i : Nat, indexByte s 10 = (i : Int) := ⟨(indexByte s 10).toNat, by omega⟩
        have hl := indexByte_lt e
        rw [linF_next hs e, List.flatten_cons, linF_flat f (s.drop (i + 1)) (by rw [List.length_drop]; omega), List.take_append_drop]
theorem lines_flat (s : Bs) : (linesL s).flatten = s := linF_flat _ s (Nat.le_refl _)
/-- What reading a text answers: offset and error. -/
def textE (T : Nat) (s : Bs) : Int × Int := match (rd T (linesL s)).err with
  | some e => e
  | none => if (rd T (linesL s)).hs.length < T then ((s.length : Int), 15)
      else if (checkH (rd T (linesL s)).hs).2 = 0 then (0, 0)
      else (((rd T (linesL s)).bs.getD (checkH (rd T (linesL s)).hs).1.toNat 0 : Nat), (checkH (rd T (linesL s)).hs).2)

/-- Between two lines. -/
def TxI (T R : Nat) (w : World) (pre : List Bs) (W : World) : Prop :=
  (rd T pre).err = none ∧ RdAt W R (w.heap.size + 5) T (rd T pre).bs (rd T pre).hs (rd T pre).rs ∧ Below 0 w W ∧ (∀ k, k < w.heap.size → k ≠ R → W.heap[k]? = w.heap[k]?) ∧
  W.heap[w.heap.size]? = some (.cells #[.pointer (some ⟨R, 0, none⟩)] 119 (0, 0)) ∧ W.heap[w.heap.size + 1]? = some (.cells #[.int .i64 0] 3 (0, 0)) ∧ W.heap[w.heap.size + 2]? = some (.cells #[.int .i64 0] 36 (0, 0)) ∧
  W.heap[w.heap.size + 3]? = some (.cells #[.int .i64 ((rd T pre).off : Int)] 3 (0, 0))
/-- A line was wrong. -/
def TxX (T R : Nat) (w : World) (c : Code) (pre : List Bs) (W : World) : Prop :=
  (∃ e1 e2 : Int, (rd T pre).err = some (e1, e2) ∧ c = .ret ∧ W.heap[w.heap.size + 1]? = some (.cells #[.int .i64 e1] 3 (0, 0)) ∧ W.heap[w.heap.size + 2]? = some (.cells #[.int .i64 e2] 36 (0, 0))) ∧ Below 0 w W ∧ (∀ k, k < w.heap.size → k ≠ R → W.heap[k]? = w.heap[k]?)
theorem same_row {B Bv : Nat} {W W' : World} {row : Option Nat} (hg : W.grownBy W' row) (hr : ∀ r, row = some r → r = Bv ∨ (B ≤ r ∧ ∃ o : Obj, W.heap[r]? = some o ∧ o.isCells = false)) {k : Nat} {cs : Array Value} {t : TypeId} {f : Nat × Nat} (h : W.heap[k]? = some (.cells cs t f)) (hne : k ≠ Bv) : W'.heap[k]? = W.heap[k]? :=
  hg.block k (Array.getElem?_eq_some_iff.1 h).1 (fun e => by
    rcases hr k e.symm with h1 | ⟨_, o, h1, h2⟩
    · exact hne h1
    · rw [h] at h1; cases h1; cases h2)
theorem low_row {B Bv N : Nat} {W W' : World} {row : Option Nat} (hg : W.grownBy W' row) (hr : ∀ r, row = some r → r = Bv ∨ (B ≤ r ∧ ∃ o : Obj, W.heap[r]? = some o ∧ o.isCells = false)) (hN : N ≤ Bv) (hB : N ≤ B) {k : Nat} (hk : k < N) (hW : N ≤ W.heap.size) : W'.heap[k]? = W.heap[k]? :=
  hg.block k (by omega) (fun e => by
    rcases hr k e.symm with h1 | ⟨h1, _⟩ <;> omega)
theorem RdAt.kept {W W' : World} {R base T Bv B : Nat} {bs : List Nat} {hs : List Int} {rs : Fs} {row : Option Nat} (h : RdAt W R base T bs hs rs) (hg : W.grownBy W' row) (hr : ∀ r, row = some r → r = Bv ∨ (B ≤ r ∧ ∃ o : Obj, W.heap[r]? = some o ∧ o.isCells = false)) (hBv : Bv < base) (hR : R ≠ Bv) : RdAt W' R base T bs hs rs := by
  obtain ⟨⟨vb, vh, vr, hblk, ob, oh, orr, hd⟩, hlt, hle⟩ := h
  have key : ∀ {e : TypeId} {n : Nat} {v : Value} {xs : List Value}, W.ownsRow base e 1 v n xs → W'.ownsRow base e 1 v n xs := fun {e n v xs} ho => own_below ho fun k hk => by
    obtain ⟨q1, cs, q2⟩ := own_cells ho k hk
    exact same_row hg hr q2 (by omega)
  exact ⟨⟨vb, vh, vr, (same_row hg hr hblk hR).trans hblk, key ob, key oh, key orr, hd⟩, hlt, Nat.le_trans hle hg.size⟩
theorem txI_own (T R : Nat) (w : World) (hR : R < w.heap.size) (M : Nat) (hM : w.heap.size ≤ M) : OwnV M (w.heap.size + 4) (TxI T R w) := by
  rintro pre W W' row ⟨h1, h2, h3, h4, h5, h6, h7, h8⟩ hg hr
  have hb : Below 0 W W' := ⟨hg.os, hg.tape, hg.output, hg.size, fun k hk => absurd hk (by omega)⟩
  exact ⟨h1, h2.kept hg hr (by omega) (by omega), h3.trans hb, fun k hk hk2 => (low_row hg hr (N := w.heap.size) (by omega) hM hk h3.size).trans (h4 k hk hk2),
    (same_row hg hr h5 (by omega)).trans h5, (same_row hg hr h6 (by omega)).trans h6, (same_row hg hr h7 (by omega)).trans h7, (same_row hg hr h8 (by omega)).trans h8⟩
theorem txX_own (T R : Nat) (w : World) (M : Nat) (hM : w.heap.size ≤ M) (c : Code) : OwnV M (w.heap.size + 4) (TxX T R w c) := by
  rintro pre W W' row ⟨⟨e1, e2, h1, h2, h3, h4⟩, h5, h6⟩ hg hr
  have hb : Below 0 W W' := ⟨hg.os, hg.tape, hg.output, hg.size, fun k hk => absurd hk (by omega)⟩
  exact ⟨⟨e1, e2, h1, h2, (same_row hg hr h3 (by omega)).trans h3, (same_row hg hr h4 (by omega)).trans h4⟩, h5.trans hb, fun k hk hk2 => (low_row hg hr (N := w.heap.size) (by omega) hM hk h5.size).trans (h6 k hk hk2)⟩
end Go.Proofs.YtmjmidgfdjcbfaaGreatDoor.Dep
