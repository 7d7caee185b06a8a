/-
 WALKS over package corpus: moved.
-/
import Derived.Test.YtebmfkkkhmjkoaaGreatQeZ
namespace Go.Proofs.YtebmfkkkhmjkoaaGreat
open Go.RowKit Go.Shelf Go.Lib
attribute [local go_sem ↓] Go.wp_at_zero Go.wp_at_succ
set_option linter.unusedVariables false

/-- The seven lists of a corpus, of the call's own. -/
structure CorF (base : Nat) (w : World) (s : Sv) (c : Cor) : Prop where
 a : OwnF base 61 2 EAttr w s.va c.attrs
 t : OwnF base 28 1 ETok w s.vt c.toks
 x : OwnF base 51 4 EEx w s.vx c.texts
 r : OwnF base 54 4 EEx w s.vr c.regs
 n : OwnF base 56 4 ENd w s.vn c.nodes
 h : OwnF base 3 1 EInt w s.vh c.heads
 l : OwnF base 9 1 EStr w s.vl c.rels
theorem CorF.at' {base : Nat} {w : World} {s : Sv} {c : Cor} (h : CorF base w s c) : CorAt w s c := ⟨h.a.rows, h.t.rows, h.x.rows, h.r.rows, h.n.rows, h.h.rows, h.l.rows⟩
theorem CorF.kept {base : Nat} {w w' : World} {s : Sv} {c : Cor} (h : CorF base w s c) (k : Kept base w w') : CorF base w' s c := ⟨h.a.kept k, h.t.kept k, h.x.kept k, h.r.kept k, h.n.kept k, h.h.kept k, h.l.kept k⟩
theorem OwnF.mono {β : Type} {base base' : Nat} {T : TypeId} {sz : Nat} {E : World → List Value → β → Prop} {w : World} {v : Value} {ys : List β} (h : OwnF base' T sz E w v ys) (hm : base ≤ base') : OwnF base T sz E w v ys := by
 obtain ⟨css, hl, ho, hE⟩ := h
 refine ⟨css, hl, ⟨ho.1, ?_⟩, fun j y c h1 h2 => (hE j y c h1 h2).mono hm⟩
 rcases ho.2 with h | ⟨g, cap, cur, hv, hb, hr⟩
 · exact .inl h
 exact .inr ⟨g, cap, cur, hv, Nat.le_trans hm hb, hr⟩
/-- Lists without spare room. -/
def Full (v : Value) : Prop := ∃ A n, v = .slice A n n
structure FullC (s : Sv) : Prop where
 t : Full s.vt
 x : Full s.vx
 r : Full s.vr
 n : Full s.vn
 h : Full s.vh
structure MidC (c : Cor) : Prop where
 a : c.attrs.length ≤ 100000
 t : c.toks.length ≤ 100000 ∧ ∀ t ∈ c.toks, t.length ≤ 100000
 x : c.texts.length ≤ 100000 ∧ ∀ x ∈ c.texts, Mid x.b ∧ Mid x.e ∧ x.ps.length ≤ 100000
 r : c.regs.length ≤ 100000 ∧ ∀ x ∈ c.regs, Mid x.b ∧ Mid x.e ∧ x.ps.length ≤ 100000
 n : c.nodes.length ≤ 100000 ∧ ∀ x ∈ c.nodes, Mid x.b ∧ Mid x.e ∧ Mid x.parent
 h : c.heads.length ≤ 100000 ∧ ∀ x ∈ c.heads, Mid x
 l : c.rels.length ≤ 100000
def mvC (d m : Int) (c : Cor) : Cor := ⟨c.attrs, c.toks, c.texts.map (mvEx d), c.regs.map (mvEx d), c.nodes.map (mvNd d m), c.heads.map (incZ d), c.rels⟩
theorem one_ex (W : World) (cs : List Value) (x : Ex) (h : EEx W cs x) : ∀ u ∈ cs, u.oneCell' = true := by
 obtain ⟨v, rfl, hr⟩ := h
 obtain ⟨A, c, rfl, -⟩ := hr.form
 simp [Value.oneCell']
theorem one_tok (W : World) (cs : List Value) (x : Fs) (h : ETok W cs x) : ∀ u ∈ cs, u.oneCell' = true := by
 obtain ⟨v, rfl, hr⟩ := h
 obtain ⟨A, c, rfl, -⟩ := hr.form
 simp [Value.oneCell']
theorem one_nd (W : World) (cs : List Value) (x : Nd) (h : ENd W cs x) : ∀ u ∈ cs, u.oneCell' = true := by
 rw [show cs = _ from h]
 simp [Value.oneCell']
theorem one_int (W : World) (cs : List Value) (x : Int) (h : EInt W cs x) : ∀ u ∈ cs, u.oneCell' = true := by
 rw [show cs = _ from h]
 simp [Value.oneCell']
theorem chg_tok {w : World} {v : Value} {xs : List Fs} (hv : Rows 1 ETok w v xs) (hl : xs.length ≤ 100000) (hm : ∀ t ∈ xs, t.length ≤ 100000) :
 Calls Tryz.prog 46 #[v, .func (.func 47) #[] #[]] w (ChV 28 1 ETok w xs) := by
 have h := changed_tok stays_tok one_tok (E' := ETok) hv hl 47 #[] (enters_of Tryz.func47 (by kernel_rfl) rfl) id (fun W t u0 hb ht hE => by
  obtain ⟨v1, h1, h2⟩ := hE
  cases h1
  refine (clone_str h2 (hm t ht)).mono ?_
  rintro e w' ⟨A, c, rfl, ho, hb'⟩
  exact ⟨⟨A, _, c, rfl, fun w2 k => ⟨_, rfl, ho.rowsF w2 k⟩, by simp [Value.oneCell']⟩, hb'⟩)
 rw [List.map_id] at h
 exact h
set_option maxRecDepth 100000 in
theorem chg_text {w : World} {v : Value} {xs : List Ex} (hv : Rows 4 EEx w v xs) (hl : xs.length ≤ 100000) (hm : ∀ x ∈ xs, Mid x.b ∧ Mid x.e ∧ x.ps.length ≤ 100000) (d : Int) (hd : Mid d) (P : Nat) (hP : P < w.heap.size) (hc : w.cell? ⟨P, 0, none⟩ = some (.int .i64 d)) :
 Calls Tryz.prog 48 #[v, .func (.func 49) #[] #[.pointer (some ⟨P, 0, none⟩)]] w (ChV 51 4 EEx w (xs.map (mvEx d))) :=
 changed_text stays_ex one_ex hv hl 49 #[.pointer (some ⟨P, 0, none⟩)] (enters_of Tryz.func49 (by kernel_rfl) rfl) (mvEx d) (fun W x u0 u1 u2 u3 hb hx hE => by
  obtain ⟨v1, h1, h2⟩ := hE
  cases h1
  exact moved1_any x _ d P W (hm x hx).1 (hm x hx).2.1 hd h2 (hm x hx).2.2 (Nat.lt_of_lt_of_le hP hb.size) ((hb.cell hP).trans hc))
set_option maxRecDepth 100000 in
theorem chg_reg {w : World} {v : Value} {xs : List Ex} (hv : Rows 4 EEx w v xs) (hl : xs.length ≤ 100000) (hm : ∀ x ∈ xs, Mid x.b ∧ Mid x.e ∧ x.ps.length ≤ 100000) (d : Int) (hd : Mid d) (P : Nat) (hP : P < w.heap.size) (hc : w.cell? ⟨P, 0, none⟩ = some (.int .i64 d)) :
 Calls Tryz.prog 51 #[v, .func (.func 52) #[] #[.pointer (some ⟨P, 0, none⟩)]] w (ChV 54 4 EEx w (xs.map (mvEx d))) :=
 changed_reg stays_ex one_ex hv hl 52 #[.pointer (some ⟨P, 0, none⟩)] (enters_of Tryz.func52 (by kernel_rfl) rfl) (mvEx d) (fun W x u0 u1 u2 u3 hb hx hE => by
  obtain ⟨v1, h1, h2⟩ := hE
  cases h1
  exact moved2_any x _ d P W (hm x hx).1 (hm x hx).2.1 hd h2 (hm x hx).2.2 (Nat.lt_of_lt_of_le hP hb.size) ((hb.cell hP).trans hc))
theorem chg_nd {w : World} {v : Value} {xs : List Nd} (hv : Rows 4 ENd w v xs) (hl : xs.length ≤ 100000) (hm : ∀ x ∈ xs, Mid x.b ∧ Mid x.e ∧ Mid x.parent) (d m : Int) (hd : Mid d) (hmm : Mid m) (P Q : Nat) (hP : P < w.heap.size) (hQ : Q < w.heap.size) (hc : w.cell? ⟨P, 0, none⟩ = some (.int .i64 d)) (hc2 : w.cell? ⟨Q, 0, none⟩ = some (.int .i64 m)) :
 Calls Tryz.prog 53 #[v, .func (.func 54) #[] #[.pointer (some ⟨P, 0, none⟩), .pointer (some ⟨Q, 0, none⟩)]] w (ChV 56 4 ENd w (xs.map (mvNd d m))) :=
 changed_nd stays_nd one_nd hv hl 54 #[.pointer (some ⟨P, 0, none⟩), .pointer (some ⟨Q, 0, none⟩)] (enters_of Tryz.func54 (by kernel_rfl) rfl) (mvNd d m) (fun W x u0 u1 u2 u3 hb hx hE => by
  have h1 : [u0, u1, u2, u3] = _ := hE
  cases h1
  exact moved3_any x d m P Q W (hm x hx).1 (hm x hx).2.1 (hm x hx).2.2 hd hmm (Nat.lt_of_lt_of_le hP hb.size) (Nat.lt_of_lt_of_le hQ hb.size) ((hb.cell hP).trans hc) ((hb.cell hQ).trans hc2))
theorem chg_int {w : World} {v : Value} {xs : List Int} (hv : Rows 1 EInt w v xs) (hl : xs.length ≤ 100000) (hm : ∀ x ∈ xs, Mid x) (d : Int) (hd : Mid d) (P : Nat) (hP : P < w.heap.size) (hc : w.cell? ⟨P, 0, none⟩ = some (.int .i64 d)) :
 Calls Tryz.prog 56 #[v, .func (.func 57) #[] #[.pointer (some ⟨P, 0, none⟩)]] w (ChV 3 1 EInt w (xs.map (incZ d))) :=
 changed_int stays_int one_int hv hl 57 #[.pointer (some ⟨P, 0, none⟩)] (enters_of Tryz.func57 (by kernel_rfl) rfl) (incZ d) (fun W x u0 hb hx hE => by
  have h1 : [u0] = _ := hE
  cases h1
  refine (moved4_any x d (hm x hx) hd P W ((hb.cell hP).trans hc)).mono ?_
  rintro e w' ⟨rfl, rfl⟩
  exact ⟨⟨_, rfl, fresh_flat _ _ fun _ => rfl, by simp [Value.oneCell']⟩, Below.refl _ _⟩)
/-- What moved answers. -/
def MvV (w : World) (c : Cor) (e : Ending) (w' : World) : Prop :=
 ∃ s' : Sv, e = .returned (.agg s'.arr) ∧ CorF w.heap.size w' s' c ∧ FullC s' ∧ Below w.heap.size w w'
theorem Tryz.sizeCor : (Tryz.prog.info? 30).map (·.size) = some 7 := by kernel_rfl

set_option maxRecDepth 1000000 in
set_option maxHeartbeats 16000000 in
theorem moved_any {w : World} (s : Sv) {c : Cor} (d m : Int) (hC : CorAt w s c) (hM : MidC c) (hd : Mid d) (hm : Mid m) :
 Calls Tryz.prog 20 #[.agg s.arr, .int .i64 d, .int .i64 m] w (MvV w (mvC d m c)) := by
 obtain ⟨A0, k0, h0, -⟩ := hC.a.form
 obtain ⟨A1, k1, h1, -⟩ := hC.t.form
 obtain ⟨A2, k2, h2, -⟩ := hC.x.form
 obtain ⟨A3, k3, h3, -⟩ := hC.r.form
 obtain ⟨A4, k4, h4, -⟩ := hC.n.form
 obtain ⟨A5, k5, h5, -⟩ := hC.h.form
 obtain ⟨A6, k6, h6, -⟩ := hC.l.form
 obtain ⟨va, vt, vx, vr, vn, vh, vl⟩ := s
 simp only at h0 h1 h2 h3 h4 h5 h6
 subst h0 h1 h2 h3 h4 h5 h6
 obtain ⟨n0, e0⟩ : ∃ n, c.attrs.length = n := ⟨_, rfl⟩
 obtain ⟨n1, e1⟩ : ∃ n, c.toks.length = n := ⟨_, rfl⟩
 obtain ⟨n2, e2⟩ : ∃ n, c.texts.length = n := ⟨_, rfl⟩
 obtain ⟨n3, e3⟩ : ∃ n, c.regs.length = n := ⟨_, rfl⟩
 obtain ⟨n4, e4⟩ : ∃ n, c.nodes.length = n := ⟨_, rfl⟩
 obtain ⟨n5, e5⟩ : ∃ n, c.heads.length = n := ⟨_, rfl⟩
 obtain ⟨n6, e6⟩ : ∃ n, c.rels.length = n := ⟨_, rfl⟩
 simp only [e0, e1, e2, e3, e4, e5, e6, Sv.arr] at hC ⊢
 obtain ⟨Y, hY⟩ : ∃ Y, ((w.alloc (.cells #[.slice A0 n0 k0, .slice A1 n1 k1, .slice A2 n2 k2, .slice A3 n3 k3, .slice A4 n4 k4, .slice A5 n5 k5, .slice A6 n6 k6] 30)).alloc (.cells #[.int .i64 d] 3)).alloc (.cells #[.int .i64 m] 3) = Y := ⟨_, rfl⟩
 obtain ⟨X, hX⟩ : ∃ X, Y.alloc (.cells #[.slice none 0 0, .slice none 0 0, .slice none 0 0, .slice none 0 0, .slice none 0 0, .slice none 0 0, .slice none 0 0] 30) = X := ⟨_, rfl⟩
 obtain ⟨N0, hN0⟩ : ∃ N0, w.heap.size = N0 := ⟨_, rfl⟩
 have hYs : Y.heap.size = N0 + 1 + 1 + 1 := by rw [← hY, ← hN0]; simp
 have hXs : X.heap.size = N0 + 1 + 1 + 1 + 1 := by rw [← hX, alloc_sz, hYs]
 have hbY : Below w.heap.size w Y := by rw [← hY]; exact ((below_box w _).trans ((below_box _ _).mono (by simp))).trans ((below_box _ _).mono (by simp; omega))
 have hbX : Below w.heap.size w X := by rw [← hX]; exact hbY.trans ((below_box Y _).mono hbY.size)
 have q1 : Y.heap[N0]? = some (.cells #[.slice A0 n0 k0, .slice A1 n1 k1, .slice A2 n2 k2, .slice A3 n3 k3, .slice A4 n4 k4, .slice A5 n5 k5, .slice A6 n6 k6] 30 (0, 0)) := by rw [← hY, ← hN0]; exact block_alloc _ (block_alloc _ (block_new w _))
 have q2 : Y.heap[N0 + 1]? = some (.cells #[.int .i64 d] 3 (0, 0)) := by
  have := block_new (w.alloc (.cells #[.slice A0 n0 k0, .slice A1 n1 k1, .slice A2 n2 k2, .slice A3 n3 k3, .slice A4 n4 k4, .slice A5 n5 k5, .slice A6 n6 k6] 30)) (.cells #[.int .i64 d] 3)
  rw [alloc_sz, hN0] at this
  rw [← hY]
  exact block_alloc _ this
 have q3 : Y.heap[N0 + 1 + 1]? = some (.cells #[.int .i64 m] 3 (0, 0)) := by
  have := block_new ((w.alloc (.cells #[.slice A0 n0 k0, .slice A1 n1 k1, .slice A2 n2 k2, .slice A3 n3 k3, .slice A4 n4 k4, .slice A5 n5 k5, .slice A6 n6 k6] 30)).alloc (.cells #[.int .i64 d] 3)) (.cells #[.int .i64 m] 3)
  rw [alloc_sz, alloc_sz, hN0] at this
  rw [← hY]
  exact this
 have r1 : X.heap[N0]? = some (.cells #[.slice A0 n0 k0, .slice A1 n1 k1, .slice A2 n2 k2, .slice A3 n3 k3, .slice A4 n4 k4, .slice A5 n5 k5, .slice A6 n6 k6] 30 (0, 0)) := by rw [← hX]; exact block_alloc _ q1
 have r2 : X.heap[N0 + 1]? = some (.cells #[.int .i64 d] 3 (0, 0)) := by rw [← hX]; exact block_alloc _ q2
 have r3 : X.heap[N0 + 1 + 1]? = some (.cells #[.int .i64 m] 3 (0, 0)) := by rw [← hX]; exact block_alloc _ q3
 have r4 : X.heap[N0 + 1 + 1 + 1]? = some (.cells #[.slice none 0 0, .slice none 0 0, .slice none 0 0, .slice none 0 0, .slice none 0 0, .slice none 0 0, .slice none 0 0] 30 (0, 0)) := by
  have := block_new Y (.cells #[.slice none 0 0, .slice none 0 0, .slice none 0 0, .slice none 0 0, .slice none 0 0, .slice none 0 0, .slice none 0 0] 30)
  rw [hYs] at this
  rw [← hX]
  exact this
 have hPc : ∀ W, Below X.heap.size X W → W.cell? ⟨N0 + 1, 0, none⟩ = some (.int .i64 d) := fun W h => (h.cell (p := ⟨N0 + 1, 0, none⟩) (by show N0 + 1 < X.heap.size; omega)).trans (cell_of r2 rfl)
 have hQc : ∀ W, Below X.heap.size X W → W.cell? ⟨N0 + 1 + 1, 0, none⟩ = some (.int .i64 m) := fun W h => (h.cell (p := ⟨N0 + 1 + 1, 0, none⟩) (by show N0 + 1 + 1 < X.heap.size; omega)).trans (cell_of r3 rfl)
 have hPl : ∀ W, Below X.heap.size X W → N0 + 1 < W.heap.size ∧ N0 + 1 + 1 < W.heap.size := fun W h => ⟨by have := h.size; omega, by have := h.size; omega⟩
 have hCW : ∀ W, Below X.heap.size X W → CorAt W ⟨.slice A0 n0 k0, .slice A1 n1 k1, .slice A2 n2 k2, .slice A3 n3 k3, .slice A4 n4 k4, .slice A5 n5 k5, .slice A6 n6 k6⟩ c := fun W h => hC.below (hbX.trans (h.mono hbX.size))
 have H1 := Lib.hid (fun W (h : Below X.heap.size X W) => clone_attr (hCW W h).a hM.a)
 have H2 := Lib.hid (fun W (h : Below X.heap.size X W) => chg_tok (hCW W h).t hM.t.1 hM.t.2)
 have H3 := Lib.hid (fun W (h : Below X.heap.size X W) => chg_text (hCW W h).x hM.x.1 hM.x.2 d hd (N0 + 1) (hPl W h).1 (hPc W h))
 have H4 := Lib.hid (fun W (h : Below X.heap.size X W) => chg_reg (hCW W h).r hM.r.1 hM.r.2 d hd (N0 + 1) (hPl W h).1 (hPc W h))
 have H5 := Lib.hid (fun W (h : Below X.heap.size X W) => chg_nd (hCW W h).n hM.n.1 hM.n.2 d m hd hm (N0 + 1) (N0 + 1 + 1) (hPl W h).1 (hPl W h).2 (hPc W h) (hQc W h))
 have H6 := Lib.hid (fun W (h : Below X.heap.size X W) => chg_int (hCW W h).h hM.h.1 hM.h.2 d hd (N0 + 1) (hPl W h).1 (hPc W h))
 have H7 := Lib.hid (fun W (h : Below X.heap.size X W) => clone_str (hCW W h).l hM.l)
 have c0 : X.cell? ⟨N0, 0, none⟩ = some (.slice A0 n0 k0) := cell_of r1 rfl
 have c1 : X.cell? ⟨N0, 1, none⟩ = some (.slice A1 n1 k1) := cell_of r1 rfl
 have c2 : X.cell? ⟨N0, 2, none⟩ = some (.slice A2 n2 k2) := cell_of r1 rfl
 have c3 : X.cell? ⟨N0, 3, none⟩ = some (.slice A3 n3 k3) := cell_of r1 rfl
 have c4 : X.cell? ⟨N0, 4, none⟩ = some (.slice A4 n4 k4) := cell_of r1 rfl
 have c5 : X.cell? ⟨N0, 5, none⟩ = some (.slice A5 n5 k5) := cell_of r1 rfl
 have c6 : X.cell? ⟨N0, 6, none⟩ = some (.slice A6 n6 k6) := cell_of r1 rfl
 have HS := Lib.hid (fun W' (h : Below (N0 + 1) X W') => And.intro ((h.cell (p := ⟨N0, 0, none⟩) (Nat.lt_succ_self _)).trans c0) (And.intro ((h.cell (p := ⟨N0, 1, none⟩) (Nat.lt_succ_self _)).trans c1) (And.intro ((h.cell (p := ⟨N0, 2, none⟩) (Nat.lt_succ_self _)).trans c2) (And.intro ((h.cell (p := ⟨N0, 3, none⟩) (Nat.lt_succ_self _)).trans c3) (And.intro ((h.cell (p := ⟨N0, 4, none⟩) (Nat.lt_succ_self _)).trans c4) (And.intro ((h.cell (p := ⟨N0, 5, none⟩) (Nat.lt_succ_self _)).trans c5) ((h.cell (p := ⟨N0, 6, none⟩) (Nat.lt_succ_self _)).trans c6)))))))
 have hblk : ∀ W', Below X.heap.size X W' → W'.heap[N0 + 1 + 1 + 1]? = some (.cells #[.slice none 0 0, .slice none 0 0, .slice none 0 0, .slice none 0 0, .slice none 0 0, .slice none 0 0, .slice none 0 0] 30 (0, 0)) := fun W' h => (h.block (N0 + 1 + 1 + 1) (by omega)).trans r4
 have HBLK := Lib.hid hblk
 have HXN := Lib.hid (show N0 + 1 ≤ X.heap.size by omega)
 have HLE := Lib.hid (show N0 + 1 ≤ N0 + 1 + 1 + 1 by omega)
 have HB0 := Lib.hid (show Below X.heap.size X X.drew from (Below.refl X.heap.size X).drew)
 have HX := Lib.hid hX
 have HY := Lib.hid hY
 have HXS := Lib.hid hXs
 have HN0 := Lib.hid hN0
 have HBX := Lib.hid hbX
 clear hX hY hXs hYs hN0 hbX hbY q1 q2 q3 r1 r2 r3 r4 hPc hQc hPl hCW hblk hC hM hd hm e0 e1 e2 e3 e4 e5 e6
 go_enter Tryz.func20, Tryz.ntmps20
 go_wp2_with fail
 rw [HY.out, HX.out, HN0.out]
 refine wp_region_held_drew (S := (fun w' => w'.cell? ⟨N0, 0, none⟩ = some (.slice A0 n0 k0) ∧ w'.cell? ⟨N0, 1, none⟩ = some (.slice A1 n1 k1) ∧ w'.cell? ⟨N0, 2, none⟩ = some (.slice A2 n2 k2) ∧ w'.cell? ⟨N0, 3, none⟩ = some (.slice A3 n3 k3) ∧ w'.cell? ⟨N0, 4, none⟩ = some (.slice A4 n4 k4) ∧ w'.cell? ⟨N0, 5, none⟩ = some (.slice A5 n5 k5) ∧ w'.cell? ⟨N0, 6, none⟩ = some (.slice A6 n6 k6))) (by kernel_rfl) ?_ (fun hHeld => ?_)
 ·
  (try dsimp only); (first
   | (with_reducible exact HS.out _ (HB7.out.mono HXN.out))
   | (with_reducible exact HS.out _ (HB6.out.mono HXN.out))
   | (with_reducible exact HS.out _ (HB5.out.mono HXN.out))
   | (with_reducible exact HS.out _ (HB4.out.mono HXN.out))
   | (with_reducible exact HS.out _ (HB3.out.mono HXN.out))
   | (with_reducible exact HS.out _ (HB2.out.mono HXN.out))
   | (with_reducible exact HS.out _ (HB1.out.mono HXN.out))
   | (with_reducible exact HS.out _ (HB0.out.mono HXN.out))
   | (with_reducible exact HS.out _ ((((((((HB7.out.mono HXN.out).setCell HLE.out _).setCell HLE.out _).setCell HLE.out _).setCell HLE.out _).setCell HLE.out _).setCell HLE.out _).setCell HLE.out _))
   | go_keep
   | fail)
 refine wpAnyH_take (i := 0) (oi := ?oi1) (v := ?v1) ?hi1 (by kernel_rfl) (by kernel_rfl) (by kernel_rfl) ?hq1 ?hy1 (by assumption) ?hr1
 case hi1 => (simp only [List.getElem?_toArray, List.getElem?_cons_zero]; rfl)
 case hq1 => exact fun _ _ _ h => h
 case hy1 => exact .inl ⟨by rfl, by intro _ hSw'; (try dsimp only at hSw'); go_simp <;> with_reducible rfl⟩
 try simp only [Act.put, List.setIfInBounds_toArray, List.set_cons_zero, List.set_cons_succ]
 refine wpAnyH_take (i := 1) (oi := ?oi2) (v := ?v2) ?hi2 (by kernel_rfl) (by kernel_rfl) (by kernel_rfl) ?hq2 ?hy2 (by assumption) ?hr2
 case hi2 => (simp only [List.getElem?_toArray, List.getElem?_cons_succ, List.getElem?_cons_zero]; rfl)
 case hq2 => exact fun _ _ _ h => h
 case hy2 => exact .inl ⟨by rfl, by intro _ hSw'; (try dsimp only at hSw'); go_simp <;> with_reducible rfl⟩
 try simp only [Act.put, List.setIfInBounds_toArray, List.set_cons_zero, List.set_cons_succ]
 refine wpAnyH_take (i := 3) (oi := ?oi3) (v := ?v3) ?hi3 (by kernel_rfl) (by kernel_rfl) (by kernel_rfl) ?hq3 ?hy3 (by assumption) ?hr3
 case hi3 => (simp only [List.getElem?_toArray, List.getElem?_cons_succ, List.getElem?_cons_zero]; rfl)
 case hq3 => exact fun _ _ _ h => h
 case hy3 => exact .inl ⟨by rfl, by intro _ hSw'; (try dsimp only at hSw'); go_simp <;> with_reducible rfl⟩
 try simp only [Act.put, List.setIfInBounds_toArray, List.set_cons_zero, List.set_cons_succ]
 refine wpAnyH_take (i := 4) (oi := ?oi4) (v := ?v4) ?hi4 (by kernel_rfl) (by kernel_rfl) (by kernel_rfl) ?hq4 ?hy4 (by assumption) ?hr4
 case hi4 => (simp only [List.getElem?_toArray, List.getElem?_cons_succ, List.getElem?_cons_zero]; rfl)
 case hq4 => exact fun _ _ _ h => h
 case hy4 => exact .inl ⟨by rfl, by intro _ hSw'; (try dsimp only at hSw'); go_simp <;> with_reducible rfl⟩
 try simp only [Act.put, List.setIfInBounds_toArray, List.set_cons_zero, List.set_cons_succ]
 refine wpAnyH_take (i := 6) (oi := ?oi5) (v := ?v5) ?hi5 (by kernel_rfl) (by kernel_rfl) (by kernel_rfl) ?hq5 ?hy5 (by assumption) ?hr5
 case hi5 => (simp only [List.getElem?_toArray, List.getElem?_cons_succ, List.getElem?_cons_zero]; rfl)
 case hq5 => exact fun _ _ _ h => h
 case hy5 => exact .inl ⟨by rfl, by intro _ hSw'; (try dsimp only at hSw'); go_simp <;> with_reducible rfl⟩
 try simp only [Act.put, List.setIfInBounds_toArray, List.set_cons_zero, List.set_cons_succ]
 refine wpAnyH_take (i := 7) (oi := ?oi6) (v := ?v6) ?hi6 (by kernel_rfl) (by kernel_rfl) (by kernel_rfl) ?hq6 ?hy6 (by assumption) ?hr6
 case hi6 => (simp only [List.getElem?_toArray, List.getElem?_cons_succ, List.getElem?_cons_zero]; rfl)
 case hq6 => exact fun _ _ _ h => h
 case hy6 => exact .inl ⟨by rfl, by intro _ hSw'; (try dsimp only at hSw'); go_simp <;> with_reducible rfl⟩
 try simp only [Act.put, List.setIfInBounds_toArray, List.set_cons_zero, List.set_cons_succ]
 refine wpAnyH_take (i := 8) (oi := ?oi7) (v := ?v7) ?hi7 (by kernel_rfl) (by kernel_rfl) (by kernel_rfl) ?hq7 ?hy7 (by assumption) ?hr7
 case hi7 => (simp only [List.getElem?_toArray, List.getElem?_cons_succ, List.getElem?_cons_zero]; rfl)
 case hq7 => exact fun _ _ _ h => h
 case hy7 => exact .inl ⟨by rfl, by intro _ hSw'; (try dsimp only at hSw'); go_simp <;> with_reducible rfl⟩
 try simp only [Act.put, List.setIfInBounds_toArray, List.set_cons_zero, List.set_cons_succ]
 refine wpAnyH_take (i := 10) (oi := ?oi8) (v := ?v8) ?hi8 (by kernel_rfl) (by kernel_rfl) (by kernel_rfl) ?hq8 ?hy8 (by assumption) ?hr8
 case hi8 => (simp only [List.getElem?_toArray, List.getElem?_cons_succ, List.getElem?_cons_zero]; rfl)
 case hq8 => exact fun _ _ _ h => h
 case hy8 => exact .inl ⟨by rfl, by intro _ hSw'; (try dsimp only at hSw'); go_simp <;> with_reducible rfl⟩
 try simp only [Act.put, List.setIfInBounds_toArray, List.set_cons_zero, List.set_cons_succ]
 refine wpAnyH_take (i := 11) (oi := ?oi9) (v := ?v9) ?hi9 (by kernel_rfl) (by kernel_rfl) (by kernel_rfl) ?hq9 ?hy9 (by assumption) ?hr9
 case hi9 => (simp only [List.getElem?_toArray, List.getElem?_cons_succ, List.getElem?_cons_zero]; rfl)
 case hq9 => exact fun _ _ _ h => h
 case hy9 => exact .inl ⟨by rfl, by intro _ hSw'; (try dsimp only at hSw'); go_simp <;> with_reducible rfl⟩
 try simp only [Act.put, List.setIfInBounds_toArray, List.set_cons_zero, List.set_cons_succ]
 refine wpAnyH_take (i := 12) (oi := ?oi10) (v := ?v10) ?hi10 (by kernel_rfl) (by kernel_rfl) (by kernel_rfl) ?hq10 ?hy10 (by assumption) ?hr10
 case hi10 => (simp only [List.getElem?_toArray, List.getElem?_cons_succ, List.getElem?_cons_zero]; rfl)
 case hq10 => exact fun _ _ _ h => h
 case hy10 => exact .inl ⟨by rfl, by intro _ hSw'; (try dsimp only at hSw'); go_simp <;> with_reducible rfl⟩
 try simp only [Act.put, List.setIfInBounds_toArray, List.set_cons_zero, List.set_cons_succ]
 refine wpAnyH_take (i := 14) (oi := ?oi11) (v := ?v11) ?hi11 (by kernel_rfl) (by kernel_rfl) (by kernel_rfl) ?hq11 ?hy11 (by assumption) ?hr11
 case hi11 => (simp only [List.getElem?_toArray, List.getElem?_cons_succ, List.getElem?_cons_zero]; rfl)
 case hq11 => exact fun _ _ _ h => h
 case hy11 => exact .inl ⟨by rfl, by intro _ hSw'; (try dsimp only at hSw'); go_simp <;> with_reducible rfl⟩
 try simp only [Act.put, List.setIfInBounds_toArray, List.set_cons_zero, List.set_cons_succ]
 refine wpAnyH_take (i := 15) (oi := ?oi12) (v := ?v12) ?hi12 (by kernel_rfl) (by kernel_rfl) (by kernel_rfl) ?hq12 ?hy12 (by assumption) ?hr12
 case hi12 => (simp only [List.getElem?_toArray, List.getElem?_cons_succ, List.getElem?_cons_zero]; rfl)
 case hq12 => exact fun _ _ _ h => h
 case hy12 => exact .inl ⟨by rfl, by intro _ hSw'; (try dsimp only at hSw'); go_simp <;> with_reducible rfl⟩
 try simp only [Act.put, List.setIfInBounds_toArray, List.set_cons_zero, List.set_cons_succ]
 refine wpAnyH_take (i := 16) (oi := ?oi13) (v := ?v13) ?hi13 (by kernel_rfl) (by kernel_rfl) (by kernel_rfl) ?hq13 ?hy13 (by assumption) ?hr13
 case hi13 => (simp only [List.getElem?_toArray, List.getElem?_cons_succ, List.getElem?_cons_zero]; rfl)
 case hq13 => exact fun _ _ _ h => h
 case hy13 => exact .inl ⟨by rfl, by intro _ hSw'; (try dsimp only at hSw'); go_simp <;> with_reducible rfl⟩
 try simp only [Act.put, List.setIfInBounds_toArray, List.set_cons_zero, List.set_cons_succ]
 refine wpAnyH_take (i := 18) (oi := ?oi14) (v := ?v14) ?hi14 (by kernel_rfl) (by kernel_rfl) (by kernel_rfl) ?hq14 ?hy14 (by assumption) ?hr14
 case hi14 => (simp only [List.getElem?_toArray, List.getElem?_cons_succ, List.getElem?_cons_zero]; rfl)
 case hq14 => exact fun _ _ _ h => h
 case hy14 => exact .inl ⟨by rfl, by intro _ hSw'; (try dsimp only at hSw'); go_simp <;> with_reducible rfl⟩
 try simp only [Act.put, List.setIfInBounds_toArray, List.set_cons_zero, List.set_cons_succ]
 refine wpAnyH_take (i := 19) (oi := ?oi15) (v := ?v15) ?hi15 (by kernel_rfl) (by kernel_rfl) (by kernel_rfl) ?hq15 ?hy15 (by assumption) ?hr15
 case hi15 => (simp only [List.getElem?_toArray, List.getElem?_cons_succ, List.getElem?_cons_zero]; rfl)
 case hq15 => exact fun _ _ _ h => h
 case hy15 => exact .inl ⟨by rfl, by intro _ hSw'; (try dsimp only at hSw'); go_simp <;> with_reducible rfl⟩
 try simp only [Act.put, List.setIfInBounds_toArray, List.set_cons_zero, List.set_cons_succ]
 refine wpAnyH_take (i := 20) (oi := ?oi16) (v := ?v16) ?hi16 (by kernel_rfl) (by kernel_rfl) (by kernel_rfl) ?hq16 ?hy16 (by assumption) ?hr16
 case hi16 => (simp only [List.getElem?_toArray, List.getElem?_cons_succ, List.getElem?_cons_zero]; rfl)
 case hq16 => exact fun _ _ _ h => h
 case hy16 => exact .inl ⟨by rfl, by intro _ hSw'; (try dsimp only at hSw'); go_simp <;> with_reducible rfl⟩
 try simp only [Act.put, List.setIfInBounds_toArray, List.set_cons_zero, List.set_cons_succ]
 refine wpAnyH_take (i := 22) (oi := ?oi17) (v := ?v17) ?hi17 (by kernel_rfl) (by kernel_rfl) (by kernel_rfl) ?hq17 ?hy17 (by assumption) ?hr17
 case hi17 => (simp only [List.getElem?_toArray, List.getElem?_cons_succ, List.getElem?_cons_zero]; rfl)
 case hq17 => exact fun _ _ _ h => h
 case hy17 => exact .inl ⟨by rfl, by intro _ hSw'; (try dsimp only at hSw'); go_simp <;> with_reducible rfl⟩
 try simp only [Act.put, List.setIfInBounds_toArray, List.set_cons_zero, List.set_cons_succ]
 refine wpAnyH_take (i := 23) (oi := ?oi18) (v := ?v18) ?hi18 (by kernel_rfl) (by kernel_rfl) (by kernel_rfl) ?hq18 ?hy18 (by assumption) ?hr18
 case hi18 => (simp only [List.getElem?_toArray, List.getElem?_cons_succ, List.getElem?_cons_zero]; rfl)
 case hq18 => exact fun _ _ _ h => h
 case hy18 => exact .inl ⟨by rfl, by intro _ hSw'; (try dsimp only at hSw'); go_simp <;> with_reducible rfl⟩
 try simp only [Act.put, List.setIfInBounds_toArray, List.set_cons_zero, List.set_cons_succ]
 refine wpAnyH_ready (rs := [2]) (by kernel_rfl) (by simp) ?_
 refine AllReadyH.cons (o := ?oo19) ?hi19 (fun K hK => ?hs19) ?hm19
 case hi19 => (simp only [List.getElem?_toArray, List.getElem?_cons_succ, List.getElem?_cons_zero]; rfl)
 ·
  go_simp
  (refine (H1.out X.drew HB0.out).mono ?_); rintro e w1 ⟨B1, j1, rfl, ho1, hb1⟩; have HB1 := Lib.hid (show Below X.heap.size X w1 from (HB0.out).trans (hb1.mono (HB0.out).size)); have HO1 := Lib.hid ho1; have HBB1 := Lib.hid hb1; clear ho1 hb1
  (try go_wp2_with fail)
  refine hK.out _ _ ?_ (fun hHeld => ?_)
  ·
   (try dsimp only); (first
    | (with_reducible exact HS.out _ (HB7.out.mono HXN.out))
    | (with_reducible exact HS.out _ (HB6.out.mono HXN.out))
    | (with_reducible exact HS.out _ (HB5.out.mono HXN.out))
    | (with_reducible exact HS.out _ (HB4.out.mono HXN.out))
    | (with_reducible exact HS.out _ (HB3.out.mono HXN.out))
    | (with_reducible exact HS.out _ (HB2.out.mono HXN.out))
    | (with_reducible exact HS.out _ (HB1.out.mono HXN.out))
    | (with_reducible exact HS.out _ (HB0.out.mono HXN.out))
    | (with_reducible exact HS.out _ ((((((((HB7.out.mono HXN.out).setCell HLE.out _).setCell HLE.out _).setCell HLE.out _).setCell HLE.out _).setCell HLE.out _).setCell HLE.out _).setCell HLE.out _))
    | go_keep
    | fail)
  clear hK K
  try simp only [Act.put, List.setIfInBounds_toArray, List.set_cons_zero, List.set_cons_succ]
  refine wpAnyH_ready (rs := [5]) (by kernel_rfl) (by simp) ?_
  refine AllReadyH.cons (o := ?oo20) ?hi20 (fun K hK => ?hs20) ?hm20
  case hi20 => (simp only [List.getElem?_toArray, List.getElem?_cons_succ, List.getElem?_cons_zero]; rfl)
  ·
   go_simp
   (refine (H2.out w1 HB1.out).mono ?_); rintro e w2 ⟨B2, rfl, ho2, hb2⟩; have HB2 := Lib.hid (show Below X.heap.size X w2 from (HB1.out).trans (hb2.mono (HB1.out).size)); have HO2 := Lib.hid ho2; have HBB2 := Lib.hid hb2; clear ho2 hb2
   (try go_wp2_with fail)
   refine hK.out _ _ ?_ (fun hHeld => ?_)
   ·
    (try dsimp only); (first
     | (with_reducible exact HS.out _ (HB7.out.mono HXN.out))
     | (with_reducible exact HS.out _ (HB6.out.mono HXN.out))
     | (with_reducible exact HS.out _ (HB5.out.mono HXN.out))
     | (with_reducible exact HS.out _ (HB4.out.mono HXN.out))
     | (with_reducible exact HS.out _ (HB3.out.mono HXN.out))
     | (with_reducible exact HS.out _ (HB2.out.mono HXN.out))
     | (with_reducible exact HS.out _ (HB1.out.mono HXN.out))
     | (with_reducible exact HS.out _ (HB0.out.mono HXN.out))
     | (with_reducible exact HS.out _ ((((((((HB7.out.mono HXN.out).setCell HLE.out _).setCell HLE.out _).setCell HLE.out _).setCell HLE.out _).setCell HLE.out _).setCell HLE.out _).setCell HLE.out _))
     | go_keep
     | fail)
   clear hK K
   try simp only [Act.put, List.setIfInBounds_toArray, List.set_cons_zero, List.set_cons_succ]
   refine wpAnyH_ready (rs := [9]) (by kernel_rfl) (by simp) ?_
   refine AllReadyH.cons (o := ?oo21) ?hi21 (fun K hK => ?hs21) ?hm21
   case hi21 => (simp only [List.getElem?_toArray, List.getElem?_cons_succ, List.getElem?_cons_zero]; rfl)
   ·
    go_simp
    (refine (H3.out w2 HB2.out).mono ?_); rintro e w3 ⟨B3, rfl, ho3, hb3⟩; have HB3 := Lib.hid (show Below X.heap.size X w3 from (HB2.out).trans (hb3.mono (HB2.out).size)); have HO3 := Lib.hid ho3; have HBB3 := Lib.hid hb3; clear ho3 hb3
    (try go_wp2_with fail)
    refine hK.out _ _ ?_ (fun hHeld => ?_)
    ·
     (try dsimp only); (first
      | (with_reducible exact HS.out _ (HB7.out.mono HXN.out))
      | (with_reducible exact HS.out _ (HB6.out.mono HXN.out))
      | (with_reducible exact HS.out _ (HB5.out.mono HXN.out))
      | (with_reducible exact HS.out _ (HB4.out.mono HXN.out))
      | (with_reducible exact HS.out _ (HB3.out.mono HXN.out))
      | (with_reducible exact HS.out _ (HB2.out.mono HXN.out))
      | (with_reducible exact HS.out _ (HB1.out.mono HXN.out))
      | (with_reducible exact HS.out _ (HB0.out.mono HXN.out))
      | (with_reducible exact HS.out _ ((((((((HB7.out.mono HXN.out).setCell HLE.out _).setCell HLE.out _).setCell HLE.out _).setCell HLE.out _).setCell HLE.out _).setCell HLE.out _).setCell HLE.out _))
      | go_keep
      | fail)
    clear hK K
    try simp only [Act.put, List.setIfInBounds_toArray, List.set_cons_zero, List.set_cons_succ]
    refine wpAnyH_ready (rs := [13]) (by kernel_rfl) (by simp) ?_
    refine AllReadyH.cons (o := ?oo22) ?hi22 (fun K hK => ?hs22) ?hm22
    case hi22 => (simp only [List.getElem?_toArray, List.getElem?_cons_succ, List.getElem?_cons_zero]; rfl)
    ·
     go_simp
     (refine (H4.out w3 HB3.out).mono ?_); rintro e w4 ⟨B4, rfl, ho4, hb4⟩; have HB4 := Lib.hid (show Below X.heap.size X w4 from (HB3.out).trans (hb4.mono (HB3.out).size)); have HO4 := Lib.hid ho4; have HBB4 := Lib.hid hb4; clear ho4 hb4
     (try go_wp2_with fail)
     refine hK.out _ _ ?_ (fun hHeld => ?_)
     ·
      (try dsimp only); (first
       | (with_reducible exact HS.out _ (HB7.out.mono HXN.out))
       | (with_reducible exact HS.out _ (HB6.out.mono HXN.out))
       | (with_reducible exact HS.out _ (HB5.out.mono HXN.out))
       | (with_reducible exact HS.out _ (HB4.out.mono HXN.out))
       | (with_reducible exact HS.out _ (HB3.out.mono HXN.out))
       | (with_reducible exact HS.out _ (HB2.out.mono HXN.out))
       | (with_reducible exact HS.out _ (HB1.out.mono HXN.out))
       | (with_reducible exact HS.out _ (HB0.out.mono HXN.out))
       | (with_reducible exact HS.out _ ((((((((HB7.out.mono HXN.out).setCell HLE.out _).setCell HLE.out _).setCell HLE.out _).setCell HLE.out _).setCell HLE.out _).setCell HLE.out _).setCell HLE.out _))
       | go_keep
       | fail)
     clear hK K
     try simp only [Act.put, List.setIfInBounds_toArray, List.set_cons_zero, List.set_cons_succ]
     refine wpAnyH_ready (rs := [17]) (by kernel_rfl) (by simp) ?_
     refine AllReadyH.cons (o := ?oo23) ?hi23 (fun K hK => ?hs23) ?hm23
     case hi23 => (simp only [List.getElem?_toArray, List.getElem?_cons_succ, List.getElem?_cons_zero]; rfl)
     ·
      go_simp
      (refine (H5.out w4 HB4.out).mono ?_); rintro e w5 ⟨B5, rfl, ho5, hb5⟩; have HB5 := Lib.hid (show Below X.heap.size X w5 from (HB4.out).trans (hb5.mono (HB4.out).size)); have HO5 := Lib.hid ho5; have HBB5 := Lib.hid hb5; clear ho5 hb5
      (try go_wp2_with fail)
      refine hK.out _ _ ?_ (fun hHeld => ?_)
      ·
       (try dsimp only); (first
        | (with_reducible exact HS.out _ (HB7.out.mono HXN.out))
        | (with_reducible exact HS.out _ (HB6.out.mono HXN.out))
        | (with_reducible exact HS.out _ (HB5.out.mono HXN.out))
        | (with_reducible exact HS.out _ (HB4.out.mono HXN.out))
        | (with_reducible exact HS.out _ (HB3.out.mono HXN.out))
        | (with_reducible exact HS.out _ (HB2.out.mono HXN.out))
        | (with_reducible exact HS.out _ (HB1.out.mono HXN.out))
        | (with_reducible exact HS.out _ (HB0.out.mono HXN.out))
        | (with_reducible exact HS.out _ ((((((((HB7.out.mono HXN.out).setCell HLE.out _).setCell HLE.out _).setCell HLE.out _).setCell HLE.out _).setCell HLE.out _).setCell HLE.out _).setCell HLE.out _))
        | go_keep
        | fail)
      clear hK K
      try simp only [Act.put, List.setIfInBounds_toArray, List.set_cons_zero, List.set_cons_succ]
      refine wpAnyH_ready (rs := [21]) (by kernel_rfl) (by simp) ?_
      refine AllReadyH.cons (o := ?oo24) ?hi24 (fun K hK => ?hs24) ?hm24
      case hi24 => (simp only [List.getElem?_toArray, List.getElem?_cons_succ, List.getElem?_cons_zero]; rfl)
      ·
       go_simp
       (refine (H6.out w5 HB5.out).mono ?_); rintro e w6 ⟨B6, rfl, ho6, hb6⟩; have HB6 := Lib.hid (show Below X.heap.size X w6 from (HB5.out).trans (hb6.mono (HB5.out).size)); have HO6 := Lib.hid ho6; have HBB6 := Lib.hid hb6; clear ho6 hb6
       (try go_wp2_with fail)
       refine hK.out _ _ ?_ (fun hHeld => ?_)
       ·
        (try dsimp only); (first
         | (with_reducible exact HS.out _ (HB7.out.mono HXN.out))
         | (with_reducible exact HS.out _ (HB6.out.mono HXN.out))
         | (with_reducible exact HS.out _ (HB5.out.mono HXN.out))
         | (with_reducible exact HS.out _ (HB4.out.mono HXN.out))
         | (with_reducible exact HS.out _ (HB3.out.mono HXN.out))
         | (with_reducible exact HS.out _ (HB2.out.mono HXN.out))
         | (with_reducible exact HS.out _ (HB1.out.mono HXN.out))
         | (with_reducible exact HS.out _ (HB0.out.mono HXN.out))
         | (with_reducible exact HS.out _ ((((((((HB7.out.mono HXN.out).setCell HLE.out _).setCell HLE.out _).setCell HLE.out _).setCell HLE.out _).setCell HLE.out _).setCell HLE.out _).setCell HLE.out _))
         | go_keep
         | fail)
       clear hK K
       try simp only [Act.put, List.setIfInBounds_toArray, List.set_cons_zero, List.set_cons_succ]
       refine wpAnyH_ready (rs := [24]) (by kernel_rfl) (by simp) ?_
       refine AllReadyH.cons (o := ?oo25) ?hi25 (fun K hK => ?hs25) ?hm25
       case hi25 => (simp only [List.getElem?_toArray, List.getElem?_cons_succ, List.getElem?_cons_zero]; rfl)
       ·
        go_simp
        (refine (H7.out w6 HB6.out).mono ?_); rintro e w7 ⟨B7, j7, rfl, ho7, hb7⟩; have HB7 := Lib.hid (show Below X.heap.size X w7 from (HB6.out).trans (hb7.mono (HB6.out).size)); have HO7 := Lib.hid ho7; have HBB7 := Lib.hid hb7; clear ho7 hb7; have hk7 := HBLK.out _ HB7.out; have t0 : w7.cell? ⟨N0 + 1 + 1 + 1, 0, none⟩ = some (.slice none 0 0) := cell_of hk7 rfl; have t1 : w7.cell? ⟨N0 + 1 + 1 + 1, 1, none⟩ = some (.slice none 0 0) := cell_of hk7 rfl; have t2 : w7.cell? ⟨N0 + 1 + 1 + 1, 2, none⟩ = some (.slice none 0 0) := cell_of hk7 rfl; have t3 : w7.cell? ⟨N0 + 1 + 1 + 1, 3, none⟩ = some (.slice none 0 0) := cell_of hk7 rfl; have t4 : w7.cell? ⟨N0 + 1 + 1 + 1, 4, none⟩ = some (.slice none 0 0) := cell_of hk7 rfl; have t5 : w7.cell? ⟨N0 + 1 + 1 + 1, 5, none⟩ = some (.slice none 0 0) := cell_of hk7 rfl; have t6 : w7.cell? ⟨N0 + 1 + 1 + 1, 6, none⟩ = some (.slice none 0 0) := cell_of hk7 rfl; have f70 : w7.frozen? ⟨N0 + 1 + 1 + 1, 0, none⟩ = false := frozen_of hk7; have f71 : w7.frozen? ⟨N0 + 1 + 1 + 1, 1, none⟩ = false := frozen_of hk7; have f72 : w7.frozen? ⟨N0 + 1 + 1 + 1, 2, none⟩ = false := frozen_of hk7; have f73 : w7.frozen? ⟨N0 + 1 + 1 + 1, 3, none⟩ = false := frozen_of hk7; have f74 : w7.frozen? ⟨N0 + 1 + 1 + 1, 4, none⟩ = false := frozen_of hk7; have f75 : w7.frozen? ⟨N0 + 1 + 1 + 1, 5, none⟩ = false := frozen_of hk7; have f76 : w7.frozen? ⟨N0 + 1 + 1 + 1, 6, none⟩ = false := frozen_of hk7; have HK7 := Lib.hid hk7; clear hk7
        (try go_wp2_with fail)
        refine hK.out _ _ ?_ (fun hHeld => ?_)
        ·
         (try dsimp only); (first
          | (with_reducible exact HS.out _ (HB7.out.mono HXN.out))
          | (with_reducible exact HS.out _ (HB6.out.mono HXN.out))
          | (with_reducible exact HS.out _ (HB5.out.mono HXN.out))
          | (with_reducible exact HS.out _ (HB4.out.mono HXN.out))
          | (with_reducible exact HS.out _ (HB3.out.mono HXN.out))
          | (with_reducible exact HS.out _ (HB2.out.mono HXN.out))
          | (with_reducible exact HS.out _ (HB1.out.mono HXN.out))
          | (with_reducible exact HS.out _ (HB0.out.mono HXN.out))
          | (with_reducible exact HS.out _ ((((((((HB7.out.mono HXN.out).setCell HLE.out _).setCell HLE.out _).setCell HLE.out _).setCell HLE.out _).setCell HLE.out _).setCell HLE.out _).setCell HLE.out _))
          | go_keep
          | fail)
        clear hK K
        try simp only [Act.put, List.setIfInBounds_toArray, List.set_cons_zero, List.set_cons_succ]
        refine wpAnyH_take (i := 25) (oi := ?oi26) (v := ?v26) ?hi26 (by kernel_rfl) (by kernel_rfl) (by kernel_rfl) ?hq26 ?hy26 (by assumption) ?hr26
        case hi26 => (simp only [List.getElem?_toArray, List.getElem?_cons_succ, List.getElem?_cons_zero]; rfl)
        case hq26 => exact fun _ _ _ h => h
        case hy26 => exact .inl ⟨by rfl, by intro _ hSw'; (try dsimp only at hSw'); go_simp <;> with_reducible rfl⟩
        try simp only [Act.put, List.setIfInBounds_toArray, List.set_cons_zero, List.set_cons_succ]
        refine wpAnyH_ready (rs := [26]) (by kernel_rfl) (by simp) ?_
        refine AllReadyH.cons (o := ?oo27) ?hi27 (fun K hK => ?hs27) ?hm27
        case hi27 => (simp only [List.getElem?_toArray, List.getElem?_cons_succ, List.getElem?_cons_zero]; rfl)
        ·
         go_simp
         refine hK.out _ _ ?_ (fun hHeld => ?_)
         ·
          (try dsimp only); (first
           | (with_reducible exact HS.out _ (HB7.out.mono HXN.out))
           | (with_reducible exact HS.out _ (HB6.out.mono HXN.out))
           | (with_reducible exact HS.out _ (HB5.out.mono HXN.out))
           | (with_reducible exact HS.out _ (HB4.out.mono HXN.out))
           | (with_reducible exact HS.out _ (HB3.out.mono HXN.out))
           | (with_reducible exact HS.out _ (HB2.out.mono HXN.out))
           | (with_reducible exact HS.out _ (HB1.out.mono HXN.out))
           | (with_reducible exact HS.out _ (HB0.out.mono HXN.out))
           | (with_reducible exact HS.out _ ((((((((HB7.out.mono HXN.out).setCell HLE.out _).setCell HLE.out _).setCell HLE.out _).setCell HLE.out _).setCell HLE.out _).setCell HLE.out _).setCell HLE.out _))
           | go_keep
           | fail)
         clear hK K
         try simp only [Act.put, List.setIfInBounds_toArray, List.set_cons_zero, List.set_cons_succ]
         refine wpAnyH_done (by kernel_rfl) ?_ _
         go_wp2_with fail
         have hz : (((((((w7.setCell ⟨N0 + 1 + 1 + 1, 0, none⟩ (.slice B1 c.attrs.length j1)).setCell ⟨N0 + 1 + 1 + 1, 1, none⟩ (.slice B2 c.toks.length c.toks.length)).setCell ⟨N0 + 1 + 1 + 1, 2, none⟩ (.slice B3 c.texts.length c.texts.length)).setCell ⟨N0 + 1 + 1 + 1, 3, none⟩ (.slice B4 c.regs.length c.regs.length)).setCell ⟨N0 + 1 + 1 + 1, 4, none⟩ (.slice B5 c.nodes.length c.nodes.length)).setCell ⟨N0 + 1 + 1 + 1, 5, none⟩ (.slice B6 c.heads.length c.heads.length)).setCell ⟨N0 + 1 + 1 + 1, 6, none⟩ (.slice B7 c.rels.length j7)).heap[N0 + 1 + 1 + 1]? = some (.cells #[.slice B1 c.attrs.length j1, .slice B2 c.toks.length c.toks.length, .slice B3 c.texts.length c.texts.length, .slice B4 c.regs.length c.regs.length, .slice B5 c.nodes.length c.nodes.length, .slice B6 c.heads.length c.heads.length, .slice B7 c.rels.length j7] 30 (0, 0)) := (set_of (set_of (set_of (set_of (set_of (set_of (set_of HK7.out _) _) _) _) _) _) _)
         have hbl : Below w.heap.size w (((((((w7.setCell ⟨N0 + 1 + 1 + 1, 0, none⟩ (.slice B1 c.attrs.length j1)).setCell ⟨N0 + 1 + 1 + 1, 1, none⟩ (.slice B2 c.toks.length c.toks.length)).setCell ⟨N0 + 1 + 1 + 1, 2, none⟩ (.slice B3 c.texts.length c.texts.length)).setCell ⟨N0 + 1 + 1 + 1, 3, none⟩ (.slice B4 c.regs.length c.regs.length)).setCell ⟨N0 + 1 + 1 + 1, 4, none⟩ (.slice B5 c.nodes.length c.nodes.length)).setCell ⟨N0 + 1 + 1 + 1, 5, none⟩ (.slice B6 c.heads.length c.heads.length)).setCell ⟨N0 + 1 + 1 + 1, 6, none⟩ (.slice B7 c.rels.length j7)) := ((((((((HBX.out.trans (HB7.out.mono HBX.out.size)).setCell (by rw [HN0.out]; show N0 ≤ N0 + 1 + 1 + 1; omega) _).setCell (by rw [HN0.out]; show N0 ≤ N0 + 1 + 1 + 1; omega) _).setCell (by rw [HN0.out]; show N0 ≤ N0 + 1 + 1 + 1; omega) _).setCell (by rw [HN0.out]; show N0 ≤ N0 + 1 + 1 + 1; omega) _).setCell (by rw [HN0.out]; show N0 ≤ N0 + 1 + 1 + 1; omega) _).setCell (by rw [HN0.out]; show N0 ≤ N0 + 1 + 1 + 1; omega) _).setCell (by rw [HN0.out]; show N0 ≤ N0 + 1 + 1 + 1; omega) _)
         have hk : Kept (N0 + 1 + 1 + 1 + 1) w7 (((((((w7.setCell ⟨N0 + 1 + 1 + 1, 0, none⟩ (.slice B1 c.attrs.length j1)).setCell ⟨N0 + 1 + 1 + 1, 1, none⟩ (.slice B2 c.toks.length c.toks.length)).setCell ⟨N0 + 1 + 1 + 1, 2, none⟩ (.slice B3 c.texts.length c.texts.length)).setCell ⟨N0 + 1 + 1 + 1, 3, none⟩ (.slice B4 c.regs.length c.regs.length)).setCell ⟨N0 + 1 + 1 + 1, 4, none⟩ (.slice B5 c.nodes.length c.nodes.length)).setCell ⟨N0 + 1 + 1 + 1, 5, none⟩ (.slice B6 c.heads.length c.heads.length)).setCell ⟨N0 + 1 + 1 + 1, 6, none⟩ (.slice B7 c.rels.length j7)) := ⟨by simp [World.setCell], fun k h1 h2 => by rw [Below.heap_setCell _ _ _ k (by show k ≠ N0 + 1 + 1 + 1; omega), Below.heap_setCell _ _ _ k (by show k ≠ N0 + 1 + 1 + 1; omega), Below.heap_setCell _ _ _ k (by show k ≠ N0 + 1 + 1 + 1; omega), Below.heap_setCell _ _ _ k (by show k ≠ N0 + 1 + 1 + 1; omega), Below.heap_setCell _ _ _ k (by show k ≠ N0 + 1 + 1 + 1; omega), Below.heap_setCell _ _ _ k (by show k ≠ N0 + 1 + 1 + 1; omega), Below.heap_setCell _ _ _ k (by show k ≠ N0 + 1 + 1 + 1; omega)]⟩
         obtain ⟨W8, hW8⟩ : ∃ W8, (((((((w7.setCell ⟨N0 + 1 + 1 + 1, 0, none⟩ (.slice B1 c.attrs.length j1)).setCell ⟨N0 + 1 + 1 + 1, 1, none⟩ (.slice B2 c.toks.length c.toks.length)).setCell ⟨N0 + 1 + 1 + 1, 2, none⟩ (.slice B3 c.texts.length c.texts.length)).setCell ⟨N0 + 1 + 1 + 1, 3, none⟩ (.slice B4 c.regs.length c.regs.length)).setCell ⟨N0 + 1 + 1 + 1, 4, none⟩ (.slice B5 c.nodes.length c.nodes.length)).setCell ⟨N0 + 1 + 1 + 1, 5, none⟩ (.slice B6 c.heads.length c.heads.length)).setCell ⟨N0 + 1 + 1 + 1, 6, none⟩ (.slice B7 c.rels.length j7)) = W8 := ⟨_, rfl⟩
         rw [hW8] at hz hbl hk ⊢
         clear hW8
         have hX4 := HXS.out
         have k7 : Kept (N0 + 1 + 1 + 1 + 1) w7 W8 := hk
         have k6 : Kept (N0 + 1 + 1 + 1 + 1) w6 W8 := (kept_below _ HBB7.out).trans k7
         have k5 : Kept (N0 + 1 + 1 + 1 + 1) w5 W8 := (kept_below _ HBB6.out).trans k6
         have k4 : Kept (N0 + 1 + 1 + 1 + 1) w4 W8 := (kept_below _ HBB5.out).trans k5
         have k3 : Kept (N0 + 1 + 1 + 1 + 1) w3 W8 := (kept_below _ HBB4.out).trans k4
         have k2 : Kept (N0 + 1 + 1 + 1 + 1) w2 W8 := (kept_below _ HBB3.out).trans k3
         have k1 : Kept (N0 + 1 + 1 + 1 + 1) w1 W8 := (kept_below _ HBB2.out).trans k2
         have o1 := ((HO1.out.mono (base := N0 + 1 + 1 + 1 + 1) (by show N0 + 1 + 1 + 1 + 1 ≤ X.heap.size; omega)).kept k1).mono (base := w.heap.size) (by rw [HN0.out]; omega)
         have o2 := ((HO2.out.mono (base := N0 + 1 + 1 + 1 + 1) (by have := HB1.out.size; omega)).kept k2).mono (base := w.heap.size) (by rw [HN0.out]; omega)
         have o3 := ((HO3.out.mono (base := N0 + 1 + 1 + 1 + 1) (by have := HB2.out.size; omega)).kept k3).mono (base := w.heap.size) (by rw [HN0.out]; omega)
         rw [List.length_map] at o3
         have o4 := ((HO4.out.mono (base := N0 + 1 + 1 + 1 + 1) (by have := HB3.out.size; omega)).kept k4).mono (base := w.heap.size) (by rw [HN0.out]; omega)
         rw [List.length_map] at o4
         have o5 := ((HO5.out.mono (base := N0 + 1 + 1 + 1 + 1) (by have := HB4.out.size; omega)).kept k5).mono (base := w.heap.size) (by rw [HN0.out]; omega)
         rw [List.length_map] at o5
         have o6 := ((HO6.out.mono (base := N0 + 1 + 1 + 1 + 1) (by have := HB5.out.size; omega)).kept k6).mono (base := w.heap.size) (by rw [HN0.out]; omega)
         rw [List.length_map] at o6
         have o7 := ((HO7.out.mono (base := N0 + 1 + 1 + 1 + 1) (by have := HB6.out.size; omega)).kept k7).mono (base := w.heap.size) (by rw [HN0.out]; omega)
         exact bodyPost_ret (v := .agg #[.slice B1 c.attrs.length j1, .slice B2 c.toks.length c.toks.length, .slice B3 c.texts.length c.texts.length, .slice B4 c.regs.length c.regs.length, .slice B5 c.nodes.length c.nodes.length, .slice B6 c.heads.length c.heads.length, .slice B7 c.rels.length j7]) (results_cell_row Tryz.results20 _ _ (N0 + 1 + 1 + 1) _ _ _ _ rfl hz Tryz.underlying30 rfl Tryz.sizeCor) rfl ⟨⟨.slice B1 c.attrs.length j1, .slice B2 c.toks.length c.toks.length, .slice B3 c.texts.length c.texts.length, .slice B4 c.regs.length c.regs.length, .slice B5 c.nodes.length c.nodes.length, .slice B6 c.heads.length c.heads.length, .slice B7 c.rels.length j7⟩, rfl, ⟨o1, o2, o3, o4, o5, o6, o7⟩, ⟨⟨_, _, rfl⟩, ⟨_, _, rfl⟩, ⟨_, _, rfl⟩, ⟨_, _, rfl⟩, ⟨_, _, rfl⟩⟩, hbl⟩
        exact AllReadyH.nil
       exact AllReadyH.nil
      exact AllReadyH.nil
     exact AllReadyH.nil
    exact AllReadyH.nil
   exact AllReadyH.nil
  exact AllReadyH.nil
 exact AllReadyH.nil
end Go.Proofs.YtebmfkkkhmjkoaaGreat
