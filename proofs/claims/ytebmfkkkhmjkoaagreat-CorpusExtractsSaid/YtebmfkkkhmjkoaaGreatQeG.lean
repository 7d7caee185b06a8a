/-
 WALKS over package corpus: document, first part: the parts of a corpus that lie in a text.
-/
import Derived.Test.YtebmfkkkhmjkoaaGreatQeF
import Derived.Deep.DeepCutAuto
import Derived.Test.YtebmfkkkhmjkoaaGreatQhC
namespace Go.Proofs.YtebmfkkkhmjkoaaGreat
open Go.RowKit Go.Shelf Go.Lib
set_option linter.unusedVariables false
attribute [local go_sem ↓] Go.wp_at_zero Go.wp_at_succ

theorem seven_f {W : World} {D : Nat} {v0 v1 v2 v3 v4 v5 v6 : Value} {T : TypeId} (h : W.heap[D]? = some (.cells #[v0, v1, v2, v3, v4, v5, v6] T (0, 0))) :
 (W.cell? ⟨D, 0, none⟩ = some v0 ∧ W.cell? ⟨D, 1, none⟩ = some v1 ∧ W.cell? ⟨D, 2, none⟩ = some v2 ∧ W.cell? ⟨D, 3, none⟩ = some v3 ∧ W.cell? ⟨D, 4, none⟩ = some v4 ∧ W.cell? ⟨D, 5, none⟩ = some v5 ∧ W.cell? ⟨D, 6, none⟩ = some v6) ∧
  W.frozen? ⟨D, 0, none⟩ = false ∧ W.frozen? ⟨D, 1, none⟩ = false ∧ W.frozen? ⟨D, 2, none⟩ = false ∧ W.frozen? ⟨D, 3, none⟩ = false ∧ W.frozen? ⟨D, 4, none⟩ = false ∧ W.frozen? ⟨D, 5, none⟩ = false ∧ W.frozen? ⟨D, 6, none⟩ = false :=
 ⟨⟨cell_of h rfl, cell_of h rfl, cell_of h rfl, cell_of h rfl, cell_of h rfl, cell_of h rfl, cell_of h rfl⟩, frozen_of h, frozen_of h, frozen_of h, frozen_of h, frozen_of h, frozen_of h, frozen_of h⟩
theorem set_seven {W W' X : World} {D G M : Nat} {v0 v1 v2 v3 v4 v5 v6 u0 u1 u2 u3 u4 u5 u6 : Value} {T T2 : TypeId} {cs : Array Value} {f : Nat × Nat}
 (hx : (((((((W.setCell ⟨D, 0, none⟩ v0).setCell ⟨D, 1, none⟩ v1).setCell ⟨D, 2, none⟩ v2).setCell ⟨D, 3, none⟩ v3).setCell ⟨D, 4, none⟩ v4).setCell ⟨D, 5, none⟩ v5).setCell ⟨D, 6, none⟩ v6) = W') (hD : W.heap[D]? = some (.cells #[u0, u1, u2, u3, u4, u5, u6] T (0, 0))) (hG : W.heap[G]? = some (.cells cs T2 f)) (hne : G ≠ D) (hM : M ≤ D) (hb : Below M X W) :
 W'.heap[D]? = some (.cells #[v0, v1, v2, v3, v4, v5, v6] T (0, 0)) ∧ W'.heap[G]? = some (.cells cs T2 f) ∧ Below M X W' := by
 subst hx
 have q0 : (W.setCell ⟨D, 0, none⟩ v0).heap[D]? = some (.cells #[v0, u1, u2, u3, u4, u5, u6] T (0, 0)) := set_of hD _
 have q1 : ((W.setCell ⟨D, 0, none⟩ v0).setCell ⟨D, 1, none⟩ v1).heap[D]? = some (.cells #[v0, v1, u2, u3, u4, u5, u6] T (0, 0)) := set_of q0 _
 have q2 : (((W.setCell ⟨D, 0, none⟩ v0).setCell ⟨D, 1, none⟩ v1).setCell ⟨D, 2, none⟩ v2).heap[D]? = some (.cells #[v0, v1, v2, u3, u4, u5, u6] T (0, 0)) := set_of q1 _
 have q3 : ((((W.setCell ⟨D, 0, none⟩ v0).setCell ⟨D, 1, none⟩ v1).setCell ⟨D, 2, none⟩ v2).setCell ⟨D, 3, none⟩ v3).heap[D]? = some (.cells #[v0, v1, v2, v3, u4, u5, u6] T (0, 0)) := set_of q2 _
 have q4 : (((((W.setCell ⟨D, 0, none⟩ v0).setCell ⟨D, 1, none⟩ v1).setCell ⟨D, 2, none⟩ v2).setCell ⟨D, 3, none⟩ v3).setCell ⟨D, 4, none⟩ v4).heap[D]? = some (.cells #[v0, v1, v2, v3, v4, u5, u6] T (0, 0)) := set_of q3 _
 have q5 : ((((((W.setCell ⟨D, 0, none⟩ v0).setCell ⟨D, 1, none⟩ v1).setCell ⟨D, 2, none⟩ v2).setCell ⟨D, 3, none⟩ v3).setCell ⟨D, 4, none⟩ v4).setCell ⟨D, 5, none⟩ v5).heap[D]? = some (.cells #[v0, v1, v2, v3, v4, v5, u6] T (0, 0)) := set_of q4 _
 have q6 : (((((((W.setCell ⟨D, 0, none⟩ v0).setCell ⟨D, 1, none⟩ v1).setCell ⟨D, 2, none⟩ v2).setCell ⟨D, 3, none⟩ v3).setCell ⟨D, 4, none⟩ v4).setCell ⟨D, 5, none⟩ v5).setCell ⟨D, 6, none⟩ v6).heap[D]? = some (.cells #[v0, v1, v2, v3, v4, v5, v6] T (0, 0)) := set_of q5 _
 refine ⟨q6, ?_, (((((((hb.setCell hM _).setCell hM _).setCell hM _).setCell hM _).setCell hM _).setCell hM _).setCell hM _)⟩
 rw [Below.heap_setCell _ _ _ G hne, Below.heap_setCell _ _ _ G hne, Below.heap_setCell _ _ _ G hne, Below.heap_setCell _ _ _ G hne, Below.heap_setCell _ _ _ G hne, Below.heap_setCell _ _ _ G hne, Below.heap_setCell _ _ _ G hne]
 exact hG
theorem CorF.mono {base base' : Nat} {w : World} {s : Sv} {c : Cor} (h : CorF base' w s c) (hm : base ≤ base') : CorF base w s c := ⟨h.a.mono hm, h.t.mono hm, h.x.mono hm, h.r.mono hm, h.n.mono hm, h.h.mono hm, h.l.mono hm⟩
def cutL {α : Type} (lo hi : Nat) (l : List α) : List α := (l.take hi).drop lo
theorem cutL_len {α : Type} {lo hi : Nat} {l : List α} (h : hi ≤ l.length) : (cutL lo hi l).length = hi - lo := by
 unfold cutL
 rw [List.length_drop, List.length_take, Nat.min_eq_left h]
theorem cutL_nil {α : Type} (lo hi : Nat) : cutL lo hi ([] : List α) = [] := by simp [cutL]
theorem lt_blk {W : World} {B : Nat} {o : Obj} (h : W.heap[B]? = some o) : B < W.heap.size := (Array.getElem?_eq_some_iff.1 h).1
theorem blk_ne {W : World} {a b : Nat} {c1 c2 : Array Value} {t1 t2 : TypeId} {f1 f2 : Nat × Nat} (h1 : W.heap[a]? = some (.cells c1 t1 f1)) (h2 : W.heap[b]? = some (.cells c2 t2 f2)) (ht : t1 ≠ t2) : a ≠ b := by
 rintro rfl
 rw [h1] at h2
 injection h2 with h2
 injection h2 with _ h2 _
 exact ht h2
theorem slice_rows {α : Type} {sz : Nat} {sl : TypeId} (hu : Tryz.prog.underlying sl = some (.slice (Tryz.prog.elem sl))) (hsz : ∀ W, (sizeOf (Tryz.prog.elem sl)).run Tryz.prog W = .ok sz W) (A : Option Addr) (n cap : Nat) {xs : List α} (hn : xs.length = n) (hc : n ≤ cap) (lo hi : Nat) (h1 : lo ≤ hi) (h2 : hi ≤ n) :
 ∃ (A' : Option Addr) (c' : Nat), (∀ W, (Instr.slice sl (.slice A n cap) (some (.int .i64 (lo : Int))) (some (.int .i64 (hi : Int))) none).run Tryz.prog W = .ok (.slice A' (hi - lo) c') W) ∧ ∀ (E : World → List Value → α → Prop) (W : World), Rows sz E W (.slice A n cap) xs → Rows sz E W (.slice A' (hi - lo) c') (cutL lo hi xs) := by
 refine ⟨if cap = lo then A else A.map (·.add (lo * sz)), cap - lo, fun W => ?_, fun E W h => ?_⟩
 · rw [run_slice_lh W sl _ _ _ hu .i64 .i64 lo hi (by omega) (by omega) (by omega), hsz W]
   simp [Result.andThen, sliced]
 refine h.part h1 (by omega) (by omega) _ (fun h0 b off hA => ?_)
 rw [if_neg (by omega), hA]
 simp [add_plain]
/-- The new corpus in block D, its text in block G. -/
def DocD (M : Nat) (X : World) (va vt vr vn p lo hi m s9 : Value) (wx : World) : Prop := ∃ D G : Nat, s9 = .pointer (some ⟨D, 0, none⟩) ∧ Below M X wx ∧ M ≤ D ∧ M ≤ G ∧ G ≠ D ∧
 wx.heap[D]? = some (.cells #[va, vt, .slice (some ⟨G, 0, none⟩) 1 1, vr, vn, .slice none 0 0, .slice none 0 0] 30 (0, 0)) ∧ wx.heap[G]? = some (.cells #[p, lo, hi, m] 51 (0, 0))
theorem cutL_mem {α : Type} {lo hi : Nat} {l : List α} {x : α} (h : x ∈ cutL lo hi l) : x ∈ l := List.mem_of_mem_take (List.mem_of_mem_drop h)
theorem cutL_le {α : Type} (lo hi : Nat) (l : List α) : (cutL lo hi l).length ≤ l.length := by
 unfold cutL
 rw [List.length_drop, List.length_take]
 omega
/-- What a corpus has in one of its texts. -/
def docD (c : Cor) (t : Ex) (lo hi : Nat) : Cor :=
 ⟨c.attrs, cutL lo hi c.toks, [t], cutL (cntL (fun x => decide (x.b < (lo : Int))) c.regs) (cntL (fun x => decide (x.b < (hi : Int))) c.regs) c.regs,
  cutL (cntL (fun x => decide (x.b < (lo : Int))) c.nodes) (cntL (fun x => decide (x.b < (hi : Int))) c.nodes) c.nodes, cutL lo hi c.heads, cutL lo hi c.rels⟩
def bareC (c : Cor) : Cor := if bare c.heads c.rels then ⟨c.attrs, c.toks, c.texts, c.regs, c.nodes, [], []⟩ else c
def docC (c : Cor) (t : Ex) (lo hi : Nat) : Cor := mvC (-(lo : Int)) (-((cntL (fun x => decide (x.b < (lo : Int))) c.nodes : Nat) : Int)) (bareC (docD c t lo hi))
theorem docD_mid {c : Cor} {t : Ex} (h : MidC c) (ht : t ∈ c.texts) (lo hi : Nat) : MidC (bareC (docD c t lo hi)) := by
 have hD : MidC (docD c t lo hi) :=
  ⟨h.a, ⟨Nat.le_trans (cutL_le _ _ _) h.t.1, fun x hx => h.t.2 x (cutL_mem hx)⟩, ⟨by simp [docD], fun x hx => (show x = t by simpa [docD] using hx) ▸ h.x.2 t ht⟩,
   ⟨Nat.le_trans (cutL_le _ _ _) h.r.1, fun x hx => h.r.2 x (cutL_mem hx)⟩, ⟨Nat.le_trans (cutL_le _ _ _) h.n.1, fun x hx => h.n.2 x (cutL_mem hx)⟩, ⟨Nat.le_trans (cutL_le _ _ _) h.h.1, fun x hx => h.h.2 x (cutL_mem hx)⟩, Nat.le_trans (cutL_le _ _ _) h.l⟩
 unfold bareC
 split
 · exact ⟨hD.a, hD.t, hD.x, hD.r, hD.n, ⟨Nat.zero_le _, fun x hx => absurd hx (by simp)⟩, Nat.zero_le _⟩
 exact hD
theorem cntL_le {α : Type} (p : α → Bool) (xs : List α) : cntL p xs ≤ xs.length := by
 unfold cntL
 exact (List.takeWhile_sublist p).length_le
theorem cntL_mono {α : Type} {p q : α → Bool} (h : ∀ x, p x = true → q x = true) : ∀ xs : List α, cntL p xs ≤ cntL q xs
 | [] => Nat.le_refl _
 | x :: l => by
   unfold cntL
   by_cases hp : p x = true
   · rw [List.takeWhile_cons_of_pos hp, List.takeWhile_cons_of_pos (h x hp), List.length_cons, List.length_cons]
     exact Nat.succ_le_succ (cntL_mono h l)
   rw [List.takeWhile_cons_of_neg hp]
   exact Nat.zero_le _

set_option maxRecDepth 1000000 in
set_option maxHeartbeats 32000000 in
theorem document_any {w : World} (s : Sv) {c : Cor} (i : Nat) {t : Ex} (lo hi : Nat) (hC : CorAt w s c) (hM : MidC c) (hi0 : c.texts[i]? = some t) (hlo : t.b = lo) (hhi : t.e = hi) (hlh : lo ≤ hi) (hht : hi ≤ c.toks.length)
 (hh : c.heads.length = 0 ∨ c.heads.length = c.toks.length) (hrl : c.rels.length = c.heads.length) (hsr : ∀ (i j : Nat) (x y : Ex), i < j → c.regs[i]? = some x → c.regs[j]? = some y → x.b ≤ y.b) (hsn : ∀ (i j : Nat) (x y : Nd), i < j → c.nodes[i]? = some x → c.nodes[j]? = some y → x.b ≤ y.b) :
 Calls Tryz.prog 29 #[.agg s.arr, .int .i64 (i : Int)] w (MvV w (docC c t lo hi)) := by
 have hil : i < c.texts.length := (List.getElem?_eq_some_iff.1 hi0).1
 obtain ⟨A0, k0, h0, q0⟩ := hC.a.form
 obtain ⟨A1, k1, h1, q1⟩ := hC.t.form
 obtain ⟨A2, k2, h2, q2⟩ := hC.x.form
 obtain ⟨A3, k3, h3, q3⟩ := hC.r.form
 obtain ⟨A4, k4, h4, q4⟩ := hC.n.form
 obtain ⟨A5, k5, h5, q5⟩ := hC.h.form
 obtain ⟨A6, k6, h6, q6⟩ := hC.l.form
 obtain ⟨va, vt, vx, vr, vn, vh, vl⟩ := s
 simp only at h0 h1 h2 h3 h4 h5 h6
 subst h0 h1 h2 h3 h4 h5 h6
 obtain ⟨n0, e0⟩ : ∃ n, c.attrs.length = n := ⟨_, rfl⟩
 obtain ⟨n1, e1⟩ : ∃ n, c.toks.length = n := ⟨_, rfl⟩
 obtain ⟨n2, e2⟩ : ∃ n, c.texts.length = n := ⟨_, rfl⟩
 obtain ⟨n3, e3⟩ : ∃ n, c.regs.length = n := ⟨_, rfl⟩
 obtain ⟨n4, e4⟩ : ∃ n, c.nodes.length = n := ⟨_, rfl⟩
 obtain ⟨n5, e5⟩ : ∃ n, c.heads.length = n := ⟨_, rfl⟩
 obtain ⟨n6, e6⟩ : ∃ n, c.rels.length = n := ⟨_, rfl⟩
 rw [e5, e6] at hrl
 have hrl2 : n5 = n6 := hrl.symm
 subst hrl2
 simp only [e0, e1, e2, e3, e4, e5, e6, Sv.arr] at hC hil hht hh q0 q1 q2 q3 q4 q5 q6 ⊢
 have hsl5 : lo ≤ hi ∧ (0 < n5 → hi ≤ n5) := ⟨hlh, fun h => by omega⟩
 -- the text's cells
 obtain ⟨bt, ot, rfl, hbt, hjt⟩ := at_ex hC.x (by omega)
 obtain ⟨mv, hmv, g0, g1, g2, g3⟩ := hjt i t hi0
 obtain ⟨Am, cm, rfl, -⟩ := hmv.form
 obtain ⟨lm, elm⟩ : ∃ n, t.ps.length = n := ⟨_, rfl⟩
 rw [hlo] at g1
 rw [hhi] at g2
 rw [elm] at g3
 -- the counts
 obtain ⟨p1, hp1⟩ : ∃ n, cntL (fun x : Ex => decide (x.b < (lo : Int))) c.regs = n := ⟨_, rfl⟩
 obtain ⟨p2, hp2⟩ : ∃ n, cntL (fun x : Ex => decide (x.b < (hi : Int))) c.regs = n := ⟨_, rfl⟩
 obtain ⟨m1, hm1⟩ : ∃ n, cntL (fun x : Nd => decide (x.b < (lo : Int))) c.nodes = n := ⟨_, rfl⟩
 obtain ⟨m2, hm2⟩ : ∃ n, cntL (fun x : Nd => decide (x.b < (hi : Int))) c.nodes = n := ⟨_, rfl⟩
 have hpp : p1 ≤ p2 ∧ p2 ≤ n3 := ⟨by rw [← hp1, ← hp2]; exact cntL_mono (fun x h => by simp at h ⊢; omega) _, by rw [← hp2, ← e3]; exact cntL_le _ _⟩
 have hmm : m1 ≤ m2 ∧ m2 ≤ n4 := ⟨by rw [← hm1, ← hm2]; exact cntL_mono (fun x h => by simp at h ⊢; omega) _, by rw [← hm2, ← e4]; exact cntL_le _ _⟩
 -- the slices
 obtain ⟨At, ct, ht1, ht2⟩ := slice_rows (sz := 1) (sl := 23) (by kernel_rfl) (fun W => by kernel_rfl) A1 n1 k1 e1 q1 lo hi hlh hht
 obtain ⟨Ar, cr, hr1, hr2⟩ := slice_rows (sz := 4) (sl := 25) (by kernel_rfl) (fun W => by kernel_rfl) A3 n3 k3 e3 q3 p1 p2 hpp.1 hpp.2
 obtain ⟨An, cn, hn1, hn2⟩ := slice_rows (sz := 4) (sl := 26) (by kernel_rfl) (fun W => by kernel_rfl) A4 n4 k4 e4 q4 m1 m2 hmm.1 hmm.2
 -- the worlds
 obtain ⟨N0, hN0⟩ : ∃ N0, w.heap.size = N0 := ⟨_, rfl⟩
 obtain ⟨P, hP⟩ : ∃ s : ByteArray, (⟨t.name.toArray⟩ : ByteArray) = s := ⟨_, rfl⟩
 rw [hP] at g0
 obtain ⟨Y, hY⟩ : ∃ Y, (w.alloc (.cells #[.slice A0 n0 k0, .slice A1 n1 k1, .slice (some ⟨bt, ot, none⟩) n2 k2, .slice A3 n3 k3, .slice A4 n4 k4, .slice A5 n5 k5, .slice A6 n5 k6] 30)).alloc (.cells #[.slice none 0 0, .slice none 0 0, .slice none 0 0, .slice none 0 0, .slice none 0 0, .slice none 0 0, .slice none 0 0] 30) = Y := ⟨_, rfl⟩
 obtain ⟨X0, hX0⟩ : ∃ X, Y.alloc (.cells #[.string P, .int .i64 (lo : Int), .int .i64 (hi : Int), .slice Am lm cm] 51) = X := ⟨_, rfl⟩
 have hYs : Y.heap.size = N0 + 1 + 1 := by rw [← hY, ← hN0]; simp
 have hXs : X0.heap.size = N0 + 1 + 1 + 1 := by rw [← hX0, alloc_sz, hYs]
 have hbY : Below w.heap.size w Y := by rw [← hY]; exact (below_box w _).trans ((below_box _ _).mono (by simp))
 have hbX : Below w.heap.size w X0 := by rw [← hX0]; exact hbY.trans ((below_box Y _).mono hbY.size)
 have r1 : Y.heap[N0]? = some (.cells #[.slice A0 n0 k0, .slice A1 n1 k1, .slice (some ⟨bt, ot, none⟩) n2 k2, .slice A3 n3 k3, .slice A4 n4 k4, .slice A5 n5 k5, .slice A6 n5 k6] 30 (0, 0)) := by rw [← hY, ← hN0]; exact block_alloc _ (block_new w _)
 have r2 : Y.heap[N0 + 1]? = some (.cells #[.slice none 0 0, .slice none 0 0, .slice none 0 0, .slice none 0 0, .slice none 0 0, .slice none 0 0, .slice none 0 0] 30 (0, 0)) := by
  have := block_new (w.alloc (.cells #[.slice A0 n0 k0, .slice A1 n1 k1, .slice (some ⟨bt, ot, none⟩) n2 k2, .slice A3 n3 k3, .slice A4 n4 k4, .slice A5 n5 k5, .slice A6 n5 k6] 30)) (.cells #[.slice none 0 0, .slice none 0 0, .slice none 0 0, .slice none 0 0, .slice none 0 0, .slice none 0 0, .slice none 0 0] 30)
  rw [alloc_sz, hN0] at this
  rw [← hY]
  exact this
 have s1 : X0.heap[N0]? = some (.cells #[.slice A0 n0 k0, .slice A1 n1 k1, .slice (some ⟨bt, ot, none⟩) n2 k2, .slice A3 n3 k3, .slice A4 n4 k4, .slice A5 n5 k5, .slice A6 n5 k6] 30 (0, 0)) := by rw [← hX0]; exact block_alloc _ r1
 have s2 : X0.heap[N0 + 1]? = some (.cells #[.slice none 0 0, .slice none 0 0, .slice none 0 0, .slice none 0 0, .slice none 0 0, .slice none 0 0, .slice none 0 0] 30 (0, 0)) := by rw [← hX0]; exact block_alloc _ r2
 have s3 : X0.heap[N0 + 1 + 1]? = some (.cells #[.string P, .int .i64 (lo : Int), .int .i64 (hi : Int), .slice Am lm cm] 51 (0, 0)) := by
  have := block_new Y (.cells #[.string P, .int .i64 (lo : Int), .int .i64 (hi : Int), .slice Am lm cm] 51)
  rw [hYs] at this
  rw [← hX0]
  exact this
 have hbL : Below w.heap.size w ((w.alloc (.cells #[.slice A0 n0 k0, .slice A1 n1 k1, .slice (some ⟨bt, ot, none⟩) n2 k2, .slice A3 n3 k3, .slice A4 n4 k4, .slice A5 n5 k5, .slice A6 n5 k6] 30)).alloc (.cells #[.slice none 0 0, .slice none 0 0, .slice none 0 0, .slice none 0 0, .slice none 0 0, .slice none 0 0, .slice none 0 0] 30)) := (below_box w _).trans ((below_box _ _).mono (by simp))
 have y0 : ((w.alloc (.cells #[.slice A0 n0 k0, .slice A1 n1 k1, .slice (some ⟨bt, ot, none⟩) n2 k2, .slice A3 n3 k3, .slice A4 n4 k4, .slice A5 n5 k5, .slice A6 n5 k6] 30)).alloc (.cells #[.slice none 0 0, .slice none 0 0, .slice none 0 0, .slice none 0 0, .slice none 0 0, .slice none 0 0, .slice none 0 0] 30)).cell? ⟨bt, ot + i * 4, none⟩ = some (.string P) := (hbL.cell (p := ⟨bt, ot + i * 4, none⟩) hbt).trans g0
 have y1 : ((w.alloc (.cells #[.slice A0 n0 k0, .slice A1 n1 k1, .slice (some ⟨bt, ot, none⟩) n2 k2, .slice A3 n3 k3, .slice A4 n4 k4, .slice A5 n5 k5, .slice A6 n5 k6] 30)).alloc (.cells #[.slice none 0 0, .slice none 0 0, .slice none 0 0, .slice none 0 0, .slice none 0 0, .slice none 0 0, .slice none 0 0] 30)).cell? ⟨bt, ot + i * 4 + 1, none⟩ = some (.int .i64 (lo : Int)) := (hbL.cell (p := ⟨bt, ot + i * 4 + 1, none⟩) hbt).trans g1
 have y2 : ((w.alloc (.cells #[.slice A0 n0 k0, .slice A1 n1 k1, .slice (some ⟨bt, ot, none⟩) n2 k2, .slice A3 n3 k3, .slice A4 n4 k4, .slice A5 n5 k5, .slice A6 n5 k6] 30)).alloc (.cells #[.slice none 0 0, .slice none 0 0, .slice none 0 0, .slice none 0 0, .slice none 0 0, .slice none 0 0, .slice none 0 0] 30)).cell? ⟨bt, ot + i * 4 + 2, none⟩ = some (.int .i64 (hi : Int)) := (hbL.cell (p := ⟨bt, ot + i * 4 + 2, none⟩) hbt).trans g2
 have y3 : ((w.alloc (.cells #[.slice A0 n0 k0, .slice A1 n1 k1, .slice (some ⟨bt, ot, none⟩) n2 k2, .slice A3 n3 k3, .slice A4 n4 k4, .slice A5 n5 k5, .slice A6 n5 k6] 30)).alloc (.cells #[.slice none 0 0, .slice none 0 0, .slice none 0 0, .slice none 0 0, .slice none 0 0, .slice none 0 0, .slice none 0 0] 30)).cell? ⟨bt, ot + i * 4 + 3, none⟩ = some (.slice Am lm cm) := (hbL.cell (p := ⟨bt, ot + i * 4 + 3, none⟩) hbt).trans g3
 have hCW : ∀ W, Below X0.heap.size X0 W → CorAt W ⟨.slice A0 n0 k0, .slice A1 n1 k1, .slice (some ⟨bt, ot, none⟩) n2 k2, .slice A3 n3 k3, .slice A4 n4 k4, .slice A5 n5 k5, .slice A6 n5 k6⟩ c := fun W h => hC.below (hbX.trans (h.mono hbX.size))
 have hf0 := fun W (h : Below X0.heap.size X0 W) => firstFrom_nd (hCW W h).n hM.n.1 (lo : Int) hsn
 have hf1 := fun W (h : Below X0.heap.size X0 W) => firstFrom_reg (hCW W h).r hM.r.1 (lo : Int) hsr
 have hf2 := fun W (h : Below X0.heap.size X0 W) => firstFrom_reg (hCW W h).r hM.r.1 (hi : Int) hsr
 have hf3 := fun W (h : Below X0.heap.size X0 W) => firstFrom_nd (hCW W h).n hM.n.1 (hi : Int) hsn
 simp only [hp1, hp2, hm1, hm2] at hf0 hf1 hf2 hf3
 have HF0 := Lib.hid hf0
 have HCW := Lib.hid hCW
 have HX0 := Lib.hid hX0
 have HY := Lib.hid hY
 have HXS := Lib.hid hXs
 have HN0 := Lib.hid hN0
 have HBX := Lib.hid hbX
 have HPP := Lib.hid hpp
 have HMM := Lib.hid hmm
 have HLO := Lib.hid hlh
 have HHT := Lib.hid hht
 have HSL5 := Lib.hid hsl5
 have HT2 := Lib.hid ht2
 have HR2 := Lib.hid hr2
 have HN2 := Lib.hid hn2
 have HMV := Lib.hid hmv
 have HH := Lib.hid (And.intro hlo (And.intro hhi (And.intro hP elm)))
 have HM := Lib.hid hM
 have HP := Lib.hid (And.intro hp1 (And.intro hp2 (And.intro hm1 hm2)))
 have HE := Lib.hid (And.intro e0 (And.intro e1 (And.intro e2 (And.intro e3 (And.intro e4 (And.intro e5 e6))))))
 have HS1 := Lib.hid (And.intro s1 (And.intro s2 s3))
 have hil1 : (0 : Int) ≤ (i : Int) := by omega
 have hil2 : (i : Int) < (n2 : Int) := by omega
 have HI0 := Lib.hid hi0
 have HFS := Lib.hid (And.intro hf1 (And.intro hf2 hf3))
 clear hf0 hf1 hf2 hf3 hCW hX0 hY hXs hYs hN0 hbX hbY hbL hpp hmm hlh hht hsl5 ht2 hr2 hn2 hmv hlo hhi hP elm hM hp1 hp2 hm1 hm2 e0 e1 e2 e3 e4 e5 e6 s1 s2 s3 r1 r2 g0 g1 g2 g3 hC hbt hjt q0 q1 q2 q3 q4 q5 q6 hh hsr hsn hi0 hil
 go_enter Tryz.func29, Tryz.ntmps29
 go_wp2_with fail
 rw [HY.out, HX0.out, HN0.out]
 refine (HF0.out _ (Below.refl _ _)).mono ?_
 rintro e X ⟨rfl, hbX⟩
 obtain ⟨X1, hX1⟩ : ∃ X1, X.drew = X1 := ⟨_, rfl⟩
 have hbX1 : Below X0.heap.size X0 X1 := by rw [← hX1]; exact hbX.drew
 have HX1 := Lib.hid hX1
 have HB0X := Lib.hid hbX1
 clear hX1 hbX
 have hS0 : ∀ W, Below X0.heap.size X0 W → W.heap[N0]? = some (.cells #[.slice A0 n0 k0, .slice A1 n1 k1, .slice (some ⟨bt, ot, none⟩) n2 k2, .slice A3 n3 k3, .slice A4 n4 k4, .slice A5 n5 k5, .slice A6 n5 k6] 30 (0, 0)) ∧ W.heap[N0 + 1 + 1]? = some (.cells #[.string P, .int .i64 (lo : Int), .int .i64 (hi : Int), .slice Am lm cm] 51 (0, 0)) ∧ W.heap[N0 + 1]? = some (.cells #[.slice none 0 0, .slice none 0 0, .slice none 0 0, .slice none 0 0, .slice none 0 0, .slice none 0 0, .slice none 0 0] 30 (0, 0)) := fun W h => by
  have hx := HXS.out
  exact ⟨block_below HS1.out.1 h (by omega), block_below HS1.out.2.2 h (by omega), block_below HS1.out.2.1 h (by omega)⟩
 have HS0 := Lib.hid hS0
 have hS : ∀ W, Below X1.heap.size X1 W → W.cell? ⟨N0, 0, none⟩ = some (.slice A0 n0 k0) ∧ W.cell? ⟨N0, 1, none⟩ = some (.slice A1 n1 k1) ∧ W.cell? ⟨N0, 3, none⟩ = some (.slice A3 n3 k3) ∧ W.cell? ⟨N0, 4, none⟩ = some (.slice A4 n4 k4) ∧ W.cell? ⟨N0 + 1 + 1, 0, none⟩ = some (.string P) ∧ W.cell? ⟨N0 + 1 + 1, 1, none⟩ = some (.int .i64 (lo : Int)) ∧ W.cell? ⟨N0 + 1 + 1, 2, none⟩ = some (.int .i64 (hi : Int)) ∧ W.cell? ⟨N0 + 1 + 1, 3, none⟩ = some (.slice Am lm cm) := fun W h => by
  obtain ⟨z1, z2, -⟩ := hS0 W (hbX1.trans (h.mono hbX1.size))
  exact ⟨cell_of z1 rfl, cell_of z1 rfl, cell_of z1 rfl, cell_of z1 rfl, cell_of z2 rfl, cell_of z2 rfl, cell_of z2 rfl, cell_of z2 rfl⟩
 have HS := Lib.hid hS
 have HF1 := Lib.hid (fun W (h : Below X1.heap.size X1 W) => HFS.out.1 W (hbX1.trans (h.mono hbX1.size)))
 have HF2 := Lib.hid (fun W (h : Below X1.heap.size X1 W) => HFS.out.2.1 W (hbX1.trans (h.mono hbX1.size)))
 have HF3 := Lib.hid (fun W (h : Below X1.heap.size X1 W) => HFS.out.2.2 W (hbX1.trans (h.mono hbX1.size)))
 have HB0 := Lib.hid (show Below X1.heap.size X1 X1 from Below.refl X1.heap.size X1)
 have b1 : (0 : Int) ≤ (lo : Int) ∧ (lo : Int) ≤ (hi : Int) ∧ (0 : Int) ≤ (p1 : Int) ∧ (p1 : Int) ≤ (p2 : Int) ∧ (0 : Int) ≤ (m1 : Int) ∧ (m1 : Int) ≤ (m2 : Int) := by
  have := HLO.out
  have := HPP.out
  have := HMM.out
  omega
 clear hS0 hS hbX1 y0 y1 y2 y3 hil1 hil2
 obtain ⟨b1, b2, b3, b4, b5, b6⟩ := b1
 go_upto_region 5 with fail
 go_cut [9] (fun s9 wx => DocD X1.heap.size X1 (.slice A0 n0 k0) (.slice At (hi - lo) ct) (.slice Ar (p2 - p1) cr) (.slice An (m2 - m1) cn) (.string P) (.int .i64 (lo : Int)) (.int .i64 (hi : Int)) (.slice Am lm cm) s9 wx)
 case first =>
  refine wp_region_held_drew (S := (fun w' => w'.cell? ⟨N0, 0, none⟩ = some (.slice A0 n0 k0) ∧ w'.cell? ⟨N0, 1, none⟩ = some (.slice A1 n1 k1) ∧ w'.cell? ⟨N0, 3, none⟩ = some (.slice A3 n3 k3) ∧ w'.cell? ⟨N0, 4, none⟩ = some (.slice A4 n4 k4) ∧ w'.cell? ⟨N0 + 1 + 1, 0, none⟩ = some (.string P) ∧ w'.cell? ⟨N0 + 1 + 1, 1, none⟩ = some (.int .i64 (lo : Int)) ∧ w'.cell? ⟨N0 + 1 + 1, 2, none⟩ = some (.int .i64 (hi : Int)) ∧ w'.cell? ⟨N0 + 1 + 1, 3, none⟩ = some (.slice Am lm cm))) (by kernel_rfl) ?_ (fun hHeld => ?_)
  · (try dsimp only); (rw [HX1.out]; exact HS.out X1 HB0.out)
  rw [HX1.out] at hHeld ⊢
  refine wpAnyH_take (i := 0) (oi := ?oi1) (v := ?v1) ?hi1 (by kernel_rfl) (by kernel_rfl) (by kernel_rfl) ?hq1 ?hy1 (by assumption) ?hr1
  case hi1 => (simp only [List.getElem?_toArray, List.getElem?_cons_zero]; rfl)
  case hq1 => exact fun _ _ _ h => h
  case hy1 => exact .inl ⟨by rfl, by intro _ hSw'; (try dsimp only at hSw'); go_simp <;> with_reducible rfl⟩
  try simp only [Act.put, List.setIfInBounds_toArray, List.set_cons_zero, List.set_cons_succ]
  refine wpAnyH_take (i := 1) (oi := ?oi2) (v := ?v2) ?hi2 (by kernel_rfl) (by kernel_rfl) (by kernel_rfl) ?hq2 ?hy2 (by assumption) ?hr2
  case hi2 => (simp only [List.getElem?_toArray, List.getElem?_cons_succ, List.getElem?_cons_zero]; rfl)
  case hq2 => exact fun _ _ _ h => h
  case hy2 => exact .inl ⟨by rfl, by intro _ hSw'; (try dsimp only at hSw'); go_simp <;> with_reducible rfl⟩
  try simp only [Act.put, List.setIfInBounds_toArray, List.set_cons_zero, List.set_cons_succ]
  refine wpAnyH_take (i := 2) (oi := ?oi3) (v := ?v3) ?hi3 (by kernel_rfl) (by kernel_rfl) (by kernel_rfl) ?hq3 ?hy3 (by assumption) ?hr3
  case hi3 => (simp only [List.getElem?_toArray, List.getElem?_cons_succ, List.getElem?_cons_zero]; rfl)
  case hq3 => exact fun _ _ _ h => h
  case hy3 => exact .inl ⟨by rfl, by intro _ hSw'; (try dsimp only at hSw'); go_simp <;> with_reducible rfl⟩
  try simp only [Act.put, List.setIfInBounds_toArray, List.set_cons_zero, List.set_cons_succ]
  refine wpAnyH_take (i := 3) (oi := ?oi4) (v := ?v4) ?hi4 (by kernel_rfl) (by kernel_rfl) (by kernel_rfl) ?hq4 ?hy4 (by assumption) ?hr4
  case hi4 => (simp only [List.getElem?_toArray, List.getElem?_cons_succ, List.getElem?_cons_zero]; rfl)
  case hq4 => exact fun _ _ _ h => h
  case hy4 => exact .inl ⟨by rfl, by intro _ hSw'; (try dsimp only at hSw'); go_simp <;> with_reducible rfl⟩
  try simp only [Act.put, List.setIfInBounds_toArray, List.set_cons_zero, List.set_cons_succ]
  refine wpAnyH_take (i := 4) (oi := ?oi5) (v := ?v5) ?hi5 (by kernel_rfl) (by kernel_rfl) (by kernel_rfl) ?hq5 ?hy5 (by assumption) ?hr5
  case hi5 => (simp only [List.getElem?_toArray, List.getElem?_cons_succ, List.getElem?_cons_zero]; rfl)
  case hq5 => exact fun _ _ _ h => h
  case hy5 => exact .inl ⟨by rfl, by intro _ hSw'; (try dsimp only at hSw'); go_simp <;> with_reducible rfl⟩
  try simp only [Act.put, List.setIfInBounds_toArray, List.set_cons_zero, List.set_cons_succ]
  refine wpAnyH_take (i := 5) (oi := ?oi6) (v := ?v6) ?hi6 (by kernel_rfl) (by kernel_rfl) (by kernel_rfl) ?hq6 ?hy6 (by assumption) ?hr6
  case hi6 => (simp only [List.getElem?_toArray, List.getElem?_cons_succ, List.getElem?_cons_zero]; rfl)
  case hq6 => exact fun _ _ _ h => h
  case hy6 => exact .inl ⟨by rfl, by intro _ hSw'; (try dsimp only at hSw'); go_simp <;> with_reducible rfl⟩
  try simp only [Act.put, List.setIfInBounds_toArray, List.set_cons_zero, List.set_cons_succ]
  refine wpAnyH_take (i := 6) (oi := ?oi7) (v := ?v7) ?hi7 (by kernel_rfl) (by kernel_rfl) (by kernel_rfl) ?hq7 ?hy7 (by assumption) ?hr7
  case hi7 => (simp only [List.getElem?_toArray, List.getElem?_cons_succ, List.getElem?_cons_zero]; rfl)
  case hq7 => exact fun _ _ _ h => h
  case hy7 => exact .inl ⟨by rfl, by intro _ hSw'; (try dsimp only at hSw'); go_simp <;> with_reducible rfl⟩
  try simp only [Act.put, List.setIfInBounds_toArray, List.set_cons_zero, List.set_cons_succ]
  refine wpAnyH_take (i := 7) (oi := ?oi8) (v := ?v8) ?hi8 (by kernel_rfl) (by kernel_rfl) (by kernel_rfl) ?hq8 ?hy8 (by assumption) ?hr8
  case hi8 => (simp only [List.getElem?_toArray, List.getElem?_cons_succ, List.getElem?_cons_zero]; rfl)
  case hq8 => exact fun _ _ _ h => h
  case hy8 => exact .inl ⟨by rfl, by intro _ hSw'; (try dsimp only at hSw'); go_simp <;> with_reducible rfl⟩
  try simp only [Act.put, List.setIfInBounds_toArray, List.set_cons_zero, List.set_cons_succ]
  refine wpAnyH_take (i := 8) (oi := ?oi9) (v := ?v9) ?hi9 (by kernel_rfl) (by kernel_rfl) (by kernel_rfl) ?hq9 ?hy9 (by assumption) ?hr9
  case hi9 => (simp only [List.getElem?_toArray, List.getElem?_cons_succ, List.getElem?_cons_zero]; rfl)
  case hq9 => exact fun _ _ _ h => h
  case hy9 => exact .inl ⟨by rfl, by intro _ hSw'; (try dsimp only at hSw'); go_simp <;> with_reducible rfl⟩
  try simp only [Act.put, List.setIfInBounds_toArray, List.set_cons_zero, List.set_cons_succ]
  refine wpAnyH_take (i := 9) (oi := ?oi10) (v := ?v10) ?hi10 (by kernel_rfl) (by kernel_rfl) (by kernel_rfl) ?hq10 ?hy10 (by assumption) ?hr10
  case hi10 => (simp only [List.getElem?_toArray, List.getElem?_cons_succ, List.getElem?_cons_zero]; rfl)
  case hq10 => exact fun _ _ _ h => h
  case hy10 => exact .inl ⟨by rfl, by intro _ hSw'; (try dsimp only at hSw'); go_simp <;> with_reducible rfl⟩
  try simp only [Act.put, List.setIfInBounds_toArray, List.set_cons_zero, List.set_cons_succ]
  refine wpAnyH_take (i := 11) (oi := ?oi11) (v := ?v11) ?hi11 (by kernel_rfl) (by kernel_rfl) (by kernel_rfl) ?hq11 ?hy11 (by assumption) ?hr11
  case hi11 => (simp only [List.getElem?_toArray, List.getElem?_cons_succ, List.getElem?_cons_zero]; rfl)
  case hq11 => exact fun _ _ _ h => h
  case hy11 => exact .inl ⟨by rfl, by intro _ hSw'; (try dsimp only at hSw'); go_simp <;> with_reducible rfl⟩
  try simp only [Act.put, List.setIfInBounds_toArray, List.set_cons_zero, List.set_cons_succ]
  refine wpAnyH_take (i := 12) (oi := ?oi12) (v := ?v12) ?hi12 (by kernel_rfl) (by kernel_rfl) (by kernel_rfl) ?hq12 ?hy12 (by assumption) ?hr12
  case hi12 => (simp only [List.getElem?_toArray, List.getElem?_cons_succ, List.getElem?_cons_zero]; rfl)
  case hq12 => exact fun _ _ _ h => h
  case hy12 => exact .inl ⟨by rfl, by intro _ hSw'; (try dsimp only at hSw'); go_simp <;> with_reducible rfl⟩
  try simp only [Act.put, List.setIfInBounds_toArray, List.set_cons_zero, List.set_cons_succ]
  refine wpAnyH_take (i := 13) (oi := ?oi13) (v := ?v13) ?hi13 (by kernel_rfl) (by kernel_rfl) (by kernel_rfl) ?hq13 ?hy13 (by assumption) ?hr13
  case hi13 => (simp only [List.getElem?_toArray, List.getElem?_cons_succ, List.getElem?_cons_zero]; rfl)
  case hq13 => exact fun _ _ _ h => h
  case hy13 => exact .inl ⟨by rfl, by intro _ hSw'; (try dsimp only at hSw'); go_simp <;> with_reducible rfl⟩
  try simp only [Act.put, List.setIfInBounds_toArray, List.set_cons_zero, List.set_cons_succ]
  refine wpAnyH_take (i := 14) (oi := ?oi14) (v := ?v14) ?hi14 (by kernel_rfl) (by kernel_rfl) (by kernel_rfl) ?hq14 ?hy14 (by assumption) ?hr14
  case hi14 => (simp only [List.getElem?_toArray, List.getElem?_cons_succ, List.getElem?_cons_zero]; rfl)
  case hq14 => exact fun _ _ _ h => h
  case hy14 => exact .inl ⟨by rfl, by intro _ hSw'; (try dsimp only at hSw'); go_simp <;> with_reducible rfl⟩
  try simp only [Act.put, List.setIfInBounds_toArray, List.set_cons_zero, List.set_cons_succ]
  refine wpAnyH_take (i := 15) (oi := ?oi15) (v := ?v15) ?hi15 (by kernel_rfl) (by kernel_rfl) (by kernel_rfl) ?hq15 ?hy15 (by assumption) ?hr15
  case hi15 => (simp only [List.getElem?_toArray, List.getElem?_cons_succ, List.getElem?_cons_zero]; rfl)
  case hq15 => exact fun _ _ _ h => h
  case hy15 => exact .inl ⟨by rfl, by intro _ hSw'; (try dsimp only at hSw'); go_simp <;> with_reducible rfl⟩
  try simp only [Act.put, List.setIfInBounds_toArray, List.set_cons_zero, List.set_cons_succ]
  refine wpAnyH_take (i := 16) (oi := ?oi16) (v := ?v16) ?hi16 (by kernel_rfl) (by kernel_rfl) (by kernel_rfl) ?hq16 ?hy16 (by assumption) ?hr16
  case hi16 => (simp only [List.getElem?_toArray, List.getElem?_cons_succ, List.getElem?_cons_zero]; rfl)
  case hq16 => exact fun _ _ _ h => h
  case hy16 => exact .inl ⟨by rfl, by intro _ hSw'; (try dsimp only at hSw'); go_simp <;> with_reducible rfl⟩
  try simp only [Act.put, List.setIfInBounds_toArray, List.set_cons_zero, List.set_cons_succ]
  refine wpAnyH_take (i := 17) (oi := ?oi17) (v := ?v17) ?hi17 (by kernel_rfl) (by kernel_rfl) (by kernel_rfl) ?hq17 ?hy17 (by assumption) ?hr17
  case hi17 => (simp only [List.getElem?_toArray, List.getElem?_cons_succ, List.getElem?_cons_zero]; rfl)
  case hq17 => exact fun _ _ _ h => h
  case hy17 => exact .inl ⟨by rfl, by intro _ hSw'; (try dsimp only at hSw'); go_simp <;> with_reducible rfl⟩
  try simp only [Act.put, List.setIfInBounds_toArray, List.set_cons_zero, List.set_cons_succ]
  refine wpAnyH_take (i := 19) (oi := ?oi18) (v := ?v18) ?hi18 (by kernel_rfl) (by kernel_rfl) (by kernel_rfl) ?hq18 ?hy18 (by assumption) ?hr18
  case hi18 => (simp only [List.getElem?_toArray, List.getElem?_cons_succ, List.getElem?_cons_zero]; rfl)
  case hq18 => exact fun _ _ _ h => h
  case hy18 => exact .inl ⟨by rfl, by intro _ hSw'; (try dsimp only at hSw'); go_simp <;> with_reducible rfl⟩
  try simp only [Act.put, List.setIfInBounds_toArray, List.set_cons_zero, List.set_cons_succ]
  refine wpAnyH_take (i := 20) (oi := ?oi19) (v := ?v19) ?hi19 (by kernel_rfl) (by kernel_rfl) (by kernel_rfl) ?hq19 ?hy19 (by assumption) ?hr19
  case hi19 => (simp only [List.getElem?_toArray, List.getElem?_cons_succ, List.getElem?_cons_zero]; rfl)
  case hq19 => exact fun _ _ _ h => h
  case hy19 => exact .inl ⟨by rfl, by intro _ hSw'; (try dsimp only at hSw'); go_simp <;> with_reducible rfl⟩
  try simp only [Act.put, List.setIfInBounds_toArray, List.set_cons_zero, List.set_cons_succ]
  refine wpAnyH_take (i := 21) (oi := ?oi20) (v := ?v20) ?hi20 (by kernel_rfl) (by kernel_rfl) (by kernel_rfl) ?hq20 ?hy20 (by assumption) ?hr20
  case hi20 => (simp only [List.getElem?_toArray, List.getElem?_cons_succ, List.getElem?_cons_zero]; rfl)
  case hq20 => exact fun _ _ _ h => h
  case hy20 => exact .inl ⟨by rfl, by intro _ hSw'; (try dsimp only at hSw'); go_simp <;> with_reducible rfl⟩
  try simp only [Act.put, List.setIfInBounds_toArray, List.set_cons_zero, List.set_cons_succ]
  refine wpAnyH_take (i := 22) (oi := ?oi21) (v := ?v21) ?hi21 (by kernel_rfl) (by kernel_rfl) (by kernel_rfl) ?hq21 ?hy21 (by assumption) ?hr21
  case hi21 => (simp only [List.getElem?_toArray, List.getElem?_cons_succ, List.getElem?_cons_zero]; rfl)
  case hq21 => exact fun _ _ _ h => h
  case hy21 => exact .inl ⟨by rfl, by intro _ hSw'; (try dsimp only at hSw'); go_simp <;> with_reducible rfl⟩
  try simp only [Act.put, List.setIfInBounds_toArray, List.set_cons_zero, List.set_cons_succ]
  refine wpAnyH_take (i := 23) (oi := ?oi22) (v := ?v22) ?hi22 (by kernel_rfl) (by kernel_rfl) (by kernel_rfl) ?hq22 ?hy22 (by assumption) ?hr22
  case hi22 => (simp only [List.getElem?_toArray, List.getElem?_cons_succ, List.getElem?_cons_zero]; rfl)
  case hq22 => exact fun _ _ _ h => h
  case hy22 => exact .inl ⟨by rfl, by intro _ hSw'; (try dsimp only at hSw'); go_simp <;> with_reducible rfl⟩
  try simp only [Act.put, List.setIfInBounds_toArray, List.set_cons_zero, List.set_cons_succ]
  refine wpAnyH_take (i := 26) (oi := ?oi23) (v := ?v23) ?hi23 (by kernel_rfl) (by kernel_rfl) (by kernel_rfl) ?hq23 ?hy23 (by assumption) ?hr23
  case hi23 => (simp only [List.getElem?_toArray, List.getElem?_cons_succ, List.getElem?_cons_zero]; rfl)
  case hq23 => exact fun _ _ _ h => h
  case hy23 => exact .inl ⟨by rfl, by intro _ hSw'; (try dsimp only at hSw'); go_simp <;> with_reducible rfl⟩
  try simp only [Act.put, List.setIfInBounds_toArray, List.set_cons_zero, List.set_cons_succ]
  refine wpAnyH_take (i := 27) (oi := ?oi24) (v := ?v24) ?hi24 (by kernel_rfl) (by kernel_rfl) (by kernel_rfl) ?hq24 ?hy24 (by assumption) ?hr24
  case hi24 => (simp only [List.getElem?_toArray, List.getElem?_cons_succ, List.getElem?_cons_zero]; rfl)
  case hq24 => exact fun _ _ _ h => h
  case hy24 => exact .inl ⟨by rfl, by intro _ hSw'; (try dsimp only at hSw'); go_simp <;> with_reducible rfl⟩
  try simp only [Act.put, List.setIfInBounds_toArray, List.set_cons_zero, List.set_cons_succ]
  refine wpAnyH_take (i := 28) (oi := ?oi25) (v := ?v25) ?hi25 (by kernel_rfl) (by kernel_rfl) (by kernel_rfl) ?hq25 ?hy25 (by assumption) ?hr25
  case hi25 => (simp only [List.getElem?_toArray, List.getElem?_cons_succ, List.getElem?_cons_zero]; rfl)
  case hq25 => exact fun _ _ _ h => h
  case hy25 => exact .inl ⟨by rfl, by intro _ hSw'; (try dsimp only at hSw'); go_simp <;> with_reducible rfl⟩
  try simp only [Act.put, List.setIfInBounds_toArray, List.set_cons_zero, List.set_cons_succ]
  refine wpAnyH_take (i := 29) (oi := ?oi26) (v := ?v26) ?hi26 (by kernel_rfl) (by kernel_rfl) (by kernel_rfl) ?hq26 ?hy26 (by assumption) ?hr26
  case hi26 => (simp only [List.getElem?_toArray, List.getElem?_cons_succ, List.getElem?_cons_zero]; rfl)
  case hq26 => exact fun _ _ _ h => h
  case hy26 => exact .inl ⟨by rfl, by intro _ hSw'; (try dsimp only at hSw'); go_simp <;> with_reducible rfl⟩
  try simp only [Act.put, List.setIfInBounds_toArray, List.set_cons_zero, List.set_cons_succ]
  refine wpAnyH_take (i := 30) (oi := ?oi27) (v := ?v27) ?hi27 (by kernel_rfl) (by kernel_rfl) (by kernel_rfl) ?hq27 ?hy27 (by assumption) ?hr27
  case hi27 => (simp only [List.getElem?_toArray, List.getElem?_cons_succ, List.getElem?_cons_zero]; rfl)
  case hq27 => exact fun _ _ _ h => h
  case hy27 => exact .inl ⟨by rfl, by intro _ hSw'; (try dsimp only at hSw'); go_simp <;> with_reducible rfl⟩
  try simp only [Act.put, List.setIfInBounds_toArray, List.set_cons_zero, List.set_cons_succ]
  refine wpAnyH_take (i := 31) (oi := ?oi28) (v := ?v28) ?hi28 (by kernel_rfl) (by kernel_rfl) (by kernel_rfl) ?hq28 ?hy28 (by assumption) ?hr28
  case hi28 => (simp only [List.getElem?_toArray, List.getElem?_cons_succ, List.getElem?_cons_zero]; rfl)
  case hq28 => exact fun _ _ _ h => h
  case hy28 => exact .inl ⟨by rfl, by intro _ hSw'; (try dsimp only at hSw'); go_simp <;> with_reducible rfl⟩
  try simp only [Act.put, List.setIfInBounds_toArray, List.set_cons_zero, List.set_cons_succ]
  refine wpAnyH_take (i := 32) (oi := ?oi29) (v := ?v29) ?hi29 (by kernel_rfl) (by kernel_rfl) (by kernel_rfl) ?hq29 ?hy29 (by assumption) ?hr29
  case hi29 => (simp only [List.getElem?_toArray, List.getElem?_cons_succ, List.getElem?_cons_zero]; rfl)
  case hq29 => exact fun _ _ _ h => h
  case hy29 => exact .inl ⟨by rfl, by intro _ hSw'; (try dsimp only at hSw'); go_simp <;> with_reducible rfl⟩
  try simp only [Act.put, List.setIfInBounds_toArray, List.set_cons_zero, List.set_cons_succ]
  refine wpAnyH_take (i := 33) (oi := ?oi30) (v := ?v30) ?hi30 (by kernel_rfl) (by kernel_rfl) (by kernel_rfl) ?hq30 ?hy30 (by assumption) ?hr30
  case hi30 => (simp only [List.getElem?_toArray, List.getElem?_cons_succ, List.getElem?_cons_zero]; rfl)
  case hq30 => exact fun _ _ _ h => h
  case hy30 => exact .inl ⟨by rfl, by intro _ hSw'; (try dsimp only at hSw'); go_simp <;> with_reducible rfl⟩
  try simp only [Act.put, List.setIfInBounds_toArray, List.set_cons_zero, List.set_cons_succ]
  refine wpAnyH_ready (rs := [10, 18, 37]) (by kernel_rfl) (by simp) ?_
  refine AllReadyH.cons (o := ?oo31) ?hi31 (fun K hK => ?hs31) ?hm31
  case hi31 => (simp only [List.getElem?_toArray, List.getElem?_cons_succ, List.getElem?_cons_zero]; rfl)
  ·
   go_simp
   obtain ⟨x1, hx1⟩ : ∃ W', X1.alloc (.cells #[.string P, .int .i64 (lo : Int), .int .i64 (hi : Int), .slice Am lm cm] 51) = W' := ⟨_, rfl⟩
   rw [hx1]
   have hbx1 : Below X1.heap.size X1 x1 := by rw [← hx1]; exact below_box _ _
   have HMG := Lib.hid HB0.out.size
   have HGx1 := Lib.hid (show x1.heap[X1.heap.size]? = some (.cells #[.string P, .int .i64 (lo : Int), .int .i64 (hi : Int), .slice Am lm cm] 51 (0, 0)) by rw [← hx1]; exact block_new _ _)
   have HBx1 := Lib.hid (HB0.out.trans (hbx1.mono HB0.out.size))
   clear hx1 hbx1
   refine hK.out _ _ ?_ (fun hHeld => ?_)
   · (try dsimp only); exact HS.out x1 HBx1.out
   clear hK K
   try simp only [Act.put, List.setIfInBounds_toArray, List.set_cons_zero, List.set_cons_succ]
   refine wpAnyH_ready (rs := [18, 37]) (by kernel_rfl) (by simp) ?_
   refine AllReadyH.cons (o := ?oo32) ?hi32 (fun K hK => ?hs32) ?hm32
   case hi32 => (simp only [List.getElem?_toArray, List.getElem?_cons_succ, List.getElem?_cons_zero]; rfl)
   ·
    go_simp
    refine (HF1.out x1 HBx1.out).mono ?_
    rintro e x2 ⟨rfl, hbx2⟩
    have HGx2 := Lib.hid (block_below HGx1.out hbx2 (lt_blk HGx1.out))
    have HBx2 := Lib.hid (HBx1.out.trans (hbx2.mono HBx1.out.size))
    clear hbx2
    (try go_wp2_with fail)
    refine hK.out _ _ ?_ (fun hHeld => ?_)
    · (try dsimp only); exact HS.out x2 HBx2.out
    clear hK K
    try simp only [Act.put, List.setIfInBounds_toArray, List.set_cons_zero, List.set_cons_succ]
    refine wpAnyH_ready (rs := [24, 37]) (by kernel_rfl) (by simp) ?_
    refine AllReadyH.cons (o := ?oo33) ?hi33 (fun K hK => ?hs33) ?hm33
    case hi33 => (simp only [List.getElem?_toArray, List.getElem?_cons_succ, List.getElem?_cons_zero]; rfl)
    ·
     go_simp
     refine (HF2.out x2 HBx2.out).mono ?_
     rintro e x3 ⟨rfl, hbx3⟩
     have HGx3 := Lib.hid (block_below HGx2.out hbx3 (lt_blk HGx2.out))
     have HBx3 := Lib.hid (HBx2.out.trans (hbx3.mono HBx2.out.size))
     clear hbx3
     (try go_wp2_with fail)
     refine hK.out _ _ ?_ (fun hHeld => ?_)
     · (try dsimp only); exact HS.out x3 HBx3.out
     clear hK K
     try simp only [Act.put, List.setIfInBounds_toArray, List.set_cons_zero, List.set_cons_succ]
     refine wpAnyH_take (i := 25) (oi := ?oi34) (v := ?v34) ?hi34 (by kernel_rfl) (by kernel_rfl) (by kernel_rfl) ?hq34 ?hy34 (by assumption) ?hr34
     case hi34 => (simp only [List.getElem?_toArray, List.getElem?_cons_succ, List.getElem?_cons_zero]; rfl)
     case hq34 => exact fun _ _ _ h => h
     case hy34 => exact .inl ⟨by rfl, by intro _ hSw'; (try dsimp only at hSw'); go_simp <;> with_reducible rfl⟩
     try simp only [Act.put, List.setIfInBounds_toArray, List.set_cons_zero, List.set_cons_succ]
     refine wpAnyH_ready (rs := [34, 37]) (by kernel_rfl) (by simp) ?_
     refine AllReadyH.cons (o := ?oo35) ?hi35 (fun K hK => ?hs35) ?hm35
     case hi35 => (simp only [List.getElem?_toArray, List.getElem?_cons_succ, List.getElem?_cons_zero]; rfl)
     ·
      go_simp
      refine (HF3.out x3 HBx3.out).mono ?_
      rintro e x4 ⟨rfl, hbx4⟩
      have HGx4 := Lib.hid (block_below HGx3.out hbx4 (lt_blk HGx3.out))
      have HBx4 := Lib.hid (HBx3.out.trans (hbx4.mono HBx3.out.size))
      clear hbx4
      (try go_wp2_with fail)
      refine hK.out _ _ ?_ (fun hHeld => ?_)
      · (try dsimp only); exact HS.out x4 HBx4.out
      clear hK K
      try simp only [Act.put, List.setIfInBounds_toArray, List.set_cons_zero, List.set_cons_succ]
      refine wpAnyH_take (i := 35) (oi := ?oi36) (v := ?v36) ?hi36 (by kernel_rfl) (by kernel_rfl) (by kernel_rfl) ?hq36 ?hy36 (by assumption) ?hr36
      case hi36 => (simp only [List.getElem?_toArray, List.getElem?_cons_succ, List.getElem?_cons_zero]; rfl)
      case hq36 => exact fun _ _ _ h => h
      case hy36 => exact .inl ⟨by rfl, by intro _ hSw'; (try dsimp only at hSw'); go_simp <;> with_reducible rfl⟩
      try simp only [Act.put, List.setIfInBounds_toArray, List.set_cons_zero, List.set_cons_succ]
      refine wpAnyH_take (i := 36) (oi := ?oi37) (v := ?v37) ?hi37 (by kernel_rfl) (by kernel_rfl) (by kernel_rfl) ?hq37 ?hy37 (by assumption) ?hr37
      case hi37 => (simp only [List.getElem?_toArray, List.getElem?_cons_succ, List.getElem?_cons_zero]; rfl)
      case hq37 => exact fun _ _ _ h => h
      case hy37 => exact .inl ⟨by rfl, by intro _ hSw'; (try dsimp only at hSw'); go_simp <;> with_reducible rfl⟩
      try simp only [Act.put, List.setIfInBounds_toArray, List.set_cons_zero, List.set_cons_succ]
      refine wpAnyH_ready (rs := [37]) (by kernel_rfl) (by simp) ?_
      refine AllReadyH.cons (o := ?oo38) ?hi38 (fun K hK => ?hs38) ?hm38
      case hi38 => (simp only [List.getElem?_toArray, List.getElem?_cons_succ, List.getElem?_cons_zero]; rfl)
      ·
       go_simp
       obtain ⟨x5, hx5⟩ : ∃ W', x4.alloc (.cells #[.slice none 0 0, .slice none 0 0, .slice none 0 0, .slice none 0 0, .slice none 0 0, .slice none 0 0, .slice none 0 0] 30) = W' := ⟨_, rfl⟩
       rw [hx5]
       have hbx5 : Below x4.heap.size x4 x5 := by rw [← hx5]; exact below_box _ _
       have HMD := Lib.hid HBx4.out.size
       have HDx5 := Lib.hid (show x5.heap[x4.heap.size]? = some (.cells #[.slice none 0 0, .slice none 0 0, .slice none 0 0, .slice none 0 0, .slice none 0 0, .slice none 0 0, .slice none 0 0] 30 (0, 0)) by rw [← hx5]; exact block_new _ _)
       have HGx5 := Lib.hid (block_below HGx4.out hbx5 (lt_blk HGx4.out))
       have HBx5 := Lib.hid (HBx4.out.trans (hbx5.mono HBx4.out.size))
       clear hx5 hbx5
       refine hK.out _ _ ?_ (fun hHeld => ?_)
       · (try dsimp only); exact HS.out x5 HBx5.out
       clear hK K
       try simp only [Act.put, List.setIfInBounds_toArray, List.set_cons_zero, List.set_cons_succ]
       refine wpAnyH_ready (rs := [38]) (by kernel_rfl) (by simp) ?_
       refine AllReadyH.cons (o := ?oo39) ?hi39 (fun K hK => ?hs39) ?hm39
       case hi39 => (simp only [List.getElem?_toArray, List.getElem?_cons_succ, List.getElem?_cons_zero]; rfl)
       ·
        obtain ⟨⟨t0, t1, t2, t3, t4, t5, t6⟩, f0, f1, f2, f3, f4, f5, f6⟩ := seven_f HDx5.out
        go_simp
        obtain ⟨x6, hx6⟩ : ∃ W', (((((((x5.setCell ⟨x4.heap.size, 0, none⟩ (.slice A0 n0 k0)).setCell ⟨x4.heap.size, 1, none⟩ (.slice At (hi - lo) ct)).setCell ⟨x4.heap.size, 2, none⟩ (.slice (some ⟨X1.heap.size, 0, none⟩) 1 1)).setCell ⟨x4.heap.size, 3, none⟩ (.slice Ar (p2 - p1) cr)).setCell ⟨x4.heap.size, 4, none⟩ (.slice An (m2 - m1) cn)).setCell ⟨x4.heap.size, 5, none⟩ (.slice none 0 0)).setCell ⟨x4.heap.size, 6, none⟩ (.slice none 0 0)) = W' := ⟨_, rfl⟩
        rw [hx6]
        have hne := blk_ne HGx5.out HDx5.out (by decide)
        have HNE := Lib.hid hne
        obtain ⟨hD', hG', hB'⟩ := set_seven hx6 HDx5.out HGx5.out hne HMD.out HBx5.out
        have HDx6 := Lib.hid hD'
        have HGx6 := Lib.hid hG'
        have HBx6 := Lib.hid hB'
        clear hD' hG' hB'
        clear hx6 hne
        refine hK.out _ _ ?_ (fun hHeld => ?_)
        · (try dsimp only); exact HS.out x6 HBx6.out
        clear hK K
        try simp only [Act.put, List.setIfInBounds_toArray, List.set_cons_zero, List.set_cons_succ]
        refine wpAnyH_done (by kernel_rfl) ?_ _
        go_wp2_with fail
        go_meet
        exact ⟨x4.heap.size, X1.heap.size, rfl, HBx6.out, HMD.out, HMG.out, HNE.out, HDx6.out, HGx6.out⟩
       exact AllReadyH.nil
      exact AllReadyH.nil
     refine AllReadyH.cons (o := ?oo40) ?hi40 (fun K hK => ?hs40) ?hm40
     case hi40 => (simp only [List.getElem?_toArray, List.getElem?_cons_succ, List.getElem?_cons_zero]; rfl)
     ·
      go_simp
      obtain ⟨x7, hx7⟩ : ∃ W', x3.alloc (.cells #[.slice none 0 0, .slice none 0 0, .slice none 0 0, .slice none 0 0, .slice none 0 0, .slice none 0 0, .slice none 0 0] 30) = W' := ⟨_, rfl⟩
      rw [hx7]
      have hbx7 : Below x3.heap.size x3 x7 := by rw [← hx7]; exact below_box _ _
      have HMD := Lib.hid HBx3.out.size
      have HDx7 := Lib.hid (show x7.heap[x3.heap.size]? = some (.cells #[.slice none 0 0, .slice none 0 0, .slice none 0 0, .slice none 0 0, .slice none 0 0, .slice none 0 0, .slice none 0 0] 30 (0, 0)) by rw [← hx7]; exact block_new _ _)
      have HGx7 := Lib.hid (block_below HGx3.out hbx7 (lt_blk HGx3.out))
      have HBx7 := Lib.hid (HBx3.out.trans (hbx7.mono HBx3.out.size))
      clear hx7 hbx7
      refine hK.out _ _ ?_ (fun hHeld => ?_)
      · (try dsimp only); exact HS.out x7 HBx7.out
      clear hK K
      try simp only [Act.put, List.setIfInBounds_toArray, List.set_cons_zero, List.set_cons_succ]
      refine wpAnyH_ready (rs := [34]) (by kernel_rfl) (by simp) ?_
      refine AllReadyH.cons (o := ?oo41) ?hi41 (fun K hK => ?hs41) ?hm41
      case hi41 => (simp only [List.getElem?_toArray, List.getElem?_cons_succ, List.getElem?_cons_zero]; rfl)
      ·
       go_simp
       refine (HF3.out x7 HBx7.out).mono ?_
       rintro e x8 ⟨rfl, hbx8⟩
       have HGx8 := Lib.hid (block_below HGx7.out hbx8 (lt_blk HGx7.out))
       have HDx8 := Lib.hid (block_below HDx7.out hbx8 (lt_blk HDx7.out))
       have HBx8 := Lib.hid (HBx7.out.trans (hbx8.mono HBx7.out.size))
       clear hbx8
       (try go_wp2_with fail)
       refine hK.out _ _ ?_ (fun hHeld => ?_)
       · (try dsimp only); exact HS.out x8 HBx8.out
       clear hK K
       try simp only [Act.put, List.setIfInBounds_toArray, List.set_cons_zero, List.set_cons_succ]
       refine wpAnyH_take (i := 35) (oi := ?oi42) (v := ?v42) ?hi42 (by kernel_rfl) (by kernel_rfl) (by kernel_rfl) ?hq42 ?hy42 (by assumption) ?hr42
       case hi42 => (simp only [List.getElem?_toArray, List.getElem?_cons_succ, List.getElem?_cons_zero]; rfl)
       case hq42 => exact fun _ _ _ h => h
       case hy42 => exact .inl ⟨by rfl, by intro _ hSw'; (try dsimp only at hSw'); go_simp <;> with_reducible rfl⟩
       try simp only [Act.put, List.setIfInBounds_toArray, List.set_cons_zero, List.set_cons_succ]
       refine wpAnyH_take (i := 36) (oi := ?oi43) (v := ?v43) ?hi43 (by kernel_rfl) (by kernel_rfl) (by kernel_rfl) ?hq43 ?hy43 (by assumption) ?hr43
       case hi43 => (simp only [List.getElem?_toArray, List.getElem?_cons_succ, List.getElem?_cons_zero]; rfl)
       case hq43 => exact fun _ _ _ h => h
       case hy43 => exact .inl ⟨by rfl, by intro _ hSw'; (try dsimp only at hSw'); go_simp <;> with_reducible rfl⟩
       try simp only [Act.put, List.setIfInBounds_toArray, List.set_cons_zero, List.set_cons_succ]
       refine wpAnyH_ready (rs := [38]) (by kernel_rfl) (by simp) ?_
       refine AllReadyH.cons (o := ?oo44) ?hi44 (fun K hK => ?hs44) ?hm44
       case hi44 => (simp only [List.getElem?_toArray, List.getElem?_cons_succ, List.getElem?_cons_zero]; rfl)
       ·
        obtain ⟨⟨t0, t1, t2, t3, t4, t5, t6⟩, f0, f1, f2, f3, f4, f5, f6⟩ := seven_f HDx8.out
        go_simp
        obtain ⟨x9, hx9⟩ : ∃ W', (((((((x8.setCell ⟨x3.heap.size, 0, none⟩ (.slice A0 n0 k0)).setCell ⟨x3.heap.size, 1, none⟩ (.slice At (hi - lo) ct)).setCell ⟨x3.heap.size, 2, none⟩ (.slice (some ⟨X1.heap.size, 0, none⟩) 1 1)).setCell ⟨x3.heap.size, 3, none⟩ (.slice Ar (p2 - p1) cr)).setCell ⟨x3.heap.size, 4, none⟩ (.slice An (m2 - m1) cn)).setCell ⟨x3.heap.size, 5, none⟩ (.slice none 0 0)).setCell ⟨x3.heap.size, 6, none⟩ (.slice none 0 0)) = W' := ⟨_, rfl⟩
        rw [hx9]
        have hne := blk_ne HGx8.out HDx8.out (by decide)
        have HNE := Lib.hid hne
        obtain ⟨hD', hG', hB'⟩ := set_seven hx9 HDx8.out HGx8.out hne HMD.out HBx8.out
        have HDx9 := Lib.hid hD'
        have HGx9 := Lib.hid hG'
        have HBx9 := Lib.hid hB'
        clear hD' hG' hB'
        clear hx9 hne
        refine hK.out _ _ ?_ (fun hHeld => ?_)
        · (try dsimp only); exact HS.out x9 HBx9.out
        clear hK K
        try simp only [Act.put, List.setIfInBounds_toArray, List.set_cons_zero, List.set_cons_succ]
        refine wpAnyH_done (by kernel_rfl) ?_ _
        go_wp2_with fail
        go_meet
        exact ⟨x3.heap.size, X1.heap.size, rfl, HBx9.out, HMD.out, HMG.out, HNE.out, HDx9.out, HGx9.out⟩
       exact AllReadyH.nil
      exact AllReadyH.nil
     exact AllReadyH.nil
    refine AllReadyH.cons (o := ?oo45) ?hi45 (fun K hK => ?hs45) ?hm45
    case hi45 => (simp only [List.getElem?_toArray, List.getElem?_cons_succ, List.getElem?_cons_zero]; rfl)
    ·
     go_simp
     obtain ⟨x10, hx10⟩ : ∃ W', x2.alloc (.cells #[.slice none 0 0, .slice none 0 0, .slice none 0 0, .slice none 0 0, .slice none 0 0, .slice none 0 0, .slice none 0 0] 30) = W' := ⟨_, rfl⟩
     rw [hx10]
     have hbx10 : Below x2.heap.size x2 x10 := by rw [← hx10]; exact below_box _ _
     have HMD := Lib.hid HBx2.out.size
     have HDx10 := Lib.hid (show x10.heap[x2.heap.size]? = some (.cells #[.slice none 0 0, .slice none 0 0, .slice none 0 0, .slice none 0 0, .slice none 0 0, .slice none 0 0, .slice none 0 0] 30 (0, 0)) by rw [← hx10]; exact block_new _ _)
     have HGx10 := Lib.hid (block_below HGx2.out hbx10 (lt_blk HGx2.out))
     have HBx10 := Lib.hid (HBx2.out.trans (hbx10.mono HBx2.out.size))
     clear hx10 hbx10
     refine hK.out _ _ ?_ (fun hHeld => ?_)
     · (try dsimp only); exact HS.out x10 HBx10.out
     clear hK K
     try simp only [Act.put, List.setIfInBounds_toArray, List.set_cons_zero, List.set_cons_succ]
     refine wpAnyH_ready (rs := [24]) (by kernel_rfl) (by simp) ?_
     refine AllReadyH.cons (o := ?oo46) ?hi46 (fun K hK => ?hs46) ?hm46
     case hi46 => (simp only [List.getElem?_toArray, List.getElem?_cons_succ, List.getElem?_cons_zero]; rfl)
     ·
      go_simp
      refine (HF2.out x10 HBx10.out).mono ?_
      rintro e x11 ⟨rfl, hbx11⟩
      have HGx11 := Lib.hid (block_below HGx10.out hbx11 (lt_blk HGx10.out))
      have HDx11 := Lib.hid (block_below HDx10.out hbx11 (lt_blk HDx10.out))
      have HBx11 := Lib.hid (HBx10.out.trans (hbx11.mono HBx10.out.size))
      clear hbx11
      (try go_wp2_with fail)
      refine hK.out _ _ ?_ (fun hHeld => ?_)
      · (try dsimp only); exact HS.out x11 HBx11.out
      clear hK K
      try simp only [Act.put, List.setIfInBounds_toArray, List.set_cons_zero, List.set_cons_succ]
      refine wpAnyH_take (i := 25) (oi := ?oi47) (v := ?v47) ?hi47 (by kernel_rfl) (by kernel_rfl) (by kernel_rfl) ?hq47 ?hy47 (by assumption) ?hr47
      case hi47 => (simp only [List.getElem?_toArray, List.getElem?_cons_succ, List.getElem?_cons_zero]; rfl)
      case hq47 => exact fun _ _ _ h => h
      case hy47 => exact .inl ⟨by rfl, by intro _ hSw'; (try dsimp only at hSw'); go_simp <;> with_reducible rfl⟩
      try simp only [Act.put, List.setIfInBounds_toArray, List.set_cons_zero, List.set_cons_succ]
      refine wpAnyH_ready (rs := [34]) (by kernel_rfl) (by simp) ?_
      refine AllReadyH.cons (o := ?oo48) ?hi48 (fun K hK => ?hs48) ?hm48
      case hi48 => (simp only [List.getElem?_toArray, List.getElem?_cons_succ, List.getElem?_cons_zero]; rfl)
      ·
       go_simp
       refine (HF3.out x11 HBx11.out).mono ?_
       rintro e x12 ⟨rfl, hbx12⟩
       have HGx12 := Lib.hid (block_below HGx11.out hbx12 (lt_blk HGx11.out))
       have HDx12 := Lib.hid (block_below HDx11.out hbx12 (lt_blk HDx11.out))
       have HBx12 := Lib.hid (HBx11.out.trans (hbx12.mono HBx11.out.size))
       clear hbx12
       (try go_wp2_with fail)
       refine hK.out _ _ ?_ (fun hHeld => ?_)
       · (try dsimp only); exact HS.out x12 HBx12.out
       clear hK K
       try simp only [Act.put, List.setIfInBounds_toArray, List.set_cons_zero, List.set_cons_succ]
       refine wpAnyH_take (i := 35) (oi := ?oi49) (v := ?v49) ?hi49 (by kernel_rfl) (by kernel_rfl) (by kernel_rfl) ?hq49 ?hy49 (by assumption) ?hr49
       case hi49 => (simp only [List.getElem?_toArray, List.getElem?_cons_succ, List.getElem?_cons_zero]; rfl)
       case hq49 => exact fun _ _ _ h => h
       case hy49 => exact .inl ⟨by rfl, by intro _ hSw'; (try dsimp only at hSw'); go_simp <;> with_reducible rfl⟩
       try simp only [Act.put, List.setIfInBounds_toArray, List.set_cons_zero, List.set_cons_succ]
       refine wpAnyH_take (i := 36) (oi := ?oi50) (v := ?v50) ?hi50 (by kernel_rfl) (by kernel_rfl) (by kernel_rfl) ?hq50 ?hy50 (by assumption) ?hr50
       case hi50 => (simp only [List.getElem?_toArray, List.getElem?_cons_succ, List.getElem?_cons_zero]; rfl)
       case hq50 => exact fun _ _ _ h => h
       case hy50 => exact .inl ⟨by rfl, by intro _ hSw'; (try dsimp only at hSw'); go_simp <;> with_reducible rfl⟩
       try simp only [Act.put, List.setIfInBounds_toArray, List.set_cons_zero, List.set_cons_succ]
       refine wpAnyH_ready (rs := [38]) (by kernel_rfl) (by simp) ?_
       refine AllReadyH.cons (o := ?oo51) ?hi51 (fun K hK => ?hs51) ?hm51
       case hi51 => (simp only [List.getElem?_toArray, List.getElem?_cons_succ, List.getElem?_cons_zero]; rfl)
       ·
        obtain ⟨⟨t0, t1, t2, t3, t4, t5, t6⟩, f0, f1, f2, f3, f4, f5, f6⟩ := seven_f HDx12.out
        go_simp
        obtain ⟨x13, hx13⟩ : ∃ W', (((((((x12.setCell ⟨x2.heap.size, 0, none⟩ (.slice A0 n0 k0)).setCell ⟨x2.heap.size, 1, none⟩ (.slice At (hi - lo) ct)).setCell ⟨x2.heap.size, 2, none⟩ (.slice (some ⟨X1.heap.size, 0, none⟩) 1 1)).setCell ⟨x2.heap.size, 3, none⟩ (.slice Ar (p2 - p1) cr)).setCell ⟨x2.heap.size, 4, none⟩ (.slice An (m2 - m1) cn)).setCell ⟨x2.heap.size, 5, none⟩ (.slice none 0 0)).setCell ⟨x2.heap.size, 6, none⟩ (.slice none 0 0)) = W' := ⟨_, rfl⟩
        rw [hx13]
        have hne := blk_ne HGx12.out HDx12.out (by decide)
        have HNE := Lib.hid hne
        obtain ⟨hD', hG', hB'⟩ := set_seven hx13 HDx12.out HGx12.out hne HMD.out HBx12.out
        have HDx13 := Lib.hid hD'
        have HGx13 := Lib.hid hG'
        have HBx13 := Lib.hid hB'
        clear hD' hG' hB'
        clear hx13 hne
        refine hK.out _ _ ?_ (fun hHeld => ?_)
        · (try dsimp only); exact HS.out x13 HBx13.out
        clear hK K
        try simp only [Act.put, List.setIfInBounds_toArray, List.set_cons_zero, List.set_cons_succ]
        refine wpAnyH_done (by kernel_rfl) ?_ _
        go_wp2_with fail
        go_meet
        exact ⟨x2.heap.size, X1.heap.size, rfl, HBx13.out, HMD.out, HMG.out, HNE.out, HDx13.out, HGx13.out⟩
       exact AllReadyH.nil
      exact AllReadyH.nil
     exact AllReadyH.nil
    exact AllReadyH.nil
   refine AllReadyH.cons (o := ?oo52) ?hi52 (fun K hK => ?hs52) ?hm52
   case hi52 => (simp only [List.getElem?_toArray, List.getElem?_cons_succ, List.getElem?_cons_zero]; rfl)
   ·
    go_simp
    obtain ⟨x14, hx14⟩ : ∃ W', x1.alloc (.cells #[.slice none 0 0, .slice none 0 0, .slice none 0 0, .slice none 0 0, .slice none 0 0, .slice none 0 0, .slice none 0 0] 30) = W' := ⟨_, rfl⟩
    rw [hx14]
    have hbx14 : Below x1.heap.size x1 x14 := by rw [← hx14]; exact below_box _ _
    have HMD := Lib.hid HBx1.out.size
    have HDx14 := Lib.hid (show x14.heap[x1.heap.size]? = some (.cells #[.slice none 0 0, .slice none 0 0, .slice none 0 0, .slice none 0 0, .slice none 0 0, .slice none 0 0, .slice none 0 0] 30 (0, 0)) by rw [← hx14]; exact block_new _ _)
    have HGx14 := Lib.hid (block_below HGx1.out hbx14 (lt_blk HGx1.out))
    have HBx14 := Lib.hid (HBx1.out.trans (hbx14.mono HBx1.out.size))
    clear hx14 hbx14
    refine hK.out _ _ ?_ (fun hHeld => ?_)
    · (try dsimp only); exact HS.out x14 HBx14.out
    clear hK K
    try simp only [Act.put, List.setIfInBounds_toArray, List.set_cons_zero, List.set_cons_succ]
    refine wpAnyH_ready (rs := [18]) (by kernel_rfl) (by simp) ?_
    refine AllReadyH.cons (o := ?oo53) ?hi53 (fun K hK => ?hs53) ?hm53
    case hi53 => (simp only [List.getElem?_toArray, List.getElem?_cons_succ, List.getElem?_cons_zero]; rfl)
    ·
     go_simp
     refine (HF1.out x14 HBx14.out).mono ?_
     rintro e x15 ⟨rfl, hbx15⟩
     have HGx15 := Lib.hid (block_below HGx14.out hbx15 (lt_blk HGx14.out))
     have HDx15 := Lib.hid (block_below HDx14.out hbx15 (lt_blk HDx14.out))
     have HBx15 := Lib.hid (HBx14.out.trans (hbx15.mono HBx14.out.size))
     clear hbx15
     (try go_wp2_with fail)
     refine hK.out _ _ ?_ (fun hHeld => ?_)
     · (try dsimp only); exact HS.out x15 HBx15.out
     clear hK K
     try simp only [Act.put, List.setIfInBounds_toArray, List.set_cons_zero, List.set_cons_succ]
     refine wpAnyH_ready (rs := [24]) (by kernel_rfl) (by simp) ?_
     refine AllReadyH.cons (o := ?oo54) ?hi54 (fun K hK => ?hs54) ?hm54
     case hi54 => (simp only [List.getElem?_toArray, List.getElem?_cons_succ, List.getElem?_cons_zero]; rfl)
     ·
      go_simp
      refine (HF2.out x15 HBx15.out).mono ?_
      rintro e x16 ⟨rfl, hbx16⟩
      have HGx16 := Lib.hid (block_below HGx15.out hbx16 (lt_blk HGx15.out))
      have HDx16 := Lib.hid (block_below HDx15.out hbx16 (lt_blk HDx15.out))
      have HBx16 := Lib.hid (HBx15.out.trans (hbx16.mono HBx15.out.size))
      clear hbx16
      (try go_wp2_with fail)
      refine hK.out _ _ ?_ (fun hHeld => ?_)
      · (try dsimp only); exact HS.out x16 HBx16.out
      clear hK K
      try simp only [Act.put, List.setIfInBounds_toArray, List.set_cons_zero, List.set_cons_succ]
      refine wpAnyH_take (i := 25) (oi := ?oi55) (v := ?v55) ?hi55 (by kernel_rfl) (by kernel_rfl) (by kernel_rfl) ?hq55 ?hy55 (by assumption) ?hr55
      case hi55 => (simp only [List.getElem?_toArray, List.getElem?_cons_succ, List.getElem?_cons_zero]; rfl)
      case hq55 => exact fun _ _ _ h => h
      case hy55 => exact .inl ⟨by rfl, by intro _ hSw'; (try dsimp only at hSw'); go_simp <;> with_reducible rfl⟩
      try simp only [Act.put, List.setIfInBounds_toArray, List.set_cons_zero, List.set_cons_succ]
      refine wpAnyH_ready (rs := [34]) (by kernel_rfl) (by simp) ?_
      refine AllReadyH.cons (o := ?oo56) ?hi56 (fun K hK => ?hs56) ?hm56
      case hi56 => (simp only [List.getElem?_toArray, List.getElem?_cons_succ, List.getElem?_cons_zero]; rfl)
      ·
       go_simp
       refine (HF3.out x16 HBx16.out).mono ?_
       rintro e x17 ⟨rfl, hbx17⟩
       have HGx17 := Lib.hid (block_below HGx16.out hbx17 (lt_blk HGx16.out))
       have HDx17 := Lib.hid (block_below HDx16.out hbx17 (lt_blk HDx16.out))
       have HBx17 := Lib.hid (HBx16.out.trans (hbx17.mono HBx16.out.size))
       clear hbx17
       (try go_wp2_with fail)
       refine hK.out _ _ ?_ (fun hHeld => ?_)
       · (try dsimp only); exact HS.out x17 HBx17.out
       clear hK K
       try simp only [Act.put, List.setIfInBounds_toArray, List.set_cons_zero, List.set_cons_succ]
       refine wpAnyH_take (i := 35) (oi := ?oi57) (v := ?v57) ?hi57 (by kernel_rfl) (by kernel_rfl) (by kernel_rfl) ?hq57 ?hy57 (by assumption) ?hr57
       case hi57 => (simp only [List.getElem?_toArray, List.getElem?_cons_succ, List.getElem?_cons_zero]; rfl)
       case hq57 => exact fun _ _ _ h => h
       case hy57 => exact .inl ⟨by rfl, by intro _ hSw'; (try dsimp only at hSw'); go_simp <;> with_reducible rfl⟩
       try simp only [Act.put, List.setIfInBounds_toArray, List.set_cons_zero, List.set_cons_succ]
       refine wpAnyH_take (i := 36) (oi := ?oi58) (v := ?v58) ?hi58 (by kernel_rfl) (by kernel_rfl) (by kernel_rfl) ?hq58 ?hy58 (by assumption) ?hr58
       case hi58 => (simp only [List.getElem?_toArray, List.getElem?_cons_succ, List.getElem?_cons_zero]; rfl)
       case hq58 => exact fun _ _ _ h => h
       case hy58 => exact .inl ⟨by rfl, by intro _ hSw'; (try dsimp only at hSw'); go_simp <;> with_reducible rfl⟩
       try simp only [Act.put, List.setIfInBounds_toArray, List.set_cons_zero, List.set_cons_succ]
       refine wpAnyH_ready (rs := [38]) (by kernel_rfl) (by simp) ?_
       refine AllReadyH.cons (o := ?oo59) ?hi59 (fun K hK => ?hs59) ?hm59
       case hi59 => (simp only [List.getElem?_toArray, List.getElem?_cons_succ, List.getElem?_cons_zero]; rfl)
       ·
        obtain ⟨⟨t0, t1, t2, t3, t4, t5, t6⟩, f0, f1, f2, f3, f4, f5, f6⟩ := seven_f HDx17.out
        go_simp
        obtain ⟨x18, hx18⟩ : ∃ W', (((((((x17.setCell ⟨x1.heap.size, 0, none⟩ (.slice A0 n0 k0)).setCell ⟨x1.heap.size, 1, none⟩ (.slice At (hi - lo) ct)).setCell ⟨x1.heap.size, 2, none⟩ (.slice (some ⟨X1.heap.size, 0, none⟩) 1 1)).setCell ⟨x1.heap.size, 3, none⟩ (.slice Ar (p2 - p1) cr)).setCell ⟨x1.heap.size, 4, none⟩ (.slice An (m2 - m1) cn)).setCell ⟨x1.heap.size, 5, none⟩ (.slice none 0 0)).setCell ⟨x1.heap.size, 6, none⟩ (.slice none 0 0)) = W' := ⟨_, rfl⟩
        rw [hx18]
        have hne := blk_ne HGx17.out HDx17.out (by decide)
        have HNE := Lib.hid hne
        obtain ⟨hD', hG', hB'⟩ := set_seven hx18 HDx17.out HGx17.out hne HMD.out HBx17.out
        have HDx18 := Lib.hid hD'
        have HGx18 := Lib.hid hG'
        have HBx18 := Lib.hid hB'
        clear hD' hG' hB'
        clear hx18 hne
        refine hK.out _ _ ?_ (fun hHeld => ?_)
        · (try dsimp only); exact HS.out x18 HBx18.out
        clear hK K
        try simp only [Act.put, List.setIfInBounds_toArray, List.set_cons_zero, List.set_cons_succ]
        refine wpAnyH_done (by kernel_rfl) ?_ _
        go_wp2_with fail
        go_meet
        exact ⟨x1.heap.size, X1.heap.size, rfl, HBx18.out, HMD.out, HMG.out, HNE.out, HDx18.out, HGx18.out⟩
       exact AllReadyH.nil
      exact AllReadyH.nil
     exact AllReadyH.nil
    exact AllReadyH.nil
   exact AllReadyH.nil
  refine AllReadyH.cons (o := ?oo60) ?hi60 (fun K hK => ?hs60) ?hm60
  case hi60 => (simp only [List.getElem?_toArray, List.getElem?_cons_succ, List.getElem?_cons_zero]; rfl)
  ·
   go_simp
   refine (HF1.out X1 HB0.out).mono ?_
   rintro e x19 ⟨rfl, hbx19⟩
   have HBx19 := Lib.hid (HB0.out.trans (hbx19.mono HB0.out.size))
   clear hbx19
   (try go_wp2_with fail)
   refine hK.out _ _ ?_ (fun hHeld => ?_)
   · (try dsimp only); exact HS.out x19 HBx19.out
   clear hK K
   try simp only [Act.put, List.setIfInBounds_toArray, List.set_cons_zero, List.set_cons_succ]
   refine wpAnyH_ready (rs := [10, 24, 37]) (by kernel_rfl) (by simp) ?_
   refine AllReadyH.cons (o := ?oo61) ?hi61 (fun K hK => ?hs61) ?hm61
   case hi61 => (simp only [List.getElem?_toArray, List.getElem?_cons_succ, List.getElem?_cons_zero]; rfl)
   ·
    go_simp
    obtain ⟨x20, hx20⟩ : ∃ W', x19.alloc (.cells #[.string P, .int .i64 (lo : Int), .int .i64 (hi : Int), .slice Am lm cm] 51) = W' := ⟨_, rfl⟩
    rw [hx20]
    have hbx20 : Below x19.heap.size x19 x20 := by rw [← hx20]; exact below_box _ _
    have HMG := Lib.hid HBx19.out.size
    have HGx20 := Lib.hid (show x20.heap[x19.heap.size]? = some (.cells #[.string P, .int .i64 (lo : Int), .int .i64 (hi : Int), .slice Am lm cm] 51 (0, 0)) by rw [← hx20]; exact block_new _ _)
    have HBx20 := Lib.hid (HBx19.out.trans (hbx20.mono HBx19.out.size))
    clear hx20 hbx20
    refine hK.out _ _ ?_ (fun hHeld => ?_)
    · (try dsimp only); exact HS.out x20 HBx20.out
    clear hK K
    try simp only [Act.put, List.setIfInBounds_toArray, List.set_cons_zero, List.set_cons_succ]
    refine wpAnyH_ready (rs := [24, 37]) (by kernel_rfl) (by simp) ?_
    refine AllReadyH.cons (o := ?oo62) ?hi62 (fun K hK => ?hs62) ?hm62
    case hi62 => (simp only [List.getElem?_toArray, List.getElem?_cons_succ, List.getElem?_cons_zero]; rfl)
    ·
     go_simp
     refine (HF2.out x20 HBx20.out).mono ?_
     rintro e x21 ⟨rfl, hbx21⟩
     have HGx21 := Lib.hid (block_below HGx20.out hbx21 (lt_blk HGx20.out))
     have HBx21 := Lib.hid (HBx20.out.trans (hbx21.mono HBx20.out.size))
     clear hbx21
     (try go_wp2_with fail)
     refine hK.out _ _ ?_ (fun hHeld => ?_)
     · (try dsimp only); exact HS.out x21 HBx21.out
     clear hK K
     try simp only [Act.put, List.setIfInBounds_toArray, List.set_cons_zero, List.set_cons_succ]
     refine wpAnyH_take (i := 25) (oi := ?oi63) (v := ?v63) ?hi63 (by kernel_rfl) (by kernel_rfl) (by kernel_rfl) ?hq63 ?hy63 (by assumption) ?hr63
     case hi63 => (simp only [List.getElem?_toArray, List.getElem?_cons_succ, List.getElem?_cons_zero]; rfl)
     case hq63 => exact fun _ _ _ h => h
     case hy63 => exact .inl ⟨by rfl, by intro _ hSw'; (try dsimp only at hSw'); go_simp <;> with_reducible rfl⟩
     try simp only [Act.put, List.setIfInBounds_toArray, List.set_cons_zero, List.set_cons_succ]
     refine wpAnyH_ready (rs := [34, 37]) (by kernel_rfl) (by simp) ?_
     refine AllReadyH.cons (o := ?oo64) ?hi64 (fun K hK => ?hs64) ?hm64
     case hi64 => (simp only [List.getElem?_toArray, List.getElem?_cons_succ, List.getElem?_cons_zero]; rfl)
     ·
      go_simp
      refine (HF3.out x21 HBx21.out).mono ?_
      rintro e x22 ⟨rfl, hbx22⟩
      have HGx22 := Lib.hid (block_below HGx21.out hbx22 (lt_blk HGx21.out))
      have HBx22 := Lib.hid (HBx21.out.trans (hbx22.mono HBx21.out.size))
      clear hbx22
      (try go_wp2_with fail)
      refine hK.out _ _ ?_ (fun hHeld => ?_)
      · (try dsimp only); exact HS.out x22 HBx22.out
      clear hK K
      try simp only [Act.put, List.setIfInBounds_toArray, List.set_cons_zero, List.set_cons_succ]
      refine wpAnyH_take (i := 35) (oi := ?oi65) (v := ?v65) ?hi65 (by kernel_rfl) (by kernel_rfl) (by kernel_rfl) ?hq65 ?hy65 (by assumption) ?hr65
      case hi65 => (simp only [List.getElem?_toArray, List.getElem?_cons_succ, List.getElem?_cons_zero]; rfl)
      case hq65 => exact fun _ _ _ h => h
      case hy65 => exact .inl ⟨by rfl, by intro _ hSw'; (try dsimp only at hSw'); go_simp <;> with_reducible rfl⟩
      try simp only [Act.put, List.setIfInBounds_toArray, List.set_cons_zero, List.set_cons_succ]
      refine wpAnyH_take (i := 36) (oi := ?oi66) (v := ?v66) ?hi66 (by kernel_rfl) (by kernel_rfl) (by kernel_rfl) ?hq66 ?hy66 (by assumption) ?hr66
      case hi66 => (simp only [List.getElem?_toArray, List.getElem?_cons_succ, List.getElem?_cons_zero]; rfl)
      case hq66 => exact fun _ _ _ h => h
      case hy66 => exact .inl ⟨by rfl, by intro _ hSw'; (try dsimp only at hSw'); go_simp <;> with_reducible rfl⟩
      try simp only [Act.put, List.setIfInBounds_toArray, List.set_cons_zero, List.set_cons_succ]
      refine wpAnyH_ready (rs := [37]) (by kernel_rfl) (by simp) ?_
      refine AllReadyH.cons (o := ?oo67) ?hi67 (fun K hK => ?hs67) ?hm67
      case hi67 => (simp only [List.getElem?_toArray, List.getElem?_cons_succ, List.getElem?_cons_zero]; rfl)
      ·
       go_simp
       obtain ⟨x23, hx23⟩ : ∃ W', x22.alloc (.cells #[.slice none 0 0, .slice none 0 0, .slice none 0 0, .slice none 0 0, .slice none 0 0, .slice none 0 0, .slice none 0 0] 30) = W' := ⟨_, rfl⟩
       rw [hx23]
       have hbx23 : Below x22.heap.size x22 x23 := by rw [← hx23]; exact below_box _ _
       have HMD := Lib.hid HBx22.out.size
       have HDx23 := Lib.hid (show x23.heap[x22.heap.size]? = some (.cells #[.slice none 0 0, .slice none 0 0, .slice none 0 0, .slice none 0 0, .slice none 0 0, .slice none 0 0, .slice none 0 0] 30 (0, 0)) by rw [← hx23]; exact block_new _ _)
       have HGx23 := Lib.hid (block_below HGx22.out hbx23 (lt_blk HGx22.out))
       have HBx23 := Lib.hid (HBx22.out.trans (hbx23.mono HBx22.out.size))
       clear hx23 hbx23
       refine hK.out _ _ ?_ (fun hHeld => ?_)
       · (try dsimp only); exact HS.out x23 HBx23.out
       clear hK K
       try simp only [Act.put, List.setIfInBounds_toArray, List.set_cons_zero, List.set_cons_succ]
       refine wpAnyH_ready (rs := [38]) (by kernel_rfl) (by simp) ?_
       refine AllReadyH.cons (o := ?oo68) ?hi68 (fun K hK => ?hs68) ?hm68
       case hi68 => (simp only [List.getElem?_toArray, List.getElem?_cons_succ, List.getElem?_cons_zero]; rfl)
       ·
        obtain ⟨⟨t0, t1, t2, t3, t4, t5, t6⟩, f0, f1, f2, f3, f4, f5, f6⟩ := seven_f HDx23.out
        go_simp
        obtain ⟨x24, hx24⟩ : ∃ W', (((((((x23.setCell ⟨x22.heap.size, 0, none⟩ (.slice A0 n0 k0)).setCell ⟨x22.heap.size, 1, none⟩ (.slice At (hi - lo) ct)).setCell ⟨x22.heap.size, 2, none⟩ (.slice (some ⟨x19.heap.size, 0, none⟩) 1 1)).setCell ⟨x22.heap.size, 3, none⟩ (.slice Ar (p2 - p1) cr)).setCell ⟨x22.heap.size, 4, none⟩ (.slice An (m2 - m1) cn)).setCell ⟨x22.heap.size, 5, none⟩ (.slice none 0 0)).setCell ⟨x22.heap.size, 6, none⟩ (.slice none 0 0)) = W' := ⟨_, rfl⟩
        rw [hx24]
        have hne := blk_ne HGx23.out HDx23.out (by decide)
        have HNE := Lib.hid hne
        obtain ⟨hD', hG', hB'⟩ := set_seven hx24 HDx23.out HGx23.out hne HMD.out HBx23.out
        have HDx24 := Lib.hid hD'
        have HGx24 := Lib.hid hG'
        have HBx24 := Lib.hid hB'
        clear hD' hG' hB'
        clear hx24 hne
        refine hK.out _ _ ?_ (fun hHeld => ?_)
        · (try dsimp only); exact HS.out x24 HBx24.out
        clear hK K
        try simp only [Act.put, List.setIfInBounds_toArray, List.set_cons_zero, List.set_cons_succ]
        refine wpAnyH_done (by kernel_rfl) ?_ _
        go_wp2_with fail
        go_meet
        exact ⟨x22.heap.size, x19.heap.size, rfl, HBx24.out, HMD.out, HMG.out, HNE.out, HDx24.out, HGx24.out⟩
       exact AllReadyH.nil
      exact AllReadyH.nil
     refine AllReadyH.cons (o := ?oo69) ?hi69 (fun K hK => ?hs69) ?hm69
     case hi69 => (simp only [List.getElem?_toArray, List.getElem?_cons_succ, List.getElem?_cons_zero]; rfl)
     ·
      go_simp
      obtain ⟨x25, hx25⟩ : ∃ W', x21.alloc (.cells #[.slice none 0 0, .slice none 0 0, .slice none 0 0, .slice none 0 0, .slice none 0 0, .slice none 0 0, .slice none 0 0] 30) = W' := ⟨_, rfl⟩
      rw [hx25]
      have hbx25 : Below x21.heap.size x21 x25 := by rw [← hx25]; exact below_box _ _
      have HMD := Lib.hid HBx21.out.size
      have HDx25 := Lib.hid (show x25.heap[x21.heap.size]? = some (.cells #[.slice none 0 0, .slice none 0 0, .slice none 0 0, .slice none 0 0, .slice none 0 0, .slice none 0 0, .slice none 0 0] 30 (0, 0)) by rw [← hx25]; exact block_new _ _)
      have HGx25 := Lib.hid (block_below HGx21.out hbx25 (lt_blk HGx21.out))
      have HBx25 := Lib.hid (HBx21.out.trans (hbx25.mono HBx21.out.size))
      clear hx25 hbx25
      refine hK.out _ _ ?_ (fun hHeld => ?_)
      · (try dsimp only); exact HS.out x25 HBx25.out
      clear hK K
      try simp only [Act.put, List.setIfInBounds_toArray, List.set_cons_zero, List.set_cons_succ]
      refine wpAnyH_ready (rs := [34]) (by kernel_rfl) (by simp) ?_
      refine AllReadyH.cons (o := ?oo70) ?hi70 (fun K hK => ?hs70) ?hm70
      case hi70 => (simp only [List.getElem?_toArray, List.getElem?_cons_succ, List.getElem?_cons_zero]; rfl)
      ·
       go_simp
       refine (HF3.out x25 HBx25.out).mono ?_
       rintro e x26 ⟨rfl, hbx26⟩
       have HGx26 := Lib.hid (block_below HGx25.out hbx26 (lt_blk HGx25.out))
       have HDx26 := Lib.hid (block_below HDx25.out hbx26 (lt_blk HDx25.out))
       have HBx26 := Lib.hid (HBx25.out.trans (hbx26.mono HBx25.out.size))
       clear hbx26
       (try go_wp2_with fail)
       refine hK.out _ _ ?_ (fun hHeld => ?_)
       · (try dsimp only); exact HS.out x26 HBx26.out
       clear hK K
       try simp only [Act.put, List.setIfInBounds_toArray, List.set_cons_zero, List.set_cons_succ]
       refine wpAnyH_take (i := 35) (oi := ?oi71) (v := ?v71) ?hi71 (by kernel_rfl) (by kernel_rfl) (by kernel_rfl) ?hq71 ?hy71 (by assumption) ?hr71
       case hi71 => (simp only [List.getElem?_toArray, List.getElem?_cons_succ, List.getElem?_cons_zero]; rfl)
       case hq71 => exact fun _ _ _ h => h
       case hy71 => exact .inl ⟨by rfl, by intro _ hSw'; (try dsimp only at hSw'); go_simp <;> with_reducible rfl⟩
       try simp only [Act.put, List.setIfInBounds_toArray, List.set_cons_zero, List.set_cons_succ]
       refine wpAnyH_take (i := 36) (oi := ?oi72) (v := ?v72) ?hi72 (by kernel_rfl) (by kernel_rfl) (by kernel_rfl) ?hq72 ?hy72 (by assumption) ?hr72
       case hi72 => (simp only [List.getElem?_toArray, List.getElem?_cons_succ, List.getElem?_cons_zero]; rfl)
       case hq72 => exact fun _ _ _ h => h
       case hy72 => exact .inl ⟨by rfl, by intro _ hSw'; (try dsimp only at hSw'); go_simp <;> with_reducible rfl⟩
       try simp only [Act.put, List.setIfInBounds_toArray, List.set_cons_zero, List.set_cons_succ]
       refine wpAnyH_ready (rs := [38]) (by kernel_rfl) (by simp) ?_
       refine AllReadyH.cons (o := ?oo73) ?hi73 (fun K hK => ?hs73) ?hm73
       case hi73 => (simp only [List.getElem?_toArray, List.getElem?_cons_succ, List.getElem?_cons_zero]; rfl)
       ·
        obtain ⟨⟨t0, t1, t2, t3, t4, t5, t6⟩, f0, f1, f2, f3, f4, f5, f6⟩ := seven_f HDx26.out
        go_simp
        obtain ⟨x27, hx27⟩ : ∃ W', (((((((x26.setCell ⟨x21.heap.size, 0, none⟩ (.slice A0 n0 k0)).setCell ⟨x21.heap.size, 1, none⟩ (.slice At (hi - lo) ct)).setCell ⟨x21.heap.size, 2, none⟩ (.slice (some ⟨x19.heap.size, 0, none⟩) 1 1)).setCell ⟨x21.heap.size, 3, none⟩ (.slice Ar (p2 - p1) cr)).setCell ⟨x21.heap.size, 4, none⟩ (.slice An (m2 - m1) cn)).setCell ⟨x21.heap.size, 5, none⟩ (.slice none 0 0)).setCell ⟨x21.heap.size, 6, none⟩ (.slice none 0 0)) = W' := ⟨_, rfl⟩
        rw [hx27]
        have hne := blk_ne HGx26.out HDx26.out (by decide)
        have HNE := Lib.hid hne
        obtain ⟨hD', hG', hB'⟩ := set_seven hx27 HDx26.out HGx26.out hne HMD.out HBx26.out
        have HDx27 := Lib.hid hD'
        have HGx27 := Lib.hid hG'
        have HBx27 := Lib.hid hB'
        clear hD' hG' hB'
        clear hx27 hne
        refine hK.out _ _ ?_ (fun hHeld => ?_)
        · (try dsimp only); exact HS.out x27 HBx27.out
        clear hK K
        try simp only [Act.put, List.setIfInBounds_toArray, List.set_cons_zero, List.set_cons_succ]
        refine wpAnyH_done (by kernel_rfl) ?_ _
        go_wp2_with fail
        go_meet
        exact ⟨x21.heap.size, x19.heap.size, rfl, HBx27.out, HMD.out, HMG.out, HNE.out, HDx27.out, HGx27.out⟩
       exact AllReadyH.nil
      exact AllReadyH.nil
     exact AllReadyH.nil
    refine AllReadyH.cons (o := ?oo74) ?hi74 (fun K hK => ?hs74) ?hm74
    case hi74 => (simp only [List.getElem?_toArray, List.getElem?_cons_succ, List.getElem?_cons_zero]; rfl)
    ·
     go_simp
     obtain ⟨x28, hx28⟩ : ∃ W', x20.alloc (.cells #[.slice none 0 0, .slice none 0 0, .slice none 0 0, .slice none 0 0, .slice none 0 0, .slice none 0 0, .slice none 0 0] 30) = W' := ⟨_, rfl⟩
     rw [hx28]
     have hbx28 : Below x20.heap.size x20 x28 := by rw [← hx28]; exact below_box _ _
     have HMD := Lib.hid HBx20.out.size
     have HDx28 := Lib.hid (show x28.heap[x20.heap.size]? = some (.cells #[.slice none 0 0, .slice none 0 0, .slice none 0 0, .slice none 0 0, .slice none 0 0, .slice none 0 0, .slice none 0 0] 30 (0, 0)) by rw [← hx28]; exact block_new _ _)
     have HGx28 := Lib.hid (block_below HGx20.out hbx28 (lt_blk HGx20.out))
     have HBx28 := Lib.hid (HBx20.out.trans (hbx28.mono HBx20.out.size))
     clear hx28 hbx28
     refine hK.out _ _ ?_ (fun hHeld => ?_)
     · (try dsimp only); exact HS.out x28 HBx28.out
     clear hK K
     try simp only [Act.put, List.setIfInBounds_toArray, List.set_cons_zero, List.set_cons_succ]
     refine wpAnyH_ready (rs := [24]) (by kernel_rfl) (by simp) ?_
     refine AllReadyH.cons (o := ?oo75) ?hi75 (fun K hK => ?hs75) ?hm75
     case hi75 => (simp only [List.getElem?_toArray, List.getElem?_cons_succ, List.getElem?_cons_zero]; rfl)
     ·
      go_simp
      refine (HF2.out x28 HBx28.out).mono ?_
      rintro e x29 ⟨rfl, hbx29⟩
      have HGx29 := Lib.hid (block_below HGx28.out hbx29 (lt_blk HGx28.out))
      have HDx29 := Lib.hid (block_below HDx28.out hbx29 (lt_blk HDx28.out))
      have HBx29 := Lib.hid (HBx28.out.trans (hbx29.mono HBx28.out.size))
      clear hbx29
      (try go_wp2_with fail)
      refine hK.out _ _ ?_ (fun hHeld => ?_)
      · (try dsimp only); exact HS.out x29 HBx29.out
      clear hK K
      try simp only [Act.put, List.setIfInBounds_toArray, List.set_cons_zero, List.set_cons_succ]
      refine wpAnyH_take (i := 25) (oi := ?oi76) (v := ?v76) ?hi76 (by kernel_rfl) (by kernel_rfl) (by kernel_rfl) ?hq76 ?hy76 (by assumption) ?hr76
      case hi76 => (simp only [List.getElem?_toArray, List.getElem?_cons_succ, List.getElem?_cons_zero]; rfl)
      case hq76 => exact fun _ _ _ h => h
      case hy76 => exact .inl ⟨by rfl, by intro _ hSw'; (try dsimp only at hSw'); go_simp <;> with_reducible rfl⟩
      try simp only [Act.put, List.setIfInBounds_toArray, List.set_cons_zero, List.set_cons_succ]
      refine wpAnyH_ready (rs := [34]) (by kernel_rfl) (by simp) ?_
      refine AllReadyH.cons (o := ?oo77) ?hi77 (fun K hK => ?hs77) ?hm77
      case hi77 => (simp only [List.getElem?_toArray, List.getElem?_cons_succ, List.getElem?_cons_zero]; rfl)
      ·
       go_simp
       refine (HF3.out x29 HBx29.out).mono ?_
       rintro e x30 ⟨rfl, hbx30⟩
       have HGx30 := Lib.hid (block_below HGx29.out hbx30 (lt_blk HGx29.out))
       have HDx30 := Lib.hid (block_below HDx29.out hbx30 (lt_blk HDx29.out))
       have HBx30 := Lib.hid (HBx29.out.trans (hbx30.mono HBx29.out.size))
       clear hbx30
       (try go_wp2_with fail)
       refine hK.out _ _ ?_ (fun hHeld => ?_)
       · (try dsimp only); exact HS.out x30 HBx30.out
       clear hK K
       try simp only [Act.put, List.setIfInBounds_toArray, List.set_cons_zero, List.set_cons_succ]
       refine wpAnyH_take (i := 35) (oi := ?oi78) (v := ?v78) ?hi78 (by kernel_rfl) (by kernel_rfl) (by kernel_rfl) ?hq78 ?hy78 (by assumption) ?hr78
       case hi78 => (simp only [List.getElem?_toArray, List.getElem?_cons_succ, List.getElem?_cons_zero]; rfl)
       case hq78 => exact fun _ _ _ h => h
       case hy78 => exact .inl ⟨by rfl, by intro _ hSw'; (try dsimp only at hSw'); go_simp <;> with_reducible rfl⟩
       try simp only [Act.put, List.setIfInBounds_toArray, List.set_cons_zero, List.set_cons_succ]
       refine wpAnyH_take (i := 36) (oi := ?oi79) (v := ?v79) ?hi79 (by kernel_rfl) (by kernel_rfl) (by kernel_rfl) ?hq79 ?hy79 (by assumption) ?hr79
       case hi79 => (simp only [List.getElem?_toArray, List.getElem?_cons_succ, List.getElem?_cons_zero]; rfl)
       case hq79 => exact fun _ _ _ h => h
       case hy79 => exact .inl ⟨by rfl, by intro _ hSw'; (try dsimp only at hSw'); go_simp <;> with_reducible rfl⟩
       try simp only [Act.put, List.setIfInBounds_toArray, List.set_cons_zero, List.set_cons_succ]
       refine wpAnyH_ready (rs := [38]) (by kernel_rfl) (by simp) ?_
       refine AllReadyH.cons (o := ?oo80) ?hi80 (fun K hK => ?hs80) ?hm80
       case hi80 => (simp only [List.getElem?_toArray, List.getElem?_cons_succ, List.getElem?_cons_zero]; rfl)
       ·
        obtain ⟨⟨t0, t1, t2, t3, t4, t5, t6⟩, f0, f1, f2, f3, f4, f5, f6⟩ := seven_f HDx30.out
        go_simp
        obtain ⟨x31, hx31⟩ : ∃ W', (((((((x30.setCell ⟨x20.heap.size, 0, none⟩ (.slice A0 n0 k0)).setCell ⟨x20.heap.size, 1, none⟩ (.slice At (hi - lo) ct)).setCell ⟨x20.heap.size, 2, none⟩ (.slice (some ⟨x19.heap.size, 0, none⟩) 1 1)).setCell ⟨x20.heap.size, 3, none⟩ (.slice Ar (p2 - p1) cr)).setCell ⟨x20.heap.size, 4, none⟩ (.slice An (m2 - m1) cn)).setCell ⟨x20.heap.size, 5, none⟩ (.slice none 0 0)).setCell ⟨x20.heap.size, 6, none⟩ (.slice none 0 0)) = W' := ⟨_, rfl⟩
        rw [hx31]
        have hne := blk_ne HGx30.out HDx30.out (by decide)
        have HNE := Lib.hid hne
        obtain ⟨hD', hG', hB'⟩ := set_seven hx31 HDx30.out HGx30.out hne HMD.out HBx30.out
        have HDx31 := Lib.hid hD'
        have HGx31 := Lib.hid hG'
        have HBx31 := Lib.hid hB'
        clear hD' hG' hB'
        clear hx31 hne
        refine hK.out _ _ ?_ (fun hHeld => ?_)
        · (try dsimp only); exact HS.out x31 HBx31.out
        clear hK K
        try simp only [Act.put, List.setIfInBounds_toArray, List.set_cons_zero, List.set_cons_succ]
        refine wpAnyH_done (by kernel_rfl) ?_ _
        go_wp2_with fail
        go_meet
        exact ⟨x20.heap.size, x19.heap.size, rfl, HBx31.out, HMD.out, HMG.out, HNE.out, HDx31.out, HGx31.out⟩
       exact AllReadyH.nil
      exact AllReadyH.nil
     exact AllReadyH.nil
    exact AllReadyH.nil
   refine AllReadyH.cons (o := ?oo81) ?hi81 (fun K hK => ?hs81) ?hm81
   case hi81 => (simp only [List.getElem?_toArray, List.getElem?_cons_succ, List.getElem?_cons_zero]; rfl)
   ·
    go_simp
    refine (HF2.out x19 HBx19.out).mono ?_
    rintro e x32 ⟨rfl, hbx32⟩
    have HBx32 := Lib.hid (HBx19.out.trans (hbx32.mono HBx19.out.size))
    clear hbx32
    (try go_wp2_with fail)
    refine hK.out _ _ ?_ (fun hHeld => ?_)
    · (try dsimp only); exact HS.out x32 HBx32.out
    clear hK K
    try simp only [Act.put, List.setIfInBounds_toArray, List.set_cons_zero, List.set_cons_succ]
    refine wpAnyH_take (i := 25) (oi := ?oi82) (v := ?v82) ?hi82 (by kernel_rfl) (by kernel_rfl) (by kernel_rfl) ?hq82 ?hy82 (by assumption) ?hr82
    case hi82 => (simp only [List.getElem?_toArray, List.getElem?_cons_succ, List.getElem?_cons_zero]; rfl)
    case hq82 => exact fun _ _ _ h => h
    case hy82 => exact .inl ⟨by rfl, by intro _ hSw'; (try dsimp only at hSw'); go_simp <;> with_reducible rfl⟩
    try simp only [Act.put, List.setIfInBounds_toArray, List.set_cons_zero, List.set_cons_succ]
    refine wpAnyH_ready (rs := [10, 34, 37]) (by kernel_rfl) (by simp) ?_
    refine AllReadyH.cons (o := ?oo83) ?hi83 (fun K hK => ?hs83) ?hm83
    case hi83 => (simp only [List.getElem?_toArray, List.getElem?_cons_succ, List.getElem?_cons_zero]; rfl)
    ·
     go_simp
     obtain ⟨x33, hx33⟩ : ∃ W', x32.alloc (.cells #[.string P, .int .i64 (lo : Int), .int .i64 (hi : Int), .slice Am lm cm] 51) = W' := ⟨_, rfl⟩
     rw [hx33]
     have hbx33 : Below x32.heap.size x32 x33 := by rw [← hx33]; exact below_box _ _
     have HMG := Lib.hid HBx32.out.size
     have HGx33 := Lib.hid (show x33.heap[x32.heap.size]? = some (.cells #[.string P, .int .i64 (lo : Int), .int .i64 (hi : Int), .slice Am lm cm] 51 (0, 0)) by rw [← hx33]; exact block_new _ _)
     have HBx33 := Lib.hid (HBx32.out.trans (hbx33.mono HBx32.out.size))
     clear hx33 hbx33
     refine hK.out _ _ ?_ (fun hHeld => ?_)
     · (try dsimp only); exact HS.out x33 HBx33.out
     clear hK K
     try simp only [Act.put, List.setIfInBounds_toArray, List.set_cons_zero, List.set_cons_succ]
     refine wpAnyH_ready (rs := [34, 37]) (by kernel_rfl) (by simp) ?_
     refine AllReadyH.cons (o := ?oo84) ?hi84 (fun K hK => ?hs84) ?hm84
     case hi84 => (simp only [List.getElem?_toArray, List.getElem?_cons_succ, List.getElem?_cons_zero]; rfl)
     ·
      go_simp
      refine (HF3.out x33 HBx33.out).mono ?_
      rintro e x34 ⟨rfl, hbx34⟩
      have HGx34 := Lib.hid (block_below HGx33.out hbx34 (lt_blk HGx33.out))
      have HBx34 := Lib.hid (HBx33.out.trans (hbx34.mono HBx33.out.size))
      clear hbx34
      (try go_wp2_with fail)
      refine hK.out _ _ ?_ (fun hHeld => ?_)
      · (try dsimp only); exact HS.out x34 HBx34.out
      clear hK K
      try simp only [Act.put, List.setIfInBounds_toArray, List.set_cons_zero, List.set_cons_succ]
      refine wpAnyH_take (i := 35) (oi := ?oi85) (v := ?v85) ?hi85 (by kernel_rfl) (by kernel_rfl) (by kernel_rfl) ?hq85 ?hy85 (by assumption) ?hr85
      case hi85 => (simp only [List.getElem?_toArray, List.getElem?_cons_succ, List.getElem?_cons_zero]; rfl)
      case hq85 => exact fun _ _ _ h => h
      case hy85 => exact .inl ⟨by rfl, by intro _ hSw'; (try dsimp only at hSw'); go_simp <;> with_reducible rfl⟩
      try simp only [Act.put, List.setIfInBounds_toArray, List.set_cons_zero, List.set_cons_succ]
      refine wpAnyH_take (i := 36) (oi := ?oi86) (v := ?v86) ?hi86 (by kernel_rfl) (by kernel_rfl) (by kernel_rfl) ?hq86 ?hy86 (by assumption) ?hr86
      case hi86 => (simp only [List.getElem?_toArray, List.getElem?_cons_succ, List.getElem?_cons_zero]; rfl)
      case hq86 => exact fun _ _ _ h => h
      case hy86 => exact .inl ⟨by rfl, by intro _ hSw'; (try dsimp only at hSw'); go_simp <;> with_reducible rfl⟩
      try simp only [Act.put, List.setIfInBounds_toArray, List.set_cons_zero, List.set_cons_succ]
      refine wpAnyH_ready (rs := [37]) (by kernel_rfl) (by simp) ?_
      refine AllReadyH.cons (o := ?oo87) ?hi87 (fun K hK => ?hs87) ?hm87
      case hi87 => (simp only [List.getElem?_toArray, List.getElem?_cons_succ, List.getElem?_cons_zero]; rfl)
      ·
       go_simp
       obtain ⟨x35, hx35⟩ : ∃ W', x34.alloc (.cells #[.slice none 0 0, .slice none 0 0, .slice none 0 0, .slice none 0 0, .slice none 0 0, .slice none 0 0, .slice none 0 0] 30) = W' := ⟨_, rfl⟩
       rw [hx35]
       have hbx35 : Below x34.heap.size x34 x35 := by rw [← hx35]; exact below_box _ _
       have HMD := Lib.hid HBx34.out.size
       have HDx35 := Lib.hid (show x35.heap[x34.heap.size]? = some (.cells #[.slice none 0 0, .slice none 0 0, .slice none 0 0, .slice none 0 0, .slice none 0 0, .slice none 0 0, .slice none 0 0] 30 (0, 0)) by rw [← hx35]; exact block_new _ _)
       have HGx35 := Lib.hid (block_below HGx34.out hbx35 (lt_blk HGx34.out))
       have HBx35 := Lib.hid (HBx34.out.trans (hbx35.mono HBx34.out.size))
       clear hx35 hbx35
       refine hK.out _ _ ?_ (fun hHeld => ?_)
       · (try dsimp only); exact HS.out x35 HBx35.out
       clear hK K
       try simp only [Act.put, List.setIfInBounds_toArray, List.set_cons_zero, List.set_cons_succ]
       refine wpAnyH_ready (rs := [38]) (by kernel_rfl) (by simp) ?_
       refine AllReadyH.cons (o := ?oo88) ?hi88 (fun K hK => ?hs88) ?hm88
       case hi88 => (simp only [List.getElem?_toArray, List.getElem?_cons_succ, List.getElem?_cons_zero]; rfl)
       ·
        obtain ⟨⟨t0, t1, t2, t3, t4, t5, t6⟩, f0, f1, f2, f3, f4, f5, f6⟩ := seven_f HDx35.out
        go_simp
        obtain ⟨x36, hx36⟩ : ∃ W', (((((((x35.setCell ⟨x34.heap.size, 0, none⟩ (.slice A0 n0 k0)).setCell ⟨x34.heap.size, 1, none⟩ (.slice At (hi - lo) ct)).setCell ⟨x34.heap.size, 2, none⟩ (.slice (some ⟨x32.heap.size, 0, none⟩) 1 1)).setCell ⟨x34.heap.size, 3, none⟩ (.slice Ar (p2 - p1) cr)).setCell ⟨x34.heap.size, 4, none⟩ (.slice An (m2 - m1) cn)).setCell ⟨x34.heap.size, 5, none⟩ (.slice none 0 0)).setCell ⟨x34.heap.size, 6, none⟩ (.slice none 0 0)) = W' := ⟨_, rfl⟩
        rw [hx36]
        have hne := blk_ne HGx35.out HDx35.out (by decide)
        have HNE := Lib.hid hne
        obtain ⟨hD', hG', hB'⟩ := set_seven hx36 HDx35.out HGx35.out hne HMD.out HBx35.out
        have HDx36 := Lib.hid hD'
        have HGx36 := Lib.hid hG'
        have HBx36 := Lib.hid hB'
        clear hD' hG' hB'
        clear hx36 hne
        refine hK.out _ _ ?_ (fun hHeld => ?_)
        · (try dsimp only); exact HS.out x36 HBx36.out
        clear hK K
        try simp only [Act.put, List.setIfInBounds_toArray, List.set_cons_zero, List.set_cons_succ]
        refine wpAnyH_done (by kernel_rfl) ?_ _
        go_wp2_with fail
        go_meet
        exact ⟨x34.heap.size, x32.heap.size, rfl, HBx36.out, HMD.out, HMG.out, HNE.out, HDx36.out, HGx36.out⟩
       exact AllReadyH.nil
      exact AllReadyH.nil
     refine AllReadyH.cons (o := ?oo89) ?hi89 (fun K hK => ?hs89) ?hm89
     case hi89 => (simp only [List.getElem?_toArray, List.getElem?_cons_succ, List.getElem?_cons_zero]; rfl)
     ·
      go_simp
      obtain ⟨x37, hx37⟩ : ∃ W', x33.alloc (.cells #[.slice none 0 0, .slice none 0 0, .slice none 0 0, .slice none 0 0, .slice none 0 0, .slice none 0 0, .slice none 0 0] 30) = W' := ⟨_, rfl⟩
      rw [hx37]
      have hbx37 : Below x33.heap.size x33 x37 := by rw [← hx37]; exact below_box _ _
      have HMD := Lib.hid HBx33.out.size
      have HDx37 := Lib.hid (show x37.heap[x33.heap.size]? = some (.cells #[.slice none 0 0, .slice none 0 0, .slice none 0 0, .slice none 0 0, .slice none 0 0, .slice none 0 0, .slice none 0 0] 30 (0, 0)) by rw [← hx37]; exact block_new _ _)
      have HGx37 := Lib.hid (block_below HGx33.out hbx37 (lt_blk HGx33.out))
      have HBx37 := Lib.hid (HBx33.out.trans (hbx37.mono HBx33.out.size))
      clear hx37 hbx37
      refine hK.out _ _ ?_ (fun hHeld => ?_)
      · (try dsimp only); exact HS.out x37 HBx37.out
      clear hK K
      try simp only [Act.put, List.setIfInBounds_toArray, List.set_cons_zero, List.set_cons_succ]
      refine wpAnyH_ready (rs := [34]) (by kernel_rfl) (by simp) ?_
      refine AllReadyH.cons (o := ?oo90) ?hi90 (fun K hK => ?hs90) ?hm90
      case hi90 => (simp only [List.getElem?_toArray, List.getElem?_cons_succ, List.getElem?_cons_zero]; rfl)
      ·
       go_simp
       refine (HF3.out x37 HBx37.out).mono ?_
       rintro e x38 ⟨rfl, hbx38⟩
       have HGx38 := Lib.hid (block_below HGx37.out hbx38 (lt_blk HGx37.out))
       have HDx38 := Lib.hid (block_below HDx37.out hbx38 (lt_blk HDx37.out))
       have HBx38 := Lib.hid (HBx37.out.trans (hbx38.mono HBx37.out.size))
       clear hbx38
       (try go_wp2_with fail)
       refine hK.out _ _ ?_ (fun hHeld => ?_)
       · (try dsimp only); exact HS.out x38 HBx38.out
       clear hK K
       try simp only [Act.put, List.setIfInBounds_toArray, List.set_cons_zero, List.set_cons_succ]
       refine wpAnyH_take (i := 35) (oi := ?oi91) (v := ?v91) ?hi91 (by kernel_rfl) (by kernel_rfl) (by kernel_rfl) ?hq91 ?hy91 (by assumption) ?hr91
       case hi91 => (simp only [List.getElem?_toArray, List.getElem?_cons_succ, List.getElem?_cons_zero]; rfl)
       case hq91 => exact fun _ _ _ h => h
       case hy91 => exact .inl ⟨by rfl, by intro _ hSw'; (try dsimp only at hSw'); go_simp <;> with_reducible rfl⟩
       try simp only [Act.put, List.setIfInBounds_toArray, List.set_cons_zero, List.set_cons_succ]
       refine wpAnyH_take (i := 36) (oi := ?oi92) (v := ?v92) ?hi92 (by kernel_rfl) (by kernel_rfl) (by kernel_rfl) ?hq92 ?hy92 (by assumption) ?hr92
       case hi92 => (simp only [List.getElem?_toArray, List.getElem?_cons_succ, List.getElem?_cons_zero]; rfl)
       case hq92 => exact fun _ _ _ h => h
       case hy92 => exact .inl ⟨by rfl, by intro _ hSw'; (try dsimp only at hSw'); go_simp <;> with_reducible rfl⟩
       try simp only [Act.put, List.setIfInBounds_toArray, List.set_cons_zero, List.set_cons_succ]
       refine wpAnyH_ready (rs := [38]) (by kernel_rfl) (by simp) ?_
       refine AllReadyH.cons (o := ?oo93) ?hi93 (fun K hK => ?hs93) ?hm93
       case hi93 => (simp only [List.getElem?_toArray, List.getElem?_cons_succ, List.getElem?_cons_zero]; rfl)
       ·
        obtain ⟨⟨t0, t1, t2, t3, t4, t5, t6⟩, f0, f1, f2, f3, f4, f5, f6⟩ := seven_f HDx38.out
        go_simp
        obtain ⟨x39, hx39⟩ : ∃ W', (((((((x38.setCell ⟨x33.heap.size, 0, none⟩ (.slice A0 n0 k0)).setCell ⟨x33.heap.size, 1, none⟩ (.slice At (hi - lo) ct)).setCell ⟨x33.heap.size, 2, none⟩ (.slice (some ⟨x32.heap.size, 0, none⟩) 1 1)).setCell ⟨x33.heap.size, 3, none⟩ (.slice Ar (p2 - p1) cr)).setCell ⟨x33.heap.size, 4, none⟩ (.slice An (m2 - m1) cn)).setCell ⟨x33.heap.size, 5, none⟩ (.slice none 0 0)).setCell ⟨x33.heap.size, 6, none⟩ (.slice none 0 0)) = W' := ⟨_, rfl⟩
        rw [hx39]
        have hne := blk_ne HGx38.out HDx38.out (by decide)
        have HNE := Lib.hid hne
        obtain ⟨hD', hG', hB'⟩ := set_seven hx39 HDx38.out HGx38.out hne HMD.out HBx38.out
        have HDx39 := Lib.hid hD'
        have HGx39 := Lib.hid hG'
        have HBx39 := Lib.hid hB'
        clear hD' hG' hB'
        clear hx39 hne
        refine hK.out _ _ ?_ (fun hHeld => ?_)
        · (try dsimp only); exact HS.out x39 HBx39.out
        clear hK K
        try simp only [Act.put, List.setIfInBounds_toArray, List.set_cons_zero, List.set_cons_succ]
        refine wpAnyH_done (by kernel_rfl) ?_ _
        go_wp2_with fail
        go_meet
        exact ⟨x33.heap.size, x32.heap.size, rfl, HBx39.out, HMD.out, HMG.out, HNE.out, HDx39.out, HGx39.out⟩
       exact AllReadyH.nil
      exact AllReadyH.nil
     exact AllReadyH.nil
    refine AllReadyH.cons (o := ?oo94) ?hi94 (fun K hK => ?hs94) ?hm94
    case hi94 => (simp only [List.getElem?_toArray, List.getElem?_cons_succ, List.getElem?_cons_zero]; rfl)
    ·
     go_simp
     refine (HF3.out x32 HBx32.out).mono ?_
     rintro e x40 ⟨rfl, hbx40⟩
     have HBx40 := Lib.hid (HBx32.out.trans (hbx40.mono HBx32.out.size))
     clear hbx40
     (try go_wp2_with fail)
     refine hK.out _ _ ?_ (fun hHeld => ?_)
     · (try dsimp only); exact HS.out x40 HBx40.out
     clear hK K
     try simp only [Act.put, List.setIfInBounds_toArray, List.set_cons_zero, List.set_cons_succ]
     refine wpAnyH_take (i := 35) (oi := ?oi95) (v := ?v95) ?hi95 (by kernel_rfl) (by kernel_rfl) (by kernel_rfl) ?hq95 ?hy95 (by assumption) ?hr95
     case hi95 => (simp only [List.getElem?_toArray, List.getElem?_cons_succ, List.getElem?_cons_zero]; rfl)
     case hq95 => exact fun _ _ _ h => h
     case hy95 => exact .inl ⟨by rfl, by intro _ hSw'; (try dsimp only at hSw'); go_simp <;> with_reducible rfl⟩
     try simp only [Act.put, List.setIfInBounds_toArray, List.set_cons_zero, List.set_cons_succ]
     refine wpAnyH_ready (rs := [10, 37]) (by kernel_rfl) (by simp) ?_
     refine AllReadyH.cons (o := ?oo96) ?hi96 (fun K hK => ?hs96) ?hm96
     case hi96 => (simp only [List.getElem?_toArray, List.getElem?_cons_succ, List.getElem?_cons_zero]; rfl)
     ·
      go_simp
      obtain ⟨x41, hx41⟩ : ∃ W', x40.alloc (.cells #[.string P, .int .i64 (lo : Int), .int .i64 (hi : Int), .slice Am lm cm] 51) = W' := ⟨_, rfl⟩
      rw [hx41]
      have hbx41 : Below x40.heap.size x40 x41 := by rw [← hx41]; exact below_box _ _
      have HMG := Lib.hid HBx40.out.size
      have HGx41 := Lib.hid (show x41.heap[x40.heap.size]? = some (.cells #[.string P, .int .i64 (lo : Int), .int .i64 (hi : Int), .slice Am lm cm] 51 (0, 0)) by rw [← hx41]; exact block_new _ _)
      have HBx41 := Lib.hid (HBx40.out.trans (hbx41.mono HBx40.out.size))
      clear hx41 hbx41
      refine hK.out _ _ ?_ (fun hHeld => ?_)
      · (try dsimp only); exact HS.out x41 HBx41.out
      clear hK K
      try simp only [Act.put, List.setIfInBounds_toArray, List.set_cons_zero, List.set_cons_succ]
      refine wpAnyH_take (i := 36) (oi := ?oi97) (v := ?v97) ?hi97 (by kernel_rfl) (by kernel_rfl) (by kernel_rfl) ?hq97 ?hy97 (by assumption) ?hr97
      case hi97 => (simp only [List.getElem?_toArray, List.getElem?_cons_succ, List.getElem?_cons_zero]; rfl)
      case hq97 => exact fun _ _ _ h => h
      case hy97 => exact .inl ⟨by rfl, by intro _ hSw'; (try dsimp only at hSw'); go_simp <;> with_reducible rfl⟩
      try simp only [Act.put, List.setIfInBounds_toArray, List.set_cons_zero, List.set_cons_succ]
      refine wpAnyH_ready (rs := [37]) (by kernel_rfl) (by simp) ?_
      refine AllReadyH.cons (o := ?oo98) ?hi98 (fun K hK => ?hs98) ?hm98
      case hi98 => (simp only [List.getElem?_toArray, List.getElem?_cons_succ, List.getElem?_cons_zero]; rfl)
      ·
       go_simp
       obtain ⟨x42, hx42⟩ : ∃ W', x41.alloc (.cells #[.slice none 0 0, .slice none 0 0, .slice none 0 0, .slice none 0 0, .slice none 0 0, .slice none 0 0, .slice none 0 0] 30) = W' := ⟨_, rfl⟩
       rw [hx42]
       have hbx42 : Below x41.heap.size x41 x42 := by rw [← hx42]; exact below_box _ _
       have HMD := Lib.hid HBx41.out.size
       have HDx42 := Lib.hid (show x42.heap[x41.heap.size]? = some (.cells #[.slice none 0 0, .slice none 0 0, .slice none 0 0, .slice none 0 0, .slice none 0 0, .slice none 0 0, .slice none 0 0] 30 (0, 0)) by rw [← hx42]; exact block_new _ _)
       have HGx42 := Lib.hid (block_below HGx41.out hbx42 (lt_blk HGx41.out))
       have HBx42 := Lib.hid (HBx41.out.trans (hbx42.mono HBx41.out.size))
       clear hx42 hbx42
       refine hK.out _ _ ?_ (fun hHeld => ?_)
       · (try dsimp only); exact HS.out x42 HBx42.out
       clear hK K
       try simp only [Act.put, List.setIfInBounds_toArray, List.set_cons_zero, List.set_cons_succ]
       refine wpAnyH_ready (rs := [38]) (by kernel_rfl) (by simp) ?_
       refine AllReadyH.cons (o := ?oo99) ?hi99 (fun K hK => ?hs99) ?hm99
       case hi99 => (simp only [List.getElem?_toArray, List.getElem?_cons_succ, List.getElem?_cons_zero]; rfl)
       ·
        obtain ⟨⟨t0, t1, t2, t3, t4, t5, t6⟩, f0, f1, f2, f3, f4, f5, f6⟩ := seven_f HDx42.out
        go_simp
        obtain ⟨x43, hx43⟩ : ∃ W', (((((((x42.setCell ⟨x41.heap.size, 0, none⟩ (.slice A0 n0 k0)).setCell ⟨x41.heap.size, 1, none⟩ (.slice At (hi - lo) ct)).setCell ⟨x41.heap.size, 2, none⟩ (.slice (some ⟨x40.heap.size, 0, none⟩) 1 1)).setCell ⟨x41.heap.size, 3, none⟩ (.slice Ar (p2 - p1) cr)).setCell ⟨x41.heap.size, 4, none⟩ (.slice An (m2 - m1) cn)).setCell ⟨x41.heap.size, 5, none⟩ (.slice none 0 0)).setCell ⟨x41.heap.size, 6, none⟩ (.slice none 0 0)) = W' := ⟨_, rfl⟩
        rw [hx43]
        have hne := blk_ne HGx42.out HDx42.out (by decide)
        have HNE := Lib.hid hne
        obtain ⟨hD', hG', hB'⟩ := set_seven hx43 HDx42.out HGx42.out hne HMD.out HBx42.out
        have HDx43 := Lib.hid hD'
        have HGx43 := Lib.hid hG'
        have HBx43 := Lib.hid hB'
        clear hD' hG' hB'
        clear hx43 hne
        refine hK.out _ _ ?_ (fun hHeld => ?_)
        · (try dsimp only); exact HS.out x43 HBx43.out
        clear hK K
        try simp only [Act.put, List.setIfInBounds_toArray, List.set_cons_zero, List.set_cons_succ]
        refine wpAnyH_done (by kernel_rfl) ?_ _
        go_wp2_with fail
        go_meet
        exact ⟨x41.heap.size, x40.heap.size, rfl, HBx43.out, HMD.out, HMG.out, HNE.out, HDx43.out, HGx43.out⟩
       exact AllReadyH.nil
      exact AllReadyH.nil
     refine AllReadyH.cons (o := ?oo100) ?hi100 (fun K hK => ?hs100) ?hm100
     case hi100 => (simp only [List.getElem?_toArray, List.getElem?_cons_succ, List.getElem?_cons_zero]; rfl)
     ·
      go_simp
      obtain ⟨x44, hx44⟩ : ∃ W', x40.alloc (.cells #[.slice none 0 0, .slice none 0 0, .slice none 0 0, .slice none 0 0, .slice none 0 0, .slice none 0 0, .slice none 0 0] 30) = W' := ⟨_, rfl⟩
      rw [hx44]
      have hbx44 : Below x40.heap.size x40 x44 := by rw [← hx44]; exact below_box _ _
      have HMD := Lib.hid HBx40.out.size
      have HDx44 := Lib.hid (show x44.heap[x40.heap.size]? = some (.cells #[.slice none 0 0, .slice none 0 0, .slice none 0 0, .slice none 0 0, .slice none 0 0, .slice none 0 0, .slice none 0 0] 30 (0, 0)) by rw [← hx44]; exact block_new _ _)
      have HBx44 := Lib.hid (HBx40.out.trans (hbx44.mono HBx40.out.size))
      clear hx44 hbx44
      refine hK.out _ _ ?_ (fun hHeld => ?_)
      · (try dsimp only); exact HS.out x44 HBx44.out
      clear hK K
      try simp only [Act.put, List.setIfInBounds_toArray, List.set_cons_zero, List.set_cons_succ]
      refine wpAnyH_ready (rs := [10]) (by kernel_rfl) (by simp) ?_
      refine AllReadyH.cons (o := ?oo101) ?hi101 (fun K hK => ?hs101) ?hm101
      case hi101 => (simp only [List.getElem?_toArray, List.getElem?_cons_succ, List.getElem?_cons_zero]; rfl)
      ·
       go_simp
       obtain ⟨x45, hx45⟩ : ∃ W', x44.alloc (.cells #[.string P, .int .i64 (lo : Int), .int .i64 (hi : Int), .slice Am lm cm] 51) = W' := ⟨_, rfl⟩
       rw [hx45]
       have hbx45 : Below x44.heap.size x44 x45 := by rw [← hx45]; exact below_box _ _
       have HMG := Lib.hid HBx44.out.size
       have HGx45 := Lib.hid (show x45.heap[x44.heap.size]? = some (.cells #[.string P, .int .i64 (lo : Int), .int .i64 (hi : Int), .slice Am lm cm] 51 (0, 0)) by rw [← hx45]; exact block_new _ _)
       have HDx45 := Lib.hid (block_below HDx44.out hbx45 (lt_blk HDx44.out))
       have HBx45 := Lib.hid (HBx44.out.trans (hbx45.mono HBx44.out.size))
       clear hx45 hbx45
       refine hK.out _ _ ?_ (fun hHeld => ?_)
       · (try dsimp only); exact HS.out x45 HBx45.out
       clear hK K
       try simp only [Act.put, List.setIfInBounds_toArray, List.set_cons_zero, List.set_cons_succ]
       refine wpAnyH_take (i := 36) (oi := ?oi102) (v := ?v102) ?hi102 (by kernel_rfl) (by kernel_rfl) (by kernel_rfl) ?hq102 ?hy102 (by assumption) ?hr102
       case hi102 => (simp only [List.getElem?_toArray, List.getElem?_cons_succ, List.getElem?_cons_zero]; rfl)
       case hq102 => exact fun _ _ _ h => h
       case hy102 => exact .inl ⟨by rfl, by intro _ hSw'; (try dsimp only at hSw'); go_simp <;> with_reducible rfl⟩
       try simp only [Act.put, List.setIfInBounds_toArray, List.set_cons_zero, List.set_cons_succ]
       refine wpAnyH_ready (rs := [38]) (by kernel_rfl) (by simp) ?_
       refine AllReadyH.cons (o := ?oo103) ?hi103 (fun K hK => ?hs103) ?hm103
       case hi103 => (simp only [List.getElem?_toArray, List.getElem?_cons_succ, List.getElem?_cons_zero]; rfl)
       ·
        obtain ⟨⟨t0, t1, t2, t3, t4, t5, t6⟩, f0, f1, f2, f3, f4, f5, f6⟩ := seven_f HDx45.out
        go_simp
        obtain ⟨x46, hx46⟩ : ∃ W', (((((((x45.setCell ⟨x40.heap.size, 0, none⟩ (.slice A0 n0 k0)).setCell ⟨x40.heap.size, 1, none⟩ (.slice At (hi - lo) ct)).setCell ⟨x40.heap.size, 2, none⟩ (.slice (some ⟨x44.heap.size, 0, none⟩) 1 1)).setCell ⟨x40.heap.size, 3, none⟩ (.slice Ar (p2 - p1) cr)).setCell ⟨x40.heap.size, 4, none⟩ (.slice An (m2 - m1) cn)).setCell ⟨x40.heap.size, 5, none⟩ (.slice none 0 0)).setCell ⟨x40.heap.size, 6, none⟩ (.slice none 0 0)) = W' := ⟨_, rfl⟩
        rw [hx46]
        have hne := blk_ne HGx45.out HDx45.out (by decide)
        have HNE := Lib.hid hne
        obtain ⟨hD', hG', hB'⟩ := set_seven hx46 HDx45.out HGx45.out hne HMD.out HBx45.out
        have HDx46 := Lib.hid hD'
        have HGx46 := Lib.hid hG'
        have HBx46 := Lib.hid hB'
        clear hD' hG' hB'
        clear hx46 hne
        refine hK.out _ _ ?_ (fun hHeld => ?_)
        · (try dsimp only); exact HS.out x46 HBx46.out
        clear hK K
        try simp only [Act.put, List.setIfInBounds_toArray, List.set_cons_zero, List.set_cons_succ]
        refine wpAnyH_done (by kernel_rfl) ?_ _
        go_wp2_with fail
        go_meet
        exact ⟨x40.heap.size, x44.heap.size, rfl, HBx46.out, HMD.out, HMG.out, HNE.out, HDx46.out, HGx46.out⟩
       exact AllReadyH.nil
      exact AllReadyH.nil
     exact AllReadyH.nil
    refine AllReadyH.cons (o := ?oo104) ?hi104 (fun K hK => ?hs104) ?hm104
    case hi104 => (simp only [List.getElem?_toArray, List.getElem?_cons_succ, List.getElem?_cons_zero]; rfl)
    ·
     go_simp
     obtain ⟨x47, hx47⟩ : ∃ W', x32.alloc (.cells #[.slice none 0 0, .slice none 0 0, .slice none 0 0, .slice none 0 0, .slice none 0 0, .slice none 0 0, .slice none 0 0] 30) = W' := ⟨_, rfl⟩
     rw [hx47]
     have hbx47 : Below x32.heap.size x32 x47 := by rw [← hx47]; exact below_box _ _
     have HMD := Lib.hid HBx32.out.size
     have HDx47 := Lib.hid (show x47.heap[x32.heap.size]? = some (.cells #[.slice none 0 0, .slice none 0 0, .slice none 0 0, .slice none 0 0, .slice none 0 0, .slice none 0 0, .slice none 0 0] 30 (0, 0)) by rw [← hx47]; exact block_new _ _)
     have HBx47 := Lib.hid (HBx32.out.trans (hbx47.mono HBx32.out.size))
     clear hx47 hbx47
     refine hK.out _ _ ?_ (fun hHeld => ?_)
     · (try dsimp only); exact HS.out x47 HBx47.out
     clear hK K
     try simp only [Act.put, List.setIfInBounds_toArray, List.set_cons_zero, List.set_cons_succ]
     refine wpAnyH_ready (rs := [10, 34]) (by kernel_rfl) (by simp) ?_
     refine AllReadyH.cons (o := ?oo105) ?hi105 (fun K hK => ?hs105) ?hm105
     case hi105 => (simp only [List.getElem?_toArray, List.getElem?_cons_succ, List.getElem?_cons_zero]; rfl)
     ·
      go_simp
      obtain ⟨x48, hx48⟩ : ∃ W', x47.alloc (.cells #[.string P, .int .i64 (lo : Int), .int .i64 (hi : Int), .slice Am lm cm] 51) = W' := ⟨_, rfl⟩
      rw [hx48]
      have hbx48 : Below x47.heap.size x47 x48 := by rw [← hx48]; exact below_box _ _
      have HMG := Lib.hid HBx47.out.size
      have HGx48 := Lib.hid (show x48.heap[x47.heap.size]? = some (.cells #[.string P, .int .i64 (lo : Int), .int .i64 (hi : Int), .slice Am lm cm] 51 (0, 0)) by rw [← hx48]; exact block_new _ _)
      have HDx48 := Lib.hid (block_below HDx47.out hbx48 (lt_blk HDx47.out))
      have HBx48 := Lib.hid (HBx47.out.trans (hbx48.mono HBx47.out.size))
      clear hx48 hbx48
      refine hK.out _ _ ?_ (fun hHeld => ?_)
      · (try dsimp only); exact HS.out x48 HBx48.out
      clear hK K
      try simp only [Act.put, List.setIfInBounds_toArray, List.set_cons_zero, List.set_cons_succ]
      refine wpAnyH_ready (rs := [34]) (by kernel_rfl) (by simp) ?_
      refine AllReadyH.cons (o := ?oo106) ?hi106 (fun K hK => ?hs106) ?hm106
      case hi106 => (simp only [List.getElem?_toArray, List.getElem?_cons_succ, List.getElem?_cons_zero]; rfl)
      ·
       go_simp
       refine (HF3.out x48 HBx48.out).mono ?_
       rintro e x49 ⟨rfl, hbx49⟩
       have HGx49 := Lib.hid (block_below HGx48.out hbx49 (lt_blk HGx48.out))
       have HDx49 := Lib.hid (block_below HDx48.out hbx49 (lt_blk HDx48.out))
       have HBx49 := Lib.hid (HBx48.out.trans (hbx49.mono HBx48.out.size))
       clear hbx49
       (try go_wp2_with fail)
       refine hK.out _ _ ?_ (fun hHeld => ?_)
       · (try dsimp only); exact HS.out x49 HBx49.out
       clear hK K
       try simp only [Act.put, List.setIfInBounds_toArray, List.set_cons_zero, List.set_cons_succ]
       refine wpAnyH_take (i := 35) (oi := ?oi107) (v := ?v107) ?hi107 (by kernel_rfl) (by kernel_rfl) (by kernel_rfl) ?hq107 ?hy107 (by assumption) ?hr107
       case hi107 => (simp only [List.getElem?_toArray, List.getElem?_cons_succ, List.getElem?_cons_zero]; rfl)
       case hq107 => exact fun _ _ _ h => h
       case hy107 => exact .inl ⟨by rfl, by intro _ hSw'; (try dsimp only at hSw'); go_simp <;> with_reducible rfl⟩
       try simp only [Act.put, List.setIfInBounds_toArray, List.set_cons_zero, List.set_cons_succ]
       refine wpAnyH_take (i := 36) (oi := ?oi108) (v := ?v108) ?hi108 (by kernel_rfl) (by kernel_rfl) (by kernel_rfl) ?hq108 ?hy108 (by assumption) ?hr108
       case hi108 => (simp only [List.getElem?_toArray, List.getElem?_cons_succ, List.getElem?_cons_zero]; rfl)
       case hq108 => exact fun _ _ _ h => h
       case hy108 => exact .inl ⟨by rfl, by intro _ hSw'; (try dsimp only at hSw'); go_simp <;> with_reducible rfl⟩
       try simp only [Act.put, List.setIfInBounds_toArray, List.set_cons_zero, List.set_cons_succ]
       refine wpAnyH_ready (rs := [38]) (by kernel_rfl) (by simp) ?_
       refine AllReadyH.cons (o := ?oo109) ?hi109 (fun K hK => ?hs109) ?hm109
       case hi109 => (simp only [List.getElem?_toArray, List.getElem?_cons_succ, List.getElem?_cons_zero]; rfl)
       ·
        obtain ⟨⟨t0, t1, t2, t3, t4, t5, t6⟩, f0, f1, f2, f3, f4, f5, f6⟩ := seven_f HDx49.out
        go_simp
        obtain ⟨x50, hx50⟩ : ∃ W', (((((((x49.setCell ⟨x32.heap.size, 0, none⟩ (.slice A0 n0 k0)).setCell ⟨x32.heap.size, 1, none⟩ (.slice At (hi - lo) ct)).setCell ⟨x32.heap.size, 2, none⟩ (.slice (some ⟨x47.heap.size, 0, none⟩) 1 1)).setCell ⟨x32.heap.size, 3, none⟩ (.slice Ar (p2 - p1) cr)).setCell ⟨x32.heap.size, 4, none⟩ (.slice An (m2 - m1) cn)).setCell ⟨x32.heap.size, 5, none⟩ (.slice none 0 0)).setCell ⟨x32.heap.size, 6, none⟩ (.slice none 0 0)) = W' := ⟨_, rfl⟩
        rw [hx50]
        have hne := blk_ne HGx49.out HDx49.out (by decide)
        have HNE := Lib.hid hne
        obtain ⟨hD', hG', hB'⟩ := set_seven hx50 HDx49.out HGx49.out hne HMD.out HBx49.out
        have HDx50 := Lib.hid hD'
        have HGx50 := Lib.hid hG'
        have HBx50 := Lib.hid hB'
        clear hD' hG' hB'
        clear hx50 hne
        refine hK.out _ _ ?_ (fun hHeld => ?_)
        · (try dsimp only); exact HS.out x50 HBx50.out
        clear hK K
        try simp only [Act.put, List.setIfInBounds_toArray, List.set_cons_zero, List.set_cons_succ]
        refine wpAnyH_done (by kernel_rfl) ?_ _
        go_wp2_with fail
        go_meet
        exact ⟨x32.heap.size, x47.heap.size, rfl, HBx50.out, HMD.out, HMG.out, HNE.out, HDx50.out, HGx50.out⟩
       exact AllReadyH.nil
      exact AllReadyH.nil
     refine AllReadyH.cons (o := ?oo110) ?hi110 (fun K hK => ?hs110) ?hm110
     case hi110 => (simp only [List.getElem?_toArray, List.getElem?_cons_succ, List.getElem?_cons_zero]; rfl)
     ·
      go_simp
      refine (HF3.out x47 HBx47.out).mono ?_
      rintro e x51 ⟨rfl, hbx51⟩
      have HDx51 := Lib.hid (block_below HDx47.out hbx51 (lt_blk HDx47.out))
      have HBx51 := Lib.hid (HBx47.out.trans (hbx51.mono HBx47.out.size))
      clear hbx51
      (try go_wp2_with fail)
      refine hK.out _ _ ?_ (fun hHeld => ?_)
      · (try dsimp only); exact HS.out x51 HBx51.out
      clear hK K
      try simp only [Act.put, List.setIfInBounds_toArray, List.set_cons_zero, List.set_cons_succ]
      refine wpAnyH_take (i := 35) (oi := ?oi111) (v := ?v111) ?hi111 (by kernel_rfl) (by kernel_rfl) (by kernel_rfl) ?hq111 ?hy111 (by assumption) ?hr111
      case hi111 => (simp only [List.getElem?_toArray, List.getElem?_cons_succ, List.getElem?_cons_zero]; rfl)
      case hq111 => exact fun _ _ _ h => h
      case hy111 => exact .inl ⟨by rfl, by intro _ hSw'; (try dsimp only at hSw'); go_simp <;> with_reducible rfl⟩
      try simp only [Act.put, List.setIfInBounds_toArray, List.set_cons_zero, List.set_cons_succ]
      refine wpAnyH_ready (rs := [10]) (by kernel_rfl) (by simp) ?_
      refine AllReadyH.cons (o := ?oo112) ?hi112 (fun K hK => ?hs112) ?hm112
      case hi112 => (simp only [List.getElem?_toArray, List.getElem?_cons_succ, List.getElem?_cons_zero]; rfl)
      ·
       go_simp
       obtain ⟨x52, hx52⟩ : ∃ W', x51.alloc (.cells #[.string P, .int .i64 (lo : Int), .int .i64 (hi : Int), .slice Am lm cm] 51) = W' := ⟨_, rfl⟩
       rw [hx52]
       have hbx52 : Below x51.heap.size x51 x52 := by rw [← hx52]; exact below_box _ _
       have HMG := Lib.hid HBx51.out.size
       have HGx52 := Lib.hid (show x52.heap[x51.heap.size]? = some (.cells #[.string P, .int .i64 (lo : Int), .int .i64 (hi : Int), .slice Am lm cm] 51 (0, 0)) by rw [← hx52]; exact block_new _ _)
       have HDx52 := Lib.hid (block_below HDx51.out hbx52 (lt_blk HDx51.out))
       have HBx52 := Lib.hid (HBx51.out.trans (hbx52.mono HBx51.out.size))
       clear hx52 hbx52
       refine hK.out _ _ ?_ (fun hHeld => ?_)
       · (try dsimp only); exact HS.out x52 HBx52.out
       clear hK K
       try simp only [Act.put, List.setIfInBounds_toArray, List.set_cons_zero, List.set_cons_succ]
       refine wpAnyH_take (i := 36) (oi := ?oi113) (v := ?v113) ?hi113 (by kernel_rfl) (by kernel_rfl) (by kernel_rfl) ?hq113 ?hy113 (by assumption) ?hr113
       case hi113 => (simp only [List.getElem?_toArray, List.getElem?_cons_succ, List.getElem?_cons_zero]; rfl)
       case hq113 => exact fun _ _ _ h => h
       case hy113 => exact .inl ⟨by rfl, by intro _ hSw'; (try dsimp only at hSw'); go_simp <;> with_reducible rfl⟩
       try simp only [Act.put, List.setIfInBounds_toArray, List.set_cons_zero, List.set_cons_succ]
       refine wpAnyH_ready (rs := [38]) (by kernel_rfl) (by simp) ?_
       refine AllReadyH.cons (o := ?oo114) ?hi114 (fun K hK => ?hs114) ?hm114
       case hi114 => (simp only [List.getElem?_toArray, List.getElem?_cons_succ, List.getElem?_cons_zero]; rfl)
       ·
        obtain ⟨⟨t0, t1, t2, t3, t4, t5, t6⟩, f0, f1, f2, f3, f4, f5, f6⟩ := seven_f HDx52.out
        go_simp
        obtain ⟨x53, hx53⟩ : ∃ W', (((((((x52.setCell ⟨x32.heap.size, 0, none⟩ (.slice A0 n0 k0)).setCell ⟨x32.heap.size, 1, none⟩ (.slice At (hi - lo) ct)).setCell ⟨x32.heap.size, 2, none⟩ (.slice (some ⟨x51.heap.size, 0, none⟩) 1 1)).setCell ⟨x32.heap.size, 3, none⟩ (.slice Ar (p2 - p1) cr)).setCell ⟨x32.heap.size, 4, none⟩ (.slice An (m2 - m1) cn)).setCell ⟨x32.heap.size, 5, none⟩ (.slice none 0 0)).setCell ⟨x32.heap.size, 6, none⟩ (.slice none 0 0)) = W' := ⟨_, rfl⟩
        rw [hx53]
        have hne := blk_ne HGx52.out HDx52.out (by decide)
        have HNE := Lib.hid hne
        obtain ⟨hD', hG', hB'⟩ := set_seven hx53 HDx52.out HGx52.out hne HMD.out HBx52.out
        have HDx53 := Lib.hid hD'
        have HGx53 := Lib.hid hG'
        have HBx53 := Lib.hid hB'
        clear hD' hG' hB'
        clear hx53 hne
        refine hK.out _ _ ?_ (fun hHeld => ?_)
        · (try dsimp only); exact HS.out x53 HBx53.out
        clear hK K
        try simp only [Act.put, List.setIfInBounds_toArray, List.set_cons_zero, List.set_cons_succ]
        refine wpAnyH_done (by kernel_rfl) ?_ _
        go_wp2_with fail
        go_meet
        exact ⟨x32.heap.size, x51.heap.size, rfl, HBx53.out, HMD.out, HMG.out, HNE.out, HDx53.out, HGx53.out⟩
       exact AllReadyH.nil
      exact AllReadyH.nil
     exact AllReadyH.nil
    exact AllReadyH.nil
   refine AllReadyH.cons (o := ?oo115) ?hi115 (fun K hK => ?hs115) ?hm115
   case hi115 => (simp only [List.getElem?_toArray, List.getElem?_cons_succ, List.getElem?_cons_zero]; rfl)
   ·
    go_simp
    obtain ⟨x54, hx54⟩ : ∃ W', x19.alloc (.cells #[.slice none 0 0, .slice none 0 0, .slice none 0 0, .slice none 0 0, .slice none 0 0, .slice none 0 0, .slice none 0 0] 30) = W' := ⟨_, rfl⟩
    rw [hx54]
    have hbx54 : Below x19.heap.size x19 x54 := by rw [← hx54]; exact below_box _ _
    have HMD := Lib.hid HBx19.out.size
    have HDx54 := Lib.hid (show x54.heap[x19.heap.size]? = some (.cells #[.slice none 0 0, .slice none 0 0, .slice none 0 0, .slice none 0 0, .slice none 0 0, .slice none 0 0, .slice none 0 0] 30 (0, 0)) by rw [← hx54]; exact block_new _ _)
    have HBx54 := Lib.hid (HBx19.out.trans (hbx54.mono HBx19.out.size))
    clear hx54 hbx54
    refine hK.out _ _ ?_ (fun hHeld => ?_)
    · (try dsimp only); exact HS.out x54 HBx54.out
    clear hK K
    try simp only [Act.put, List.setIfInBounds_toArray, List.set_cons_zero, List.set_cons_succ]
    refine wpAnyH_ready (rs := [10, 24]) (by kernel_rfl) (by simp) ?_
    refine AllReadyH.cons (o := ?oo116) ?hi116 (fun K hK => ?hs116) ?hm116
    case hi116 => (simp only [List.getElem?_toArray, List.getElem?_cons_succ, List.getElem?_cons_zero]; rfl)
    ·
     go_simp
     obtain ⟨x55, hx55⟩ : ∃ W', x54.alloc (.cells #[.string P, .int .i64 (lo : Int), .int .i64 (hi : Int), .slice Am lm cm] 51) = W' := ⟨_, rfl⟩
     rw [hx55]
     have hbx55 : Below x54.heap.size x54 x55 := by rw [← hx55]; exact below_box _ _
     have HMG := Lib.hid HBx54.out.size
     have HGx55 := Lib.hid (show x55.heap[x54.heap.size]? = some (.cells #[.string P, .int .i64 (lo : Int), .int .i64 (hi : Int), .slice Am lm cm] 51 (0, 0)) by rw [← hx55]; exact block_new _ _)
     have HDx55 := Lib.hid (block_below HDx54.out hbx55 (lt_blk HDx54.out))
     have HBx55 := Lib.hid (HBx54.out.trans (hbx55.mono HBx54.out.size))
     clear hx55 hbx55
     refine hK.out _ _ ?_ (fun hHeld => ?_)
     · (try dsimp only); exact HS.out x55 HBx55.out
     clear hK K
     try simp only [Act.put, List.setIfInBounds_toArray, List.set_cons_zero, List.set_cons_succ]
     refine wpAnyH_ready (rs := [24]) (by kernel_rfl) (by simp) ?_
     refine AllReadyH.cons (o := ?oo117) ?hi117 (fun K hK => ?hs117) ?hm117
     case hi117 => (simp only [List.getElem?_toArray, List.getElem?_cons_succ, List.getElem?_cons_zero]; rfl)
     ·
      go_simp
      refine (HF2.out x55 HBx55.out).mono ?_
      rintro e x56 ⟨rfl, hbx56⟩
      have HGx56 := Lib.hid (block_below HGx55.out hbx56 (lt_blk HGx55.out))
      have HDx56 := Lib.hid (block_below HDx55.out hbx56 (lt_blk HDx55.out))
      have HBx56 := Lib.hid (HBx55.out.trans (hbx56.mono HBx55.out.size))
      clear hbx56
      (try go_wp2_with fail)
      refine hK.out _ _ ?_ (fun hHeld => ?_)
      · (try dsimp only); exact HS.out x56 HBx56.out
      clear hK K
      try simp only [Act.put, List.setIfInBounds_toArray, List.set_cons_zero, List.set_cons_succ]
      refine wpAnyH_take (i := 25) (oi := ?oi118) (v := ?v118) ?hi118 (by kernel_rfl) (by kernel_rfl) (by kernel_rfl) ?hq118 ?hy118 (by assumption) ?hr118
      case hi118 => (simp only [List.getElem?_toArray, List.getElem?_cons_succ, List.getElem?_cons_zero]; rfl)
      case hq118 => exact fun _ _ _ h => h
      case hy118 => exact .inl ⟨by rfl, by intro _ hSw'; (try dsimp only at hSw'); go_simp <;> with_reducible rfl⟩
      try simp only [Act.put, List.setIfInBounds_toArray, List.set_cons_zero, List.set_cons_succ]
      refine wpAnyH_ready (rs := [34]) (by kernel_rfl) (by simp) ?_
      refine AllReadyH.cons (o := ?oo119) ?hi119 (fun K hK => ?hs119) ?hm119
      case hi119 => (simp only [List.getElem?_toArray, List.getElem?_cons_succ, List.getElem?_cons_zero]; rfl)
      ·
       go_simp
       refine (HF3.out x56 HBx56.out).mono ?_
       rintro e x57 ⟨rfl, hbx57⟩
       have HGx57 := Lib.hid (block_below HGx56.out hbx57 (lt_blk HGx56.out))
       have HDx57 := Lib.hid (block_below HDx56.out hbx57 (lt_blk HDx56.out))
       have HBx57 := Lib.hid (HBx56.out.trans (hbx57.mono HBx56.out.size))
       clear hbx57
       (try go_wp2_with fail)
       refine hK.out _ _ ?_ (fun hHeld => ?_)
       · (try dsimp only); exact HS.out x57 HBx57.out
       clear hK K
       try simp only [Act.put, List.setIfInBounds_toArray, List.set_cons_zero, List.set_cons_succ]
       refine wpAnyH_take (i := 35) (oi := ?oi120) (v := ?v120) ?hi120 (by kernel_rfl) (by kernel_rfl) (by kernel_rfl) ?hq120 ?hy120 (by assumption) ?hr120
       case hi120 => (simp only [List.getElem?_toArray, List.getElem?_cons_succ, List.getElem?_cons_zero]; rfl)
       case hq120 => exact fun _ _ _ h => h
       case hy120 => exact .inl ⟨by rfl, by intro _ hSw'; (try dsimp only at hSw'); go_simp <;> with_reducible rfl⟩
       try simp only [Act.put, List.setIfInBounds_toArray, List.set_cons_zero, List.set_cons_succ]
       refine wpAnyH_take (i := 36) (oi := ?oi121) (v := ?v121) ?hi121 (by kernel_rfl) (by kernel_rfl) (by kernel_rfl) ?hq121 ?hy121 (by assumption) ?hr121
       case hi121 => (simp only [List.getElem?_toArray, List.getElem?_cons_succ, List.getElem?_cons_zero]; rfl)
       case hq121 => exact fun _ _ _ h => h
       case hy121 => exact .inl ⟨by rfl, by intro _ hSw'; (try dsimp only at hSw'); go_simp <;> with_reducible rfl⟩
       try simp only [Act.put, List.setIfInBounds_toArray, List.set_cons_zero, List.set_cons_succ]
       refine wpAnyH_ready (rs := [38]) (by kernel_rfl) (by simp) ?_
       refine AllReadyH.cons (o := ?oo122) ?hi122 (fun K hK => ?hs122) ?hm122
       case hi122 => (simp only [List.getElem?_toArray, List.getElem?_cons_succ, List.getElem?_cons_zero]; rfl)
       ·
        obtain ⟨⟨t0, t1, t2, t3, t4, t5, t6⟩, f0, f1, f2, f3, f4, f5, f6⟩ := seven_f HDx57.out
        go_simp
        obtain ⟨x58, hx58⟩ : ∃ W', (((((((x57.setCell ⟨x19.heap.size, 0, none⟩ (.slice A0 n0 k0)).setCell ⟨x19.heap.size, 1, none⟩ (.slice At (hi - lo) ct)).setCell ⟨x19.heap.size, 2, none⟩ (.slice (some ⟨x54.heap.size, 0, none⟩) 1 1)).setCell ⟨x19.heap.size, 3, none⟩ (.slice Ar (p2 - p1) cr)).setCell ⟨x19.heap.size, 4, none⟩ (.slice An (m2 - m1) cn)).setCell ⟨x19.heap.size, 5, none⟩ (.slice none 0 0)).setCell ⟨x19.heap.size, 6, none⟩ (.slice none 0 0)) = W' := ⟨_, rfl⟩
        rw [hx58]
        have hne := blk_ne HGx57.out HDx57.out (by decide)
        have HNE := Lib.hid hne
        obtain ⟨hD', hG', hB'⟩ := set_seven hx58 HDx57.out HGx57.out hne HMD.out HBx57.out
        have HDx58 := Lib.hid hD'
        have HGx58 := Lib.hid hG'
        have HBx58 := Lib.hid hB'
        clear hD' hG' hB'
        clear hx58 hne
        refine hK.out _ _ ?_ (fun hHeld => ?_)
        · (try dsimp only); exact HS.out x58 HBx58.out
        clear hK K
        try simp only [Act.put, List.setIfInBounds_toArray, List.set_cons_zero, List.set_cons_succ]
        refine wpAnyH_done (by kernel_rfl) ?_ _
        go_wp2_with fail
        go_meet
        exact ⟨x19.heap.size, x54.heap.size, rfl, HBx58.out, HMD.out, HMG.out, HNE.out, HDx58.out, HGx58.out⟩
       exact AllReadyH.nil
      exact AllReadyH.nil
     exact AllReadyH.nil
    refine AllReadyH.cons (o := ?oo123) ?hi123 (fun K hK => ?hs123) ?hm123
    case hi123 => (simp only [List.getElem?_toArray, List.getElem?_cons_succ, List.getElem?_cons_zero]; rfl)
    ·
     go_simp
     refine (HF2.out x54 HBx54.out).mono ?_
     rintro e x59 ⟨rfl, hbx59⟩
     have HDx59 := Lib.hid (block_below HDx54.out hbx59 (lt_blk HDx54.out))
     have HBx59 := Lib.hid (HBx54.out.trans (hbx59.mono HBx54.out.size))
     clear hbx59
     (try go_wp2_with fail)
     refine hK.out _ _ ?_ (fun hHeld => ?_)
     · (try dsimp only); exact HS.out x59 HBx59.out
     clear hK K
     try simp only [Act.put, List.setIfInBounds_toArray, List.set_cons_zero, List.set_cons_succ]
     refine wpAnyH_take (i := 25) (oi := ?oi124) (v := ?v124) ?hi124 (by kernel_rfl) (by kernel_rfl) (by kernel_rfl) ?hq124 ?hy124 (by assumption) ?hr124
     case hi124 => (simp only [List.getElem?_toArray, List.getElem?_cons_succ, List.getElem?_cons_zero]; rfl)
     case hq124 => exact fun _ _ _ h => h
     case hy124 => exact .inl ⟨by rfl, by intro _ hSw'; (try dsimp only at hSw'); go_simp <;> with_reducible rfl⟩
     try simp only [Act.put, List.setIfInBounds_toArray, List.set_cons_zero, List.set_cons_succ]
     refine wpAnyH_ready (rs := [10, 34]) (by kernel_rfl) (by simp) ?_
     refine AllReadyH.cons (o := ?oo125) ?hi125 (fun K hK => ?hs125) ?hm125
     case hi125 => (simp only [List.getElem?_toArray, List.getElem?_cons_succ, List.getElem?_cons_zero]; rfl)
     ·
      go_simp
      obtain ⟨x60, hx60⟩ : ∃ W', x59.alloc (.cells #[.string P, .int .i64 (lo : Int), .int .i64 (hi : Int), .slice Am lm cm] 51) = W' := ⟨_, rfl⟩
      rw [hx60]
      have hbx60 : Below x59.heap.size x59 x60 := by rw [← hx60]; exact below_box _ _
      have HMG := Lib.hid HBx59.out.size
      have HGx60 := Lib.hid (show x60.heap[x59.heap.size]? = some (.cells #[.string P, .int .i64 (lo : Int), .int .i64 (hi : Int), .slice Am lm cm] 51 (0, 0)) by rw [← hx60]; exact block_new _ _)
      have HDx60 := Lib.hid (block_below HDx59.out hbx60 (lt_blk HDx59.out))
      have HBx60 := Lib.hid (HBx59.out.trans (hbx60.mono HBx59.out.size))
      clear hx60 hbx60
      refine hK.out _ _ ?_ (fun hHeld => ?_)
      · (try dsimp only); exact HS.out x60 HBx60.out
      clear hK K
      try simp only [Act.put, List.setIfInBounds_toArray, List.set_cons_zero, List.set_cons_succ]
      refine wpAnyH_ready (rs := [34]) (by kernel_rfl) (by simp) ?_
      refine AllReadyH.cons (o := ?oo126) ?hi126 (fun K hK => ?hs126) ?hm126
      case hi126 => (simp only [List.getElem?_toArray, List.getElem?_cons_succ, List.getElem?_cons_zero]; rfl)
      ·
       go_simp
       refine (HF3.out x60 HBx60.out).mono ?_
       rintro e x61 ⟨rfl, hbx61⟩
       have HGx61 := Lib.hid (block_below HGx60.out hbx61 (lt_blk HGx60.out))
       have HDx61 := Lib.hid (block_below HDx60.out hbx61 (lt_blk HDx60.out))
       have HBx61 := Lib.hid (HBx60.out.trans (hbx61.mono HBx60.out.size))
       clear hbx61
       (try go_wp2_with fail)
       refine hK.out _ _ ?_ (fun hHeld => ?_)
       · (try dsimp only); exact HS.out x61 HBx61.out
       clear hK K
       try simp only [Act.put, List.setIfInBounds_toArray, List.set_cons_zero, List.set_cons_succ]
       refine wpAnyH_take (i := 35) (oi := ?oi127) (v := ?v127) ?hi127 (by kernel_rfl) (by kernel_rfl) (by kernel_rfl) ?hq127 ?hy127 (by assumption) ?hr127
       case hi127 => (simp only [List.getElem?_toArray, List.getElem?_cons_succ, List.getElem?_cons_zero]; rfl)
       case hq127 => exact fun _ _ _ h => h
       case hy127 => exact .inl ⟨by rfl, by intro _ hSw'; (try dsimp only at hSw'); go_simp <;> with_reducible rfl⟩
       try simp only [Act.put, List.setIfInBounds_toArray, List.set_cons_zero, List.set_cons_succ]
       refine wpAnyH_take (i := 36) (oi := ?oi128) (v := ?v128) ?hi128 (by kernel_rfl) (by kernel_rfl) (by kernel_rfl) ?hq128 ?hy128 (by assumption) ?hr128
       case hi128 => (simp only [List.getElem?_toArray, List.getElem?_cons_succ, List.getElem?_cons_zero]; rfl)
       case hq128 => exact fun _ _ _ h => h
       case hy128 => exact .inl ⟨by rfl, by intro _ hSw'; (try dsimp only at hSw'); go_simp <;> with_reducible rfl⟩
       try simp only [Act.put, List.setIfInBounds_toArray, List.set_cons_zero, List.set_cons_succ]
       refine wpAnyH_ready (rs := [38]) (by kernel_rfl) (by simp) ?_
       refine AllReadyH.cons (o := ?oo129) ?hi129 (fun K hK => ?hs129) ?hm129
       case hi129 => (simp only [List.getElem?_toArray, List.getElem?_cons_succ, List.getElem?_cons_zero]; rfl)
       ·
        obtain ⟨⟨t0, t1, t2, t3, t4, t5, t6⟩, f0, f1, f2, f3, f4, f5, f6⟩ := seven_f HDx61.out
        go_simp
        obtain ⟨x62, hx62⟩ : ∃ W', (((((((x61.setCell ⟨x19.heap.size, 0, none⟩ (.slice A0 n0 k0)).setCell ⟨x19.heap.size, 1, none⟩ (.slice At (hi - lo) ct)).setCell ⟨x19.heap.size, 2, none⟩ (.slice (some ⟨x59.heap.size, 0, none⟩) 1 1)).setCell ⟨x19.heap.size, 3, none⟩ (.slice Ar (p2 - p1) cr)).setCell ⟨x19.heap.size, 4, none⟩ (.slice An (m2 - m1) cn)).setCell ⟨x19.heap.size, 5, none⟩ (.slice none 0 0)).setCell ⟨x19.heap.size, 6, none⟩ (.slice none 0 0)) = W' := ⟨_, rfl⟩
        rw [hx62]
        have hne := blk_ne HGx61.out HDx61.out (by decide)
        have HNE := Lib.hid hne
        obtain ⟨hD', hG', hB'⟩ := set_seven hx62 HDx61.out HGx61.out hne HMD.out HBx61.out
        have HDx62 := Lib.hid hD'
        have HGx62 := Lib.hid hG'
        have HBx62 := Lib.hid hB'
        clear hD' hG' hB'
        clear hx62 hne
        refine hK.out _ _ ?_ (fun hHeld => ?_)
        · (try dsimp only); exact HS.out x62 HBx62.out
        clear hK K
        try simp only [Act.put, List.setIfInBounds_toArray, List.set_cons_zero, List.set_cons_succ]
        refine wpAnyH_done (by kernel_rfl) ?_ _
        go_wp2_with fail
        go_meet
        exact ⟨x19.heap.size, x59.heap.size, rfl, HBx62.out, HMD.out, HMG.out, HNE.out, HDx62.out, HGx62.out⟩
       exact AllReadyH.nil
      exact AllReadyH.nil
     refine AllReadyH.cons (o := ?oo130) ?hi130 (fun K hK => ?hs130) ?hm130
     case hi130 => (simp only [List.getElem?_toArray, List.getElem?_cons_succ, List.getElem?_cons_zero]; rfl)
     ·
      go_simp
      refine (HF3.out x59 HBx59.out).mono ?_
      rintro e x63 ⟨rfl, hbx63⟩
      have HDx63 := Lib.hid (block_below HDx59.out hbx63 (lt_blk HDx59.out))
      have HBx63 := Lib.hid (HBx59.out.trans (hbx63.mono HBx59.out.size))
      clear hbx63
      (try go_wp2_with fail)
      refine hK.out _ _ ?_ (fun hHeld => ?_)
      · (try dsimp only); exact HS.out x63 HBx63.out
      clear hK K
      try simp only [Act.put, List.setIfInBounds_toArray, List.set_cons_zero, List.set_cons_succ]
      refine wpAnyH_take (i := 35) (oi := ?oi131) (v := ?v131) ?hi131 (by kernel_rfl) (by kernel_rfl) (by kernel_rfl) ?hq131 ?hy131 (by assumption) ?hr131
      case hi131 => (simp only [List.getElem?_toArray, List.getElem?_cons_succ, List.getElem?_cons_zero]; rfl)
      case hq131 => exact fun _ _ _ h => h
      case hy131 => exact .inl ⟨by rfl, by intro _ hSw'; (try dsimp only at hSw'); go_simp <;> with_reducible rfl⟩
      try simp only [Act.put, List.setIfInBounds_toArray, List.set_cons_zero, List.set_cons_succ]
      refine wpAnyH_ready (rs := [10]) (by kernel_rfl) (by simp) ?_
      refine AllReadyH.cons (o := ?oo132) ?hi132 (fun K hK => ?hs132) ?hm132
      case hi132 => (simp only [List.getElem?_toArray, List.getElem?_cons_succ, List.getElem?_cons_zero]; rfl)
      ·
       go_simp
       obtain ⟨x64, hx64⟩ : ∃ W', x63.alloc (.cells #[.string P, .int .i64 (lo : Int), .int .i64 (hi : Int), .slice Am lm cm] 51) = W' := ⟨_, rfl⟩
       rw [hx64]
       have hbx64 : Below x63.heap.size x63 x64 := by rw [← hx64]; exact below_box _ _
       have HMG := Lib.hid HBx63.out.size
       have HGx64 := Lib.hid (show x64.heap[x63.heap.size]? = some (.cells #[.string P, .int .i64 (lo : Int), .int .i64 (hi : Int), .slice Am lm cm] 51 (0, 0)) by rw [← hx64]; exact block_new _ _)
       have HDx64 := Lib.hid (block_below HDx63.out hbx64 (lt_blk HDx63.out))
       have HBx64 := Lib.hid (HBx63.out.trans (hbx64.mono HBx63.out.size))
       clear hx64 hbx64
       refine hK.out _ _ ?_ (fun hHeld => ?_)
       · (try dsimp only); exact HS.out x64 HBx64.out
       clear hK K
       try simp only [Act.put, List.setIfInBounds_toArray, List.set_cons_zero, List.set_cons_succ]
       refine wpAnyH_take (i := 36) (oi := ?oi133) (v := ?v133) ?hi133 (by kernel_rfl) (by kernel_rfl) (by kernel_rfl) ?hq133 ?hy133 (by assumption) ?hr133
       case hi133 => (simp only [List.getElem?_toArray, List.getElem?_cons_succ, List.getElem?_cons_zero]; rfl)
       case hq133 => exact fun _ _ _ h => h
       case hy133 => exact .inl ⟨by rfl, by intro _ hSw'; (try dsimp only at hSw'); go_simp <;> with_reducible rfl⟩
       try simp only [Act.put, List.setIfInBounds_toArray, List.set_cons_zero, List.set_cons_succ]
       refine wpAnyH_ready (rs := [38]) (by kernel_rfl) (by simp) ?_
       refine AllReadyH.cons (o := ?oo134) ?hi134 (fun K hK => ?hs134) ?hm134
       case hi134 => (simp only [List.getElem?_toArray, List.getElem?_cons_succ, List.getElem?_cons_zero]; rfl)
       ·
        obtain ⟨⟨t0, t1, t2, t3, t4, t5, t6⟩, f0, f1, f2, f3, f4, f5, f6⟩ := seven_f HDx64.out
        go_simp
        obtain ⟨x65, hx65⟩ : ∃ W', (((((((x64.setCell ⟨x19.heap.size, 0, none⟩ (.slice A0 n0 k0)).setCell ⟨x19.heap.size, 1, none⟩ (.slice At (hi - lo) ct)).setCell ⟨x19.heap.size, 2, none⟩ (.slice (some ⟨x63.heap.size, 0, none⟩) 1 1)).setCell ⟨x19.heap.size, 3, none⟩ (.slice Ar (p2 - p1) cr)).setCell ⟨x19.heap.size, 4, none⟩ (.slice An (m2 - m1) cn)).setCell ⟨x19.heap.size, 5, none⟩ (.slice none 0 0)).setCell ⟨x19.heap.size, 6, none⟩ (.slice none 0 0)) = W' := ⟨_, rfl⟩
        rw [hx65]
        have hne := blk_ne HGx64.out HDx64.out (by decide)
        have HNE := Lib.hid hne
        obtain ⟨hD', hG', hB'⟩ := set_seven hx65 HDx64.out HGx64.out hne HMD.out HBx64.out
        have HDx65 := Lib.hid hD'
        have HGx65 := Lib.hid hG'
        have HBx65 := Lib.hid hB'
        clear hD' hG' hB'
        clear hx65 hne
        refine hK.out _ _ ?_ (fun hHeld => ?_)
        · (try dsimp only); exact HS.out x65 HBx65.out
        clear hK K
        try simp only [Act.put, List.setIfInBounds_toArray, List.set_cons_zero, List.set_cons_succ]
        refine wpAnyH_done (by kernel_rfl) ?_ _
        go_wp2_with fail
        go_meet
        exact ⟨x19.heap.size, x63.heap.size, rfl, HBx65.out, HMD.out, HMG.out, HNE.out, HDx65.out, HGx65.out⟩
       exact AllReadyH.nil
      exact AllReadyH.nil
     exact AllReadyH.nil
    exact AllReadyH.nil
   exact AllReadyH.nil
  refine AllReadyH.cons (o := ?oo135) ?hi135 (fun K hK => ?hs135) ?hm135
  case hi135 => (simp only [List.getElem?_toArray, List.getElem?_cons_succ, List.getElem?_cons_zero]; rfl)
  ·
   go_simp
   obtain ⟨x66, hx66⟩ : ∃ W', X1.alloc (.cells #[.slice none 0 0, .slice none 0 0, .slice none 0 0, .slice none 0 0, .slice none 0 0, .slice none 0 0, .slice none 0 0] 30) = W' := ⟨_, rfl⟩
   rw [hx66]
   have hbx66 : Below X1.heap.size X1 x66 := by rw [← hx66]; exact below_box _ _
   have HMD := Lib.hid HB0.out.size
   have HDx66 := Lib.hid (show x66.heap[X1.heap.size]? = some (.cells #[.slice none 0 0, .slice none 0 0, .slice none 0 0, .slice none 0 0, .slice none 0 0, .slice none 0 0, .slice none 0 0] 30 (0, 0)) by rw [← hx66]; exact block_new _ _)
   have HBx66 := Lib.hid (HB0.out.trans (hbx66.mono HB0.out.size))
   clear hx66 hbx66
   refine hK.out _ _ ?_ (fun hHeld => ?_)
   · (try dsimp only); exact HS.out x66 HBx66.out
   clear hK K
   try simp only [Act.put, List.setIfInBounds_toArray, List.set_cons_zero, List.set_cons_succ]
   refine wpAnyH_ready (rs := [10, 18]) (by kernel_rfl) (by simp) ?_
   refine AllReadyH.cons (o := ?oo136) ?hi136 (fun K hK => ?hs136) ?hm136
   case hi136 => (simp only [List.getElem?_toArray, List.getElem?_cons_succ, List.getElem?_cons_zero]; rfl)
   ·
    go_simp
    obtain ⟨x67, hx67⟩ : ∃ W', x66.alloc (.cells #[.string P, .int .i64 (lo : Int), .int .i64 (hi : Int), .slice Am lm cm] 51) = W' := ⟨_, rfl⟩
    rw [hx67]
    have hbx67 : Below x66.heap.size x66 x67 := by rw [← hx67]; exact below_box _ _
    have HMG := Lib.hid HBx66.out.size
    have HGx67 := Lib.hid (show x67.heap[x66.heap.size]? = some (.cells #[.string P, .int .i64 (lo : Int), .int .i64 (hi : Int), .slice Am lm cm] 51 (0, 0)) by rw [← hx67]; exact block_new _ _)
    have HDx67 := Lib.hid (block_below HDx66.out hbx67 (lt_blk HDx66.out))
    have HBx67 := Lib.hid (HBx66.out.trans (hbx67.mono HBx66.out.size))
    clear hx67 hbx67
    refine hK.out _ _ ?_ (fun hHeld => ?_)
    · (try dsimp only); exact HS.out x67 HBx67.out
    clear hK K
    try simp only [Act.put, List.setIfInBounds_toArray, List.set_cons_zero, List.set_cons_succ]
    refine wpAnyH_ready (rs := [18]) (by kernel_rfl) (by simp) ?_
    refine AllReadyH.cons (o := ?oo137) ?hi137 (fun K hK => ?hs137) ?hm137
    case hi137 => (simp only [List.getElem?_toArray, List.getElem?_cons_succ, List.getElem?_cons_zero]; rfl)
    ·
     go_simp
     refine (HF1.out x67 HBx67.out).mono ?_
     rintro e x68 ⟨rfl, hbx68⟩
     have HGx68 := Lib.hid (block_below HGx67.out hbx68 (lt_blk HGx67.out))
     have HDx68 := Lib.hid (block_below HDx67.out hbx68 (lt_blk HDx67.out))
     have HBx68 := Lib.hid (HBx67.out.trans (hbx68.mono HBx67.out.size))
     clear hbx68
     (try go_wp2_with fail)
     refine hK.out _ _ ?_ (fun hHeld => ?_)
     · (try dsimp only); exact HS.out x68 HBx68.out
     clear hK K
     try simp only [Act.put, List.setIfInBounds_toArray, List.set_cons_zero, List.set_cons_succ]
     refine wpAnyH_ready (rs := [24]) (by kernel_rfl) (by simp) ?_
     refine AllReadyH.cons (o := ?oo138) ?hi138 (fun K hK => ?hs138) ?hm138
     case hi138 => (simp only [List.getElem?_toArray, List.getElem?_cons_succ, List.getElem?_cons_zero]; rfl)
     ·
      go_simp
      refine (HF2.out x68 HBx68.out).mono ?_
      rintro e x69 ⟨rfl, hbx69⟩
      have HGx69 := Lib.hid (block_below HGx68.out hbx69 (lt_blk HGx68.out))
      have HDx69 := Lib.hid (block_below HDx68.out hbx69 (lt_blk HDx68.out))
      have HBx69 := Lib.hid (HBx68.out.trans (hbx69.mono HBx68.out.size))
      clear hbx69
      (try go_wp2_with fail)
      refine hK.out _ _ ?_ (fun hHeld => ?_)
      · (try dsimp only); exact HS.out x69 HBx69.out
      clear hK K
      try simp only [Act.put, List.setIfInBounds_toArray, List.set_cons_zero, List.set_cons_succ]
      refine wpAnyH_take (i := 25) (oi := ?oi139) (v := ?v139) ?hi139 (by kernel_rfl) (by kernel_rfl) (by kernel_rfl) ?hq139 ?hy139 (by assumption) ?hr139
      case hi139 => (simp only [List.getElem?_toArray, List.getElem?_cons_succ, List.getElem?_cons_zero]; rfl)
      case hq139 => exact fun _ _ _ h => h
      case hy139 => exact .inl ⟨by rfl, by intro _ hSw'; (try dsimp only at hSw'); go_simp <;> with_reducible rfl⟩
      try simp only [Act.put, List.setIfInBounds_toArray, List.set_cons_zero, List.set_cons_succ]
      refine wpAnyH_ready (rs := [34]) (by kernel_rfl) (by simp) ?_
      refine AllReadyH.cons (o := ?oo140) ?hi140 (fun K hK => ?hs140) ?hm140
      case hi140 => (simp only [List.getElem?_toArray, List.getElem?_cons_succ, List.getElem?_cons_zero]; rfl)
      ·
       go_simp
       refine (HF3.out x69 HBx69.out).mono ?_
       rintro e x70 ⟨rfl, hbx70⟩
       have HGx70 := Lib.hid (block_below HGx69.out hbx70 (lt_blk HGx69.out))
       have HDx70 := Lib.hid (block_below HDx69.out hbx70 (lt_blk HDx69.out))
       have HBx70 := Lib.hid (HBx69.out.trans (hbx70.mono HBx69.out.size))
       clear hbx70
       (try go_wp2_with fail)
       refine hK.out _ _ ?_ (fun hHeld => ?_)
       · (try dsimp only); exact HS.out x70 HBx70.out
       clear hK K
       try simp only [Act.put, List.setIfInBounds_toArray, List.set_cons_zero, List.set_cons_succ]
       refine wpAnyH_take (i := 35) (oi := ?oi141) (v := ?v141) ?hi141 (by kernel_rfl) (by kernel_rfl) (by kernel_rfl) ?hq141 ?hy141 (by assumption) ?hr141
       case hi141 => (simp only [List.getElem?_toArray, List.getElem?_cons_succ, List.getElem?_cons_zero]; rfl)
       case hq141 => exact fun _ _ _ h => h
       case hy141 => exact .inl ⟨by rfl, by intro _ hSw'; (try dsimp only at hSw'); go_simp <;> with_reducible rfl⟩
       try simp only [Act.put, List.setIfInBounds_toArray, List.set_cons_zero, List.set_cons_succ]
       refine wpAnyH_take (i := 36) (oi := ?oi142) (v := ?v142) ?hi142 (by kernel_rfl) (by kernel_rfl) (by kernel_rfl) ?hq142 ?hy142 (by assumption) ?hr142
       case hi142 => (simp only [List.getElem?_toArray, List.getElem?_cons_succ, List.getElem?_cons_zero]; rfl)
       case hq142 => exact fun _ _ _ h => h
       case hy142 => exact .inl ⟨by rfl, by intro _ hSw'; (try dsimp only at hSw'); go_simp <;> with_reducible rfl⟩
       try simp only [Act.put, List.setIfInBounds_toArray, List.set_cons_zero, List.set_cons_succ]
       refine wpAnyH_ready (rs := [38]) (by kernel_rfl) (by simp) ?_
       refine AllReadyH.cons (o := ?oo143) ?hi143 (fun K hK => ?hs143) ?hm143
       case hi143 => (simp only [List.getElem?_toArray, List.getElem?_cons_succ, List.getElem?_cons_zero]; rfl)
       ·
        obtain ⟨⟨t0, t1, t2, t3, t4, t5, t6⟩, f0, f1, f2, f3, f4, f5, f6⟩ := seven_f HDx70.out
        go_simp
        obtain ⟨x71, hx71⟩ : ∃ W', (((((((x70.setCell ⟨X1.heap.size, 0, none⟩ (.slice A0 n0 k0)).setCell ⟨X1.heap.size, 1, none⟩ (.slice At (hi - lo) ct)).setCell ⟨X1.heap.size, 2, none⟩ (.slice (some ⟨x66.heap.size, 0, none⟩) 1 1)).setCell ⟨X1.heap.size, 3, none⟩ (.slice Ar (p2 - p1) cr)).setCell ⟨X1.heap.size, 4, none⟩ (.slice An (m2 - m1) cn)).setCell ⟨X1.heap.size, 5, none⟩ (.slice none 0 0)).setCell ⟨X1.heap.size, 6, none⟩ (.slice none 0 0)) = W' := ⟨_, rfl⟩
        rw [hx71]
        have hne := blk_ne HGx70.out HDx70.out (by decide)
        have HNE := Lib.hid hne
        obtain ⟨hD', hG', hB'⟩ := set_seven hx71 HDx70.out HGx70.out hne HMD.out HBx70.out
        have HDx71 := Lib.hid hD'
        have HGx71 := Lib.hid hG'
        have HBx71 := Lib.hid hB'
        clear hD' hG' hB'
        clear hx71 hne
        refine hK.out _ _ ?_ (fun hHeld => ?_)
        · (try dsimp only); exact HS.out x71 HBx71.out
        clear hK K
        try simp only [Act.put, List.setIfInBounds_toArray, List.set_cons_zero, List.set_cons_succ]
        refine wpAnyH_done (by kernel_rfl) ?_ _
        go_wp2_with fail
        go_meet
        exact ⟨X1.heap.size, x66.heap.size, rfl, HBx71.out, HMD.out, HMG.out, HNE.out, HDx71.out, HGx71.out⟩
       exact AllReadyH.nil
      exact AllReadyH.nil
     exact AllReadyH.nil
    exact AllReadyH.nil
   refine AllReadyH.cons (o := ?oo144) ?hi144 (fun K hK => ?hs144) ?hm144
   case hi144 => (simp only [List.getElem?_toArray, List.getElem?_cons_succ, List.getElem?_cons_zero]; rfl)
   ·
    go_simp
    refine (HF1.out x66 HBx66.out).mono ?_
    rintro e x72 ⟨rfl, hbx72⟩
    have HDx72 := Lib.hid (block_below HDx66.out hbx72 (lt_blk HDx66.out))
    have HBx72 := Lib.hid (HBx66.out.trans (hbx72.mono HBx66.out.size))
    clear hbx72
    (try go_wp2_with fail)
    refine hK.out _ _ ?_ (fun hHeld => ?_)
    · (try dsimp only); exact HS.out x72 HBx72.out
    clear hK K
    try simp only [Act.put, List.setIfInBounds_toArray, List.set_cons_zero, List.set_cons_succ]
    refine wpAnyH_ready (rs := [10, 24]) (by kernel_rfl) (by simp) ?_
    refine AllReadyH.cons (o := ?oo145) ?hi145 (fun K hK => ?hs145) ?hm145
    case hi145 => (simp only [List.getElem?_toArray, List.getElem?_cons_succ, List.getElem?_cons_zero]; rfl)
    ·
     go_simp
     obtain ⟨x73, hx73⟩ : ∃ W', x72.alloc (.cells #[.string P, .int .i64 (lo : Int), .int .i64 (hi : Int), .slice Am lm cm] 51) = W' := ⟨_, rfl⟩
     rw [hx73]
     have hbx73 : Below x72.heap.size x72 x73 := by rw [← hx73]; exact below_box _ _
     have HMG := Lib.hid HBx72.out.size
     have HGx73 := Lib.hid (show x73.heap[x72.heap.size]? = some (.cells #[.string P, .int .i64 (lo : Int), .int .i64 (hi : Int), .slice Am lm cm] 51 (0, 0)) by rw [← hx73]; exact block_new _ _)
     have HDx73 := Lib.hid (block_below HDx72.out hbx73 (lt_blk HDx72.out))
     have HBx73 := Lib.hid (HBx72.out.trans (hbx73.mono HBx72.out.size))
     clear hx73 hbx73
     refine hK.out _ _ ?_ (fun hHeld => ?_)
     · (try dsimp only); exact HS.out x73 HBx73.out
     clear hK K
     try simp only [Act.put, List.setIfInBounds_toArray, List.set_cons_zero, List.set_cons_succ]
     refine wpAnyH_ready (rs := [24]) (by kernel_rfl) (by simp) ?_
     refine AllReadyH.cons (o := ?oo146) ?hi146 (fun K hK => ?hs146) ?hm146
     case hi146 => (simp only [List.getElem?_toArray, List.getElem?_cons_succ, List.getElem?_cons_zero]; rfl)
     ·
      go_simp
      refine (HF2.out x73 HBx73.out).mono ?_
      rintro e x74 ⟨rfl, hbx74⟩
      have HGx74 := Lib.hid (block_below HGx73.out hbx74 (lt_blk HGx73.out))
      have HDx74 := Lib.hid (block_below HDx73.out hbx74 (lt_blk HDx73.out))
      have HBx74 := Lib.hid (HBx73.out.trans (hbx74.mono HBx73.out.size))
      clear hbx74
      (try go_wp2_with fail)
      refine hK.out _ _ ?_ (fun hHeld => ?_)
      · (try dsimp only); exact HS.out x74 HBx74.out
      clear hK K
      try simp only [Act.put, List.setIfInBounds_toArray, List.set_cons_zero, List.set_cons_succ]
      refine wpAnyH_take (i := 25) (oi := ?oi147) (v := ?v147) ?hi147 (by kernel_rfl) (by kernel_rfl) (by kernel_rfl) ?hq147 ?hy147 (by assumption) ?hr147
      case hi147 => (simp only [List.getElem?_toArray, List.getElem?_cons_succ, List.getElem?_cons_zero]; rfl)
      case hq147 => exact fun _ _ _ h => h
      case hy147 => exact .inl ⟨by rfl, by intro _ hSw'; (try dsimp only at hSw'); go_simp <;> with_reducible rfl⟩
      try simp only [Act.put, List.setIfInBounds_toArray, List.set_cons_zero, List.set_cons_succ]
      refine wpAnyH_ready (rs := [34]) (by kernel_rfl) (by simp) ?_
      refine AllReadyH.cons (o := ?oo148) ?hi148 (fun K hK => ?hs148) ?hm148
      case hi148 => (simp only [List.getElem?_toArray, List.getElem?_cons_succ, List.getElem?_cons_zero]; rfl)
      ·
       go_simp
       refine (HF3.out x74 HBx74.out).mono ?_
       rintro e x75 ⟨rfl, hbx75⟩
       have HGx75 := Lib.hid (block_below HGx74.out hbx75 (lt_blk HGx74.out))
       have HDx75 := Lib.hid (block_below HDx74.out hbx75 (lt_blk HDx74.out))
       have HBx75 := Lib.hid (HBx74.out.trans (hbx75.mono HBx74.out.size))
       clear hbx75
       (try go_wp2_with fail)
       refine hK.out _ _ ?_ (fun hHeld => ?_)
       · (try dsimp only); exact HS.out x75 HBx75.out
       clear hK K
       try simp only [Act.put, List.setIfInBounds_toArray, List.set_cons_zero, List.set_cons_succ]
       refine wpAnyH_take (i := 35) (oi := ?oi149) (v := ?v149) ?hi149 (by kernel_rfl) (by kernel_rfl) (by kernel_rfl) ?hq149 ?hy149 (by assumption) ?hr149
       case hi149 => (simp only [List.getElem?_toArray, List.getElem?_cons_succ, List.getElem?_cons_zero]; rfl)
       case hq149 => exact fun _ _ _ h => h
       case hy149 => exact .inl ⟨by rfl, by intro _ hSw'; (try dsimp only at hSw'); go_simp <;> with_reducible rfl⟩
       try simp only [Act.put, List.setIfInBounds_toArray, List.set_cons_zero, List.set_cons_succ]
       refine wpAnyH_take (i := 36) (oi := ?oi150) (v := ?v150) ?hi150 (by kernel_rfl) (by kernel_rfl) (by kernel_rfl) ?hq150 ?hy150 (by assumption) ?hr150
       case hi150 => (simp only [List.getElem?_toArray, List.getElem?_cons_succ, List.getElem?_cons_zero]; rfl)
       case hq150 => exact fun _ _ _ h => h
       case hy150 => exact .inl ⟨by rfl, by intro _ hSw'; (try dsimp only at hSw'); go_simp <;> with_reducible rfl⟩
       try simp only [Act.put, List.setIfInBounds_toArray, List.set_cons_zero, List.set_cons_succ]
       refine wpAnyH_ready (rs := [38]) (by kernel_rfl) (by simp) ?_
       refine AllReadyH.cons (o := ?oo151) ?hi151 (fun K hK => ?hs151) ?hm151
       case hi151 => (simp only [List.getElem?_toArray, List.getElem?_cons_succ, List.getElem?_cons_zero]; rfl)
       ·
        obtain ⟨⟨t0, t1, t2, t3, t4, t5, t6⟩, f0, f1, f2, f3, f4, f5, f6⟩ := seven_f HDx75.out
        go_simp
        obtain ⟨x76, hx76⟩ : ∃ W', (((((((x75.setCell ⟨X1.heap.size, 0, none⟩ (.slice A0 n0 k0)).setCell ⟨X1.heap.size, 1, none⟩ (.slice At (hi - lo) ct)).setCell ⟨X1.heap.size, 2, none⟩ (.slice (some ⟨x72.heap.size, 0, none⟩) 1 1)).setCell ⟨X1.heap.size, 3, none⟩ (.slice Ar (p2 - p1) cr)).setCell ⟨X1.heap.size, 4, none⟩ (.slice An (m2 - m1) cn)).setCell ⟨X1.heap.size, 5, none⟩ (.slice none 0 0)).setCell ⟨X1.heap.size, 6, none⟩ (.slice none 0 0)) = W' := ⟨_, rfl⟩
        rw [hx76]
        have hne := blk_ne HGx75.out HDx75.out (by decide)
        have HNE := Lib.hid hne
        obtain ⟨hD', hG', hB'⟩ := set_seven hx76 HDx75.out HGx75.out hne HMD.out HBx75.out
        have HDx76 := Lib.hid hD'
        have HGx76 := Lib.hid hG'
        have HBx76 := Lib.hid hB'
        clear hD' hG' hB'
        clear hx76 hne
        refine hK.out _ _ ?_ (fun hHeld => ?_)
        · (try dsimp only); exact HS.out x76 HBx76.out
        clear hK K
        try simp only [Act.put, List.setIfInBounds_toArray, List.set_cons_zero, List.set_cons_succ]
        refine wpAnyH_done (by kernel_rfl) ?_ _
        go_wp2_with fail
        go_meet
        exact ⟨X1.heap.size, x72.heap.size, rfl, HBx76.out, HMD.out, HMG.out, HNE.out, HDx76.out, HGx76.out⟩
       exact AllReadyH.nil
      exact AllReadyH.nil
     exact AllReadyH.nil
    refine AllReadyH.cons (o := ?oo152) ?hi152 (fun K hK => ?hs152) ?hm152
    case hi152 => (simp only [List.getElem?_toArray, List.getElem?_cons_succ, List.getElem?_cons_zero]; rfl)
    ·
     go_simp
     refine (HF2.out x72 HBx72.out).mono ?_
     rintro e x77 ⟨rfl, hbx77⟩
     have HDx77 := Lib.hid (block_below HDx72.out hbx77 (lt_blk HDx72.out))
     have HBx77 := Lib.hid (HBx72.out.trans (hbx77.mono HBx72.out.size))
     clear hbx77
     (try go_wp2_with fail)
     refine hK.out _ _ ?_ (fun hHeld => ?_)
     · (try dsimp only); exact HS.out x77 HBx77.out
     clear hK K
     try simp only [Act.put, List.setIfInBounds_toArray, List.set_cons_zero, List.set_cons_succ]
     refine wpAnyH_take (i := 25) (oi := ?oi153) (v := ?v153) ?hi153 (by kernel_rfl) (by kernel_rfl) (by kernel_rfl) ?hq153 ?hy153 (by assumption) ?hr153
     case hi153 => (simp only [List.getElem?_toArray, List.getElem?_cons_succ, List.getElem?_cons_zero]; rfl)
     case hq153 => exact fun _ _ _ h => h
     case hy153 => exact .inl ⟨by rfl, by intro _ hSw'; (try dsimp only at hSw'); go_simp <;> with_reducible rfl⟩
     try simp only [Act.put, List.setIfInBounds_toArray, List.set_cons_zero, List.set_cons_succ]
     refine wpAnyH_ready (rs := [10, 34]) (by kernel_rfl) (by simp) ?_
     refine AllReadyH.cons (o := ?oo154) ?hi154 (fun K hK => ?hs154) ?hm154
     case hi154 => (simp only [List.getElem?_toArray, List.getElem?_cons_succ, List.getElem?_cons_zero]; rfl)
     ·
      go_simp
      obtain ⟨x78, hx78⟩ : ∃ W', x77.alloc (.cells #[.string P, .int .i64 (lo : Int), .int .i64 (hi : Int), .slice Am lm cm] 51) = W' := ⟨_, rfl⟩
      rw [hx78]
      have hbx78 : Below x77.heap.size x77 x78 := by rw [← hx78]; exact below_box _ _
      have HMG := Lib.hid HBx77.out.size
      have HGx78 := Lib.hid (show x78.heap[x77.heap.size]? = some (.cells #[.string P, .int .i64 (lo : Int), .int .i64 (hi : Int), .slice Am lm cm] 51 (0, 0)) by rw [← hx78]; exact block_new _ _)
      have HDx78 := Lib.hid (block_below HDx77.out hbx78 (lt_blk HDx77.out))
      have HBx78 := Lib.hid (HBx77.out.trans (hbx78.mono HBx77.out.size))
      clear hx78 hbx78
      refine hK.out _ _ ?_ (fun hHeld => ?_)
      · (try dsimp only); exact HS.out x78 HBx78.out
      clear hK K
      try simp only [Act.put, List.setIfInBounds_toArray, List.set_cons_zero, List.set_cons_succ]
      refine wpAnyH_ready (rs := [34]) (by kernel_rfl) (by simp) ?_
      refine AllReadyH.cons (o := ?oo155) ?hi155 (fun K hK => ?hs155) ?hm155
      case hi155 => (simp only [List.getElem?_toArray, List.getElem?_cons_succ, List.getElem?_cons_zero]; rfl)
      ·
       go_simp
       refine (HF3.out x78 HBx78.out).mono ?_
       rintro e x79 ⟨rfl, hbx79⟩
       have HGx79 := Lib.hid (block_below HGx78.out hbx79 (lt_blk HGx78.out))
       have HDx79 := Lib.hid (block_below HDx78.out hbx79 (lt_blk HDx78.out))
       have HBx79 := Lib.hid (HBx78.out.trans (hbx79.mono HBx78.out.size))
       clear hbx79
       (try go_wp2_with fail)
       refine hK.out _ _ ?_ (fun hHeld => ?_)
       · (try dsimp only); exact HS.out x79 HBx79.out
       clear hK K
       try simp only [Act.put, List.setIfInBounds_toArray, List.set_cons_zero, List.set_cons_succ]
       refine wpAnyH_take (i := 35) (oi := ?oi156) (v := ?v156) ?hi156 (by kernel_rfl) (by kernel_rfl) (by kernel_rfl) ?hq156 ?hy156 (by assumption) ?hr156
       case hi156 => (simp only [List.getElem?_toArray, List.getElem?_cons_succ, List.getElem?_cons_zero]; rfl)
       case hq156 => exact fun _ _ _ h => h
       case hy156 => exact .inl ⟨by rfl, by intro _ hSw'; (try dsimp only at hSw'); go_simp <;> with_reducible rfl⟩
       try simp only [Act.put, List.setIfInBounds_toArray, List.set_cons_zero, List.set_cons_succ]
       refine wpAnyH_take (i := 36) (oi := ?oi157) (v := ?v157) ?hi157 (by kernel_rfl) (by kernel_rfl) (by kernel_rfl) ?hq157 ?hy157 (by assumption) ?hr157
       case hi157 => (simp only [List.getElem?_toArray, List.getElem?_cons_succ, List.getElem?_cons_zero]; rfl)
       case hq157 => exact fun _ _ _ h => h
       case hy157 => exact .inl ⟨by rfl, by intro _ hSw'; (try dsimp only at hSw'); go_simp <;> with_reducible rfl⟩
       try simp only [Act.put, List.setIfInBounds_toArray, List.set_cons_zero, List.set_cons_succ]
       refine wpAnyH_ready (rs := [38]) (by kernel_rfl) (by simp) ?_
       refine AllReadyH.cons (o := ?oo158) ?hi158 (fun K hK => ?hs158) ?hm158
       case hi158 => (simp only [List.getElem?_toArray, List.getElem?_cons_succ, List.getElem?_cons_zero]; rfl)
       ·
        obtain ⟨⟨t0, t1, t2, t3, t4, t5, t6⟩, f0, f1, f2, f3, f4, f5, f6⟩ := seven_f HDx79.out
        go_simp
        obtain ⟨x80, hx80⟩ : ∃ W', (((((((x79.setCell ⟨X1.heap.size, 0, none⟩ (.slice A0 n0 k0)).setCell ⟨X1.heap.size, 1, none⟩ (.slice At (hi - lo) ct)).setCell ⟨X1.heap.size, 2, none⟩ (.slice (some ⟨x77.heap.size, 0, none⟩) 1 1)).setCell ⟨X1.heap.size, 3, none⟩ (.slice Ar (p2 - p1) cr)).setCell ⟨X1.heap.size, 4, none⟩ (.slice An (m2 - m1) cn)).setCell ⟨X1.heap.size, 5, none⟩ (.slice none 0 0)).setCell ⟨X1.heap.size, 6, none⟩ (.slice none 0 0)) = W' := ⟨_, rfl⟩
        rw [hx80]
        have hne := blk_ne HGx79.out HDx79.out (by decide)
        have HNE := Lib.hid hne
        obtain ⟨hD', hG', hB'⟩ := set_seven hx80 HDx79.out HGx79.out hne HMD.out HBx79.out
        have HDx80 := Lib.hid hD'
        have HGx80 := Lib.hid hG'
        have HBx80 := Lib.hid hB'
        clear hD' hG' hB'
        clear hx80 hne
        refine hK.out _ _ ?_ (fun hHeld => ?_)
        · (try dsimp only); exact HS.out x80 HBx80.out
        clear hK K
        try simp only [Act.put, List.setIfInBounds_toArray, List.set_cons_zero, List.set_cons_succ]
        refine wpAnyH_done (by kernel_rfl) ?_ _
        go_wp2_with fail
        go_meet
        exact ⟨X1.heap.size, x77.heap.size, rfl, HBx80.out, HMD.out, HMG.out, HNE.out, HDx80.out, HGx80.out⟩
       exact AllReadyH.nil
      exact AllReadyH.nil
     refine AllReadyH.cons (o := ?oo159) ?hi159 (fun K hK => ?hs159) ?hm159
     case hi159 => (simp only [List.getElem?_toArray, List.getElem?_cons_succ, List.getElem?_cons_zero]; rfl)
     ·
      go_simp
      refine (HF3.out x77 HBx77.out).mono ?_
      rintro e x81 ⟨rfl, hbx81⟩
      have HDx81 := Lib.hid (block_below HDx77.out hbx81 (lt_blk HDx77.out))
      have HBx81 := Lib.hid (HBx77.out.trans (hbx81.mono HBx77.out.size))
      clear hbx81
      (try go_wp2_with fail)
      refine hK.out _ _ ?_ (fun hHeld => ?_)
      · (try dsimp only); exact HS.out x81 HBx81.out
      clear hK K
      try simp only [Act.put, List.setIfInBounds_toArray, List.set_cons_zero, List.set_cons_succ]
      refine wpAnyH_take (i := 35) (oi := ?oi160) (v := ?v160) ?hi160 (by kernel_rfl) (by kernel_rfl) (by kernel_rfl) ?hq160 ?hy160 (by assumption) ?hr160
      case hi160 => (simp only [List.getElem?_toArray, List.getElem?_cons_succ, List.getElem?_cons_zero]; rfl)
      case hq160 => exact fun _ _ _ h => h
      case hy160 => exact .inl ⟨by rfl, by intro _ hSw'; (try dsimp only at hSw'); go_simp <;> with_reducible rfl⟩
      try simp only [Act.put, List.setIfInBounds_toArray, List.set_cons_zero, List.set_cons_succ]
      refine wpAnyH_ready (rs := [10]) (by kernel_rfl) (by simp) ?_
      refine AllReadyH.cons (o := ?oo161) ?hi161 (fun K hK => ?hs161) ?hm161
      case hi161 => (simp only [List.getElem?_toArray, List.getElem?_cons_succ, List.getElem?_cons_zero]; rfl)
      ·
       go_simp
       obtain ⟨x82, hx82⟩ : ∃ W', x81.alloc (.cells #[.string P, .int .i64 (lo : Int), .int .i64 (hi : Int), .slice Am lm cm] 51) = W' := ⟨_, rfl⟩
       rw [hx82]
       have hbx82 : Below x81.heap.size x81 x82 := by rw [← hx82]; exact below_box _ _
       have HMG := Lib.hid HBx81.out.size
       have HGx82 := Lib.hid (show x82.heap[x81.heap.size]? = some (.cells #[.string P, .int .i64 (lo : Int), .int .i64 (hi : Int), .slice Am lm cm] 51 (0, 0)) by rw [← hx82]; exact block_new _ _)
       have HDx82 := Lib.hid (block_below HDx81.out hbx82 (lt_blk HDx81.out))
       have HBx82 := Lib.hid (HBx81.out.trans (hbx82.mono HBx81.out.size))
       clear hx82 hbx82
       refine hK.out _ _ ?_ (fun hHeld => ?_)
       · (try dsimp only); exact HS.out x82 HBx82.out
       clear hK K
       try simp only [Act.put, List.setIfInBounds_toArray, List.set_cons_zero, List.set_cons_succ]
       refine wpAnyH_take (i := 36) (oi := ?oi162) (v := ?v162) ?hi162 (by kernel_rfl) (by kernel_rfl) (by kernel_rfl) ?hq162 ?hy162 (by assumption) ?hr162
       case hi162 => (simp only [List.getElem?_toArray, List.getElem?_cons_succ, List.getElem?_cons_zero]; rfl)
       case hq162 => exact fun _ _ _ h => h
       case hy162 => exact .inl ⟨by rfl, by intro _ hSw'; (try dsimp only at hSw'); go_simp <;> with_reducible rfl⟩
       try simp only [Act.put, List.setIfInBounds_toArray, List.set_cons_zero, List.set_cons_succ]
       refine wpAnyH_ready (rs := [38]) (by kernel_rfl) (by simp) ?_
       refine AllReadyH.cons (o := ?oo163) ?hi163 (fun K hK => ?hs163) ?hm163
       case hi163 => (simp only [List.getElem?_toArray, List.getElem?_cons_succ, List.getElem?_cons_zero]; rfl)
       ·
        obtain ⟨⟨t0, t1, t2, t3, t4, t5, t6⟩, f0, f1, f2, f3, f4, f5, f6⟩ := seven_f HDx82.out
        go_simp
        obtain ⟨x83, hx83⟩ : ∃ W', (((((((x82.setCell ⟨X1.heap.size, 0, none⟩ (.slice A0 n0 k0)).setCell ⟨X1.heap.size, 1, none⟩ (.slice At (hi - lo) ct)).setCell ⟨X1.heap.size, 2, none⟩ (.slice (some ⟨x81.heap.size, 0, none⟩) 1 1)).setCell ⟨X1.heap.size, 3, none⟩ (.slice Ar (p2 - p1) cr)).setCell ⟨X1.heap.size, 4, none⟩ (.slice An (m2 - m1) cn)).setCell ⟨X1.heap.size, 5, none⟩ (.slice none 0 0)).setCell ⟨X1.heap.size, 6, none⟩ (.slice none 0 0)) = W' := ⟨_, rfl⟩
        rw [hx83]
        have hne := blk_ne HGx82.out HDx82.out (by decide)
        have HNE := Lib.hid hne
        obtain ⟨hD', hG', hB'⟩ := set_seven hx83 HDx82.out HGx82.out hne HMD.out HBx82.out
        have HDx83 := Lib.hid hD'
        have HGx83 := Lib.hid hG'
        have HBx83 := Lib.hid hB'
        clear hD' hG' hB'
        clear hx83 hne
        refine hK.out _ _ ?_ (fun hHeld => ?_)
        · (try dsimp only); exact HS.out x83 HBx83.out
        clear hK K
        try simp only [Act.put, List.setIfInBounds_toArray, List.set_cons_zero, List.set_cons_succ]
        refine wpAnyH_done (by kernel_rfl) ?_ _
        go_wp2_with fail
        go_meet
        exact ⟨X1.heap.size, x81.heap.size, rfl, HBx83.out, HMD.out, HMG.out, HNE.out, HDx83.out, HGx83.out⟩
       exact AllReadyH.nil
      exact AllReadyH.nil
     exact AllReadyH.nil
    exact AllReadyH.nil
   exact AllReadyH.nil
  exact AllReadyH.nil
 obtain ⟨D, G, rfl, hb, hMD, hMG, hne, hD, hG⟩ := hcut
 have hbc : Below X0.heap.size X0 wc := HB0X.out.trans (hb.mono HB0X.out.size)
 obtain ⟨z1, z2, z3⟩ := HS0.out wc hbc
 have hxd : X0.heap.size ≤ D := Nat.le_trans HB0X.out.size hMD
 have c5 : wc.cell? ⟨N0, 5, none⟩ = some (.slice A5 n5 k5) := cell_of z1 rfl
 have c6 : wc.cell? ⟨N0, 6, none⟩ = some (.slice A6 n5 k6) := cell_of z1 rfl
 have t1 : wc.cell? ⟨N0 + 1 + 1, 1, none⟩ = some (.int .i64 (lo : Int)) := cell_of z2 rfl
 have t2 : wc.cell? ⟨N0 + 1 + 1, 2, none⟩ = some (.int .i64 (hi : Int)) := cell_of z2 rfl
 obtain ⟨⟨d0, d1, d2, d3, d4, d5, d6⟩, fd0, fd1, fd2, fd3, fd4, fd5, fd6⟩ := seven_f hD
 have hcw := HCW.out wc hbc
 have hlen5 := hcw.h.len
 have hlen6 := hcw.l.len
 -- what the new corpus reads as
 have hcd : ∀ W, Below X0.heap.size X0 W → W.heap[G]? = some (.cells #[.string P, .int .i64 (lo : Int), .int .i64 (hi : Int), .slice Am lm cm] 51 (0, 0)) → ∀ v5 v6, (Rows 1 EInt W v5 (bareC (docD c t lo hi)).heads ∧ Rows 1 EStr W v6 (bareC (docD c t lo hi)).rels) →
  CorAt W ⟨.slice A0 n0 k0, .slice At (hi - lo) ct, .slice (some ⟨G, 0, none⟩) 1 1, .slice Ar (p2 - p1) cr, .slice An (m2 - m1) cn, v5, v6⟩ (bareC (docD c t lo hi)) := fun W hW hGW v5 v6 h56 => by
  have hc := HCW.out W hW
  obtain ⟨eb, ee, eP, el⟩ := HH.out
  obtain ⟨ep1, ep2, em1, em2⟩ := HP.out
  have hmvW := HMV.out.below stays_pair (HBX.out.trans (hW.mono HBX.out.size))
  have hx : Rows 4 EEx W (.slice (some ⟨G, 0, none⟩) 1 1) [t] := by
   refine ⟨_, 1, rfl, Nat.le_refl _, fun _ => ⟨G, 0, rfl, lt_blk hGW, fun j x hx => ?_⟩⟩
   match j, hx with
   | 0, hx =>
     cases hx
     refine ⟨[.string P, .int .i64 (lo : Int), .int .i64 (hi : Int), .slice Am lm cm], rfl, ⟨_, by rw [eb, ee, eP], by rw [← el]; exact hmvW⟩, fun q u hq => ?_⟩
     rw [show 0 + 0 * 4 + q = q by omega]
     exact cell_of hGW (by simpa using hq)
  have ea : (bareC (docD c t lo hi)).attrs = c.attrs ∧ (bareC (docD c t lo hi)).toks = cutL lo hi c.toks ∧ (bareC (docD c t lo hi)).texts = [t] ∧ (bareC (docD c t lo hi)).regs = cutL p1 p2 c.regs ∧ (bareC (docD c t lo hi)).nodes = cutL m1 m2 c.nodes := by
   unfold bareC docD
   rw [ep1, ep2, em1, em2]
   split <;> exact ⟨rfl, rfl, rfl, rfl, rfl⟩
  obtain ⟨ea1, ea2, ea3, ea4, ea5⟩ := ea
  exact ⟨by rw [ea1]; exact hc.a, by rw [ea2]; exact HT2.out _ W hc.t, by rw [ea3]; exact hx, by rw [ea4]; exact HR2.out _ W hc.r, by rw [ea5]; exact HN2.out _ W hc.n, h56.1, h56.2⟩
 have hml : Mid (-(lo : Int)) ∧ Mid (-(m1 : Int)) := by
  have := HM.out.t.1
  have := HM.out.n.1
  have := HE.out
  have := HHT.out
  have := HLO.out
  have := HMM.out
  exact ⟨⟨by omega, by omega⟩, ⟨by omega, by omega⟩⟩
 have hdoc : docC c t lo hi = mvC (-(lo : Int)) (-(m1 : Int)) (bareC (docD c t lo hi)) := by
  obtain ⟨ep1, ep2, em1, em2⟩ := HP.out
  unfold docC
  rw [em1]
 have hb3 : (lo : Int) ≤ 100000 ∧ (m1 : Int) ≤ 100000 := by
  have := HM.out.t.1
  have := HM.out.n.1
  have := HE.out
  have := HHT.out
  have := HLO.out
  have := HMM.out
  omega
 have hmd : MidC (bareC (docD c t lo hi)) := docD_mid HM.out (List.mem_of_getElem? HI0.out) lo hi
 obtain ⟨hb31, hb32⟩ := hb3
 have hNe : ¬ N0 = D ∧ ¬ D = N0 ∧ ¬ N0 + 1 + 1 = D ∧ ¬ D = N0 + 1 + 1 := by
  have := HXS.out
  omega
 obtain ⟨hNe1, hNe2, hNe3, hNe4⟩ := hNe
 have HXD := Lib.hid hxd
 have HNE := Lib.hid hne
 have HCD := Lib.hid hcd
 have HML := Lib.hid hml
 have HDOC := Lib.hid hdoc
 have HMD := Lib.hid hmd
 have HBC := Lib.hid hbc
 have HDC := Lib.hid hD
 have HGC := Lib.hid hG
 have HL5 := Lib.hid (And.intro hlen5 hlen6)
 clear hxd hne hcd hml hdoc hmd hbc hD hG hlen5 hlen6 hcw z1 z2 z3 hb hMD hMG ht1 hr1 hn1
 by_cases h5 : 0 < n5
 ·
  obtain ⟨Ah, ch, hh1, hh2⟩ := slice_rows (sz := 1) (sl := 27) (by kernel_rfl) (fun W => by kernel_rfl) A5 n5 k5 HL5.out.1.1.symm HL5.out.1.2 lo hi HLO.out (HSL5.out.2 h5)
  obtain ⟨Al, cl, hl1, hl2⟩ := slice_rows (sz := 1) (sl := 28) (by kernel_rfl) (fun W => by kernel_rfl) A6 n5 k6 HL5.out.2.1.symm HL5.out.2.2 lo hi HLO.out (HSL5.out.2 h5)
  have hhr0 : ∀ W, Below X0.heap.size X0 W → Rows 1 EInt W (.slice Ah (hi - lo) ch) (cutL lo hi c.heads) ∧ Rows 1 EStr W (.slice Al (hi - lo) cl) (cutL lo hi c.rels) := fun W h => ⟨hh2 _ W (HCW.out W h).h, hl2 _ W (HCW.out W h).l⟩
  have HHR0 := Lib.hid hhr0
  have h5i : (0 : Int) < (n5 : Int) := by omega
  clear hh2 hl2 hhr0
  go_wp2_with fail
  go_region_held3 (fun w' => w'.cell? ⟨N0, 5, none⟩ = some (.slice A5 n5 k5) ∧ w'.cell? ⟨N0, 6, none⟩ = some (.slice A6 n5 k6) ∧ w'.cell? ⟨N0 + 1 + 1, 1, none⟩ = some (.int .i64 (lo : Int)) ∧ w'.cell? ⟨N0 + 1 + 1, 2, none⟩ = some (.int .i64 (hi : Int)))
   (first
    | go_keep
    | fail)
   (fail)
  go_wp2_with fail
  obtain ⟨w8, hw8⟩ : ∃ w8, ((wc.setCell ⟨D, 5, none⟩ (.slice Ah (hi - lo) ch)).setCell ⟨D, 6, none⟩ (.slice Al (hi - lo) cl)).drew = w8 := ⟨_, rfl⟩
  have hD8 : w8.heap[D]? = some (.cells #[.slice A0 n0 k0, .slice At (hi - lo) ct, .slice (some ⟨G, 0, none⟩) 1 1, .slice Ar (p2 - p1) cr, .slice An (m2 - m1) cn, .slice Ah (hi - lo) ch, .slice Al (hi - lo) cl] 30 (0, 0)) := by rw [← hw8]; exact set_of (set_of HDC.out _) _
  have hG8 : w8.heap[G]? = some (.cells #[.string P, .int .i64 (lo : Int), .int .i64 (hi : Int), .slice Am lm cm] 51 (0, 0)) := by
   rw [← hw8]
   show ((wc.setCell ⟨D, 5, none⟩ (.slice Ah (hi - lo) ch)).setCell ⟨D, 6, none⟩ (.slice Al (hi - lo) cl)).heap[G]? = _
   rw [Below.heap_setCell _ _ _ G HNE.out, Below.heap_setCell _ _ _ G HNE.out]
   exact HGC.out
  have hb8 : Below X0.heap.size X0 w8 := by rw [← hw8]; exact ((HBC.out.setCell HXD.out _).setCell HXD.out _).drew
  rw [hw8]
  have hr8 := HHR0.out w8 hb8
  have hhl := headless_any (w := w8) ⟨.slice A0 n0 k0, .slice At (hi - lo) ct, .slice (some ⟨G, 0, none⟩) 1 1, .slice Ar (p2 - p1) cr, .slice An (m2 - m1) cn, .slice Ah (hi - lo) ch, .slice Al (hi - lo) cl⟩ hr8.1 hr8.2 (Nat.le_trans (cutL_le _ _ _) (by have := HM.out.h.1; unfold maxLen; omega)) (Nat.le_trans (cutL_le _ _ _) (by have := HM.out.l; unfold maxLen; omega))
  obtain ⟨q, hq⟩ : ∃ q, bare (cutL lo hi c.heads) (cutL lo hi c.rels) = q := ⟨_, rfl⟩
  rw [hq] at hhl
  have HHL := Lib.hid hhl
  have HQ := Lib.hid (show bare (docD c t lo hi).heads (docD c t lo hi).rels = q from hq)
  have HD8 := Lib.hid hD8
  have HG8 := Lib.hid hG8
  have HB8 := Lib.hid hb8
  clear hw8 hD8 hG8 hb8 hr8 hhl hq hh1 hl1 d0 d1 d2 d3 d4 d5 d6 fd0 fd1 fd2 fd3 fd4 fd5 fd6 c5 c6 t1 t2 h5i
  refine HHL.out.mono ?_
  rintro e w9 ⟨rfl, hb9⟩
  have HDW := Lib.hid (block_below HD8.out hb9 (lt_blk HD8.out))
  have HGW := Lib.hid (block_below HG8.out hb9 (lt_blk HG8.out))
  have HBW := Lib.hid (HB8.out.trans (hb9.mono HB8.out.size))
  clear hb9
  have t1 : w9.cell? ⟨N0 + 1 + 1, 1, none⟩ = some (.int .i64 (lo : Int)) := cell_of (HS0.out w9 HBW.out).2.1 rfl
  obtain ⟨⟨d0, d1, d2, d3, d4, d5, d6⟩, fd0, fd1, fd2, fd3, fd4, fd5, fd6⟩ := seven_f HDW.out
  cases q with
  | true =>
    have hbr : (bareC (docD c t lo hi)).heads = [] ∧ (bareC (docD c t lo hi)).rels = [] := by
     unfold bareC
     rw [if_pos HQ.out]
     exact ⟨rfl, rfl⟩
    have HBR := Lib.hid hbr
    clear hbr
    have hz10 := set_of (set_of HDW.out (.slice none 0 0) (i := 5)) (.slice none 0 0) (i := 6)
    have hg10 : ((w9.setCell ⟨D, 5, none⟩ (.slice none 0 0)).setCell ⟨D, 6, none⟩ (.slice none 0 0)).heap[G]? = some (.cells #[.string P, .int .i64 (lo : Int), .int .i64 (hi : Int), .slice Am lm cm] 51 (0, 0)) := by rw [Below.heap_setCell _ _ _ G HNE.out, Below.heap_setCell _ _ _ G HNE.out]; exact HGW.out
    have hb10 : Below X0.heap.size X0 ((w9.setCell ⟨D, 5, none⟩ (.slice none 0 0)).setCell ⟨D, 6, none⟩ (.slice none 0 0)) := (HBW.out.setCell HXD.out _).setCell HXD.out _
    go_wp2_with fail
    obtain ⟨w10, hw10⟩ : ∃ w10, (w9.setCell ⟨D, 5, none⟩ (.slice none 0 0)).setCell ⟨D, 6, none⟩ (.slice none 0 0) = w10 := ⟨_, rfl⟩
    rw [hw10] at hz10 hg10 hb10 ⊢
    clear hw10
    have hC10 : CorAt w10 ⟨.slice A0 n0 k0, .slice At (hi - lo) ct, .slice (some ⟨G, 0, none⟩) 1 1, .slice Ar (p2 - p1) cr, .slice An (m2 - m1) cn, .slice none 0 0, .slice none 0 0⟩ (bareC (docD c t lo hi)) := HCD.out w10 hb10 hg10 _ _ (by obtain ⟨g1, g2⟩ := HBR.out; rw [g1, g2]; exact ⟨Rows.nil _, Rows.nil _⟩)
    obtain ⟨y1, y2, y3⟩ := HS0.out w10 hb10
    refine (moved_any _ (-(lo : Int)) (-(m1 : Int)) hC10 HMD.out HML.out.1 HML.out.2).mono ?_
    rintro e w11 ⟨s3, he, hF, hfull, hb11⟩
    obtain ⟨B0, j0, f0, -⟩ := hF.at'.a.form
    obtain ⟨B1, j1, f1, -⟩ := hF.at'.t.form
    obtain ⟨B2, j2, f2, -⟩ := hF.at'.x.form
    obtain ⟨B3, j3, f3, -⟩ := hF.at'.r.form
    obtain ⟨B4, j4, f4, -⟩ := hF.at'.n.form
    obtain ⟨B5, j5, f5, -⟩ := hF.at'.h.form
    obtain ⟨B6, j6, f6, -⟩ := hF.at'.l.form
    obtain ⟨v0, v1, v2, v3, v4, v5, v6⟩ := s3
    simp only at f0 f1 f2 f3 f4 f5 f6
    obtain ⟨l0, el0⟩ : ∃ l, (mvC (-(lo : Int)) (-(m1 : Int)) (bareC (docD c t lo hi))).attrs.length = l := ⟨_, rfl⟩
    obtain ⟨l1, el1⟩ : ∃ l, (mvC (-(lo : Int)) (-(m1 : Int)) (bareC (docD c t lo hi))).toks.length = l := ⟨_, rfl⟩
    obtain ⟨l2, el2⟩ : ∃ l, (mvC (-(lo : Int)) (-(m1 : Int)) (bareC (docD c t lo hi))).texts.length = l := ⟨_, rfl⟩
    obtain ⟨l3, el3⟩ : ∃ l, (mvC (-(lo : Int)) (-(m1 : Int)) (bareC (docD c t lo hi))).regs.length = l := ⟨_, rfl⟩
    obtain ⟨l4, el4⟩ : ∃ l, (mvC (-(lo : Int)) (-(m1 : Int)) (bareC (docD c t lo hi))).nodes.length = l := ⟨_, rfl⟩
    obtain ⟨l5, el5⟩ : ∃ l, (mvC (-(lo : Int)) (-(m1 : Int)) (bareC (docD c t lo hi))).heads.length = l := ⟨_, rfl⟩
    obtain ⟨l6, el6⟩ : ∃ l, (mvC (-(lo : Int)) (-(m1 : Int)) (bareC (docD c t lo hi))).rels.length = l := ⟨_, rfl⟩
    rw [el0] at f0
    rw [el1] at f1
    rw [el2] at f2
    rw [el3] at f3
    rw [el4] at f4
    rw [el5] at f5
    rw [el6] at f6
    subst f0 f1 f2 f3 f4 f5 f6
    have he : e = .returned (.agg #[.slice B0 l0 j0, .slice B1 l1 j1, .slice B2 l2 j2, .slice B3 l3 j3, .slice B4 l4 j4, .slice B5 l5 j5, .slice B6 l6 j6]) := he
    subst he
    have hx0 := HXS.out
    have hy11 : w11.heap[N0 + 1]? = some (.cells #[.slice none 0 0, .slice none 0 0, .slice none 0 0, .slice none 0 0, .slice none 0 0, .slice none 0 0, .slice none 0 0] 30 (0, 0)) := block_below y3 hb11 (by have := hb10.size; omega)
    have hb11' : Below w.heap.size w w11 := (HBX.out.trans (hb10.mono HBX.out.size)).trans (hb11.mono (by have := hb10.size; have := HBX.out.size; omega))
    have hk11 : N0 + 1 + 1 + 1 ≤ w10.heap.size := by have := hb10.size; omega
    have HF := Lib.hid hF
    have HFU := Lib.hid hfull
    have HY11 := Lib.hid hy11
    have HB11 := Lib.hid hb11'
    have HK11 := Lib.hid hk11
    obtain ⟨⟨o0, o1, o2, o3, o4, o5, o6⟩, fz0, fz1, fz2, fz3, fz4, fz5, fz6⟩ := seven_f hy11
    clear hF hfull hb11 hy11 hb11' hk11 hC10 y1 y2 y3 hz10 hg10 hb10 el0 el1 el2 el3 el4 el5 el6 hx0
    go_wp2_with fail
    have hz : (((((((w11.setCell ⟨N0 + 1, 0, none⟩ (.slice B0 l0 j0)).setCell ⟨N0 + 1, 1, none⟩ (.slice B1 l1 j1)).setCell ⟨N0 + 1, 2, none⟩ (.slice B2 l2 j2)).setCell ⟨N0 + 1, 3, none⟩ (.slice B3 l3 j3)).setCell ⟨N0 + 1, 4, none⟩ (.slice B4 l4 j4)).setCell ⟨N0 + 1, 5, none⟩ (.slice B5 l5 j5)).setCell ⟨N0 + 1, 6, none⟩ (.slice B6 l6 j6)).heap[N0 + 1]? = some (.cells #[.slice B0 l0 j0, .slice B1 l1 j1, .slice B2 l2 j2, .slice B3 l3 j3, .slice B4 l4 j4, .slice B5 l5 j5, .slice B6 l6 j6] 30 (0, 0)) := (set_of (set_of (set_of (set_of (set_of (set_of (set_of HY11.out _) _) _) _) _) _) _)
    have hbl : Below w.heap.size w (((((((w11.setCell ⟨N0 + 1, 0, none⟩ (.slice B0 l0 j0)).setCell ⟨N0 + 1, 1, none⟩ (.slice B1 l1 j1)).setCell ⟨N0 + 1, 2, none⟩ (.slice B2 l2 j2)).setCell ⟨N0 + 1, 3, none⟩ (.slice B3 l3 j3)).setCell ⟨N0 + 1, 4, none⟩ (.slice B4 l4 j4)).setCell ⟨N0 + 1, 5, none⟩ (.slice B5 l5 j5)).setCell ⟨N0 + 1, 6, none⟩ (.slice B6 l6 j6)) := (((((((HB11.out.setCell (by rw [HN0.out]; exact Nat.le_succ _) _).setCell (by rw [HN0.out]; exact Nat.le_succ _) _).setCell (by rw [HN0.out]; exact Nat.le_succ _) _).setCell (by rw [HN0.out]; exact Nat.le_succ _) _).setCell (by rw [HN0.out]; exact Nat.le_succ _) _).setCell (by rw [HN0.out]; exact Nat.le_succ _) _).setCell (by rw [HN0.out]; exact Nat.le_succ _) _)
    have hk : Kept (N0 + 1 + 1) w11 (((((((w11.setCell ⟨N0 + 1, 0, none⟩ (.slice B0 l0 j0)).setCell ⟨N0 + 1, 1, none⟩ (.slice B1 l1 j1)).setCell ⟨N0 + 1, 2, none⟩ (.slice B2 l2 j2)).setCell ⟨N0 + 1, 3, none⟩ (.slice B3 l3 j3)).setCell ⟨N0 + 1, 4, none⟩ (.slice B4 l4 j4)).setCell ⟨N0 + 1, 5, none⟩ (.slice B5 l5 j5)).setCell ⟨N0 + 1, 6, none⟩ (.slice B6 l6 j6)) := ⟨by simp [World.setCell], fun k h1 h2 => by rw [Below.heap_setCell _ _ _ k (by show k ≠ N0 + 1; omega), Below.heap_setCell _ _ _ k (by show k ≠ N0 + 1; omega), Below.heap_setCell _ _ _ k (by show k ≠ N0 + 1; omega), Below.heap_setCell _ _ _ k (by show k ≠ N0 + 1; omega), Below.heap_setCell _ _ _ k (by show k ≠ N0 + 1; omega), Below.heap_setCell _ _ _ k (by show k ≠ N0 + 1; omega), Below.heap_setCell _ _ _ k (by show k ≠ N0 + 1; omega)]⟩
    obtain ⟨W8, hW8⟩ : ∃ W8, (((((((w11.setCell ⟨N0 + 1, 0, none⟩ (.slice B0 l0 j0)).setCell ⟨N0 + 1, 1, none⟩ (.slice B1 l1 j1)).setCell ⟨N0 + 1, 2, none⟩ (.slice B2 l2 j2)).setCell ⟨N0 + 1, 3, none⟩ (.slice B3 l3 j3)).setCell ⟨N0 + 1, 4, none⟩ (.slice B4 l4 j4)).setCell ⟨N0 + 1, 5, none⟩ (.slice B5 l5 j5)).setCell ⟨N0 + 1, 6, none⟩ (.slice B6 l6 j6)) = W8 := ⟨_, rfl⟩
    rw [hW8] at hz hbl hk ⊢
    clear hW8
    have hkk := HF.out.kept (hk.mono (by have := HK11.out; omega))
    have hm0 : w.heap.size ≤ w10.heap.size := by rw [HN0.out]; have := HK11.out; omega
    exact bodyPost_ret (v := .agg #[.slice B0 l0 j0, .slice B1 l1 j1, .slice B2 l2 j2, .slice B3 l3 j3, .slice B4 l4 j4, .slice B5 l5 j5, .slice B6 l6 j6]) (results_cell_row Tryz.results29 _ _ (N0 + 1) _ _ _ _ rfl hz Tryz.underlying30 rfl Tryz.sizeCor) rfl ⟨⟨.slice B0 l0 j0, .slice B1 l1 j1, .slice B2 l2 j2, .slice B3 l3 j3, .slice B4 l4 j4, .slice B5 l5 j5, .slice B6 l6 j6⟩, rfl, HDOC.out ▸ hkk.mono hm0, HFU.out, hbl⟩
  | false =>
    have hbr : (bareC (docD c t lo hi)).heads = cutL lo hi c.heads ∧ (bareC (docD c t lo hi)).rels = cutL lo hi c.rels := by
     unfold bareC
     rw [if_neg (by rw [HQ.out]; decide)]
     exact ⟨rfl, rfl⟩
    have HBR := Lib.hid hbr
    clear hbr
    have hz10 := HDW.out
    have hg10 := HGW.out
    have hb10 := HBW.out
    go_wp2_with fail
    obtain ⟨w10, hw10⟩ : ∃ w10, w9 = w10 := ⟨_, rfl⟩
    rw [hw10] at hz10 hg10 hb10 ⊢
    clear hw10
    have hC10 : CorAt w10 ⟨.slice A0 n0 k0, .slice At (hi - lo) ct, .slice (some ⟨G, 0, none⟩) 1 1, .slice Ar (p2 - p1) cr, .slice An (m2 - m1) cn, .slice Ah (hi - lo) ch, .slice Al (hi - lo) cl⟩ (bareC (docD c t lo hi)) := HCD.out w10 hb10 hg10 _ _ (by obtain ⟨g1, g2⟩ := HBR.out; rw [g1, g2]; exact HHR0.out w10 hb10)
    obtain ⟨y1, y2, y3⟩ := HS0.out w10 hb10
    refine (moved_any _ (-(lo : Int)) (-(m1 : Int)) hC10 HMD.out HML.out.1 HML.out.2).mono ?_
    rintro e w11 ⟨s3, he, hF, hfull, hb11⟩
    obtain ⟨B0, j0, f0, -⟩ := hF.at'.a.form
    obtain ⟨B1, j1, f1, -⟩ := hF.at'.t.form
    obtain ⟨B2, j2, f2, -⟩ := hF.at'.x.form
    obtain ⟨B3, j3, f3, -⟩ := hF.at'.r.form
    obtain ⟨B4, j4, f4, -⟩ := hF.at'.n.form
    obtain ⟨B5, j5, f5, -⟩ := hF.at'.h.form
    obtain ⟨B6, j6, f6, -⟩ := hF.at'.l.form
    obtain ⟨v0, v1, v2, v3, v4, v5, v6⟩ := s3
    simp only at f0 f1 f2 f3 f4 f5 f6
    obtain ⟨l0, el0⟩ : ∃ l, (mvC (-(lo : Int)) (-(m1 : Int)) (bareC (docD c t lo hi))).attrs.length = l := ⟨_, rfl⟩
    obtain ⟨l1, el1⟩ : ∃ l, (mvC (-(lo : Int)) (-(m1 : Int)) (bareC (docD c t lo hi))).toks.length = l := ⟨_, rfl⟩
    obtain ⟨l2, el2⟩ : ∃ l, (mvC (-(lo : Int)) (-(m1 : Int)) (bareC (docD c t lo hi))).texts.length = l := ⟨_, rfl⟩
    obtain ⟨l3, el3⟩ : ∃ l, (mvC (-(lo : Int)) (-(m1 : Int)) (bareC (docD c t lo hi))).regs.length = l := ⟨_, rfl⟩
    obtain ⟨l4, el4⟩ : ∃ l, (mvC (-(lo : Int)) (-(m1 : Int)) (bareC (docD c t lo hi))).nodes.length = l := ⟨_, rfl⟩
    obtain ⟨l5, el5⟩ : ∃ l, (mvC (-(lo : Int)) (-(m1 : Int)) (bareC (docD c t lo hi))).heads.length = l := ⟨_, rfl⟩
    obtain ⟨l6, el6⟩ : ∃ l, (mvC (-(lo : Int)) (-(m1 : Int)) (bareC (docD c t lo hi))).rels.length = l := ⟨_, rfl⟩
    rw [el0] at f0
    rw [el1] at f1
    rw [el2] at f2
    rw [el3] at f3
    rw [el4] at f4
    rw [el5] at f5
    rw [el6] at f6
    subst f0 f1 f2 f3 f4 f5 f6
    have he : e = .returned (.agg #[.slice B0 l0 j0, .slice B1 l1 j1, .slice B2 l2 j2, .slice B3 l3 j3, .slice B4 l4 j4, .slice B5 l5 j5, .slice B6 l6 j6]) := he
    subst he
    have hx0 := HXS.out
    have hy11 : w11.heap[N0 + 1]? = some (.cells #[.slice none 0 0, .slice none 0 0, .slice none 0 0, .slice none 0 0, .slice none 0 0, .slice none 0 0, .slice none 0 0] 30 (0, 0)) := block_below y3 hb11 (by have := hb10.size; omega)
    have hb11' : Below w.heap.size w w11 := (HBX.out.trans (hb10.mono HBX.out.size)).trans (hb11.mono (by have := hb10.size; have := HBX.out.size; omega))
    have hk11 : N0 + 1 + 1 + 1 ≤ w10.heap.size := by have := hb10.size; omega
    have HF := Lib.hid hF
    have HFU := Lib.hid hfull
    have HY11 := Lib.hid hy11
    have HB11 := Lib.hid hb11'
    have HK11 := Lib.hid hk11
    obtain ⟨⟨o0, o1, o2, o3, o4, o5, o6⟩, fz0, fz1, fz2, fz3, fz4, fz5, fz6⟩ := seven_f hy11
    clear hF hfull hb11 hy11 hb11' hk11 hC10 y1 y2 y3 hz10 hg10 hb10 el0 el1 el2 el3 el4 el5 el6 hx0
    go_wp2_with fail
    have hz : (((((((w11.setCell ⟨N0 + 1, 0, none⟩ (.slice B0 l0 j0)).setCell ⟨N0 + 1, 1, none⟩ (.slice B1 l1 j1)).setCell ⟨N0 + 1, 2, none⟩ (.slice B2 l2 j2)).setCell ⟨N0 + 1, 3, none⟩ (.slice B3 l3 j3)).setCell ⟨N0 + 1, 4, none⟩ (.slice B4 l4 j4)).setCell ⟨N0 + 1, 5, none⟩ (.slice B5 l5 j5)).setCell ⟨N0 + 1, 6, none⟩ (.slice B6 l6 j6)).heap[N0 + 1]? = some (.cells #[.slice B0 l0 j0, .slice B1 l1 j1, .slice B2 l2 j2, .slice B3 l3 j3, .slice B4 l4 j4, .slice B5 l5 j5, .slice B6 l6 j6] 30 (0, 0)) := (set_of (set_of (set_of (set_of (set_of (set_of (set_of HY11.out _) _) _) _) _) _) _)
    have hbl : Below w.heap.size w (((((((w11.setCell ⟨N0 + 1, 0, none⟩ (.slice B0 l0 j0)).setCell ⟨N0 + 1, 1, none⟩ (.slice B1 l1 j1)).setCell ⟨N0 + 1, 2, none⟩ (.slice B2 l2 j2)).setCell ⟨N0 + 1, 3, none⟩ (.slice B3 l3 j3)).setCell ⟨N0 + 1, 4, none⟩ (.slice B4 l4 j4)).setCell ⟨N0 + 1, 5, none⟩ (.slice B5 l5 j5)).setCell ⟨N0 + 1, 6, none⟩ (.slice B6 l6 j6)) := (((((((HB11.out.setCell (by rw [HN0.out]; exact Nat.le_succ _) _).setCell (by rw [HN0.out]; exact Nat.le_succ _) _).setCell (by rw [HN0.out]; exact Nat.le_succ _) _).setCell (by rw [HN0.out]; exact Nat.le_succ _) _).setCell (by rw [HN0.out]; exact Nat.le_succ _) _).setCell (by rw [HN0.out]; exact Nat.le_succ _) _).setCell (by rw [HN0.out]; exact Nat.le_succ _) _)
    have hk : Kept (N0 + 1 + 1) w11 (((((((w11.setCell ⟨N0 + 1, 0, none⟩ (.slice B0 l0 j0)).setCell ⟨N0 + 1, 1, none⟩ (.slice B1 l1 j1)).setCell ⟨N0 + 1, 2, none⟩ (.slice B2 l2 j2)).setCell ⟨N0 + 1, 3, none⟩ (.slice B3 l3 j3)).setCell ⟨N0 + 1, 4, none⟩ (.slice B4 l4 j4)).setCell ⟨N0 + 1, 5, none⟩ (.slice B5 l5 j5)).setCell ⟨N0 + 1, 6, none⟩ (.slice B6 l6 j6)) := ⟨by simp [World.setCell], fun k h1 h2 => by rw [Below.heap_setCell _ _ _ k (by show k ≠ N0 + 1; omega), Below.heap_setCell _ _ _ k (by show k ≠ N0 + 1; omega), Below.heap_setCell _ _ _ k (by show k ≠ N0 + 1; omega), Below.heap_setCell _ _ _ k (by show k ≠ N0 + 1; omega), Below.heap_setCell _ _ _ k (by show k ≠ N0 + 1; omega), Below.heap_setCell _ _ _ k (by show k ≠ N0 + 1; omega), Below.heap_setCell _ _ _ k (by show k ≠ N0 + 1; omega)]⟩
    obtain ⟨W8, hW8⟩ : ∃ W8, (((((((w11.setCell ⟨N0 + 1, 0, none⟩ (.slice B0 l0 j0)).setCell ⟨N0 + 1, 1, none⟩ (.slice B1 l1 j1)).setCell ⟨N0 + 1, 2, none⟩ (.slice B2 l2 j2)).setCell ⟨N0 + 1, 3, none⟩ (.slice B3 l3 j3)).setCell ⟨N0 + 1, 4, none⟩ (.slice B4 l4 j4)).setCell ⟨N0 + 1, 5, none⟩ (.slice B5 l5 j5)).setCell ⟨N0 + 1, 6, none⟩ (.slice B6 l6 j6)) = W8 := ⟨_, rfl⟩
    rw [hW8] at hz hbl hk ⊢
    clear hW8
    have hkk := HF.out.kept (hk.mono (by have := HK11.out; omega))
    have hm0 : w.heap.size ≤ w10.heap.size := by rw [HN0.out]; have := HK11.out; omega
    exact bodyPost_ret (v := .agg #[.slice B0 l0 j0, .slice B1 l1 j1, .slice B2 l2 j2, .slice B3 l3 j3, .slice B4 l4 j4, .slice B5 l5 j5, .slice B6 l6 j6]) (results_cell_row Tryz.results29 _ _ (N0 + 1) _ _ _ _ rfl hz Tryz.underlying30 rfl Tryz.sizeCor) rfl ⟨⟨.slice B0 l0 j0, .slice B1 l1 j1, .slice B2 l2 j2, .slice B3 l3 j3, .slice B4 l4 j4, .slice B5 l5 j5, .slice B6 l6 j6⟩, rfl, HDOC.out ▸ hkk.mono hm0, HFU.out, hbl⟩
 have h5i : ¬ (0 : Int) < (n5 : Int) := by omega
 have hn : c.heads = [] ∧ c.rels = [] := ⟨List.length_eq_zero_iff.1 (by have := HL5.out.1.1; omega), List.length_eq_zero_iff.1 (by have := HL5.out.2.1; omega)⟩
 have hq : bare (docD c t lo hi).heads (docD c t lo hi).rels = true := by
  unfold docD
  rw [hn.1, hn.2, cutL_nil, cutL_nil]
  rfl
 have hbr : (bareC (docD c t lo hi)).heads = [] ∧ (bareC (docD c t lo hi)).rels = [] := by
  unfold bareC
  rw [if_pos hq]
  exact ⟨rfl, rfl⟩
 have HBR := Lib.hid hbr
 have HHL := Lib.hid (headless_any (w := wc) ⟨.slice A0 n0 k0, .slice At (hi - lo) ct, .slice (some ⟨G, 0, none⟩) 1 1, .slice Ar (p2 - p1) cr, .slice An (m2 - m1) cn, .slice none 0 0, .slice none 0 0⟩ (h := []) (r := []) (Rows.nil _) (Rows.nil _) (Nat.zero_le _) (Nat.zero_le _))
 clear hn hq hbr
 go_wp2_with fail
 clear d0 d1 d2 d3 d4 d5 d6 fd0 fd1 fd2 fd3 fd4 fd5 fd6 c5 c6 t1 t2 h5i
 refine HHL.out.mono ?_
 rintro e w9 ⟨rfl, hb9⟩
 have HDW := Lib.hid (block_below HDC.out hb9 (lt_blk HDC.out))
 have HGW := Lib.hid (block_below HGC.out hb9 (lt_blk HGC.out))
 have HBW := Lib.hid (HBC.out.trans (hb9.mono HBC.out.size))
 clear hb9
 have hbare : bare [] [] = true := rfl
 rw [hbare]
 clear hbare
 have t1 : w9.cell? ⟨N0 + 1 + 1, 1, none⟩ = some (.int .i64 (lo : Int)) := cell_of (HS0.out w9 HBW.out).2.1 rfl
 obtain ⟨⟨d0, d1, d2, d3, d4, d5, d6⟩, fd0, fd1, fd2, fd3, fd4, fd5, fd6⟩ := seven_f HDW.out
 have hz10 := set_of (set_of HDW.out (.slice none 0 0) (i := 5)) (.slice none 0 0) (i := 6)
 have hg10 : ((w9.setCell ⟨D, 5, none⟩ (.slice none 0 0)).setCell ⟨D, 6, none⟩ (.slice none 0 0)).heap[G]? = some (.cells #[.string P, .int .i64 (lo : Int), .int .i64 (hi : Int), .slice Am lm cm] 51 (0, 0)) := by rw [Below.heap_setCell _ _ _ G HNE.out, Below.heap_setCell _ _ _ G HNE.out]; exact HGW.out
 have hb10 : Below X0.heap.size X0 ((w9.setCell ⟨D, 5, none⟩ (.slice none 0 0)).setCell ⟨D, 6, none⟩ (.slice none 0 0)) := (HBW.out.setCell HXD.out _).setCell HXD.out _
 go_wp2_with fail
 obtain ⟨w10, hw10⟩ : ∃ w10, (w9.setCell ⟨D, 5, none⟩ (.slice none 0 0)).setCell ⟨D, 6, none⟩ (.slice none 0 0) = w10 := ⟨_, rfl⟩
 rw [hw10] at hz10 hg10 hb10 ⊢
 clear hw10
 have hC10 : CorAt w10 ⟨.slice A0 n0 k0, .slice At (hi - lo) ct, .slice (some ⟨G, 0, none⟩) 1 1, .slice Ar (p2 - p1) cr, .slice An (m2 - m1) cn, .slice none 0 0, .slice none 0 0⟩ (bareC (docD c t lo hi)) := HCD.out w10 hb10 hg10 _ _ (by obtain ⟨g1, g2⟩ := HBR.out; rw [g1, g2]; exact ⟨Rows.nil _, Rows.nil _⟩)
 obtain ⟨y1, y2, y3⟩ := HS0.out w10 hb10
 refine (moved_any _ (-(lo : Int)) (-(m1 : Int)) hC10 HMD.out HML.out.1 HML.out.2).mono ?_
 rintro e w11 ⟨s3, he, hF, hfull, hb11⟩
 obtain ⟨B0, j0, f0, -⟩ := hF.at'.a.form
 obtain ⟨B1, j1, f1, -⟩ := hF.at'.t.form
 obtain ⟨B2, j2, f2, -⟩ := hF.at'.x.form
 obtain ⟨B3, j3, f3, -⟩ := hF.at'.r.form
 obtain ⟨B4, j4, f4, -⟩ := hF.at'.n.form
 obtain ⟨B5, j5, f5, -⟩ := hF.at'.h.form
 obtain ⟨B6, j6, f6, -⟩ := hF.at'.l.form
 obtain ⟨v0, v1, v2, v3, v4, v5, v6⟩ := s3
 simp only at f0 f1 f2 f3 f4 f5 f6
 obtain ⟨l0, el0⟩ : ∃ l, (mvC (-(lo : Int)) (-(m1 : Int)) (bareC (docD c t lo hi))).attrs.length = l := ⟨_, rfl⟩
 obtain ⟨l1, el1⟩ : ∃ l, (mvC (-(lo : Int)) (-(m1 : Int)) (bareC (docD c t lo hi))).toks.length = l := ⟨_, rfl⟩
 obtain ⟨l2, el2⟩ : ∃ l, (mvC (-(lo : Int)) (-(m1 : Int)) (bareC (docD c t lo hi))).texts.length = l := ⟨_, rfl⟩
 obtain ⟨l3, el3⟩ : ∃ l, (mvC (-(lo : Int)) (-(m1 : Int)) (bareC (docD c t lo hi))).regs.length = l := ⟨_, rfl⟩
 obtain ⟨l4, el4⟩ : ∃ l, (mvC (-(lo : Int)) (-(m1 : Int)) (bareC (docD c t lo hi))).nodes.length = l := ⟨_, rfl⟩
 obtain ⟨l5, el5⟩ : ∃ l, (mvC (-(lo : Int)) (-(m1 : Int)) (bareC (docD c t lo hi))).heads.length = l := ⟨_, rfl⟩
 obtain ⟨l6, el6⟩ : ∃ l, (mvC (-(lo : Int)) (-(m1 : Int)) (bareC (docD c t lo hi))).rels.length = l := ⟨_, rfl⟩
 rw [el0] at f0
 rw [el1] at f1
 rw [el2] at f2
 rw [el3] at f3
 rw [el4] at f4
 rw [el5] at f5
 rw [el6] at f6
 subst f0 f1 f2 f3 f4 f5 f6
 have he : e = .returned (.agg #[.slice B0 l0 j0, .slice B1 l1 j1, .slice B2 l2 j2, .slice B3 l3 j3, .slice B4 l4 j4, .slice B5 l5 j5, .slice B6 l6 j6]) := he
 subst he
 have hx0 := HXS.out
 have hy11 : w11.heap[N0 + 1]? = some (.cells #[.slice none 0 0, .slice none 0 0, .slice none 0 0, .slice none 0 0, .slice none 0 0, .slice none 0 0, .slice none 0 0] 30 (0, 0)) := block_below y3 hb11 (by have := hb10.size; omega)
 have hb11' : Below w.heap.size w w11 := (HBX.out.trans (hb10.mono HBX.out.size)).trans (hb11.mono (by have := hb10.size; have := HBX.out.size; omega))
 have hk11 : N0 + 1 + 1 + 1 ≤ w10.heap.size := by have := hb10.size; omega
 have HF := Lib.hid hF
 have HFU := Lib.hid hfull
 have HY11 := Lib.hid hy11
 have HB11 := Lib.hid hb11'
 have HK11 := Lib.hid hk11
 obtain ⟨⟨o0, o1, o2, o3, o4, o5, o6⟩, fz0, fz1, fz2, fz3, fz4, fz5, fz6⟩ := seven_f hy11
 clear hF hfull hb11 hy11 hb11' hk11 hC10 y1 y2 y3 hz10 hg10 hb10 el0 el1 el2 el3 el4 el5 el6 hx0
 go_wp2_with fail
 have hz : (((((((w11.setCell ⟨N0 + 1, 0, none⟩ (.slice B0 l0 j0)).setCell ⟨N0 + 1, 1, none⟩ (.slice B1 l1 j1)).setCell ⟨N0 + 1, 2, none⟩ (.slice B2 l2 j2)).setCell ⟨N0 + 1, 3, none⟩ (.slice B3 l3 j3)).setCell ⟨N0 + 1, 4, none⟩ (.slice B4 l4 j4)).setCell ⟨N0 + 1, 5, none⟩ (.slice B5 l5 j5)).setCell ⟨N0 + 1, 6, none⟩ (.slice B6 l6 j6)).heap[N0 + 1]? = some (.cells #[.slice B0 l0 j0, .slice B1 l1 j1, .slice B2 l2 j2, .slice B3 l3 j3, .slice B4 l4 j4, .slice B5 l5 j5, .slice B6 l6 j6] 30 (0, 0)) := (set_of (set_of (set_of (set_of (set_of (set_of (set_of HY11.out _) _) _) _) _) _) _)
 have hbl : Below w.heap.size w (((((((w11.setCell ⟨N0 + 1, 0, none⟩ (.slice B0 l0 j0)).setCell ⟨N0 + 1, 1, none⟩ (.slice B1 l1 j1)).setCell ⟨N0 + 1, 2, none⟩ (.slice B2 l2 j2)).setCell ⟨N0 + 1, 3, none⟩ (.slice B3 l3 j3)).setCell ⟨N0 + 1, 4, none⟩ (.slice B4 l4 j4)).setCell ⟨N0 + 1, 5, none⟩ (.slice B5 l5 j5)).setCell ⟨N0 + 1, 6, none⟩ (.slice B6 l6 j6)) := (((((((HB11.out.setCell (by rw [HN0.out]; exact Nat.le_succ _) _).setCell (by rw [HN0.out]; exact Nat.le_succ _) _).setCell (by rw [HN0.out]; exact Nat.le_succ _) _).setCell (by rw [HN0.out]; exact Nat.le_succ _) _).setCell (by rw [HN0.out]; exact Nat.le_succ _) _).setCell (by rw [HN0.out]; exact Nat.le_succ _) _).setCell (by rw [HN0.out]; exact Nat.le_succ _) _)
 have hk : Kept (N0 + 1 + 1) w11 (((((((w11.setCell ⟨N0 + 1, 0, none⟩ (.slice B0 l0 j0)).setCell ⟨N0 + 1, 1, none⟩ (.slice B1 l1 j1)).setCell ⟨N0 + 1, 2, none⟩ (.slice B2 l2 j2)).setCell ⟨N0 + 1, 3, none⟩ (.slice B3 l3 j3)).setCell ⟨N0 + 1, 4, none⟩ (.slice B4 l4 j4)).setCell ⟨N0 + 1, 5, none⟩ (.slice B5 l5 j5)).setCell ⟨N0 + 1, 6, none⟩ (.slice B6 l6 j6)) := ⟨by simp [World.setCell], fun k h1 h2 => by rw [Below.heap_setCell _ _ _ k (by show k ≠ N0 + 1; omega), Below.heap_setCell _ _ _ k (by show k ≠ N0 + 1; omega), Below.heap_setCell _ _ _ k (by show k ≠ N0 + 1; omega), Below.heap_setCell _ _ _ k (by show k ≠ N0 + 1; omega), Below.heap_setCell _ _ _ k (by show k ≠ N0 + 1; omega), Below.heap_setCell _ _ _ k (by show k ≠ N0 + 1; omega), Below.heap_setCell _ _ _ k (by show k ≠ N0 + 1; omega)]⟩
 obtain ⟨W8, hW8⟩ : ∃ W8, (((((((w11.setCell ⟨N0 + 1, 0, none⟩ (.slice B0 l0 j0)).setCell ⟨N0 + 1, 1, none⟩ (.slice B1 l1 j1)).setCell ⟨N0 + 1, 2, none⟩ (.slice B2 l2 j2)).setCell ⟨N0 + 1, 3, none⟩ (.slice B3 l3 j3)).setCell ⟨N0 + 1, 4, none⟩ (.slice B4 l4 j4)).setCell ⟨N0 + 1, 5, none⟩ (.slice B5 l5 j5)).setCell ⟨N0 + 1, 6, none⟩ (.slice B6 l6 j6)) = W8 := ⟨_, rfl⟩
 rw [hW8] at hz hbl hk ⊢
 clear hW8
 have hkk := HF.out.kept (hk.mono (by have := HK11.out; omega))
 have hm0 : w.heap.size ≤ w10.heap.size := by rw [HN0.out]; have := HK11.out; omega
 exact bodyPost_ret (v := .agg #[.slice B0 l0 j0, .slice B1 l1 j1, .slice B2 l2 j2, .slice B3 l3 j3, .slice B4 l4 j4, .slice B5 l5 j5, .slice B6 l6 j6]) (results_cell_row Tryz.results29 _ _ (N0 + 1) _ _ _ _ rfl hz Tryz.underlying30 rfl Tryz.sizeCor) rfl ⟨⟨.slice B0 l0 j0, .slice B1 l1 j1, .slice B2 l2 j2, .slice B3 l3 j3, .slice B4 l4 j4, .slice B5 l5 j5, .slice B6 l6 j6⟩, rfl, HDOC.out ▸ hkk.mono hm0, HFU.out, hbl⟩
end Go.Proofs.YtebmfkkkhmjkoaaGreat
