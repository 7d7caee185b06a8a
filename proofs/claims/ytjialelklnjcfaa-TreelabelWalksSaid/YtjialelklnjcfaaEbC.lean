/-
  WALKS over package treelabel, third part: arrange.
-/
import Derived.Test.YtjialelklnjcfaaEbB
import Derived.Deep.RegionHeld3
import Derived.Deep.DeepCutAuto
import Derived.Deep.CutRange
import Derived.Deep.DrawnRows
namespace Go.Proofs.Ytjialelklnjcfaa
open Go Go.RowKit Go.Shelf Go.Lib
set_option linter.unusedVariables false
set_option linter.unusedSimpArgs false
attribute [local go_sem] Oper.semAt_some

theorem lt_blk {W : World} {k : Nat} {o : Obj} (h : W.heap[k]? = some o) : k < W.heap.size := (Array.getElem?_eq_some_iff.1 h).1
theorem wp_strict {P : Program} {c : Code} {K : Act → World → Prop} {Q : Exit → Act → World → Prop} {a : Act} {w : World} (h : c.wp P (Exit.then K (fun _ _ _ => False)) a w) : c.wp P (Exit.then K Q) a w :=
  Code.wp_mono (fun e a w h => by cases e <;> first | exact h | exact h.elim) h
/-- A forest that is being arranged. -/
structure ArS (N0 : Nat) (w W : World) (p bf bn n : Nat) (F X : List Int) : Prop where
  below : Below N0 w W
  res : W.heap[N0]? = some (.cells #[.slice none 0 0, .slice none 0 0] 55 (0, 0))
  box : W.heap[p]? = some (.cells #[.slice (some ⟨bf, 0, none⟩) (n + 1) (n + 1), .slice (some ⟨bn, 0, none⟩) n n] 55 (0, 0))
  f : Blk W bf F
  x : Blk W bn X
  pos : N0 < p ∧ N0 < bf ∧ N0 < bn ∧ bf ≠ p ∧ bn ≠ p ∧ bf ≠ bn
theorem ArS.keep {N0 : Nat} {w W W' : World} {p bf bn n : Nat} {F X : List Int} (h : ArS N0 w W p bf bn n F X) (hb : Below N0 w W') (hk : ∀ k, k = N0 ∨ k = p ∨ k = bf ∨ k = bn → W'.heap[k]? = W.heap[k]?) : ArS N0 w W' p bf bn n F X :=
  ⟨hb, (hk _ (.inl rfl)).trans h.res, (hk _ (.inr (.inl rfl))).trans h.box, h.f.keep (hk _ (.inr (.inr (.inl rfl)))), h.x.keep (hk _ (.inr (.inr (.inr rfl)))), h.pos⟩
theorem neg_blk {W : World} {b m : Nat} (h : NegAt b m m W) : Blk W b (List.replicate m (-1)) := by
  refine ⟨_, _, h, fun j x hx => ?_⟩
  rw [List.getElem?_replicate] at hx
  by_cases hj : j < m
  · rw [if_pos hj] at hx
    cases hx
    rw [List.getElem?_toArray]
    exact negRow_get hj
  · rw [if_neg hj] at hx; cases hx
theorem ar_start {N0 : Nat} {w X0 W : World} {p bf bn n : Nat} (hN : w.heap.size = N0) (hr : X0 = w.alloc (.cells #[.slice none 0 0, .slice none 0 0] 55)) (hb : Below X0.heap.size X0 W)
    (hp : W.heap[p]? = some (.cells #[.slice none 0 0, .slice none 0 0] 55 (0, 0))) (hf : NegAt bf (n + 1) (n + 1) W) (hn : W.heap[bn]? = some (.cells (intRow (List.replicate n 0)) 3 (0, 0)))
    (hmp : X0.heap.size ≤ p) (hmf : X0.heap.size ≤ bf) (hmn : X0.heap.size ≤ bn) :
    ArS N0 w ((W.setCell ⟨p, 0, none⟩ (.slice (some ⟨bf, 0, none⟩) (n + 1) (n + 1))).setCell ⟨p, 1, none⟩ (.slice (some ⟨bn, 0, none⟩) n n)) p bf bn n (List.replicate (n + 1) (-1)) (List.replicate n 0) := by
  have hsz : X0.heap.size = N0 + 1 := by rw [hr, alloc_sz, hN]
  have hpf : bf ≠ p := fun e => by
    subst e
    unfold NegAt at hf
    rw [hp] at hf
    injection hf with hf
    injection hf with h1 h2
    exact absurd h2 (by decide)
  have hpn : bn ≠ p := fun e => by
    subst e
    rw [hp] at hn
    injection hn with hn
    injection hn with h1 h2
    exact absurd h2 (by decide)
  have hfn : bf ≠ bn := fun e => by
    subst e
    unfold NegAt at hf
    rw [hf] at hn
    injection hn with hn
    injection hn with h1 h2
    have := congrArg Array.size h1
    rw [List.size_toArray, negRow_len (Nat.le_refl _)] at this
    simp [intRow] at this
  have hbW : Below N0 w W := by
    have h0 : Below N0 w X0 := by rw [hr, ← hN]; exact below_box _ _
    exact h0.trans (hb.mono (by omega))
  have ho : ∀ k, k ≠ p → ∀ u v, ((W.setCell ⟨p, 0, none⟩ u).setCell ⟨p, 1, none⟩ v).heap[k]? = W.heap[k]? := fun k hk u v =>
    (Below.heap_setCell _ ⟨p, 1, none⟩ v k hk).trans (Below.heap_setCell W ⟨p, 0, none⟩ u k hk)
  refine ⟨hbW.trans ⟨rfl, rfl, rfl, by simp [World.setCell], fun k hk => ho k (by omega) _ _⟩, ?_, ?_, ?_, ?_, by omega, by omega, by omega, hpf, hpn, hfn⟩
  · rw [ho _ (by omega)]
    have h0 : X0.heap[N0]? = some (.cells #[.slice none 0 0, .slice none 0 0] 55 (0, 0)) := by
      rw [hr, ← hN]
      exact block_new _ _
    exact (hb.block N0 (by omega)).trans h0
  · rw [set_of (set_of hp _)]
    rfl
  · exact (neg_blk hf).keep (ho _ hpf _ _)
  · exact (Blk.of hn).keep (ho _ hpn _ _)
/-- One node of arrange's loop. -/
def stepFX (h : List Int) (s : List Int × List Int) (i : Nat) : List Int × List Int := (s.1.set (h.getD i 0 + 1).toNat (i : Int), s.2.set i (s.1.getD (h.getD i 0 + 1).toNat 0))
def fx0 (n : Nat) : List Int × List Int := (List.replicate (n + 1) (-1), List.replicate n 0)
theorem fx_len (h : List Int) (n : Nat) : ∀ l : List Nat, (l.foldl (stepFX h) (fx0 n)).1.length = n + 1 ∧ (l.foldl (stepFX h) (fx0 n)).2.length = n := by
  intro l
  obtain ⟨r, rfl⟩ : ∃ r : List Nat, l = r.reverse := ⟨l.reverse, by simp⟩
  induction r with
  | nil => simp [fx0]
  | cons a r ih =>
    rw [List.reverse_cons, List.foldl_append]
    simp only [List.foldl_cons, List.foldl_nil, stepFX, List.length_set]
    exact ih
theorem fx_back {h : List Int} (hin : ∀ x ∈ h, -1 ≤ x ∧ x < h.length) : ∀ k, k ≤ h.length → (backL h k).foldl (stepFX h) (fx0 h.length) = (firstL h (h.length - k), nextL h (h.length - k)) := by
  intro k
  induction k with
  | zero => intro _; rw [Nat.sub_zero, firstL_start, nextL_start]; rfl
  | succ k ih =>
    intro hk
    rw [backL_succ, List.foldl_append, ih (by omega), List.foldl_cons, List.foldl_nil]
    obtain ⟨i, hi⟩ : ∃ i, h.length - 1 - k = i := ⟨_, rfl⟩
    have hil : i < h.length := by omega
    rw [hi, show h.length - k = i + 1 by omega, show h.length - (k + 1) = i by omega]
    have hx := List.getElem?_eq_getElem hil
    have hp := hin _ (List.getElem_mem hil)
    generalize h[i] = p at hx hp
    unfold stepFX
    have hg : h.getD i 0 = p := getD_of hx
    have hfq := firstL_get (h := h) (i := i + 1) (q := (p + 1).toNat) (by omega)
    rw [show (((p + 1).toNat : Nat) : Int) - 1 = p by omega] at hfq
    rw [hg, firstL_step hx hp.1, nextL_step hx, getD_of hfq]
theorem ArS.step {h : List Int} {N0 : Nat} {w W : World} {p bf bn n : Nat} {s : List Int × List Int} (hA : ArS N0 w W p bf bn n s.1 s.2) (h1 : s.1.length = n + 1) (h2 : s.2.length = n) {i q : Nat} (hi : i < n) (hq : q < n + 1) (hq2 : (h.getD i 0 + 1).toNat = q) :
    ArS N0 w ((W.setCell ⟨bn, i, none⟩ (.int .i64 (s.1.getD q 0))).setCell ⟨bf, q, none⟩ (.int .i64 (i : Int))) p bf bn n (stepFX h s i).1 (stepFX h s i).2 := by
  obtain ⟨p1, p2, p3, p4, p5, p6⟩ := hA.pos
  have ho : ∀ k, k ≠ bf → k ≠ bn → ∀ u v, ((W.setCell ⟨bn, i, none⟩ u).setCell ⟨bf, q, none⟩ v).heap[k]? = W.heap[k]? := fun k hk hk2 u v =>
    (Below.heap_setCell _ ⟨bf, q, none⟩ v k hk).trans (Below.heap_setCell W ⟨bn, i, none⟩ u k hk2)
  refine ⟨hA.below.trans ⟨rfl, rfl, rfl, by simp [World.setCell], fun k hk => ho k (by omega) (by omega) _ _⟩, (ho _ (by omega) (by omega) _ _).trans hA.res, (ho _ (fun e => p4 e.symm) (fun e => p5 e.symm) _ _).trans hA.box, ?_, ?_, hA.pos⟩
  · unfold stepFX
    rw [hq2]
    exact (hA.f.other p6 i _).set (by omega) _
  · unfold stepFX
    rw [hq2]
    exact (hA.x.set (by omega) _).other (fun e => p6 e.symm) _ _
theorem ArS.own {α : Type} (g : List α → List Int × List Int) (N0 : Nat) (w : World) (B p bf bn n : Nat) (hB : N0 < B ∧ p < B ∧ bf < B ∧ bn < B) : OwnFrom B (fun (pre : List α) W => ArS N0 w W p bf bn n (g pre).1 (g pre).2) :=
  fun s W W' row hs hg hr => by
    have hk : ∀ k, k < B → k < W.heap.size → W'.heap[k]? = W.heap[k]? := fun k hk hkl => hg.block k hkl (fun e => by have := (hr k e.symm).1; omega)
    have hlt : ∀ k, k < B → k < W.heap.size ∨ ¬ k < W.heap.size := fun k _ => Nat.lt_or_ge _ _ |>.imp id (fun h => by omega)
    refine hs.keep (hs.below.trans ⟨hg.os, hg.tape, hg.output, hg.size, fun k hk2 => ?_⟩) (fun k hk2 => ?_)
    · exact hk k (by omega) (by have := lt_blk hs.res; omega)
    · have h1 := lt_blk hs.res
      have h2 := lt_blk hs.box
      have h3 := hs.f.lt
      have h4 := hs.x.lt
      rcases hk2 with rfl | rfl | rfl | rfl
      · exact hk _ hB.1 h1
      · exact hk _ hB.2.1 h2
      · exact hk _ hB.2.2.1 h3
      · exact hk _ hB.2.2.2 h4

set_option maxRecDepth 100000 in
set_option maxHeartbeats 8000000 in
theorem arrange_any {w : World} {v : Value} {h : List Int} (hv : Rows 1 EInt w v h) (hl : h.length ≤ 4096) (hin : ∀ x ∈ h, -1 ≤ x ∧ x < h.length) {n : Nat} (hn : h.length = n) :
    Calls Try.prog 31 #[v] w fun e w' => ∃ bf bn : Nat, e = .returned (.agg #[.slice (some ⟨bf, 0, none⟩) (n + 1) (n + 1), .slice (some ⟨bn, 0, none⟩) n n]) ∧ Blk w' bf (firstL h 0) ∧ Blk w' bn (nextL h 0) ∧ (w.heap.size ≤ bf ∧ w.heap.size ≤ bn ∧ bf ≠ bn) ∧ Below w.heap.size w w' := by
  obtain ⟨A, cap, rfl, hc⟩ := hv.form
  have hin' : ∀ i : Nat, i < n → ∃ q : Nat, h.getD i 0 + 1 = (q : Int) ∧ q < n + 1 := fun i hi => by
    have := hin _ (List.getElem_mem (l := h) (n := i) (by omega))
    have hg : h.getD i 0 = h[i] := getD_of (List.getElem?_eq_getElem (by omega))
    exact ⟨(h[i] + 1).toNat, by rw [hg]; omega, by omega⟩
  have HV := Lib.hid hv
  have HIN := Lib.hid hin'
  have HFX := Lib.hid (fx_back hin h.length (Nat.le_refl _))
  rw [hn] at hc hl
  have HVN : Hid (Rows 1 EInt w (.slice A n cap) h) := Lib.hid (by rw [hn] at hv; exact hv)
  have HN := Lib.hid hn
  have HREP := Lib.hid (fun (b : Nat) (W : World) (hb : W.heap[b]? = some (.cells #[.int .i64 (-1)] 3 (0, 0))) => by
    have := repeat_any (w := W) b (n + 1) (by omega) hb
    rw [show ((n + 1 : Nat) : Int) = (n : Int) + 1 by omega] at this
    exact this)
  obtain ⟨i1, hi1, hy0, hy1, hy2⟩ := info_parts' Try.infoInt2
  have hmk : ∀ W : World, (Instr.makeSlice 22 (.int .i64 n) (.int .i64 n)).run Try.prog W = .ok (.slice (some ⟨W.heap.size, 0, none⟩) n n) (W.alloc (.cells (intRow (List.replicate n 0)) 3)) := fun W => by
    have := run_make (P := Try.prog) W 22 3 i1 _ Try.underlying22 hi1 hy0 .i64 .i64 n n (by omega) (by omega) (by rw [hy2]; omega) (by omega)
    rw [Int.toNat_natCast, hy1, Nat.mul_one] at this
    rw [← made_int]
    exact this
  have hw1 : IntKind.i64.wrap ((n : Int) + 1) = (n : Int) + 1 := by rw [IntKind.wrap_i64]; omega
  obtain ⟨N0, hN0⟩ : ∃ N, w.heap.size = N := ⟨_, rfl⟩
  have HN0 := Lib.hid hN0
  rw [hn]
  clear hv hin hin' hi1 hy0 hy1 hy2 hn hN0
  refine (callsIn_wide (n := 3)).1 ?_
  refine callsIn_of_wp_marks Try.func31 rfl trivial ?_ rfl
  refine wpIn_wide.2 ?_
  simp only [Try.ntmps31, List.size_toArray, List.length_cons, List.length_nil, Nat.reduceAdd, Nat.reduceSub, Array.replicate_succ, Array.replicate_zero, List.push_toArray, List.append_toArray, List.nil_append, List.cons_append]
  go_upto_region 1 with fail
  rw [HN0.out]
  obtain ⟨X0, hX0⟩ : ∃ X, X = w.alloc (.cells #[.slice none 0 0, .slice none 0 0] 55) := ⟨_, rfl⟩
  rw [← hX0]
  have HR0 := Lib.hid hX0
  clear hX0
  go_cut [3] from 6 to 14 (fun s3 wx => ∃ (p bf bn : Nat), s3 = .pointer (some ⟨p, 0, none⟩) ∧ Hid (ArS N0 w wx p bf bn n (fx0 n).1 (fx0 n).2))
  case first =>
    refine wp_strict ?_
    obtain ⟨X1, hX1⟩ : ∃ X, X0.drew = X := ⟨_, rfl⟩
    have HX1 := Lib.hid hX1
    have HB0 := Lib.hid (show Below X0.heap.size X0 X1 by rw [← hX1]; exact (Below.refl _ _).drew)
    clear hX1
    refine wp_region_held_drew (S := (fun _ => True)) (by kernel_rfl) ?_ (fun hHeld => ?_)
    · (try dsimp only); try exact trivial
    rw [HX1.out]
    refine wpAnyH_take (i := 1) (oi := ?oi1) (v := ?v1) ?hi1 (by kernel_rfl) (by kernel_rfl) (by kernel_rfl) ?hq1 ?hy1 (by assumption) ?hr1
    case hi1 => (simp only [List.getElem?_toArray, List.getElem?_cons_succ, List.getElem?_cons_zero]; rfl)
    case hq1 => exact fun _ _ _ h => h
    case hy1 => exact Or.inl ⟨by rfl, by intro whSw hSw'; (try dsimp only at hSw'); (first | (go_simp; done) | (go_simp; with_reducible rfl))⟩
    try simp only [Act.put, List.setIfInBounds_toArray, List.set_cons_zero, List.set_cons_succ]
    refine wpAnyH_take (i := 2) (oi := ?oi2) (v := ?v2) ?hi2 (by kernel_rfl) (by kernel_rfl) (by kernel_rfl) ?hq2 ?hy2 (by assumption) ?hr2
    case hi2 => (simp only [List.getElem?_toArray, List.getElem?_cons_succ, List.getElem?_cons_zero]; rfl)
    case hq2 => exact fun _ _ _ h => h
    case hy2 => exact Or.inl ⟨by rfl, by intro whSw hSw'; (try dsimp only at hSw'); (first | (go_simp; done) | (go_simp; with_reducible rfl))⟩
    try simp only [Act.put, List.setIfInBounds_toArray, List.set_cons_zero, List.set_cons_succ]
    refine wpAnyH_take (i := 3) (oi := ?oi3) (v := ?v3) ?hi3 (by kernel_rfl) (by kernel_rfl) (by kernel_rfl) ?hq3 ?hy3 (by assumption) ?hr3
    case hi3 => (simp only [List.getElem?_toArray, List.getElem?_cons_succ, List.getElem?_cons_zero]; rfl)
    case hq3 => exact fun _ _ _ h => h
    case hy3 => exact Or.inl ⟨by rfl, by intro whSw hSw'; (try dsimp only at hSw'); (first | (go_simp; done) | (go_simp; with_reducible rfl))⟩
    try simp only [Act.put, List.setIfInBounds_toArray, List.set_cons_zero, List.set_cons_succ]
    refine wpAnyH_take (i := 5) (oi := ?oi4) (v := ?v4) ?hi4 (by kernel_rfl) (by kernel_rfl) (by kernel_rfl) ?hq4 ?hy4 (by assumption) ?hr4
    case hi4 => (simp only [List.getElem?_toArray, List.getElem?_cons_succ, List.getElem?_cons_zero]; rfl)
    case hq4 => exact fun _ _ _ h => h
    case hy4 => exact Or.inl ⟨by rfl, by intro whSw hSw'; (try dsimp only at hSw'); (first | (go_simp; done) | (go_simp; with_reducible rfl))⟩
    try simp only [Act.put, List.setIfInBounds_toArray, List.set_cons_zero, List.set_cons_succ]
    refine wpAnyH_take (i := 6) (oi := ?oi5) (v := ?v5) ?hi5 (by kernel_rfl) (by kernel_rfl) (by kernel_rfl) ?hq5 ?hy5 (by assumption) ?hr5
    case hi5 => (simp only [List.getElem?_toArray, List.getElem?_cons_succ, List.getElem?_cons_zero]; rfl)
    case hq5 => exact fun _ _ _ h => h
    case hy5 => exact Or.inl ⟨by rfl, by intro whSw hSw'; (try dsimp only at hSw'); (first | (go_simp; done) | (go_simp; with_reducible rfl))⟩
    try simp only [Act.put, List.setIfInBounds_toArray, List.set_cons_zero, List.set_cons_succ]
    refine wpAnyH_ready (rs := [0, 7, 9]) (by kernel_rfl) (by simp) ?_
    refine AllReadyH.cons (o := ?oo6) ?hi6 (fun K hK => ?hs6) ?hm6
    case hi6 => (simp only [List.getElem?_toArray, List.getElem?_cons_zero]; rfl)
    · go_simp
      obtain ⟨y1, hy1⟩ : ∃ W', X1.alloc (.cells #[.int .i64 (-1)] 3) = W' := ⟨_, rfl⟩
      rw [hy1]
      have hby1 : Below X1.heap.size X1 y1 := by rw [← hy1]; exact below_box _ _
      have HAy1 := Lib.hid (show y1.heap[X1.heap.size]? = some (.cells #[.int .i64 (-1)] 3 (0, 0)) by rw [← hy1]; exact block_new _ _)
      have HBy1 := Lib.hid (HB0.out.trans (hby1.mono HB0.out.size))
      clear hby1
      refine hK.out _ _ ?_ (fun hHeld => ?_)
      · (try dsimp only); try exact trivial
      clear hK K
      try simp only [Act.put, List.setIfInBounds_toArray, List.set_cons_zero, List.set_cons_succ]
      refine wpAnyH_ready (rs := [4, 7, 9]) (by kernel_rfl) (by simp) ?_
      refine AllReadyH.cons (o := ?oo7) ?hi7 (fun K hK => ?hs7) ?hm7
      case hi7 => (simp only [List.getElem?_toArray, List.getElem?_cons_succ, List.getElem?_cons_zero]; rfl)
      · go_simp
        refine (HREP.out X1.heap.size y1 HAy1.out).mono ?_
        rintro e y2 ⟨rfl, hgy2, hby2⟩
        have HMF := Lib.hid HBy1.out.size
        have HFy2 := Lib.hid hgy2
        have HAy2 := Lib.hid (block_below HAy1.out hby2 (lt_blk HAy1.out))
        have HBy2 := Lib.hid (HBy1.out.trans (hby2.mono HBy1.out.size))
        clear hby2 hgy2
        (try go_wp2_with fail)
        refine hK.out _ _ ?_ (fun hHeld => ?_)
        · (try dsimp only); try exact trivial
        clear hK K
        try simp only [Act.put, List.setIfInBounds_toArray, List.set_cons_zero, List.set_cons_succ]
        refine wpAnyH_ready (rs := [7, 9]) (by kernel_rfl) (by simp) ?_
        refine AllReadyH.cons (o := ?oo8) ?hi8 (fun K hK => ?hs8) ?hm8
        case hi8 => (simp only [List.getElem?_toArray, List.getElem?_cons_succ, List.getElem?_cons_zero]; rfl)
        · go_simp
          obtain ⟨y3, hy3⟩ : ∃ W', y2.alloc (.cells (intRow (List.replicate n 0)) 3) = W' := ⟨_, rfl⟩
          rw [hy3]
          have hby3 : Below y2.heap.size y2 y3 := by rw [← hy3]; exact below_box _ _
          have HMN := Lib.hid HBy2.out.size
          have HNy3 := Lib.hid (show y3.heap[y2.heap.size]? = some (.cells (intRow (List.replicate n 0)) 3 (0, 0)) by rw [← hy3]; exact block_new _ _)
          have HAy3 := Lib.hid (block_below HAy2.out hby3 (lt_blk HAy2.out))
          have HFy3 := Lib.hid (block_below HFy2.out hby3 (lt_blk HFy2.out))
          have HBy3 := Lib.hid (HBy2.out.trans (hby3.mono HBy2.out.size))
          clear hby3
          refine hK.out _ _ ?_ (fun hHeld => ?_)
          · (try dsimp only); try exact trivial
          clear hK K
          try simp only [Act.put, List.setIfInBounds_toArray, List.set_cons_zero, List.set_cons_succ]
          refine wpAnyH_take (i := 8) (oi := ?oi9) (v := ?v9) ?hi9 (by kernel_rfl) (by kernel_rfl) (by kernel_rfl) ?hq9 ?hy9 (by assumption) ?hr9
          case hi9 => (simp only [List.getElem?_toArray, List.getElem?_cons_succ, List.getElem?_cons_zero]; rfl)
          case hq9 => exact fun _ _ _ h => h
          case hy9 => exact Or.inl ⟨by rfl, by intro whSw hSw'; (try dsimp only at hSw'); (first | (go_simp; done) | (go_simp; with_reducible rfl))⟩
          try simp only [Act.put, List.setIfInBounds_toArray, List.set_cons_zero, List.set_cons_succ]
          refine wpAnyH_ready (rs := [9]) (by kernel_rfl) (by simp) ?_
          refine AllReadyH.cons (o := ?oo10) ?hi10 (fun K hK => ?hs10) ?hm10
          case hi10 => (simp only [List.getElem?_toArray, List.getElem?_cons_succ, List.getElem?_cons_zero]; rfl)
          · go_simp
            obtain ⟨y4, hy4⟩ : ∃ W', y3.alloc (.cells #[.slice none 0 0, .slice none 0 0] 55) = W' := ⟨_, rfl⟩
            rw [hy4]
            have hby4 : Below y3.heap.size y3 y4 := by rw [← hy4]; exact below_box _ _
            have HMP := Lib.hid HBy3.out.size
            have HPy4 := Lib.hid (show y4.heap[y3.heap.size]? = some (.cells #[.slice none 0 0, .slice none 0 0] 55 (0, 0)) by rw [← hy4]; exact block_new _ _)
            have HAy4 := Lib.hid (block_below HAy3.out hby4 (lt_blk HAy3.out))
            have HFy4 := Lib.hid (block_below HFy3.out hby4 (lt_blk HFy3.out))
            have HNy4 := Lib.hid (block_below HNy3.out hby4 (lt_blk HNy3.out))
            have HBy4 := Lib.hid (HBy3.out.trans (hby4.mono HBy3.out.size))
            clear hby4
            refine hK.out _ _ ?_ (fun hHeld => ?_)
            · (try dsimp only); try exact trivial
            clear hK K
            try simp only [Act.put, List.setIfInBounds_toArray, List.set_cons_zero, List.set_cons_succ]
            refine wpAnyH_ready (rs := [10]) (by kernel_rfl) (by simp) ?_
            refine AllReadyH.cons (o := ?oo11) ?hi11 (fun K hK => ?hs11) ?hm11
            case hi11 => (simp only [List.getElem?_toArray, List.getElem?_cons_succ, List.getElem?_cons_zero]; rfl)
            · have t0 : y4.cell? ⟨y3.heap.size, 0, none⟩ = some (.slice none 0 0) := cell_of HPy4.out rfl
              have f0 : y4.frozen? ⟨y3.heap.size, 0, none⟩ = false := frozen_of HPy4.out
              have t1 : y4.cell? ⟨y3.heap.size, 1, none⟩ = some (.slice none 0 0) := cell_of HPy4.out rfl
              have f1 : y4.frozen? ⟨y3.heap.size, 1, none⟩ = false := frozen_of HPy4.out
              go_simp
              have HBy5 := HBy4
              have HPy5 := HPy4
              have HFy5 := HFy4
              have HNy5 := HNy4
              refine hK.out _ _ ?_ (fun hHeld => ?_)
              · (try dsimp only); try exact trivial
              clear hK K
              try simp only [Act.put, List.setIfInBounds_toArray, List.set_cons_zero, List.set_cons_succ]
              refine wpAnyH_done (by kernel_rfl) ?_ _
              go_wp2_with fail
              go_meet
              exact ⟨_, _, _, rfl, Lib.hid (ar_start HN0.out HR0.out HBy5.out HPy5.out HFy5.out HNy5.out HMP.out HMF.out HMN.out)⟩
            exact AllReadyH.nil
          exact AllReadyH.nil
        refine AllReadyH.cons (o := ?oo12) ?hi12 (fun K hK => ?hs12) ?hm12
        case hi12 => (simp only [List.getElem?_toArray, List.getElem?_cons_succ, List.getElem?_cons_zero]; rfl)
        · go_simp
          obtain ⟨y6, hy6⟩ : ∃ W', y2.alloc (.cells #[.slice none 0 0, .slice none 0 0] 55) = W' := ⟨_, rfl⟩
          rw [hy6]
          have hby6 : Below y2.heap.size y2 y6 := by rw [← hy6]; exact below_box _ _
          have HMP := Lib.hid HBy2.out.size
          have HPy6 := Lib.hid (show y6.heap[y2.heap.size]? = some (.cells #[.slice none 0 0, .slice none 0 0] 55 (0, 0)) by rw [← hy6]; exact block_new _ _)
          have HAy6 := Lib.hid (block_below HAy2.out hby6 (lt_blk HAy2.out))
          have HFy6 := Lib.hid (block_below HFy2.out hby6 (lt_blk HFy2.out))
          have HBy6 := Lib.hid (HBy2.out.trans (hby6.mono HBy2.out.size))
          clear hby6
          refine hK.out _ _ ?_ (fun hHeld => ?_)
          · (try dsimp only); try exact trivial
          clear hK K
          try simp only [Act.put, List.setIfInBounds_toArray, List.set_cons_zero, List.set_cons_succ]
          refine wpAnyH_ready (rs := [7]) (by kernel_rfl) (by simp) ?_
          refine AllReadyH.cons (o := ?oo13) ?hi13 (fun K hK => ?hs13) ?hm13
          case hi13 => (simp only [List.getElem?_toArray, List.getElem?_cons_succ, List.getElem?_cons_zero]; rfl)
          · go_simp
            obtain ⟨y7, hy7⟩ : ∃ W', y6.alloc (.cells (intRow (List.replicate n 0)) 3) = W' := ⟨_, rfl⟩
            rw [hy7]
            have hby7 : Below y6.heap.size y6 y7 := by rw [← hy7]; exact below_box _ _
            have HMN := Lib.hid HBy6.out.size
            have HNy7 := Lib.hid (show y7.heap[y6.heap.size]? = some (.cells (intRow (List.replicate n 0)) 3 (0, 0)) by rw [← hy7]; exact block_new _ _)
            have HAy7 := Lib.hid (block_below HAy6.out hby7 (lt_blk HAy6.out))
            have HFy7 := Lib.hid (block_below HFy6.out hby7 (lt_blk HFy6.out))
            have HPy7 := Lib.hid (block_below HPy6.out hby7 (lt_blk HPy6.out))
            have HBy7 := Lib.hid (HBy6.out.trans (hby7.mono HBy6.out.size))
            clear hby7
            refine hK.out _ _ ?_ (fun hHeld => ?_)
            · (try dsimp only); try exact trivial
            clear hK K
            try simp only [Act.put, List.setIfInBounds_toArray, List.set_cons_zero, List.set_cons_succ]
            refine wpAnyH_take (i := 8) (oi := ?oi14) (v := ?v14) ?hi14 (by kernel_rfl) (by kernel_rfl) (by kernel_rfl) ?hq14 ?hy14 (by assumption) ?hr14
            case hi14 => (simp only [List.getElem?_toArray, List.getElem?_cons_succ, List.getElem?_cons_zero]; rfl)
            case hq14 => exact fun _ _ _ h => h
            case hy14 => exact Or.inl ⟨by rfl, by intro whSw hSw'; (try dsimp only at hSw'); (first | (go_simp; done) | (go_simp; with_reducible rfl))⟩
            try simp only [Act.put, List.setIfInBounds_toArray, List.set_cons_zero, List.set_cons_succ]
            refine wpAnyH_ready (rs := [10]) (by kernel_rfl) (by simp) ?_
            refine AllReadyH.cons (o := ?oo15) ?hi15 (fun K hK => ?hs15) ?hm15
            case hi15 => (simp only [List.getElem?_toArray, List.getElem?_cons_succ, List.getElem?_cons_zero]; rfl)
            · have t0 : y7.cell? ⟨y2.heap.size, 0, none⟩ = some (.slice none 0 0) := cell_of HPy7.out rfl
              have f0 : y7.frozen? ⟨y2.heap.size, 0, none⟩ = false := frozen_of HPy7.out
              have t1 : y7.cell? ⟨y2.heap.size, 1, none⟩ = some (.slice none 0 0) := cell_of HPy7.out rfl
              have f1 : y7.frozen? ⟨y2.heap.size, 1, none⟩ = false := frozen_of HPy7.out
              go_simp
              have HBy8 := HBy7
              have HPy8 := HPy7
              have HFy8 := HFy7
              have HNy8 := HNy7
              refine hK.out _ _ ?_ (fun hHeld => ?_)
              · (try dsimp only); try exact trivial
              clear hK K
              try simp only [Act.put, List.setIfInBounds_toArray, List.set_cons_zero, List.set_cons_succ]
              refine wpAnyH_done (by kernel_rfl) ?_ _
              go_wp2_with fail
              go_meet
              exact ⟨_, _, _, rfl, Lib.hid (ar_start HN0.out HR0.out HBy8.out HPy8.out HFy8.out HNy8.out HMP.out HMF.out HMN.out)⟩
            exact AllReadyH.nil
          exact AllReadyH.nil
        exact AllReadyH.nil
      refine AllReadyH.cons (o := ?oo16) ?hi16 (fun K hK => ?hs16) ?hm16
      case hi16 => (simp only [List.getElem?_toArray, List.getElem?_cons_succ, List.getElem?_cons_zero]; rfl)
      · go_simp
        obtain ⟨y9, hy9⟩ : ∃ W', y1.alloc (.cells (intRow (List.replicate n 0)) 3) = W' := ⟨_, rfl⟩
        rw [hy9]
        have hby9 : Below y1.heap.size y1 y9 := by rw [← hy9]; exact below_box _ _
        have HMN := Lib.hid HBy1.out.size
        have HNy9 := Lib.hid (show y9.heap[y1.heap.size]? = some (.cells (intRow (List.replicate n 0)) 3 (0, 0)) by rw [← hy9]; exact block_new _ _)
        have HAy9 := Lib.hid (block_below HAy1.out hby9 (lt_blk HAy1.out))
        have HBy9 := Lib.hid (HBy1.out.trans (hby9.mono HBy1.out.size))
        clear hby9
        refine hK.out _ _ ?_ (fun hHeld => ?_)
        · (try dsimp only); try exact trivial
        clear hK K
        try simp only [Act.put, List.setIfInBounds_toArray, List.set_cons_zero, List.set_cons_succ]
        refine wpAnyH_ready (rs := [4, 9]) (by kernel_rfl) (by simp) ?_
        refine AllReadyH.cons (o := ?oo17) ?hi17 (fun K hK => ?hs17) ?hm17
        case hi17 => (simp only [List.getElem?_toArray, List.getElem?_cons_succ, List.getElem?_cons_zero]; rfl)
        · go_simp
          refine (HREP.out X1.heap.size y9 HAy9.out).mono ?_
          rintro e y10 ⟨rfl, hgy10, hby10⟩
          have HMF := Lib.hid HBy9.out.size
          have HFy10 := Lib.hid hgy10
          have HAy10 := Lib.hid (block_below HAy9.out hby10 (lt_blk HAy9.out))
          have HNy10 := Lib.hid (block_below HNy9.out hby10 (lt_blk HNy9.out))
          have HBy10 := Lib.hid (HBy9.out.trans (hby10.mono HBy9.out.size))
          clear hby10 hgy10
          (try go_wp2_with fail)
          refine hK.out _ _ ?_ (fun hHeld => ?_)
          · (try dsimp only); try exact trivial
          clear hK K
          try simp only [Act.put, List.setIfInBounds_toArray, List.set_cons_zero, List.set_cons_succ]
          refine wpAnyH_take (i := 8) (oi := ?oi18) (v := ?v18) ?hi18 (by kernel_rfl) (by kernel_rfl) (by kernel_rfl) ?hq18 ?hy18 (by assumption) ?hr18
          case hi18 => (simp only [List.getElem?_toArray, List.getElem?_cons_succ, List.getElem?_cons_zero]; rfl)
          case hq18 => exact fun _ _ _ h => h
          case hy18 => exact Or.inl ⟨by rfl, by intro whSw hSw'; (try dsimp only at hSw'); (first | (go_simp; done) | (go_simp; with_reducible rfl))⟩
          try simp only [Act.put, List.setIfInBounds_toArray, List.set_cons_zero, List.set_cons_succ]
          refine wpAnyH_ready (rs := [9]) (by kernel_rfl) (by simp) ?_
          refine AllReadyH.cons (o := ?oo19) ?hi19 (fun K hK => ?hs19) ?hm19
          case hi19 => (simp only [List.getElem?_toArray, List.getElem?_cons_succ, List.getElem?_cons_zero]; rfl)
          · go_simp
            obtain ⟨y11, hy11⟩ : ∃ W', y10.alloc (.cells #[.slice none 0 0, .slice none 0 0] 55) = W' := ⟨_, rfl⟩
            rw [hy11]
            have hby11 : Below y10.heap.size y10 y11 := by rw [← hy11]; exact below_box _ _
            have HMP := Lib.hid HBy10.out.size
            have HPy11 := Lib.hid (show y11.heap[y10.heap.size]? = some (.cells #[.slice none 0 0, .slice none 0 0] 55 (0, 0)) by rw [← hy11]; exact block_new _ _)
            have HAy11 := Lib.hid (block_below HAy10.out hby11 (lt_blk HAy10.out))
            have HFy11 := Lib.hid (block_below HFy10.out hby11 (lt_blk HFy10.out))
            have HNy11 := Lib.hid (block_below HNy10.out hby11 (lt_blk HNy10.out))
            have HBy11 := Lib.hid (HBy10.out.trans (hby11.mono HBy10.out.size))
            clear hby11
            refine hK.out _ _ ?_ (fun hHeld => ?_)
            · (try dsimp only); try exact trivial
            clear hK K
            try simp only [Act.put, List.setIfInBounds_toArray, List.set_cons_zero, List.set_cons_succ]
            refine wpAnyH_ready (rs := [10]) (by kernel_rfl) (by simp) ?_
            refine AllReadyH.cons (o := ?oo20) ?hi20 (fun K hK => ?hs20) ?hm20
            case hi20 => (simp only [List.getElem?_toArray, List.getElem?_cons_succ, List.getElem?_cons_zero]; rfl)
            · have t0 : y11.cell? ⟨y10.heap.size, 0, none⟩ = some (.slice none 0 0) := cell_of HPy11.out rfl
              have f0 : y11.frozen? ⟨y10.heap.size, 0, none⟩ = false := frozen_of HPy11.out
              have t1 : y11.cell? ⟨y10.heap.size, 1, none⟩ = some (.slice none 0 0) := cell_of HPy11.out rfl
              have f1 : y11.frozen? ⟨y10.heap.size, 1, none⟩ = false := frozen_of HPy11.out
              go_simp
              have HBy12 := HBy11
              have HPy12 := HPy11
              have HFy12 := HFy11
              have HNy12 := HNy11
              refine hK.out _ _ ?_ (fun hHeld => ?_)
              · (try dsimp only); try exact trivial
              clear hK K
              try simp only [Act.put, List.setIfInBounds_toArray, List.set_cons_zero, List.set_cons_succ]
              refine wpAnyH_done (by kernel_rfl) ?_ _
              go_wp2_with fail
              go_meet
              exact ⟨_, _, _, rfl, Lib.hid (ar_start HN0.out HR0.out HBy12.out HPy12.out HFy12.out HNy12.out HMP.out HMF.out HMN.out)⟩
            exact AllReadyH.nil
          exact AllReadyH.nil
        refine AllReadyH.cons (o := ?oo21) ?hi21 (fun K hK => ?hs21) ?hm21
        case hi21 => (simp only [List.getElem?_toArray, List.getElem?_cons_succ, List.getElem?_cons_zero]; rfl)
        · go_simp
          obtain ⟨y13, hy13⟩ : ∃ W', y9.alloc (.cells #[.slice none 0 0, .slice none 0 0] 55) = W' := ⟨_, rfl⟩
          rw [hy13]
          have hby13 : Below y9.heap.size y9 y13 := by rw [← hy13]; exact below_box _ _
          have HMP := Lib.hid HBy9.out.size
          have HPy13 := Lib.hid (show y13.heap[y9.heap.size]? = some (.cells #[.slice none 0 0, .slice none 0 0] 55 (0, 0)) by rw [← hy13]; exact block_new _ _)
          have HAy13 := Lib.hid (block_below HAy9.out hby13 (lt_blk HAy9.out))
          have HNy13 := Lib.hid (block_below HNy9.out hby13 (lt_blk HNy9.out))
          have HBy13 := Lib.hid (HBy9.out.trans (hby13.mono HBy9.out.size))
          clear hby13
          refine hK.out _ _ ?_ (fun hHeld => ?_)
          · (try dsimp only); try exact trivial
          clear hK K
          try simp only [Act.put, List.setIfInBounds_toArray, List.set_cons_zero, List.set_cons_succ]
          refine wpAnyH_ready (rs := [4]) (by kernel_rfl) (by simp) ?_
          refine AllReadyH.cons (o := ?oo22) ?hi22 (fun K hK => ?hs22) ?hm22
          case hi22 => (simp only [List.getElem?_toArray, List.getElem?_cons_succ, List.getElem?_cons_zero]; rfl)
          · go_simp
            refine (HREP.out X1.heap.size y13 HAy13.out).mono ?_
            rintro e y14 ⟨rfl, hgy14, hby14⟩
            have HMF := Lib.hid HBy13.out.size
            have HFy14 := Lib.hid hgy14
            have HAy14 := Lib.hid (block_below HAy13.out hby14 (lt_blk HAy13.out))
            have HNy14 := Lib.hid (block_below HNy13.out hby14 (lt_blk HNy13.out))
            have HPy14 := Lib.hid (block_below HPy13.out hby14 (lt_blk HPy13.out))
            have HBy14 := Lib.hid (HBy13.out.trans (hby14.mono HBy13.out.size))
            clear hby14 hgy14
            (try go_wp2_with fail)
            refine hK.out _ _ ?_ (fun hHeld => ?_)
            · (try dsimp only); try exact trivial
            clear hK K
            try simp only [Act.put, List.setIfInBounds_toArray, List.set_cons_zero, List.set_cons_succ]
            refine wpAnyH_take (i := 8) (oi := ?oi23) (v := ?v23) ?hi23 (by kernel_rfl) (by kernel_rfl) (by kernel_rfl) ?hq23 ?hy23 (by assumption) ?hr23
            case hi23 => (simp only [List.getElem?_toArray, List.getElem?_cons_succ, List.getElem?_cons_zero]; rfl)
            case hq23 => exact fun _ _ _ h => h
            case hy23 => exact Or.inl ⟨by rfl, by intro whSw hSw'; (try dsimp only at hSw'); (first | (go_simp; done) | (go_simp; with_reducible rfl))⟩
            try simp only [Act.put, List.setIfInBounds_toArray, List.set_cons_zero, List.set_cons_succ]
            refine wpAnyH_ready (rs := [10]) (by kernel_rfl) (by simp) ?_
            refine AllReadyH.cons (o := ?oo24) ?hi24 (fun K hK => ?hs24) ?hm24
            case hi24 => (simp only [List.getElem?_toArray, List.getElem?_cons_succ, List.getElem?_cons_zero]; rfl)
            · have t0 : y14.cell? ⟨y9.heap.size, 0, none⟩ = some (.slice none 0 0) := cell_of HPy14.out rfl
              have f0 : y14.frozen? ⟨y9.heap.size, 0, none⟩ = false := frozen_of HPy14.out
              have t1 : y14.cell? ⟨y9.heap.size, 1, none⟩ = some (.slice none 0 0) := cell_of HPy14.out rfl
              have f1 : y14.frozen? ⟨y9.heap.size, 1, none⟩ = false := frozen_of HPy14.out
              go_simp
              have HBy15 := HBy14
              have HPy15 := HPy14
              have HFy15 := HFy14
              have HNy15 := HNy14
              refine hK.out _ _ ?_ (fun hHeld => ?_)
              · (try dsimp only); try exact trivial
              clear hK K
              try simp only [Act.put, List.setIfInBounds_toArray, List.set_cons_zero, List.set_cons_succ]
              refine wpAnyH_done (by kernel_rfl) ?_ _
              go_wp2_with fail
              go_meet
              exact ⟨_, _, _, rfl, Lib.hid (ar_start HN0.out HR0.out HBy15.out HPy15.out HFy15.out HNy15.out HMP.out HMF.out HMN.out)⟩
            exact AllReadyH.nil
          exact AllReadyH.nil
        exact AllReadyH.nil
      refine AllReadyH.cons (o := ?oo25) ?hi25 (fun K hK => ?hs25) ?hm25
      case hi25 => (simp only [List.getElem?_toArray, List.getElem?_cons_succ, List.getElem?_cons_zero]; rfl)
      · go_simp
        obtain ⟨y16, hy16⟩ : ∃ W', y1.alloc (.cells #[.slice none 0 0, .slice none 0 0] 55) = W' := ⟨_, rfl⟩
        rw [hy16]
        have hby16 : Below y1.heap.size y1 y16 := by rw [← hy16]; exact below_box _ _
        have HMP := Lib.hid HBy1.out.size
        have HPy16 := Lib.hid (show y16.heap[y1.heap.size]? = some (.cells #[.slice none 0 0, .slice none 0 0] 55 (0, 0)) by rw [← hy16]; exact block_new _ _)
        have HAy16 := Lib.hid (block_below HAy1.out hby16 (lt_blk HAy1.out))
        have HBy16 := Lib.hid (HBy1.out.trans (hby16.mono HBy1.out.size))
        clear hby16
        refine hK.out _ _ ?_ (fun hHeld => ?_)
        · (try dsimp only); try exact trivial
        clear hK K
        try simp only [Act.put, List.setIfInBounds_toArray, List.set_cons_zero, List.set_cons_succ]
        refine wpAnyH_ready (rs := [4, 7]) (by kernel_rfl) (by simp) ?_
        refine AllReadyH.cons (o := ?oo26) ?hi26 (fun K hK => ?hs26) ?hm26
        case hi26 => (simp only [List.getElem?_toArray, List.getElem?_cons_succ, List.getElem?_cons_zero]; rfl)
        · go_simp
          refine (HREP.out X1.heap.size y16 HAy16.out).mono ?_
          rintro e y17 ⟨rfl, hgy17, hby17⟩
          have HMF := Lib.hid HBy16.out.size
          have HFy17 := Lib.hid hgy17
          have HAy17 := Lib.hid (block_below HAy16.out hby17 (lt_blk HAy16.out))
          have HPy17 := Lib.hid (block_below HPy16.out hby17 (lt_blk HPy16.out))
          have HBy17 := Lib.hid (HBy16.out.trans (hby17.mono HBy16.out.size))
          clear hby17 hgy17
          (try go_wp2_with fail)
          refine hK.out _ _ ?_ (fun hHeld => ?_)
          · (try dsimp only); try exact trivial
          clear hK K
          try simp only [Act.put, List.setIfInBounds_toArray, List.set_cons_zero, List.set_cons_succ]
          refine wpAnyH_ready (rs := [7]) (by kernel_rfl) (by simp) ?_
          refine AllReadyH.cons (o := ?oo27) ?hi27 (fun K hK => ?hs27) ?hm27
          case hi27 => (simp only [List.getElem?_toArray, List.getElem?_cons_succ, List.getElem?_cons_zero]; rfl)
          · go_simp
            obtain ⟨y18, hy18⟩ : ∃ W', y17.alloc (.cells (intRow (List.replicate n 0)) 3) = W' := ⟨_, rfl⟩
            rw [hy18]
            have hby18 : Below y17.heap.size y17 y18 := by rw [← hy18]; exact below_box _ _
            have HMN := Lib.hid HBy17.out.size
            have HNy18 := Lib.hid (show y18.heap[y17.heap.size]? = some (.cells (intRow (List.replicate n 0)) 3 (0, 0)) by rw [← hy18]; exact block_new _ _)
            have HAy18 := Lib.hid (block_below HAy17.out hby18 (lt_blk HAy17.out))
            have HFy18 := Lib.hid (block_below HFy17.out hby18 (lt_blk HFy17.out))
            have HPy18 := Lib.hid (block_below HPy17.out hby18 (lt_blk HPy17.out))
            have HBy18 := Lib.hid (HBy17.out.trans (hby18.mono HBy17.out.size))
            clear hby18
            refine hK.out _ _ ?_ (fun hHeld => ?_)
            · (try dsimp only); try exact trivial
            clear hK K
            try simp only [Act.put, List.setIfInBounds_toArray, List.set_cons_zero, List.set_cons_succ]
            refine wpAnyH_take (i := 8) (oi := ?oi28) (v := ?v28) ?hi28 (by kernel_rfl) (by kernel_rfl) (by kernel_rfl) ?hq28 ?hy28 (by assumption) ?hr28
            case hi28 => (simp only [List.getElem?_toArray, List.getElem?_cons_succ, List.getElem?_cons_zero]; rfl)
            case hq28 => exact fun _ _ _ h => h
            case hy28 => exact Or.inl ⟨by rfl, by intro whSw hSw'; (try dsimp only at hSw'); (first | (go_simp; done) | (go_simp; with_reducible rfl))⟩
            try simp only [Act.put, List.setIfInBounds_toArray, List.set_cons_zero, List.set_cons_succ]
            refine wpAnyH_ready (rs := [10]) (by kernel_rfl) (by simp) ?_
            refine AllReadyH.cons (o := ?oo29) ?hi29 (fun K hK => ?hs29) ?hm29
            case hi29 => (simp only [List.getElem?_toArray, List.getElem?_cons_succ, List.getElem?_cons_zero]; rfl)
            · have t0 : y18.cell? ⟨y1.heap.size, 0, none⟩ = some (.slice none 0 0) := cell_of HPy18.out rfl
              have f0 : y18.frozen? ⟨y1.heap.size, 0, none⟩ = false := frozen_of HPy18.out
              have t1 : y18.cell? ⟨y1.heap.size, 1, none⟩ = some (.slice none 0 0) := cell_of HPy18.out rfl
              have f1 : y18.frozen? ⟨y1.heap.size, 1, none⟩ = false := frozen_of HPy18.out
              go_simp
              have HBy19 := HBy18
              have HPy19 := HPy18
              have HFy19 := HFy18
              have HNy19 := HNy18
              refine hK.out _ _ ?_ (fun hHeld => ?_)
              · (try dsimp only); try exact trivial
              clear hK K
              try simp only [Act.put, List.setIfInBounds_toArray, List.set_cons_zero, List.set_cons_succ]
              refine wpAnyH_done (by kernel_rfl) ?_ _
              go_wp2_with fail
              go_meet
              exact ⟨_, _, _, rfl, Lib.hid (ar_start HN0.out HR0.out HBy19.out HPy19.out HFy19.out HNy19.out HMP.out HMF.out HMN.out)⟩
            exact AllReadyH.nil
          exact AllReadyH.nil
        refine AllReadyH.cons (o := ?oo30) ?hi30 (fun K hK => ?hs30) ?hm30
        case hi30 => (simp only [List.getElem?_toArray, List.getElem?_cons_succ, List.getElem?_cons_zero]; rfl)
        · go_simp
          obtain ⟨y20, hy20⟩ : ∃ W', y16.alloc (.cells (intRow (List.replicate n 0)) 3) = W' := ⟨_, rfl⟩
          rw [hy20]
          have hby20 : Below y16.heap.size y16 y20 := by rw [← hy20]; exact below_box _ _
          have HMN := Lib.hid HBy16.out.size
          have HNy20 := Lib.hid (show y20.heap[y16.heap.size]? = some (.cells (intRow (List.replicate n 0)) 3 (0, 0)) by rw [← hy20]; exact block_new _ _)
          have HAy20 := Lib.hid (block_below HAy16.out hby20 (lt_blk HAy16.out))
          have HPy20 := Lib.hid (block_below HPy16.out hby20 (lt_blk HPy16.out))
          have HBy20 := Lib.hid (HBy16.out.trans (hby20.mono HBy16.out.size))
          clear hby20
          refine hK.out _ _ ?_ (fun hHeld => ?_)
          · (try dsimp only); try exact trivial
          clear hK K
          try simp only [Act.put, List.setIfInBounds_toArray, List.set_cons_zero, List.set_cons_succ]
          refine wpAnyH_ready (rs := [4]) (by kernel_rfl) (by simp) ?_
          refine AllReadyH.cons (o := ?oo31) ?hi31 (fun K hK => ?hs31) ?hm31
          case hi31 => (simp only [List.getElem?_toArray, List.getElem?_cons_succ, List.getElem?_cons_zero]; rfl)
          · go_simp
            refine (HREP.out X1.heap.size y20 HAy20.out).mono ?_
            rintro e y21 ⟨rfl, hgy21, hby21⟩
            have HMF := Lib.hid HBy20.out.size
            have HFy21 := Lib.hid hgy21
            have HAy21 := Lib.hid (block_below HAy20.out hby21 (lt_blk HAy20.out))
            have HNy21 := Lib.hid (block_below HNy20.out hby21 (lt_blk HNy20.out))
            have HPy21 := Lib.hid (block_below HPy20.out hby21 (lt_blk HPy20.out))
            have HBy21 := Lib.hid (HBy20.out.trans (hby21.mono HBy20.out.size))
            clear hby21 hgy21
            (try go_wp2_with fail)
            refine hK.out _ _ ?_ (fun hHeld => ?_)
            · (try dsimp only); try exact trivial
            clear hK K
            try simp only [Act.put, List.setIfInBounds_toArray, List.set_cons_zero, List.set_cons_succ]
            refine wpAnyH_take (i := 8) (oi := ?oi32) (v := ?v32) ?hi32 (by kernel_rfl) (by kernel_rfl) (by kernel_rfl) ?hq32 ?hy32 (by assumption) ?hr32
            case hi32 => (simp only [List.getElem?_toArray, List.getElem?_cons_succ, List.getElem?_cons_zero]; rfl)
            case hq32 => exact fun _ _ _ h => h
            case hy32 => exact Or.inl ⟨by rfl, by intro whSw hSw'; (try dsimp only at hSw'); (first | (go_simp; done) | (go_simp; with_reducible rfl))⟩
            try simp only [Act.put, List.setIfInBounds_toArray, List.set_cons_zero, List.set_cons_succ]
            refine wpAnyH_ready (rs := [10]) (by kernel_rfl) (by simp) ?_
            refine AllReadyH.cons (o := ?oo33) ?hi33 (fun K hK => ?hs33) ?hm33
            case hi33 => (simp only [List.getElem?_toArray, List.getElem?_cons_succ, List.getElem?_cons_zero]; rfl)
            · have t0 : y21.cell? ⟨y1.heap.size, 0, none⟩ = some (.slice none 0 0) := cell_of HPy21.out rfl
              have f0 : y21.frozen? ⟨y1.heap.size, 0, none⟩ = false := frozen_of HPy21.out
              have t1 : y21.cell? ⟨y1.heap.size, 1, none⟩ = some (.slice none 0 0) := cell_of HPy21.out rfl
              have f1 : y21.frozen? ⟨y1.heap.size, 1, none⟩ = false := frozen_of HPy21.out
              go_simp
              have HBy22 := HBy21
              have HPy22 := HPy21
              have HFy22 := HFy21
              have HNy22 := HNy21
              refine hK.out _ _ ?_ (fun hHeld => ?_)
              · (try dsimp only); try exact trivial
              clear hK K
              try simp only [Act.put, List.setIfInBounds_toArray, List.set_cons_zero, List.set_cons_succ]
              refine wpAnyH_done (by kernel_rfl) ?_ _
              go_wp2_with fail
              go_meet
              exact ⟨_, _, _, rfl, Lib.hid (ar_start HN0.out HR0.out HBy22.out HPy22.out HFy22.out HNy22.out HMP.out HMF.out HMN.out)⟩
            exact AllReadyH.nil
          exact AllReadyH.nil
        exact AllReadyH.nil
      exact AllReadyH.nil
    refine AllReadyH.cons (o := ?oo34) ?hi34 (fun K hK => ?hs34) ?hm34
    case hi34 => (simp only [List.getElem?_toArray, List.getElem?_cons_succ, List.getElem?_cons_zero]; rfl)
    · go_simp
      obtain ⟨y23, hy23⟩ : ∃ W', X1.alloc (.cells (intRow (List.replicate n 0)) 3) = W' := ⟨_, rfl⟩
      rw [hy23]
      have hby23 : Below X1.heap.size X1 y23 := by rw [← hy23]; exact below_box _ _
      have HMN := Lib.hid HB0.out.size
      have HNy23 := Lib.hid (show y23.heap[X1.heap.size]? = some (.cells (intRow (List.replicate n 0)) 3 (0, 0)) by rw [← hy23]; exact block_new _ _)
      have HBy23 := Lib.hid (HB0.out.trans (hby23.mono HB0.out.size))
      clear hby23
      refine hK.out _ _ ?_ (fun hHeld => ?_)
      · (try dsimp only); try exact trivial
      clear hK K
      try simp only [Act.put, List.setIfInBounds_toArray, List.set_cons_zero, List.set_cons_succ]
      refine wpAnyH_ready (rs := [0, 9]) (by kernel_rfl) (by simp) ?_
      refine AllReadyH.cons (o := ?oo35) ?hi35 (fun K hK => ?hs35) ?hm35
      case hi35 => (simp only [List.getElem?_toArray, List.getElem?_cons_zero]; rfl)
      · go_simp
        obtain ⟨y24, hy24⟩ : ∃ W', y23.alloc (.cells #[.int .i64 (-1)] 3) = W' := ⟨_, rfl⟩
        rw [hy24]
        have hby24 : Below y23.heap.size y23 y24 := by rw [← hy24]; exact below_box _ _
        have HAy24 := Lib.hid (show y24.heap[y23.heap.size]? = some (.cells #[.int .i64 (-1)] 3 (0, 0)) by rw [← hy24]; exact block_new _ _)
        have HNy24 := Lib.hid (block_below HNy23.out hby24 (lt_blk HNy23.out))
        have HBy24 := Lib.hid (HBy23.out.trans (hby24.mono HBy23.out.size))
        clear hby24
        refine hK.out _ _ ?_ (fun hHeld => ?_)
        · (try dsimp only); try exact trivial
        clear hK K
        try simp only [Act.put, List.setIfInBounds_toArray, List.set_cons_zero, List.set_cons_succ]
        refine wpAnyH_ready (rs := [4, 9]) (by kernel_rfl) (by simp) ?_
        refine AllReadyH.cons (o := ?oo36) ?hi36 (fun K hK => ?hs36) ?hm36
        case hi36 => (simp only [List.getElem?_toArray, List.getElem?_cons_succ, List.getElem?_cons_zero]; rfl)
        · go_simp
          refine (HREP.out y23.heap.size y24 HAy24.out).mono ?_
          rintro e y25 ⟨rfl, hgy25, hby25⟩
          have HMF := Lib.hid HBy24.out.size
          have HFy25 := Lib.hid hgy25
          have HAy25 := Lib.hid (block_below HAy24.out hby25 (lt_blk HAy24.out))
          have HNy25 := Lib.hid (block_below HNy24.out hby25 (lt_blk HNy24.out))
          have HBy25 := Lib.hid (HBy24.out.trans (hby25.mono HBy24.out.size))
          clear hby25 hgy25
          (try go_wp2_with fail)
          refine hK.out _ _ ?_ (fun hHeld => ?_)
          · (try dsimp only); try exact trivial
          clear hK K
          try simp only [Act.put, List.setIfInBounds_toArray, List.set_cons_zero, List.set_cons_succ]
          refine wpAnyH_take (i := 8) (oi := ?oi37) (v := ?v37) ?hi37 (by kernel_rfl) (by kernel_rfl) (by kernel_rfl) ?hq37 ?hy37 (by assumption) ?hr37
          case hi37 => (simp only [List.getElem?_toArray, List.getElem?_cons_succ, List.getElem?_cons_zero]; rfl)
          case hq37 => exact fun _ _ _ h => h
          case hy37 => exact Or.inl ⟨by rfl, by intro whSw hSw'; (try dsimp only at hSw'); (first | (go_simp; done) | (go_simp; with_reducible rfl))⟩
          try simp only [Act.put, List.setIfInBounds_toArray, List.set_cons_zero, List.set_cons_succ]
          refine wpAnyH_ready (rs := [9]) (by kernel_rfl) (by simp) ?_
          refine AllReadyH.cons (o := ?oo38) ?hi38 (fun K hK => ?hs38) ?hm38
          case hi38 => (simp only [List.getElem?_toArray, List.getElem?_cons_succ, List.getElem?_cons_zero]; rfl)
          · go_simp
            obtain ⟨y26, hy26⟩ : ∃ W', y25.alloc (.cells #[.slice none 0 0, .slice none 0 0] 55) = W' := ⟨_, rfl⟩
            rw [hy26]
            have hby26 : Below y25.heap.size y25 y26 := by rw [← hy26]; exact below_box _ _
            have HMP := Lib.hid HBy25.out.size
            have HPy26 := Lib.hid (show y26.heap[y25.heap.size]? = some (.cells #[.slice none 0 0, .slice none 0 0] 55 (0, 0)) by rw [← hy26]; exact block_new _ _)
            have HAy26 := Lib.hid (block_below HAy25.out hby26 (lt_blk HAy25.out))
            have HFy26 := Lib.hid (block_below HFy25.out hby26 (lt_blk HFy25.out))
            have HNy26 := Lib.hid (block_below HNy25.out hby26 (lt_blk HNy25.out))
            have HBy26 := Lib.hid (HBy25.out.trans (hby26.mono HBy25.out.size))
            clear hby26
            refine hK.out _ _ ?_ (fun hHeld => ?_)
            · (try dsimp only); try exact trivial
            clear hK K
            try simp only [Act.put, List.setIfInBounds_toArray, List.set_cons_zero, List.set_cons_succ]
            refine wpAnyH_ready (rs := [10]) (by kernel_rfl) (by simp) ?_
            refine AllReadyH.cons (o := ?oo39) ?hi39 (fun K hK => ?hs39) ?hm39
            case hi39 => (simp only [List.getElem?_toArray, List.getElem?_cons_succ, List.getElem?_cons_zero]; rfl)
            · have t0 : y26.cell? ⟨y25.heap.size, 0, none⟩ = some (.slice none 0 0) := cell_of HPy26.out rfl
              have f0 : y26.frozen? ⟨y25.heap.size, 0, none⟩ = false := frozen_of HPy26.out
              have t1 : y26.cell? ⟨y25.heap.size, 1, none⟩ = some (.slice none 0 0) := cell_of HPy26.out rfl
              have f1 : y26.frozen? ⟨y25.heap.size, 1, none⟩ = false := frozen_of HPy26.out
              go_simp
              have HBy27 := HBy26
              have HPy27 := HPy26
              have HFy27 := HFy26
              have HNy27 := HNy26
              refine hK.out _ _ ?_ (fun hHeld => ?_)
              · (try dsimp only); try exact trivial
              clear hK K
              try simp only [Act.put, List.setIfInBounds_toArray, List.set_cons_zero, List.set_cons_succ]
              refine wpAnyH_done (by kernel_rfl) ?_ _
              go_wp2_with fail
              go_meet
              exact ⟨_, _, _, rfl, Lib.hid (ar_start HN0.out HR0.out HBy27.out HPy27.out HFy27.out HNy27.out HMP.out HMF.out HMN.out)⟩
            exact AllReadyH.nil
          exact AllReadyH.nil
        refine AllReadyH.cons (o := ?oo40) ?hi40 (fun K hK => ?hs40) ?hm40
        case hi40 => (simp only [List.getElem?_toArray, List.getElem?_cons_succ, List.getElem?_cons_zero]; rfl)
        · go_simp
          obtain ⟨y28, hy28⟩ : ∃ W', y24.alloc (.cells #[.slice none 0 0, .slice none 0 0] 55) = W' := ⟨_, rfl⟩
          rw [hy28]
          have hby28 : Below y24.heap.size y24 y28 := by rw [← hy28]; exact below_box _ _
          have HMP := Lib.hid HBy24.out.size
          have HPy28 := Lib.hid (show y28.heap[y24.heap.size]? = some (.cells #[.slice none 0 0, .slice none 0 0] 55 (0, 0)) by rw [← hy28]; exact block_new _ _)
          have HAy28 := Lib.hid (block_below HAy24.out hby28 (lt_blk HAy24.out))
          have HNy28 := Lib.hid (block_below HNy24.out hby28 (lt_blk HNy24.out))
          have HBy28 := Lib.hid (HBy24.out.trans (hby28.mono HBy24.out.size))
          clear hby28
          refine hK.out _ _ ?_ (fun hHeld => ?_)
          · (try dsimp only); try exact trivial
          clear hK K
          try simp only [Act.put, List.setIfInBounds_toArray, List.set_cons_zero, List.set_cons_succ]
          refine wpAnyH_ready (rs := [4]) (by kernel_rfl) (by simp) ?_
          refine AllReadyH.cons (o := ?oo41) ?hi41 (fun K hK => ?hs41) ?hm41
          case hi41 => (simp only [List.getElem?_toArray, List.getElem?_cons_succ, List.getElem?_cons_zero]; rfl)
          · go_simp
            refine (HREP.out y23.heap.size y28 HAy28.out).mono ?_
            rintro e y29 ⟨rfl, hgy29, hby29⟩
            have HMF := Lib.hid HBy28.out.size
            have HFy29 := Lib.hid hgy29
            have HAy29 := Lib.hid (block_below HAy28.out hby29 (lt_blk HAy28.out))
            have HNy29 := Lib.hid (block_below HNy28.out hby29 (lt_blk HNy28.out))
            have HPy29 := Lib.hid (block_below HPy28.out hby29 (lt_blk HPy28.out))
            have HBy29 := Lib.hid (HBy28.out.trans (hby29.mono HBy28.out.size))
            clear hby29 hgy29
            (try go_wp2_with fail)
            refine hK.out _ _ ?_ (fun hHeld => ?_)
            · (try dsimp only); try exact trivial
            clear hK K
            try simp only [Act.put, List.setIfInBounds_toArray, List.set_cons_zero, List.set_cons_succ]
            refine wpAnyH_take (i := 8) (oi := ?oi42) (v := ?v42) ?hi42 (by kernel_rfl) (by kernel_rfl) (by kernel_rfl) ?hq42 ?hy42 (by assumption) ?hr42
            case hi42 => (simp only [List.getElem?_toArray, List.getElem?_cons_succ, List.getElem?_cons_zero]; rfl)
            case hq42 => exact fun _ _ _ h => h
            case hy42 => exact Or.inl ⟨by rfl, by intro whSw hSw'; (try dsimp only at hSw'); (first | (go_simp; done) | (go_simp; with_reducible rfl))⟩
            try simp only [Act.put, List.setIfInBounds_toArray, List.set_cons_zero, List.set_cons_succ]
            refine wpAnyH_ready (rs := [10]) (by kernel_rfl) (by simp) ?_
            refine AllReadyH.cons (o := ?oo43) ?hi43 (fun K hK => ?hs43) ?hm43
            case hi43 => (simp only [List.getElem?_toArray, List.getElem?_cons_succ, List.getElem?_cons_zero]; rfl)
            · have t0 : y29.cell? ⟨y24.heap.size, 0, none⟩ = some (.slice none 0 0) := cell_of HPy29.out rfl
              have f0 : y29.frozen? ⟨y24.heap.size, 0, none⟩ = false := frozen_of HPy29.out
              have t1 : y29.cell? ⟨y24.heap.size, 1, none⟩ = some (.slice none 0 0) := cell_of HPy29.out rfl
              have f1 : y29.frozen? ⟨y24.heap.size, 1, none⟩ = false := frozen_of HPy29.out
              go_simp
              have HBy30 := HBy29
              have HPy30 := HPy29
              have HFy30 := HFy29
              have HNy30 := HNy29
              refine hK.out _ _ ?_ (fun hHeld => ?_)
              · (try dsimp only); try exact trivial
              clear hK K
              try simp only [Act.put, List.setIfInBounds_toArray, List.set_cons_zero, List.set_cons_succ]
              refine wpAnyH_done (by kernel_rfl) ?_ _
              go_wp2_with fail
              go_meet
              exact ⟨_, _, _, rfl, Lib.hid (ar_start HN0.out HR0.out HBy30.out HPy30.out HFy30.out HNy30.out HMP.out HMF.out HMN.out)⟩
            exact AllReadyH.nil
          exact AllReadyH.nil
        exact AllReadyH.nil
      refine AllReadyH.cons (o := ?oo44) ?hi44 (fun K hK => ?hs44) ?hm44
      case hi44 => (simp only [List.getElem?_toArray, List.getElem?_cons_succ, List.getElem?_cons_zero]; rfl)
      · go_simp
        obtain ⟨y31, hy31⟩ : ∃ W', y23.alloc (.cells #[.slice none 0 0, .slice none 0 0] 55) = W' := ⟨_, rfl⟩
        rw [hy31]
        have hby31 : Below y23.heap.size y23 y31 := by rw [← hy31]; exact below_box _ _
        have HMP := Lib.hid HBy23.out.size
        have HPy31 := Lib.hid (show y31.heap[y23.heap.size]? = some (.cells #[.slice none 0 0, .slice none 0 0] 55 (0, 0)) by rw [← hy31]; exact block_new _ _)
        have HNy31 := Lib.hid (block_below HNy23.out hby31 (lt_blk HNy23.out))
        have HBy31 := Lib.hid (HBy23.out.trans (hby31.mono HBy23.out.size))
        clear hby31
        refine hK.out _ _ ?_ (fun hHeld => ?_)
        · (try dsimp only); try exact trivial
        clear hK K
        try simp only [Act.put, List.setIfInBounds_toArray, List.set_cons_zero, List.set_cons_succ]
        refine wpAnyH_ready (rs := [0]) (by kernel_rfl) (by simp) ?_
        refine AllReadyH.cons (o := ?oo45) ?hi45 (fun K hK => ?hs45) ?hm45
        case hi45 => (simp only [List.getElem?_toArray, List.getElem?_cons_zero]; rfl)
        · go_simp
          obtain ⟨y32, hy32⟩ : ∃ W', y31.alloc (.cells #[.int .i64 (-1)] 3) = W' := ⟨_, rfl⟩
          rw [hy32]
          have hby32 : Below y31.heap.size y31 y32 := by rw [← hy32]; exact below_box _ _
          have HAy32 := Lib.hid (show y32.heap[y31.heap.size]? = some (.cells #[.int .i64 (-1)] 3 (0, 0)) by rw [← hy32]; exact block_new _ _)
          have HNy32 := Lib.hid (block_below HNy31.out hby32 (lt_blk HNy31.out))
          have HPy32 := Lib.hid (block_below HPy31.out hby32 (lt_blk HPy31.out))
          have HBy32 := Lib.hid (HBy31.out.trans (hby32.mono HBy31.out.size))
          clear hby32
          refine hK.out _ _ ?_ (fun hHeld => ?_)
          · (try dsimp only); try exact trivial
          clear hK K
          try simp only [Act.put, List.setIfInBounds_toArray, List.set_cons_zero, List.set_cons_succ]
          refine wpAnyH_ready (rs := [4]) (by kernel_rfl) (by simp) ?_
          refine AllReadyH.cons (o := ?oo46) ?hi46 (fun K hK => ?hs46) ?hm46
          case hi46 => (simp only [List.getElem?_toArray, List.getElem?_cons_succ, List.getElem?_cons_zero]; rfl)
          · go_simp
            refine (HREP.out y31.heap.size y32 HAy32.out).mono ?_
            rintro e y33 ⟨rfl, hgy33, hby33⟩
            have HMF := Lib.hid HBy32.out.size
            have HFy33 := Lib.hid hgy33
            have HAy33 := Lib.hid (block_below HAy32.out hby33 (lt_blk HAy32.out))
            have HNy33 := Lib.hid (block_below HNy32.out hby33 (lt_blk HNy32.out))
            have HPy33 := Lib.hid (block_below HPy32.out hby33 (lt_blk HPy32.out))
            have HBy33 := Lib.hid (HBy32.out.trans (hby33.mono HBy32.out.size))
            clear hby33 hgy33
            (try go_wp2_with fail)
            refine hK.out _ _ ?_ (fun hHeld => ?_)
            · (try dsimp only); try exact trivial
            clear hK K
            try simp only [Act.put, List.setIfInBounds_toArray, List.set_cons_zero, List.set_cons_succ]
            refine wpAnyH_take (i := 8) (oi := ?oi47) (v := ?v47) ?hi47 (by kernel_rfl) (by kernel_rfl) (by kernel_rfl) ?hq47 ?hy47 (by assumption) ?hr47
            case hi47 => (simp only [List.getElem?_toArray, List.getElem?_cons_succ, List.getElem?_cons_zero]; rfl)
            case hq47 => exact fun _ _ _ h => h
            case hy47 => exact Or.inl ⟨by rfl, by intro whSw hSw'; (try dsimp only at hSw'); (first | (go_simp; done) | (go_simp; with_reducible rfl))⟩
            try simp only [Act.put, List.setIfInBounds_toArray, List.set_cons_zero, List.set_cons_succ]
            refine wpAnyH_ready (rs := [10]) (by kernel_rfl) (by simp) ?_
            refine AllReadyH.cons (o := ?oo48) ?hi48 (fun K hK => ?hs48) ?hm48
            case hi48 => (simp only [List.getElem?_toArray, List.getElem?_cons_succ, List.getElem?_cons_zero]; rfl)
            · have t0 : y33.cell? ⟨y23.heap.size, 0, none⟩ = some (.slice none 0 0) := cell_of HPy33.out rfl
              have f0 : y33.frozen? ⟨y23.heap.size, 0, none⟩ = false := frozen_of HPy33.out
              have t1 : y33.cell? ⟨y23.heap.size, 1, none⟩ = some (.slice none 0 0) := cell_of HPy33.out rfl
              have f1 : y33.frozen? ⟨y23.heap.size, 1, none⟩ = false := frozen_of HPy33.out
              go_simp
              have HBy34 := HBy33
              have HPy34 := HPy33
              have HFy34 := HFy33
              have HNy34 := HNy33
              refine hK.out _ _ ?_ (fun hHeld => ?_)
              · (try dsimp only); try exact trivial
              clear hK K
              try simp only [Act.put, List.setIfInBounds_toArray, List.set_cons_zero, List.set_cons_succ]
              refine wpAnyH_done (by kernel_rfl) ?_ _
              go_wp2_with fail
              go_meet
              exact ⟨_, _, _, rfl, Lib.hid (ar_start HN0.out HR0.out HBy34.out HPy34.out HFy34.out HNy34.out HMP.out HMF.out HMN.out)⟩
            exact AllReadyH.nil
          exact AllReadyH.nil
        exact AllReadyH.nil
      exact AllReadyH.nil
    refine AllReadyH.cons (o := ?oo49) ?hi49 (fun K hK => ?hs49) ?hm49
    case hi49 => (simp only [List.getElem?_toArray, List.getElem?_cons_succ, List.getElem?_cons_zero]; rfl)
    · go_simp
      obtain ⟨y35, hy35⟩ : ∃ W', X1.alloc (.cells #[.slice none 0 0, .slice none 0 0] 55) = W' := ⟨_, rfl⟩
      rw [hy35]
      have hby35 : Below X1.heap.size X1 y35 := by rw [← hy35]; exact below_box _ _
      have HMP := Lib.hid HB0.out.size
      have HPy35 := Lib.hid (show y35.heap[X1.heap.size]? = some (.cells #[.slice none 0 0, .slice none 0 0] 55 (0, 0)) by rw [← hy35]; exact block_new _ _)
      have HBy35 := Lib.hid (HB0.out.trans (hby35.mono HB0.out.size))
      clear hby35
      refine hK.out _ _ ?_ (fun hHeld => ?_)
      · (try dsimp only); try exact trivial
      clear hK K
      try simp only [Act.put, List.setIfInBounds_toArray, List.set_cons_zero, List.set_cons_succ]
      refine wpAnyH_ready (rs := [0, 7]) (by kernel_rfl) (by simp) ?_
      refine AllReadyH.cons (o := ?oo50) ?hi50 (fun K hK => ?hs50) ?hm50
      case hi50 => (simp only [List.getElem?_toArray, List.getElem?_cons_zero]; rfl)
      · go_simp
        obtain ⟨y36, hy36⟩ : ∃ W', y35.alloc (.cells #[.int .i64 (-1)] 3) = W' := ⟨_, rfl⟩
        rw [hy36]
        have hby36 : Below y35.heap.size y35 y36 := by rw [← hy36]; exact below_box _ _
        have HAy36 := Lib.hid (show y36.heap[y35.heap.size]? = some (.cells #[.int .i64 (-1)] 3 (0, 0)) by rw [← hy36]; exact block_new _ _)
        have HPy36 := Lib.hid (block_below HPy35.out hby36 (lt_blk HPy35.out))
        have HBy36 := Lib.hid (HBy35.out.trans (hby36.mono HBy35.out.size))
        clear hby36
        refine hK.out _ _ ?_ (fun hHeld => ?_)
        · (try dsimp only); try exact trivial
        clear hK K
        try simp only [Act.put, List.setIfInBounds_toArray, List.set_cons_zero, List.set_cons_succ]
        refine wpAnyH_ready (rs := [4, 7]) (by kernel_rfl) (by simp) ?_
        refine AllReadyH.cons (o := ?oo51) ?hi51 (fun K hK => ?hs51) ?hm51
        case hi51 => (simp only [List.getElem?_toArray, List.getElem?_cons_succ, List.getElem?_cons_zero]; rfl)
        · go_simp
          refine (HREP.out y35.heap.size y36 HAy36.out).mono ?_
          rintro e y37 ⟨rfl, hgy37, hby37⟩
          have HMF := Lib.hid HBy36.out.size
          have HFy37 := Lib.hid hgy37
          have HAy37 := Lib.hid (block_below HAy36.out hby37 (lt_blk HAy36.out))
          have HPy37 := Lib.hid (block_below HPy36.out hby37 (lt_blk HPy36.out))
          have HBy37 := Lib.hid (HBy36.out.trans (hby37.mono HBy36.out.size))
          clear hby37 hgy37
          (try go_wp2_with fail)
          refine hK.out _ _ ?_ (fun hHeld => ?_)
          · (try dsimp only); try exact trivial
          clear hK K
          try simp only [Act.put, List.setIfInBounds_toArray, List.set_cons_zero, List.set_cons_succ]
          refine wpAnyH_ready (rs := [7]) (by kernel_rfl) (by simp) ?_
          refine AllReadyH.cons (o := ?oo52) ?hi52 (fun K hK => ?hs52) ?hm52
          case hi52 => (simp only [List.getElem?_toArray, List.getElem?_cons_succ, List.getElem?_cons_zero]; rfl)
          · go_simp
            obtain ⟨y38, hy38⟩ : ∃ W', y37.alloc (.cells (intRow (List.replicate n 0)) 3) = W' := ⟨_, rfl⟩
            rw [hy38]
            have hby38 : Below y37.heap.size y37 y38 := by rw [← hy38]; exact below_box _ _
            have HMN := Lib.hid HBy37.out.size
            have HNy38 := Lib.hid (show y38.heap[y37.heap.size]? = some (.cells (intRow (List.replicate n 0)) 3 (0, 0)) by rw [← hy38]; exact block_new _ _)
            have HAy38 := Lib.hid (block_below HAy37.out hby38 (lt_blk HAy37.out))
            have HFy38 := Lib.hid (block_below HFy37.out hby38 (lt_blk HFy37.out))
            have HPy38 := Lib.hid (block_below HPy37.out hby38 (lt_blk HPy37.out))
            have HBy38 := Lib.hid (HBy37.out.trans (hby38.mono HBy37.out.size))
            clear hby38
            refine hK.out _ _ ?_ (fun hHeld => ?_)
            · (try dsimp only); try exact trivial
            clear hK K
            try simp only [Act.put, List.setIfInBounds_toArray, List.set_cons_zero, List.set_cons_succ]
            refine wpAnyH_take (i := 8) (oi := ?oi53) (v := ?v53) ?hi53 (by kernel_rfl) (by kernel_rfl) (by kernel_rfl) ?hq53 ?hy53 (by assumption) ?hr53
            case hi53 => (simp only [List.getElem?_toArray, List.getElem?_cons_succ, List.getElem?_cons_zero]; rfl)
            case hq53 => exact fun _ _ _ h => h
            case hy53 => exact Or.inl ⟨by rfl, by intro whSw hSw'; (try dsimp only at hSw'); (first | (go_simp; done) | (go_simp; with_reducible rfl))⟩
            try simp only [Act.put, List.setIfInBounds_toArray, List.set_cons_zero, List.set_cons_succ]
            refine wpAnyH_ready (rs := [10]) (by kernel_rfl) (by simp) ?_
            refine AllReadyH.cons (o := ?oo54) ?hi54 (fun K hK => ?hs54) ?hm54
            case hi54 => (simp only [List.getElem?_toArray, List.getElem?_cons_succ, List.getElem?_cons_zero]; rfl)
            · have t0 : y38.cell? ⟨X1.heap.size, 0, none⟩ = some (.slice none 0 0) := cell_of HPy38.out rfl
              have f0 : y38.frozen? ⟨X1.heap.size, 0, none⟩ = false := frozen_of HPy38.out
              have t1 : y38.cell? ⟨X1.heap.size, 1, none⟩ = some (.slice none 0 0) := cell_of HPy38.out rfl
              have f1 : y38.frozen? ⟨X1.heap.size, 1, none⟩ = false := frozen_of HPy38.out
              go_simp
              have HBy39 := HBy38
              have HPy39 := HPy38
              have HFy39 := HFy38
              have HNy39 := HNy38
              refine hK.out _ _ ?_ (fun hHeld => ?_)
              · (try dsimp only); try exact trivial
              clear hK K
              try simp only [Act.put, List.setIfInBounds_toArray, List.set_cons_zero, List.set_cons_succ]
              refine wpAnyH_done (by kernel_rfl) ?_ _
              go_wp2_with fail
              go_meet
              exact ⟨_, _, _, rfl, Lib.hid (ar_start HN0.out HR0.out HBy39.out HPy39.out HFy39.out HNy39.out HMP.out HMF.out HMN.out)⟩
            exact AllReadyH.nil
          exact AllReadyH.nil
        refine AllReadyH.cons (o := ?oo55) ?hi55 (fun K hK => ?hs55) ?hm55
        case hi55 => (simp only [List.getElem?_toArray, List.getElem?_cons_succ, List.getElem?_cons_zero]; rfl)
        · go_simp
          obtain ⟨y40, hy40⟩ : ∃ W', y36.alloc (.cells (intRow (List.replicate n 0)) 3) = W' := ⟨_, rfl⟩
          rw [hy40]
          have hby40 : Below y36.heap.size y36 y40 := by rw [← hy40]; exact below_box _ _
          have HMN := Lib.hid HBy36.out.size
          have HNy40 := Lib.hid (show y40.heap[y36.heap.size]? = some (.cells (intRow (List.replicate n 0)) 3 (0, 0)) by rw [← hy40]; exact block_new _ _)
          have HAy40 := Lib.hid (block_below HAy36.out hby40 (lt_blk HAy36.out))
          have HPy40 := Lib.hid (block_below HPy36.out hby40 (lt_blk HPy36.out))
          have HBy40 := Lib.hid (HBy36.out.trans (hby40.mono HBy36.out.size))
          clear hby40
          refine hK.out _ _ ?_ (fun hHeld => ?_)
          · (try dsimp only); try exact trivial
          clear hK K
          try simp only [Act.put, List.setIfInBounds_toArray, List.set_cons_zero, List.set_cons_succ]
          refine wpAnyH_ready (rs := [4]) (by kernel_rfl) (by simp) ?_
          refine AllReadyH.cons (o := ?oo56) ?hi56 (fun K hK => ?hs56) ?hm56
          case hi56 => (simp only [List.getElem?_toArray, List.getElem?_cons_succ, List.getElem?_cons_zero]; rfl)
          · go_simp
            refine (HREP.out y35.heap.size y40 HAy40.out).mono ?_
            rintro e y41 ⟨rfl, hgy41, hby41⟩
            have HMF := Lib.hid HBy40.out.size
            have HFy41 := Lib.hid hgy41
            have HAy41 := Lib.hid (block_below HAy40.out hby41 (lt_blk HAy40.out))
            have HNy41 := Lib.hid (block_below HNy40.out hby41 (lt_blk HNy40.out))
            have HPy41 := Lib.hid (block_below HPy40.out hby41 (lt_blk HPy40.out))
            have HBy41 := Lib.hid (HBy40.out.trans (hby41.mono HBy40.out.size))
            clear hby41 hgy41
            (try go_wp2_with fail)
            refine hK.out _ _ ?_ (fun hHeld => ?_)
            · (try dsimp only); try exact trivial
            clear hK K
            try simp only [Act.put, List.setIfInBounds_toArray, List.set_cons_zero, List.set_cons_succ]
            refine wpAnyH_take (i := 8) (oi := ?oi57) (v := ?v57) ?hi57 (by kernel_rfl) (by kernel_rfl) (by kernel_rfl) ?hq57 ?hy57 (by assumption) ?hr57
            case hi57 => (simp only [List.getElem?_toArray, List.getElem?_cons_succ, List.getElem?_cons_zero]; rfl)
            case hq57 => exact fun _ _ _ h => h
            case hy57 => exact Or.inl ⟨by rfl, by intro whSw hSw'; (try dsimp only at hSw'); (first | (go_simp; done) | (go_simp; with_reducible rfl))⟩
            try simp only [Act.put, List.setIfInBounds_toArray, List.set_cons_zero, List.set_cons_succ]
            refine wpAnyH_ready (rs := [10]) (by kernel_rfl) (by simp) ?_
            refine AllReadyH.cons (o := ?oo58) ?hi58 (fun K hK => ?hs58) ?hm58
            case hi58 => (simp only [List.getElem?_toArray, List.getElem?_cons_succ, List.getElem?_cons_zero]; rfl)
            · have t0 : y41.cell? ⟨X1.heap.size, 0, none⟩ = some (.slice none 0 0) := cell_of HPy41.out rfl
              have f0 : y41.frozen? ⟨X1.heap.size, 0, none⟩ = false := frozen_of HPy41.out
              have t1 : y41.cell? ⟨X1.heap.size, 1, none⟩ = some (.slice none 0 0) := cell_of HPy41.out rfl
              have f1 : y41.frozen? ⟨X1.heap.size, 1, none⟩ = false := frozen_of HPy41.out
              go_simp
              have HBy42 := HBy41
              have HPy42 := HPy41
              have HFy42 := HFy41
              have HNy42 := HNy41
              refine hK.out _ _ ?_ (fun hHeld => ?_)
              · (try dsimp only); try exact trivial
              clear hK K
              try simp only [Act.put, List.setIfInBounds_toArray, List.set_cons_zero, List.set_cons_succ]
              refine wpAnyH_done (by kernel_rfl) ?_ _
              go_wp2_with fail
              go_meet
              exact ⟨_, _, _, rfl, Lib.hid (ar_start HN0.out HR0.out HBy42.out HPy42.out HFy42.out HNy42.out HMP.out HMF.out HMN.out)⟩
            exact AllReadyH.nil
          exact AllReadyH.nil
        exact AllReadyH.nil
      refine AllReadyH.cons (o := ?oo59) ?hi59 (fun K hK => ?hs59) ?hm59
      case hi59 => (simp only [List.getElem?_toArray, List.getElem?_cons_succ, List.getElem?_cons_zero]; rfl)
      · go_simp
        obtain ⟨y43, hy43⟩ : ∃ W', y35.alloc (.cells (intRow (List.replicate n 0)) 3) = W' := ⟨_, rfl⟩
        rw [hy43]
        have hby43 : Below y35.heap.size y35 y43 := by rw [← hy43]; exact below_box _ _
        have HMN := Lib.hid HBy35.out.size
        have HNy43 := Lib.hid (show y43.heap[y35.heap.size]? = some (.cells (intRow (List.replicate n 0)) 3 (0, 0)) by rw [← hy43]; exact block_new _ _)
        have HPy43 := Lib.hid (block_below HPy35.out hby43 (lt_blk HPy35.out))
        have HBy43 := Lib.hid (HBy35.out.trans (hby43.mono HBy35.out.size))
        clear hby43
        refine hK.out _ _ ?_ (fun hHeld => ?_)
        · (try dsimp only); try exact trivial
        clear hK K
        try simp only [Act.put, List.setIfInBounds_toArray, List.set_cons_zero, List.set_cons_succ]
        refine wpAnyH_ready (rs := [0]) (by kernel_rfl) (by simp) ?_
        refine AllReadyH.cons (o := ?oo60) ?hi60 (fun K hK => ?hs60) ?hm60
        case hi60 => (simp only [List.getElem?_toArray, List.getElem?_cons_zero]; rfl)
        · go_simp
          obtain ⟨y44, hy44⟩ : ∃ W', y43.alloc (.cells #[.int .i64 (-1)] 3) = W' := ⟨_, rfl⟩
          rw [hy44]
          have hby44 : Below y43.heap.size y43 y44 := by rw [← hy44]; exact below_box _ _
          have HAy44 := Lib.hid (show y44.heap[y43.heap.size]? = some (.cells #[.int .i64 (-1)] 3 (0, 0)) by rw [← hy44]; exact block_new _ _)
          have HNy44 := Lib.hid (block_below HNy43.out hby44 (lt_blk HNy43.out))
          have HPy44 := Lib.hid (block_below HPy43.out hby44 (lt_blk HPy43.out))
          have HBy44 := Lib.hid (HBy43.out.trans (hby44.mono HBy43.out.size))
          clear hby44
          refine hK.out _ _ ?_ (fun hHeld => ?_)
          · (try dsimp only); try exact trivial
          clear hK K
          try simp only [Act.put, List.setIfInBounds_toArray, List.set_cons_zero, List.set_cons_succ]
          refine wpAnyH_ready (rs := [4]) (by kernel_rfl) (by simp) ?_
          refine AllReadyH.cons (o := ?oo61) ?hi61 (fun K hK => ?hs61) ?hm61
          case hi61 => (simp only [List.getElem?_toArray, List.getElem?_cons_succ, List.getElem?_cons_zero]; rfl)
          · go_simp
            refine (HREP.out y43.heap.size y44 HAy44.out).mono ?_
            rintro e y45 ⟨rfl, hgy45, hby45⟩
            have HMF := Lib.hid HBy44.out.size
            have HFy45 := Lib.hid hgy45
            have HAy45 := Lib.hid (block_below HAy44.out hby45 (lt_blk HAy44.out))
            have HNy45 := Lib.hid (block_below HNy44.out hby45 (lt_blk HNy44.out))
            have HPy45 := Lib.hid (block_below HPy44.out hby45 (lt_blk HPy44.out))
            have HBy45 := Lib.hid (HBy44.out.trans (hby45.mono HBy44.out.size))
            clear hby45 hgy45
            (try go_wp2_with fail)
            refine hK.out _ _ ?_ (fun hHeld => ?_)
            · (try dsimp only); try exact trivial
            clear hK K
            try simp only [Act.put, List.setIfInBounds_toArray, List.set_cons_zero, List.set_cons_succ]
            refine wpAnyH_take (i := 8) (oi := ?oi62) (v := ?v62) ?hi62 (by kernel_rfl) (by kernel_rfl) (by kernel_rfl) ?hq62 ?hy62 (by assumption) ?hr62
            case hi62 => (simp only [List.getElem?_toArray, List.getElem?_cons_succ, List.getElem?_cons_zero]; rfl)
            case hq62 => exact fun _ _ _ h => h
            case hy62 => exact Or.inl ⟨by rfl, by intro whSw hSw'; (try dsimp only at hSw'); (first | (go_simp; done) | (go_simp; with_reducible rfl))⟩
            try simp only [Act.put, List.setIfInBounds_toArray, List.set_cons_zero, List.set_cons_succ]
            refine wpAnyH_ready (rs := [10]) (by kernel_rfl) (by simp) ?_
            refine AllReadyH.cons (o := ?oo63) ?hi63 (fun K hK => ?hs63) ?hm63
            case hi63 => (simp only [List.getElem?_toArray, List.getElem?_cons_succ, List.getElem?_cons_zero]; rfl)
            · have t0 : y45.cell? ⟨X1.heap.size, 0, none⟩ = some (.slice none 0 0) := cell_of HPy45.out rfl
              have f0 : y45.frozen? ⟨X1.heap.size, 0, none⟩ = false := frozen_of HPy45.out
              have t1 : y45.cell? ⟨X1.heap.size, 1, none⟩ = some (.slice none 0 0) := cell_of HPy45.out rfl
              have f1 : y45.frozen? ⟨X1.heap.size, 1, none⟩ = false := frozen_of HPy45.out
              go_simp
              have HBy46 := HBy45
              have HPy46 := HPy45
              have HFy46 := HFy45
              have HNy46 := HNy45
              refine hK.out _ _ ?_ (fun hHeld => ?_)
              · (try dsimp only); try exact trivial
              clear hK K
              try simp only [Act.put, List.setIfInBounds_toArray, List.set_cons_zero, List.set_cons_succ]
              refine wpAnyH_done (by kernel_rfl) ?_ _
              go_wp2_with fail
              go_meet
              exact ⟨_, _, _, rfl, Lib.hid (ar_start HN0.out HR0.out HBy46.out HPy46.out HFy46.out HNy46.out HMP.out HMF.out HMN.out)⟩
            exact AllReadyH.nil
          exact AllReadyH.nil
        exact AllReadyH.nil
      exact AllReadyH.nil
    exact AllReadyH.nil
  case rest =>
    obtain ⟨p, bf, bn, rfl, HA⟩ := hcut
    clear HREP HR0 hmk hw1
    go_wp2_with fail
    refine (backward_fn _ _ _ _).mono ?_
    rintro e w' ⟨rfl, rfl⟩
    obtain ⟨n0, hn0⟩ : ∃ m, wc.heap.size = m := ⟨_, rfl⟩
    have hA1 : ArS N0 w (wc.alloc (.cells #[.slice A n cap] 22)) p bf bn n (fx0 n).1 (fx0 n).2 := by
      refine HA.out.keep (HA.out.below.alloc (by have := HA.out.below.size; rw [HN0.out] at this; exact this) _) (fun k hk => heap_alloc_old wc _ ?_)
      rcases hk with rfl | rfl | rfl | rfl
      · exact lt_blk HA.out.res
      · exact lt_blk HA.out.box
      · exact HA.out.f.lt
      · exact HA.out.x.lt
    have hb1 := block_new wc (.cells #[.slice A n cap] 22)
    rw [hn0] at hb1 ⊢
    obtain ⟨W0, hW0⟩ : ∃ W0, wc.alloc (.cells #[.slice A n cap] 22) = W0 := ⟨_, rfl⟩
    have hsz : W0.heap.size = n0 + 1 := by rw [← hW0, alloc_sz, hn0]
    rw [hW0] at hA1 hb1 ⊢
    have hlt := And.intro (lt_blk HA.out.box) (And.intro HA.out.f.lt HA.out.x.lt)
    rw [hn0] at hlt
    have HLT := Lib.hid hlt
    have HA1 := Lib.hid hA1
    have HPOS := Lib.hid hA1.pos
    have HB1 := Lib.hid hb1
    have HSZ := Lib.hid hsz
    have hrow : Rows 1 EInt W0 (.slice A n cap) h := HVN.out.below stays_int (by rw [HN0.out]; exact hA1.below)
    have hlow : ∀ b off, A = some ⟨b, off, none⟩ → 0 < n → b < N0 := fun b off hA h0 => by
      obtain ⟨b', off', hA', hbl, _⟩ := at_int HVN.out (by rw [HN.out]; exact h0)
      rw [hA] at hA'
      cases hA'
      rw [← HN0.out]
      exact hbl
    clear hlt hA1 hb1 hsz hW0 hn0
    go_wp2_with fail
    refine (wpIn_wide (n := 3)).1 ?_
    refine wpIn_rangeFunc_ownG (n := 3) rfl (by omega) (gf := 58) (lb := #[.pointer (some ⟨n0, 0, none⟩)]) rfl trivial (enters_of Try.func58 (by kernel_rfl) rfl)
      (backward_stops 2 (by omega) HN.out n0 N0 A cap hrow hlow (by omega) ?hBs ?hn0 (cell_of HB1.out rfl)) kpB_t (kpB_b ?hn0' ?hBs') (Below.refl _ _) (fun _ => rfl)
      (fun (pre : List (Nd1 h)) W => ArS N0 w W p bf bn n ((pre.map (·.1)).foldl (stepFX h) (fx0 n)).1 ((pre.map (·.1)).foldl (stepFX h) (fx0 n)).2) (fun _ _ _ => False) (ArS.own (fun (pre : List (Nd1 h)) => (pre.map (·.1)).foldl (stepFX h) (fx0 n)) N0 w _ p bf bn n ?hlt) (fun _ _ _ _ _ hs _ _ => hs)
      HA1.out (fun (x : Nd1 h) => { tmps := #[.slice A n cap, undef, .pointer (some ⟨N0, 0, none⟩), .pointer (some ⟨p, 0, none⟩), .int .i64 (x.1 : Int), .int .i64 (h[x.1]'x.2), u6, u7, u8, u9, u10, u11, u12, u13, u14, .slice A n cap, .func (.func 58) #[] #[.pointer (some ⟨n0, 0, none⟩)], .int .i64 (x.1 : Int), .int .i64 (h[x.1]'x.2), undef, undef, undef, undef, undef, undef, undef, undef, undef, undef, undef, undef, undef, undef, undef, undef, undef], defers := [] }) ?assign ?body ?done ?stop
    case hBs => have := HSZ.out; omega
    case hn0 => have := HSZ.out; have := HLT.out; have := HPOS.out; omega
    case hn0' => have := HSZ.out; have := HLT.out; have := HPOS.out; omega
    case hBs' => have := HSZ.out; omega
    case hlt => have := HSZ.out; have := HLT.out; have := HPOS.out; omega
    case assign =>
      intro l x W K hK
      unfold ndV
      gi_wp2
      exact hK
    case body =>
      rintro l pre x W hI hlen
      obtain ⟨i, hi⟩ := x
      have hmap : (pre ++ [(⟨i, hi⟩ : Nd1 h)]).map (·.1) = pre.map (·.1) ++ [i] := by simp
      have hfl := fx_len h n (pre.map (·.1))
      obtain ⟨s, hs⟩ : ∃ s, (pre.map (·.1)).foldl (stepFX h) (fx0 n) = s := ⟨_, rfl⟩
      rw [hs] at hI hfl
      have hin : i < n := by rw [← HN.out]; exact hi
      obtain ⟨q, hq, hqn⟩ := HIN.out i hin
      have hgd : h.getD i 0 = h[i]'hi := getD_of (List.getElem?_eq_getElem hi)
      have hd : ArS N0 w W.drew p bf bn n s.1 s.2 := hI.keep (below_drewN hI.below 1) (fun _ _ => rfl)
      have hst := hI.step hfl.1 hfl.2 hin hqn (by rw [hq, Int.toNat_natCast])
      have hst2 : ArS N0 w ((W.setCell ⟨bn, i, none⟩ (.int .i64 (s.1.getD q 0))).setCell ⟨bf, q, none⟩ (.int .i64 (i : Int))) p bf bn n (((pre ++ [(⟨i, hi⟩ : Nd1 h)]).map (·.1)).foldl (stepFX h) (fx0 n)).1 (((pre ++ [(⟨i, hi⟩ : Nd1 h)]).map (·.1)).foldl (stepFX h) (fx0 n)).2 := by
        rw [hmap, List.foldl_append, hs]
        exact hst
      obtain ⟨g, hg⟩ : ∃ g, s.1.getD q 0 = g := ⟨_, rfl⟩
      rw [hg] at hst2
      have a0 := cell_of (i := 0) hd.box rfl
      have a1 := cell_of (i := 1) hd.box rfl
      have aF := hd.f.cell (j := q) (x := g) (by rw [← hg, List.getD_eq_getElem?_getD, List.getElem?_eq_getElem (by rw [hfl.1]; exact hqn)]; rfl)
      obtain ⟨y, hy⟩ : ∃ y, s.2[i]? = some y := ⟨_, List.getElem?_eq_getElem (by rw [hfl.2]; exact hin)⟩
      have aX := hd.x.cell hy
      have fX := hd.x.frozen i
      have hdx := hI.f.other (g := bn) HPOS.out.2.2.2.2.2 i (.int .i64 g)
      have c0 : (W.setCell ⟨bn, i, none⟩ (.int .i64 g)).cell? ⟨p, 0, none⟩ = some (.slice (some ⟨bf, 0, none⟩) (n + 1) (n + 1)) := (World.cell?_of_block (Below.heap_setCell W ⟨bn, i, none⟩ _ p (fun e => HPOS.out.2.2.2.2.1 e.symm))).trans a0
      have cF := hdx.cell (j := q) (x := g) (by rw [← hg, List.getD_eq_getElem?_getD, List.getElem?_eq_getElem (by rw [hfl.1]; exact hqn)]; rfl)
      have fF := hdx.frozen q
      obtain ⟨par, hpar⟩ : ∃ z, h[i]'hi = z := ⟨_, rfl⟩
      have hqw : IntKind.i64.wrap (par + 1) = (q : Int) := by rw [← hpar, ← hgd, hq, IntKind.wrap_i64]; omega
      have hqi : (q : Int) < (n : Int) + 1 := by omega
      have hii : (i : Int) < (n : Int) := by omega
      have HST := Lib.hid hst2
      have HB4 := Lib.hid hI.below
      simp only [hpar]
      clear hst hst2 hd hdx hI hg hy hs hmap hgd hq hpar
      gi_wp2
      refine wpIn_round_tail 10 (by kernel_rfl) (by kernel_rfl) (by kernel_rfl) (by rintro ⟨a, w, h⟩; exact h) ?_
      simp only [List.take_succ_cons, List.take_zero, List.drop_succ_cons, List.drop_zero]
      repeat still_step
      try refine wpStill_nil ?_
      change wpList _ _ _ _ _ W.drew
      go_wp2
      gi_wp2
      refine ⟨(((KeepsOthers.setCell _ _ _).trans (KeepsOthers.setCell _ _ _)).trans (KeepsOthers.drew _)).from _, ⟨?_, ?_⟩, HST.out.keep (below_drewN HST.out.below 1) (fun _ _ => rfl)⟩
      · have hp := HPOS.out
        exact ((((Below.refl N0 W).setCell (p := ⟨bn, i, none⟩) (by show N0 ≤ bn; omega) _).setCell (p := ⟨bf, q, none⟩) (by show N0 ≤ bf; omega) _)).drew
      · have hp := HLT.out
        show ((W.setCell ⟨bn, i, none⟩ _).setCell ⟨bf, q, none⟩ _).heap[n0]? = _
        rw [Below.heap_setCell _ ⟨bf, q, none⟩ _ n0 (by show n0 ≠ bf; omega), Below.heap_setCell _ ⟨bn, i, none⟩ _ n0 (by show n0 ≠ bn; omega)]
    case done =>
      rintro D ys W hD hys hI hK
      have hfx := HFX.out
      rw [HN.out, Nat.sub_self] at hfx
      simp only at hI
      rw [hys, hfx] at hI
      have a0 := cell_of (i := 0) hI.box rfl
      have a1 := cell_of (i := 1) hI.box rfl
      have r0 := cell_of (i := 0) hI.res rfl
      have r1 := cell_of (i := 1) hI.res rfl
      have f0 : W.frozen? ⟨N0, 0, none⟩ = false := frozen_of hI.res
      have f1 : W.frozen? ⟨N0, 1, none⟩ = false := frozen_of hI.res
      have HI := Lib.hid hI
      have HK := Lib.hid hK
      clear hI hK hfx hys
      go_wp2
      have hpos := HI.out.pos
      have hsz := HSZ.out
      have hlt := HLT.out
      obtain ⟨WE, hWE⟩ : ∃ WE, ((W.setCell ⟨N0, 0, none⟩ (.slice (some ⟨bf, 0, none⟩) (n + 1) (n + 1))).setCell ⟨N0, 1, none⟩ (.slice (some ⟨bn, 0, none⟩) n n)) = WE := ⟨_, rfl⟩
      have hother : ∀ k, k ≠ N0 → WE.heap[k]? = W.heap[k]? := fun k hk => by
        rw [← hWE, Below.heap_setCell _ ⟨N0, 1, none⟩ _ k hk, Below.heap_setCell _ ⟨N0, 0, none⟩ _ k hk]
      have hres : WE.heap[N0]? = some (.cells #[.slice (some ⟨bf, 0, none⟩) (n + 1) (n + 1), .slice (some ⟨bn, 0, none⟩) n n] 55 (0, 0)) := by
        rw [← hWE, set_of (set_of HI.out.res _)]
        rfl
      have hbe : Below N0 w WE := by
        rw [← hWE]
        exact (HI.out.below.setCell (p := ⟨N0, 0, none⟩) (Nat.le_refl _) _).setCell (p := ⟨N0, 1, none⟩) (Nat.le_refl _) _
      have hKD : WE.heap[D]? = some (.deferred (some [])) := (hother D (by omega)).trans HK.out
      rw [hWE]
      refine ⟨by simp, .inl ⟨_, _, rfl, run_takeDeferred hKD, ?_⟩⟩
      have hne : ∀ k, k ≤ n0 → (WE.putObj D (.deferred none)).heap[k]? = WE.heap[k]? := fun k hk => World.putObj_heap_other (by omega)
      refine ⟨_, results_cell_row Try.results31 _ _ N0 _ _ _ _ rfl ((hne N0 (by omega)).trans hres) Try.underlying55 rfl (by kernel_rfl), bf, bn, rfl, ?_, ?_, ?_, ?_⟩
      · exact HI.out.f.keep ((hne bf (by omega)).trans (hother bf (by omega)))
      · exact HI.out.x.keep ((hne bn (by omega)).trans (hother bn (by omega)))
      · rw [HN0.out]
        exact ⟨by omega, by omega, hpos.2.2.2.2.2⟩
      · rw [HN0.out]
        exact hbe.trans (belowK_b (w := W0) (by omega) WE D _ _ hD hKD rfl rfl)
    case stop =>
      rintro D c pre W _ _ hx _
      exact hx.elim
end Go.Proofs.Ytjialelklnjcfaa
