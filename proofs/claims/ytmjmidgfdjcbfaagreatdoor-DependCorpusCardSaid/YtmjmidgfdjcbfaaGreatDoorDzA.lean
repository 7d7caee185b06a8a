/-
  A LAW, OF NO PROGRAM: a loop over an iterator that keeps its place in a variable of its own (block Bv), which it writes between the rounds: what the loop says of memory must not speak of that block's cells.
  WALKS over the library: strings.Lines and its iterator; strings.TrimLeft at the digits.
  WALKS over the library: strings.Lines, its iterator as a loop meets it; strings.TrimLeft at the digits.
-/
import Derived.Test.YtmjmidgfdjcbfaaGreatDoorDaR
import Derived.RangeFuncNested
import Derived.RangeFuncBound
import Derived.RangeFuncCalls
import Derived.RangeFuncLeaves
import Derived.OwnWalkIn
import Derived.TacticsInMore
import Derived.LoopNIn
import Derived.LoopIn
import Derived.Test.YtmjmidgfdjcbfaaGreatDoorShf
import Derived.Lib.PathFns
import Derived.StillTailTactics
import Derived.Deep.LoopGhost
import Derived.Laws.Tables
namespace Go.Proofs.YtmjmidgfdjcbfaaGreatDoor.Dep
open Go Go.RowKit Go.Shelf Go.Lib
set_option linter.unusedVariables false

/-- What stays while the heap grows and block Bv alone changes. -/
def StaysV {β : Type} (Bv : Nat) (J : β → World → Prop) : Prop := ∀ s W W' row, J s W → W.grownBy W' row → (∀ r, row = some r → r = Bv) → J s W'
/-- The same, and while what is no cells, from B on, changes. -/
def OwnV {β : Type} (B Bv : Nat) (I : β → World → Prop) : Prop := ∀ s W W' row, I s W → W.grownBy W' row → (∀ r, row = some r → r = Bv ∨ (B ≤ r ∧ ∃ o : Obj, W.heap[r]? = some o ∧ o.isCells = false)) → I s W'
theorem OwnV.put {β : Type} {B Bv : Nat} {I : β → World → Prop} (h : OwnV B Bv I) {s : β} {W : World} {l : Nat} {o : Obj} (o' : Obj) (hs : I s W) (hB : B ≤ l) (hl : W.heap[l]? = some o) (ho : o.isCells = false) : I s (W.putObj l o') :=
  h s W _ (some l) hs (grownBy_putObj' W l o') (fun r e => by cases e; exact .inr ⟨hB, o, hl, ho⟩)
theorem OwnV.new {β : Type} {B Bv : Nat} {I : β → World → Prop} (h : OwnV B Bv I) {s : β} {W : World} (o : Obj) (hs : I s W) : I s (W.alloc o) :=
  h s W _ none hs (World.grownBy_alloc W o none) (fun r e => by cases e)
/-- What a round leaves for the iterator: its variable, and a heap no smaller. -/
def KeepV (Bv : Nat) (W W' : World) : Prop := W'.heap[Bv]? = W.heap[Bv]? ∧ W.heap.size ≤ W'.heap.size
theorem KeepV.trans {Bv : Nat} {X Y Z : World} (h : KeepV Bv X Y) (k : KeepV Bv Y Z) : KeepV Bv X Z := ⟨k.1.trans h.1, Nat.le_trans h.2 k.2⟩
/-- The iterator's contract: it hands over xs with S xs, or a beginning with Sp, after which it was told to stop. -/
def SeqV {α : Type} (n : Nat) (gf : Nat) (lb : Array Value) (encs : α → Array Value) (S Sp : List α → Prop) (Ok : List α → α → Prop) (N Bv : Nat) (w : World) : Prop :=
  ∀ (l : Nat) (J Jx : List α → World → Prop) (W : World), W.heap[Bv]? = w.heap[Bv]? → StaysV Bv J → StaysV Bv Jx →
    (∀ pre x W1, J pre W1 → pre.length < N → Ok pre x → YieldAt Fence.wide (n - 1) Tryz.prog l (encs x) W1 fun e W' =>
      (e = .returned (.bool true) ∧ J (pre ++ [x]) W' ∧ KeepV Bv W1 W') ∨ (e = .returned (.bool false) ∧ Jx (pre ++ [x]) W')) →
    J [] W →
    CallsIn Fence.wide n Tryz.prog gf (#[.func (.yield l) #[] #[]] ++ lb) W fun e W' => (∃ v, e = .returned v) ∧ ((∃ xs, S xs ∧ J xs W') ∨ (∃ pre, Sp pre ∧ Jx pre W'))
/-- What the body owes. -/
def postV {α : Type} (B Bv : Nat) (I : List α → World → Prop) (Ix : Code → List α → World → Prop) (xs : List α) (W : World) : Exit → Act → World → Prop
  | .normal, _, W' => KeepsFrom B W W' ∧ KeepV Bv W W' ∧ I xs W'
  | .ret, _, W' => KeepsFrom B W W' ∧ Ix .ret xs W'
  | .exit id, _, W' => KeepsFrom B W W' ∧ Ix (.exit id) xs W'
  | .goto t, _, W' => KeepsFrom B W W' ∧ Ix (.goto t) xs W'
  | .panic _, _, _ => False
  | .outgrown, _, _ => False

theorem range_over {α : Type} {n : Nat} {w : World} {g : Operand} {ps : Array Tmp} {assign body : Code} {Q : Exit → Act → World → Prop} {a : Act}
    (h1 : 1 ≤ n) {gf : Nat} {lb : Array Value} (hg : a.eval g = .func (.func gf) #[] lb) (eg : ∀ args w, (callFunc gf args).run Tryz.prog w = .ok (.enter gf args) w)
    {encs : α → Array Value} {S Sp : List α → Prop} {Ok : List α → α → Prop} {N Bv : Nat} (hBv : Bv < w.heap.size) (hseq : SeqV (n - 1) gf lb encs S Sp Ok N Bv w) (hps : ∀ x, (encs x).size = ps.size)
    (I : List α → World → Prop) (Ix : Code → List α → World → Prop) (hI : OwnV w.heap.size Bv I) (hIx : ∀ c, OwnV w.heap.size Bv (Ix c)) (h0 : I [] w) (Ax : α → Act → Prop)
    (hassign : ∀ (l : Nat) (x : α) (W : World) (K : Act → World → Prop), (∀ a', Ax x a' → K a' W) →
      assign.wpIn (Fence.wide.inRound l) (n - 1 - 1) Tryz.prog (Exit.then K (fun _ _ _ => False)) { tmps := (ps.zip (encs x)).foldl (fun t (p, v) => t.setIfInBounds p v) a.tmps, defers := [] } W)
    (hbody : ∀ (l : Nat) (pre : List α) (x : α) (a' : Act) (W : World), I pre W → Ax x a' → pre.length < N → Ok pre x → body.wpIn (Fence.wide.inRound l) (n - 1 - 1) Tryz.prog (postV w.heap.size Bv I Ix (pre ++ [x]) W) a' W)
    (hdone : ∀ (D : Nat) (xs : List α) (W : World), w.heap.size ≤ D → S xs → I xs W → W.heap[D]? = some (.deferred (some [])) → Q .normal { a with defers := { target := .collected D, args := #[] } :: a.defers } W)
    (hstop : ∀ (D : Nat) (c : Code) (pre : List α) (W : World), w.heap.size ≤ D → Sp pre → Ix c pre W → W.heap[D]? = some (.deferred (some [])) → c.wpIn Fence.wide n Tryz.prog Q { a with defers := { target := .collected D, args := #[] } :: a.defers } W) :
    (Code.rangeFunc g ps assign body).wpIn Fence.wide n Tryz.prog Q a w := by
  refine wpIn_rangeFunc fun fn hfn => ?_
  obtain ⟨M, hM⟩ : ∃ M, w.heap.size = M := ⟨_, rfl⟩
  rw [hM] at hI hIx hdone hstop hbody hBv
  let rec0 : LoopState → Option Code → Loop := fun st pe => { state := st, pending := pe, fn, tmps := a.tmps, params := ps, assign, body, defers := M }
  -- the two blocks of the loop's own
  let Bk : LoopState → Option Code → World → Prop := fun st pe W => W.heap[M + 1]? = some (.loop (rec0 st pe)) ∧ W.heap[M]? = some (.deferred (some []))
  have bkV : ∀ st pe, StaysV (β := Unit) Bv (fun _ W => Bk st pe W) := fun st pe _ W W' row hb hgr hr =>
    ⟨(hgr.block _ (Array.getElem?_eq_some_iff.1 hb.1).1 (fun e => by have := hr _ e.symm; omega)).trans hb.1, (hgr.block _ (Array.getElem?_eq_some_iff.1 hb.2).1 (fun e => by have := hr _ e.symm; omega)).trans hb.2⟩
  have ownStays : ∀ {I' : List α → World → Prop}, OwnV M Bv I' → StaysV Bv I' := fun h s W W' row hs hgr hr => h s W W' row hs hgr (fun r e => .inl (hr r e))
  let W1 := (w.alloc (.deferred (some []))).alloc (.loop (rec0 .ready none))
  have hb1 : Bk .ready none W1 := by
    have e1 := World.alloc_heap_new (w.alloc (.deferred (some []))) (.loop (rec0 .ready none))
    rw [World.size_alloc, hM] at e1
    have e2 := World.alloc_heap_new w (.deferred (some []))
    rw [hM] at e2
    exact ⟨e1, (Below.heap_alloc _ _ _ (by simp; omega)).trans e2⟩
  have hsV : W1.heap[Bv]? = w.heap[Bv]? := (Below.heap_alloc _ _ _ (by simp; omega)).trans (Below.heap_alloc _ _ _ (by omega))
  have hen := run_enterLoop_outer (P := Tryz.prog) (w := w) fn a.tmps ps assign body
  rw [hM] at hen
  refine ⟨M + 1, [{ target := .collected M, args := #[] }], W1, { target := .fn (.func gf) lb, args := #[.func (.yield (M + 1)) #[] #[]] }, W1, gf, #[.func (.yield (M + 1)) #[] #[]] ++ lb, W1, hen, ?_, fun _ _ => trivial, ?_, fun _ => h1, ?_⟩
  · simp only [resolve, hg]
    simp [go_sem]
  · simp [invoke, go_sem, eg]
  · refine (hseq (M + 1) (fun pre W => I pre W ∧ Bk .ready none W) (fun pre W => ∃ c, Ix c pre W ∧ Bk .done (some c) W) W1 hsV
      (fun s A B row hs hgr hr => ⟨ownStays hI s A B row hs.1 hgr hr, bkV _ _ () A B row hs.2 hgr hr⟩)
      (fun s A B row hs hgr hr => by
        obtain ⟨c, hc, hb⟩ := hs
        exact ⟨c, ownStays (hIx c) s A B row hc hgr hr, bkV _ _ () A B row hb hgr hr⟩)
      ?_ ⟨hI.new _ (hI.new _ h0), hb1⟩).mono ?_
    · rintro pre x W ⟨hi, hl, hk⟩ hlen hok
      have hlt : M + 1 < W.heap.size := (Array.getElem?_eq_some_iff.1 hl).1
      refine ⟨fn, _, assign, body, run_yield (P := Tryz.prog) (args := encs x) hl (hps x), roundIn_of_wpIn hfn (hassign _ x W _ fun a' hax => ⟨_, run_beginRound hl rfl, ?_⟩)⟩
      have hl2 : (W.putObj (M + 1) (.loop (rec0 .busy none))).heap[M + 1]? = some (.loop (rec0 .busy none)) := World.putObj_heap_same hlt
      have hk2 : (W.putObj (M + 1) (.loop (rec0 .busy none))).heap[M]? = some (.deferred (some [])) := (World.putObj_heap_other (by omega)).trans hk
      have hv2 : KeepV Bv W (W.putObj (M + 1) (.loop (rec0 .busy none))) := ⟨World.putObj_heap_other (by omega), by simp⟩
      refine wpIn_mono (hbody _ pre x a' _ (hI.put _ hi (by omega) hl rfl) hax hlen hok) fun e a3 W3 hp => ?_
      -- the end of a round
      have close : ∀ (jump : Option Code), KeepsFrom M (W.putObj (M + 1) (.loop (rec0 .busy none))) W3 → ∃ st, (Instr.endRound (M + 1) jump).run Tryz.prog W3 = .ok (.bool jump.isNone) (W3.putObj (M + 1) (.loop (rec0 st jump))) ∧ st = (if jump.isNone then .ready else .done) ∧
          W3.heap[M + 1]? = some (.loop (rec0 .busy none)) ∧ Bk st jump (W3.putObj (M + 1) (.loop (rec0 st jump))) ∧ KeepV Bv W3 (W3.putObj (M + 1) (.loop (rec0 st jump))) := fun jump hk3 => by
        have hl3 := hk3.same _ _ (by omega) hl2 rfl
        exact ⟨_, run_endRound (P := Tryz.prog) jump hl3, rfl, hl3, ⟨World.putObj_heap_same (Array.getElem?_eq_some_iff.1 hl3).1, (World.putObj_heap_other (by omega)).trans (hk3.same _ _ (Nat.le_refl _) hk2 rfl)⟩, World.putObj_heap_other (by omega), by simp⟩
      cases e with
      | normal =>
        obtain ⟨hk3, hkv, hi3⟩ := hp
        obtain ⟨st, hr, rfl, hl3, hb3, hv3⟩ := close none hk3
        exact ⟨_, _, hr, .inl ⟨rfl, ⟨hI.put _ hi3 (by omega) hl3 rfl, hb3⟩, (hv2.trans hkv).trans hv3⟩⟩
      | ret =>
        obtain ⟨hk3, hi3⟩ := hp
        obtain ⟨st, hr, rfl, hl3, hb3, _⟩ := close (some .ret) hk3
        exact ⟨_, _, hr, .inr ⟨rfl, .ret, (hIx _).put _ hi3 (by omega) hl3 rfl, hb3⟩⟩
      | exit id =>
        obtain ⟨hk3, hi3⟩ := hp
        obtain ⟨st, hr, rfl, hl3, hb3, _⟩ := close (some (.exit id)) hk3
        exact ⟨_, _, hr, .inr ⟨rfl, .exit id, (hIx _).put _ hi3 (by omega) hl3 rfl, hb3⟩⟩
      | goto t =>
        obtain ⟨hk3, hi3⟩ := hp
        obtain ⟨st, hr, rfl, hl3, hb3, _⟩ := close (some (.goto t)) hk3
        exact ⟨_, _, hr, .inr ⟨rfl, .goto t, (hIx _).put _ hi3 (by omega) hl3 rfl, hb3⟩⟩
      | panic ch => exact hp.elim
      | outgrown => exact hp.elim
    · rintro e W2 ⟨⟨v, rfl⟩, (⟨xs, hS, hi, hl, hk⟩ | ⟨pre, hSp, c, hi, hl, hk⟩)⟩
      · exact ⟨none, _, run_endLoop (P := Tryz.prog) hl (by simp [rec0]), hdone M xs _ (Nat.le_refl _) hS (hI.put _ hi (by omega) hl rfl) ((World.putObj_heap_other (by omega)).trans hk)⟩
      · exact ⟨some c, _, run_endLoop (P := Tryz.prog) hl (by simp [rec0]), hstop M c pre _ (Nat.le_refl _) hSp ((hIx c).put _ hi (by omega) hl rfl) ((World.putObj_heap_other (by omega)).trans hk)⟩
end Go.Proofs.YtmjmidgfdjcbfaaGreatDoor.Dep
namespace Go.Proofs.YtmjmidgfdjcbfaaGreatDoor.Dep
open Go Go.RowKit Go.Shelf Go.Lib
set_option linter.unusedVariables false
attribute [local go_sem] Oper.semAt_some

/-- The lines of a text, each with its line feed. -/
def linF : Nat → Bs → List Bs
  | 0, _ => []
  | f + 1, s => if s = [] then [] else if indexByte s 10 < 0 then [s] else s.take ((indexByte s 10).toNat + 1) :: linF f (s.drop ((indexByte s 10).toNat + 1))
def linesL (s : Bs) : List Bs := linF s.length s
theorem indexByte_lt {s : Bs} {i : Nat} (h : indexByte s 10 = (i : Int)) : i < s.length := by
  obtain ⟨h1, _⟩ := indexByte_some h
  exact (List.getElem?_eq_some_iff.1 h1).1
theorem linF_nil (f : Nat) : linF f [] = [] := by
  cases f with
  | zero => rfl
  | succ f => unfold linF; rw [if_pos rfl]
theorem linF_last {f : Nat} {s : Bs} (hs : s ≠ []) (hi : indexByte s 10 = -1) : linF (f + 1) s = [s] := by
  unfold linF
  rw [if_neg hs, if_pos (by omega)]
theorem linF_next {f : Nat} {s : Bs} {i : Nat} (hs : s ≠ []) (hi : indexByte s 10 = (i : Int)) : linF (f + 1) s = s.take (i + 1) :: linF f (s.drop (i + 1)) := by
  conv => lhs; unfold linF
  rw [if_neg hs, if_neg (by omega), hi, Int.toNat_natCast]
theorem linF_fuel : ∀ (f g : Nat) (s : Bs), s.length ≤ f → s.length ≤ g → linF f s = linF g s
  | 0, g, s, h1, h2 => by
    have : s = [] := List.length_eq_zero_iff.1 (by omega)
    subst this
    rw [linF_nil, linF_nil]
  | f + 1, 0, s, h1, h2 => by
    have : s = [] := List.length_eq_zero_iff.1 (by omega)
    subst this
    rw [linF_nil, linF_nil]
  | f + 1, g + 1, s, h1, h2 => by
    by_cases hs : s = []
    · subst hs; rw [linF_nil, linF_nil]
    · by_cases hi : indexByte s 10 = -1
      · rw [linF_last hs hi, linF_last hs hi]
      · have hge := indexByte_ge s 10
        obtain ⟨i, e⟩ : ∃ i : Nat, indexByte s 10 = (i : Int) := ⟨(indexByte s 10).toNat, by omega⟩
        have hl := indexByte_lt e
        rw [linF_next hs e, linF_next hs e, linF_fuel f g (s.drop (i + 1)) (by rw [List.length_drop]; omega) (by rw [List.length_drop]; omega)]
/-- The length of the string at a place, if one lies there. -/
def strAt (W : World) (B : Nat) : Nat := match W.cell? ⟨B, 0, none⟩ with
  | some (Value.string s) => ByteArray.size s
  | _ => 0
def lineV (x : Bs) : Array Value := #[.string ⟨x.toArray⟩]

set_option maxRecDepth 100000 in
set_option maxHeartbeats 2000000 in
theorem lines_in (n : Nat) (hn : 1 ≤ n) (l Bn : Nat) (s : Bs) (hs : s.length ≤ 4000000) (J Jx : List Bs → World → Prop) (hJ : StaysV Bn J)
    (hY : ∀ pre (x : Bs) W, J pre W → pre.length < (linesL s).length → pre ++ [x] <+: linesL s → YieldAt Fence.wide (n - 1) Tryz.prog l (lineV x) W fun e W' =>
      (e = .returned (.bool true) ∧ J (pre ++ [x]) W' ∧ KeepV Bn W W') ∨ (e = .returned (.bool false) ∧ Jx (pre ++ [x]) W'))
    (W : World) (hBn : W.heap[Bn]? = some (.cells #[.string ⟨s.toArray⟩] 9 (0, 0))) (h0 : J [] W) :
    CallsIn Fence.wide n Tryz.prog 99 #[.func (.yield l) #[] #[], .pointer (some ⟨Bn, 0, none⟩)] W fun e W' => (∃ v, e = .returned v) ∧
      ((∃ ys : List Bs, ys = linesL s ∧ J ys W') ∨ (∃ pre : List Bs, pre <+: linesL s ∧ Jx pre W')) := by
  refine callsIn_of_wp Tryz.func99 rfl trivial ?_ rfl
  simp only [Tryz.ntmps99, List.size_toArray, List.length_cons, List.length_nil, Nat.reduceAdd, Nat.reduceSub, Array.replicate_succ, Array.replicate_zero, List.push_toArray, List.append_toArray, List.nil_append, List.cons_append]
  have HJ := Lib.hid hJ
  have HY := Lib.hid hY
  clear hJ hY
  gi_wp2
  gi_loopw [] (fun wr => ∃ (pre : List Bs) (R : ByteArray), Hid (pre ++ linF R.size R.data.toList = linesL s) ∧ R.size ≤ s.length ∧ wr.heap[Bn]? = some (.cells #[.string R] 9 (0, 0)) ∧ Hid (J pre wr))
    (fun wr => strAt wr Bn)
  case atStart =>
    refine ⟨[], ⟨s.toArray⟩, Lib.hid ?_, by rw [Lib.size_mk]; exact Nat.le_refl _, hBn, Lib.hid h0⟩
    rw [List.nil_append, Lib.size_mk]
    rfl
  case round =>
    obtain ⟨pre, R, HP, hR, hB, HJS⟩ := hrel
    have cB := cell_of (i := 0) (v := .string R) hB rfl
    have fB := frozen_of (i := 0) hB
    have hme : strAt wr Bn = R.size := by unfold strAt; rw [cB]
    have HME := Lib.hid hme
    have HBB := Lib.hid hB
    clear hme hB hBn h0
    by_cases h0 : R.size = 0
    · have hz : ¬ ((0 : Int) < (R.size : Int)) := by omega
      have hfin : pre = linesL s := by
        have := HP.out
        have hnil : R.data.toList = [] := List.length_eq_zero_iff.1 (by rw [← Lib.size_eq]; exact h0)
        rw [hnil, linF_nil, List.append_nil] at this
        exact this
      have HF := Lib.hid hfin
      clear h0 hfin HP
      gi_wp2
      go_end0
      exact ⟨⟨_, rfl⟩, .inl (HF.out ▸ HJS.out)⟩
    · have hz : (0 : Int) < (R.size : Int) := by omega
      have hne : R.data.toList ≠ [] := fun e => by
        have := congrArg List.length e
        rw [← Lib.size_eq] at this
        exact h0 this
      obtain ⟨f, hf⟩ : ∃ f, R.size = f + 1 := ⟨R.size - 1, by omega⟩
      have hix := fun W => Tryz.strings_IndexByte R 10 W
      rw [show ((10 : Int).toNat.toUInt8) = (10 : UInt8) from rfl] at hix
      obtain ⟨z, hzz⟩ : ∃ z, indexByte R.data.toList 10 = z := ⟨_, rfl⟩
      rw [hzz] at hix
      have HIX := Lib.hid hix
      have hge := indexByte_ge R.data.toList 10
      rw [hzz] at hge
      clear hix h0
      by_cases hz0 : z = -1
      · subst hz0
        have hl := linF_last (f := f) hne hzz
        have hP := HP.out
        rw [hf, hl] at hP
        have hlen : pre.length < (linesL s).length := by rw [← hP]; simp
        have hY2 := HY.out pre R.data.toList (wr.setCell ⟨Bn, 0, none⟩ (.string ⟨#[]⟩)) (HJ.out pre wr _ (some Bn) HJS.out ⟨rfl, rfl, rfl, by simp [World.setCell], fun k _ hk => Below.heap_setCell _ _ _ k (fun e => hk (by rw [e]))⟩ (fun r e => by cases e; rfl)) hlen (by rw [hP]; exact List.prefix_refl _)
        obtain ⟨fn, tmps, assign, body, hy, hR2⟩ := hY2
        unfold lineV at hy
        have hRR : (⟨R.data.toList.toArray⟩ : ByteArray) = R := by cases R; simp
        rw [hRR] at hy
        have HPP := Lib.hid hP
        have hb2 : (wr.setCell ⟨Bn, 0, none⟩ (.string ⟨#[]⟩)).heap[Bn]? = some (.cells #[.string ⟨#[]⟩] 9 (0, 0)) := set_of HBB.out _
        have HB2 := Lib.hid hb2
        have hR3 := hR2.mono (R' := fun e W' => ∃ b, e = .returned (.bool b) ∧ Hid ((b = true → J (pre ++ [R.data.toList]) W' ∧ KeepV Bn (wr.setCell ⟨Bn, 0, none⟩ (.string ⟨#[]⟩)) W') ∧ (b = false → Jx (pre ++ [R.data.toList]) W'))) (fun e W' h => by
          rcases h with ⟨h1, h2, h3⟩ | ⟨h1, h2⟩
          · exact ⟨true, h1, Lib.hid ⟨fun _ => ⟨h2, h3⟩, fun h => by cases h⟩⟩
          · exact ⟨false, h1, Lib.hid ⟨(fun h => by cases h), fun _ => h2⟩⟩)
        clear hge hne hzz hl hP hlen hR2 hRR hb2 hf
        gi_wp2_with (refine ⟨trivial, ?_⟩; gi_at_call 100; refine (callsIn_wide.2 (HIX.out _)).mono ?_; rintro e w' ⟨rfl, rfl⟩)
        refine hR3.mono ?_
        rintro e w' ⟨b, rfl, h3⟩
        cases b with
        | false =>
          gi_wp2
          refine bodyPost_ret (results_none rfl _ _ _) rfl ?_
          refine ⟨⟨_, rfl⟩, .inr ⟨_, ?_, (by first | exact h3.out.2 rfl | exact h3.out.2 trivial | exact h3.out.2)⟩⟩
          rw [HPP.out]
          exact List.prefix_refl _
        | true =>
          obtain ⟨hJ3, hk3⟩ : _ ∧ _ := by first | exact h3.out.1 rfl | exact h3.out.1 trivial | exact h3.out.1
          have hb3 := hk3.1.trans HB2.out
          have hfin : strAt w' Bn = 0 := by unfold strAt; rw [cell_of (i := 0) (v := .string ⟨#[]⟩) hb3 rfl]; rfl
          have HB3 := Lib.hid hb3
          have HJ3 := Lib.hid hJ3
          have HFN := Lib.hid hfin
          clear hb3 hJ3 hk3 hfin h3 cB fB hy hR3
          gi_wp2
          refine ⟨⟨_, ⟨#[]⟩, Lib.hid ?_, Nat.zero_le _, HB3.out, HJ3⟩, ?_⟩
          · rw [show linF (ByteArray.size ⟨#[]⟩) (⟨#[]⟩ : ByteArray).data.toList = [] from rfl, List.append_nil]
            exact HPP.out
          · rw [HFN.out, HME.out]
            omega
      · obtain ⟨i, rfl⟩ : ∃ i : Nat, z = (i : Int) := ⟨z.toNat, by omega⟩
        have hil := indexByte_lt hzz
        rw [← Lib.size_eq] at hil
        have hl := linF_next (f := f) hne hzz
        have hP := HP.out
        rw [hf, hl] at hP
        have hlen : pre.length < (linesL s).length := by rw [← hP]; simp
        have e1 : R.extract 0 (i + 1) = ⟨(R.data.toList.take (i + 1)).toArray⟩ := extract_upto R (i + 1)
        have e2 : R.extract (i + 1) R.size = ⟨(R.data.toList.drop (i + 1)).toArray⟩ := extract_from R (i + 1)
        obtain ⟨R2, hR2'⟩ : ∃ R2, R.extract (i + 1) R.size = R2 := ⟨_, rfl⟩
        obtain ⟨L, hL⟩ : ∃ L, R.extract 0 (i + 1) = L := ⟨_, rfl⟩
        have hd2 : R2.data.toList = R.data.toList.drop (i + 1) := by rw [← hR2', e2]
        have hs2 : R2.size = R.size - (i + 1) := by rw [Lib.size_eq, hd2, List.length_drop, ← Lib.size_eq]
        have hY2 := HY.out pre (R.data.toList.take (i + 1)) ((wr.setCell ⟨Bn, 0, none⟩ (.string R2)).drew) (HJ.out pre wr _ (some Bn) HJS.out ⟨rfl, rfl, rfl, by show _ ≤ (wr.setCell _ _).heap.size; simp [World.setCell], fun k _ hk => Below.heap_setCell _ _ _ k (fun e => hk (by rw [e]))⟩ (fun r e => by cases e; rfl)) hlen (by rw [← hP]; exact ⟨_, by rw [List.append_assoc]; rfl⟩)
        obtain ⟨fn, tmps, assign, body, hy, hRR2⟩ := hY2
        unfold lineV at hy
        rw [← e1, hL] at hy
        have hfl : linF R2.size R2.data.toList = linF f (R.data.toList.drop (i + 1)) := by
          rw [hd2]
          exact linF_fuel _ _ _ (by rw [← hd2, ← Lib.size_eq]; omega) (by rw [← hd2, ← Lib.size_eq]; omega)
        have HPP := Lib.hid hP
        have hb2 : ((wr.setCell ⟨Bn, 0, none⟩ (.string R2)).drew).heap[Bn]? = some (.cells #[.string R2] 9 (0, 0)) := set_of (W := wr) HBB.out _
        have HB2 := Lib.hid hb2
        have HFL := Lib.hid hfl
        have HS2 := Lib.hid hs2
        have hR3 := hRR2.mono (R' := fun e W' => ∃ b, e = .returned (.bool b) ∧ Hid ((b = true → J (pre ++ [R.data.toList.take (i + 1)]) W' ∧ KeepV Bn ((wr.setCell ⟨Bn, 0, none⟩ (.string R2)).drew) W') ∧ (b = false → Jx (pre ++ [R.data.toList.take (i + 1)]) W'))) (fun e W' h => by
          rcases h with ⟨h1, h2, h3⟩ | ⟨h1, h2⟩
          · exact ⟨true, h1, Lib.hid ⟨fun _ => ⟨h2, h3⟩, fun h => by cases h⟩⟩
          · exact ⟨false, h1, Lib.hid ⟨(fun h => by cases h), fun _ => h2⟩⟩)
        have hwi : IntKind.i64.wrap ((i : Int) + 1) = (i : Int) + 1 := by rw [IntKind.wrap_i64]; omega
        have hi0 : (0 : Int) ≤ (i : Int) := by omega
        have hi1 : (0 : Int) ≤ (i : Int) + 1 := by omega
        have hi2 : (i : Int) + 1 ≤ (R.size : Int) := by omega
        have hi3 : ((i : Int) + 1).toNat = i + 1 := by omega
        clear hge hne hzz hl hP hlen hRR2 e1 e2 hd2 hs2 hfl hb2 hf hil
        gi_wp2_with (refine ⟨trivial, ?_⟩; gi_at_call 100; refine (callsIn_wide.2 (HIX.out _)).mono ?_; rintro e w' ⟨rfl, rfl⟩)
        refine wpIn_wide.2 ?_
        go_still_tail 9, (by kernel_rfl)
        change wpList _ _ _ _ _ w'.drew
        go_wp2_with fail
        gi_wp2
        refine hR3.mono ?_
        rintro e w2 ⟨b, rfl, h3⟩
        cases b with
        | false =>
          gi_wp2
          refine bodyPost_ret (results_none rfl _ _ _) rfl ?_
          refine ⟨⟨_, rfl⟩, .inr ⟨_, ?_, (by first | exact h3.out.2 rfl | exact h3.out.2 trivial | exact h3.out.2)⟩⟩
          rw [← HPP.out]
          exact ⟨_, by rw [List.append_assoc]; rfl⟩
        | true =>
          obtain ⟨hJ3, hk3⟩ : _ ∧ _ := by first | exact h3.out.1 rfl | exact h3.out.1 trivial | exact h3.out.1
          have hb3 := hk3.1.trans HB2.out
          have hfin : strAt w2 Bn = R2.size := by unfold strAt; rw [cell_of (i := 0) (v := .string R2) hb3 rfl]
          have HB3 := Lib.hid hb3
          have HJ3 := Lib.hid hJ3
          have HFN := Lib.hid hfin
          clear hb3 hJ3 hk3 hfin h3 cB fB hy hR3
          gi_wp2
          refine ⟨⟨_, R2, Lib.hid ?_, by have := HS2.out; omega, HB3.out, HJ3⟩, ?_⟩
          · rw [HFL.out, ← HPP.out, List.append_assoc]
            rfl
          · rw [HFN.out, HME.out, HS2.out]
            omega
end Go.Proofs.YtmjmidgfdjcbfaaGreatDoor.Dep
namespace Go.Proofs.YtmjmidgfdjcbfaaGreatDoor.Dep
open Go Go.RowKit Go.Shelf Go.Lib
set_option linter.unusedVariables false

theorem lines_fn (s : ByteArray) (w : World) :
    Calls Tryz.prog 74 #[.string s] w fun e w' => e = .returned (.func (.func 99) #[] #[.pointer (some ⟨w.heap.size, 0, none⟩)]) ∧ w' = w.alloc (.cells #[.string s] 9) := by
  go_enter Tryz.func74, Tryz.ntmps74
  go_wp2
  go_ret
  exact ⟨rfl, rfl⟩
theorem lines_seq (n : Nat) (hn : 1 ≤ n) (Bn : Nat) (s : Bs) (hs : s.length ≤ 4000000) (w : World) (hBn : w.heap[Bn]? = some (.cells #[.string ⟨s.toArray⟩] 9 (0, 0))) :
    SeqV n 99 #[.pointer (some ⟨Bn, 0, none⟩)] lineV (fun ys => ys = linesL s) (fun pre => pre <+: linesL s) (fun pre x => pre ++ [x] <+: linesL s) (linesL s).length Bn w :=
  fun l J Jx W hW hJ _ hY h0 => lines_in n hn l Bn s hs J Jx hJ hY W (hW.trans hBn) h0

def digs : ByteArray := ⟨#[48, 49, 50, 51, 52, 53, 54, 55, 56, 57]⟩
theorem digs_contains : ∀ b : UInt8, digs.data.toList.contains b = digB b := by
  intro b
  have h : ∀ n : Fin 256, digs.data.toList.contains (UInt8.ofNat n.val) = digB (UInt8.ofNat n.val) := by decide +kernel
  have := h ⟨b.toNat, b.toNat_lt⟩
  simpa using this

set_option maxRecDepth 100000 in
set_option maxHeartbeats 2000000 in
theorem trimASCII_any (s : ByteArray) (hs : s.size ≤ maxLen) (B : Nat) (w : World) (hB : w.heap[B]? = some (.cells (Lib.setCells digs.data.toList) 170 (0, 0))) :
    Calls Tryz.prog 124 #[.string s, .pointer (some ⟨B, 0, none⟩)] w fun e w' => e = .returned (.string ⟨(s.data.toList.dropWhile digB).toArray⟩) ∧ w' = w := by
  obtain ⟨L, hL⟩ : ∃ L, s.data.toList.dropWhile digB = L := ⟨_, rfl⟩
  rw [hL]
  have HL := Lib.hid hL
  have HB := Lib.hid hB
  clear hL hB
  unfold maxLen at hs
  go_enter Tryz.func124, Tryz.ntmps124
  go_wp2_with fail
  obtain ⟨wo, rfl⟩ : ∃ wo, wo = w := ⟨_, rfl⟩
  go_loopg [0] s.size (fun gg sv wr => ∃ R : ByteArray, sv = .string R ∧ R.size ≤ gg ∧ R.size ≤ s.size ∧ Hid (R.data.toList.dropWhile digB = L) ∧ wr = wo)
  case atStart => exact ⟨s, rfl, Nat.le_refl _, Nat.le_refl _, HL, rfl⟩
  case round =>
    obtain ⟨R, rfl, hgg, hRs, HR, rfl⟩ := hrel
    by_cases h0 : R.size = 0
    · have hfin : R = ⟨L.toArray⟩ := by
        have hnil : R.data.toList = [] := List.length_eq_zero_iff.1 (by rw [← Lib.size_eq]; exact h0)
        have h1 := HR.out
        rw [hnil] at h1
        rw [← h1]
        have : R = ⟨R.data.toList.toArray⟩ := by cases R; simp
        rw [this, hnil]
        rfl
      have HF := Lib.hid hfin
      clear hfin hgg hRs
      go_wp2_with fail
      go_ret
      exact ⟨by rw [HF.out]; rfl, rfl⟩
    · have hz : (0 : Int) < (R.size : Int) := by omega
      obtain ⟨b, T, hbT⟩ : ∃ b T, R.data.toList = b :: T := by
        cases h : R.data.toList with
        | nil => exact absurd (by rw [Lib.size_eq, h]; rfl) h0
        | cons b T => exact ⟨b, T, rfl⟩
      have hcell : wr.cell? ⟨B, b.toNat, none⟩ = some (.bool (digB b)) := by
        rw [cell_of HB.out (Lib.setCells_at digs.data.toList b), digs_contains]
      have HC := Lib.hid (Tryz.asciiSet_contains B b (digB b) wr hcell)
      have hix : ∀ W, (Instr.index 9 (.string R) (.int .i64 0)).run Tryz.prog W = .ok (.int .u8 b.toNat) W := fun W => by
        have hg : R.data[0]? = some b := by
          rw [← Array.getElem?_toList, hbT]; rfl
        obtain ⟨h1, h2⟩ := Array.getElem?_eq_some_iff.1 hg
        have := run_index_string (P := Tryz.prog) W 9 R .i64 (0 : Int) Tryz.underlying9
        rw [this, dif_pos ⟨by omega, by omega⟩]
        have h3 : R[0] = b := h2
        simp [h3]
      have HT := Lib.hid hbT
      cases hd : digB b with
      | true =>
        rw [hd] at HC
        have hnx : (R.extract 1 R.size).data.toList.dropWhile digB = L := by
          rw [extract_from]
          show (R.data.toList.drop 1).dropWhile digB = L
          rw [hbT]
          have := HR.out
          rw [hbT, List.dropWhile_cons, if_pos hd] at this
          exact this
        obtain ⟨R2, hR2⟩ : ∃ R2, R.extract 1 R.size = R2 := ⟨_, rfl⟩
        have hs2 : R2.size + 1 = R.size := by rw [← hR2, ByteArray.size_extract]; omega
        rw [hR2] at hnx
        have HNX := Lib.hid hnx
        have HS2 := Lib.hid hs2
        clear hnx hs2 hd hbT h0 hcell
        have hp1 : (1 : Int) ≤ (R.size : Int) := by omega
        go_wp2_with fail
        refine HC.out.mono ?_
        rintro e w' ⟨rfl, rfl⟩
        go_wp2_with fail
        go_roundg R2.size
        case measure => have := HS2.out; omega
        case rel => exact ⟨R2, rfl, Nat.le_refl _, by have := HS2.out; omega, HNX, rfl⟩
      | false =>
        rw [hd] at HC
        have hfin : R = ⟨L.toArray⟩ := by
          have h1 := HR.out
          rw [hbT, List.dropWhile_cons, if_neg (by rw [hd]; decide), ← hbT] at h1
          rw [← h1]
        have HF := Lib.hid hfin
        clear hfin hd hbT h0 hcell
        go_wp2_with fail
        refine HC.out.mono ?_
        rintro e w' ⟨rfl, rfl⟩
        go_wp2_with fail
        go_ret
        exact ⟨by rw [HF.out]; rfl, rfl⟩

theorem digs_ascii : ∀ (j : Nat) b, digs.data.toList[j]? = some b → b.toNat < 128 := by
  intro j b h
  have hm := List.mem_of_getElem? h
  have : ∀ b ∈ digs.data.toList, b.toNat < 128 := by decide
  exact this b hm
set_option maxRecDepth 100000 in
set_option maxHeartbeats 2000000 in
theorem trimLeft_any (s : ByteArray) (hs : s.size ≤ maxLen) (w : World) :
    Calls Tryz.prog 101 #[.string s, .string digs] w fun e w' => e = .returned (.string ⟨(s.data.toList.dropWhile digB).toArray⟩) ∧ Below w.heap.size w w' := by
  by_cases h0 : s.size = 0
  · have hnil : s.data.toList = [] := List.length_eq_zero_iff.1 (by rw [← Lib.size_eq]; exact h0)
    have hse : s = ⟨#[]⟩ := by
      have : s = ⟨s.data.toList.toArray⟩ := by cases s; simp
      rw [this, hnil]
    subst hse
    show Calls Tryz.prog 101 #[.string ⟨#[]⟩, .string digs] w fun e w' => e = .returned (.string ⟨#[]⟩) ∧ Below w.heap.size w w'
    clear h0 hnil hs
    go_enter Tryz.func101, Tryz.ntmps101
    go_wp2_with fail
    go_ret
    exact ⟨rfl, Below.refl _ _⟩
  · have hset := Tryz.strings_makeASCIISet (fun w => by kernel_rfl) digs w (by decide) digs_ascii
    have HSET := Lib.hid hset
    have hl : s.data.toList.length ≤ 9223372036854775807 := by rw [← Lib.size_eq]; unfold maxLen at hs; omega
    obtain ⟨C, hC⟩ : ∃ C, Lib.setCells digs.data.toList = C := ⟨_, rfl⟩
    have htr := fun (B : Nat) (W : World) (hB : W.heap[B]? = some (.cells C 170 (0, 0))) => trimASCII_any s hs B W (by rw [hC]; exact hB)
    rw [hC] at hset
    have HC := Lib.hid hC
    obtain ⟨T, hT⟩ : ∃ T, (⟨(s.data.toList.dropWhile digB).toArray⟩ : ByteArray) = T := ⟨_, rfl⟩
    rw [hT] at htr ⊢
    have HTR := Lib.hid htr
    replace HSET := Lib.hid hset
    have he1 : s.toList.isEmpty = false := by
      rw [Lib.toList_data, Bool.eq_false_iff]
      intro e
      have h2 := congrArg List.length (List.isEmpty_iff.1 e)
      rw [← Lib.size_eq] at h2
      exact h0 h2
    have he2 : digs.toList.isEmpty = false := by rw [Lib.toList_data]; rfl
    have hds : digs.size = 10 := rfl
    clear h0 hl hC htr hset hT hs
    go_enter Tryz.func101, Tryz.ntmps101
    go_wp2_with fail
    refine HSET.out.mono ?_
    rintro e w1 ⟨rfl, rfl⟩
    obtain ⟨W1, hW1⟩ : ∃ W1, w.alloc (.cells C 170) = W1 := ⟨_, rfl⟩
    have hb1 : Below w.heap.size w W1 := by rw [← hW1]; exact below_box w _
    have hsz1 : W1.heap.size = w.heap.size + 1 := by rw [← hW1]; exact alloc_sz w _
    rw [hW1]
    have HB1 := Lib.hid hb1
    have hnew := block_new W1 (.cells Tryz.zeroCells170 170)
    have hrow := setRow_heap _ W1.heap.size _ C _ _ hnew
    have hbr := below_setRow (hb1.alloc hb1.size (.cells Tryz.zeroCells170 170)) (g := W1.heap.size) hb1.size C
    have hc256 : C.size = 256 := by rw [← HC.out]; exact Lib.setCells_size _
    have hone : C.all (·.oneCell') = true := by rw [← HC.out]; exact Lib.setCells_one _
    have HNEW := Lib.hid hnew
    have HROW := Lib.hid hrow
    have HBR := Lib.hid hbr
    have HCS := Lib.hid (And.intro hc256 hone)
    clear hb1 hW1 hnew hrow hbr hc256 hone hsz1
    go_wp2_with (first
      | refine wpList_store_row rfl 170 (.tmp 5) (.tmp 29) rfl W1.heap.size C rfl rfl 170 _ HNEW.out (by rw [HCS.out.1]; kernel_rfl) (by rw [HCS.out.1]; kernel_rfl) HCS.out.2 ?_)
    refine (HTR.out _ _ HROW.out).mono ?_
    rintro e w2 ⟨rfl, rfl⟩
    go_wp2_with fail
    go_ret
    exact ⟨rfl, HBR.out⟩
end Go.Proofs.YtmjmidgfdjcbfaaGreatDoor.Dep
