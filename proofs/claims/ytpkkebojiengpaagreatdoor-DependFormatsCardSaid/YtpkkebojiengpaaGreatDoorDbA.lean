/-
  A LAW, OF NO PROGRAM: a loop over an iterator that keeps its place in a variable of its own (block Bv), which it writes between the rounds: what the loop says of memory must not speak of that block's cells.
-/
import Derived.Test.YtpkkebojiengpaaGreatDoorDaR
import Derived.RangeFuncNested
import Derived.RangeFuncBound
import Derived.RangeFuncCalls
import Derived.RangeFuncLeaves
import Derived.OwnWalkIn
import Derived.TacticsInMore
import Derived.LoopNIn
import Derived.LoopIn
namespace Go.Proofs.YtpkkebojiengpaaGreatDoor
open Go Go.RowKit Go.Shelf Go.Lib
set_option linter.unusedVariables false

/-- What stays while the heap grows and block Bv alone changes. -/
def StaysV {β : Type} (Bv : Nat) (J : β → World → Prop) : Prop := ∀ s W W' row, J s W → W.grownBy W' row → (∀ r, row = some r → r = Bv) → J s W'
/-- The same, and while what is no cells, from B on, changes. -/
def OwnV {β : Type} (B Bv : Nat) (I : β → World → Prop) : Prop := ∀ s W W' row, I s W → W.grownBy W' row → (∀ r, row = some r → r = Bv ∨ (B ≤ r ∧ ∃ o : Obj, W.heap[r]? = some o ∧ o.isCells = false)) → I s W'
theorem OwnV.put {β : Type} {B Bv : Nat} {I : β → World → Prop} (h : OwnV B Bv I) {s : β} {W : World} {l : Nat} {o : Obj} (o' : Obj) (hs : I s W) (hB : B ≤ l) (hl : W.heap[l]? = some o) (ho : o.isCells = false) : I s (W.putObj l o') :=
  h s W _ (some l) hs (grownBy_putObj' W l o') (fun r e => by cases e; exact .inr ⟨hB, o, hl, ho⟩)
theorem OwnV.new {β : Type} {B Bv : Nat} {I : β → World → Prop} (h : OwnV B Bv I) {s : β} {W : World} (o : Obj) (hs : I s W) : I s (W.alloc o) :=
  h s W _ none hs (World.grownBy_alloc W o none) (fun r e => by cases e)
/-- What a round leaves for the iterator: its variable, and a heap no smaller. -/
def KeepV (Bv : Nat) (W W' : World) : Prop := W'.heap[Bv]? = W.heap[Bv]? ∧ W.heap.size ≤ W'.heap.size
theorem KeepV.trans {Bv : Nat} {X Y Z : World} (h : KeepV Bv X Y) (k : KeepV Bv Y Z) : KeepV Bv X Z := ⟨k.1.trans h.1, Nat.le_trans h.2 k.2⟩
/-- The iterator's contract: it hands over xs with S xs, or a beginning with Sp, after which it was told to stop. -/
def SeqV {α : Type} (n : Nat) (gf : Nat) (lb : Array Value) (encs : α → Array Value) (S Sp : List α → Prop) (Ok : List α → α → Prop) (N Bv : Nat) (w : World) : Prop :=
  ∀ (l : Nat) (J Jx : List α → World → Prop) (W : World), W.heap[Bv]? = w.heap[Bv]? → StaysV Bv J → StaysV Bv Jx →
    (∀ pre x W1, J pre W1 → pre.length < N → Ok pre x → YieldAt Fence.wide (n - 1) Tryz.prog l (encs x) W1 fun e W' =>
      (e = .returned (.bool true) ∧ J (pre ++ [x]) W' ∧ KeepV Bv W1 W') ∨ (e = .returned (.bool false) ∧ Jx (pre ++ [x]) W')) →
    J [] W →
    CallsIn Fence.wide n Tryz.prog gf (#[.func (.yield l) #[] #[]] ++ lb) W fun e W' => (∃ v, e = .returned v) ∧ ((∃ xs, S xs ∧ J xs W') ∨ (∃ pre, Sp pre ∧ Jx pre W'))
/-- What the body owes. -/
def postV {α : Type} (B Bv : Nat) (I : List α → World → Prop) (Ix : Code → List α → World → Prop) (xs : List α) (W : World) : Exit → Act → World → Prop
  | .normal, _, W' => KeepsFrom B W W' ∧ KeepV Bv W W' ∧ I xs W'
  | .ret, _, W' => KeepsFrom B W W' ∧ Ix .ret xs W'
  | .exit id, _, W' => KeepsFrom B W W' ∧ Ix (.exit id) xs W'
  | .goto t, _, W' => KeepsFrom B W W' ∧ Ix (.goto t) xs W'
  | .panic _, _, _ => False
  | .outgrown, _, _ => False

theorem range_over {α : Type} {n : Nat} {w : World} {g : Operand} {ps : Array Tmp} {assign body : Code} {Q : Exit → Act → World → Prop} {a : Act}
    (h1 : 1 ≤ n) {gf : Nat} {lb : Array Value} (hg : a.eval g = .func (.func gf) #[] lb) (eg : ∀ args w, (callFunc gf args).run Tryz.prog w = .ok (.enter gf args) w)
    {encs : α → Array Value} {S Sp : List α → Prop} {Ok : List α → α → Prop} {N Bv : Nat} (hBv : Bv < w.heap.size) (hseq : SeqV (n - 1) gf lb encs S Sp Ok N Bv w) (hps : ∀ x, (encs x).size = ps.size)
    (I : List α → World → Prop) (Ix : Code → List α → World → Prop) (hI : OwnV w.heap.size Bv I) (hIx : ∀ c, OwnV w.heap.size Bv (Ix c)) (h0 : I [] w) (Ax : α → Act → Prop)
    (hassign : ∀ (l : Nat) (x : α) (W : World) (K : Act → World → Prop), (∀ a', Ax x a' → K a' W) →
      assign.wpIn (Fence.wide.inRound l) (n - 1 - 1) Tryz.prog (Exit.then K (fun _ _ _ => False)) { tmps := (ps.zip (encs x)).foldl (fun t (p, v) => t.setIfInBounds p v) a.tmps, defers := [] } W)
    (hbody : ∀ (l : Nat) (pre : List α) (x : α) (a' : Act) (W : World), I pre W → Ax x a' → pre.length < N → Ok pre x → body.wpIn (Fence.wide.inRound l) (n - 1 - 1) Tryz.prog (postV w.heap.size Bv I Ix (pre ++ [x]) W) a' W)
    (hdone : ∀ (D : Nat) (xs : List α) (W : World), w.heap.size ≤ D → S xs → I xs W → W.heap[D]? = some (.deferred (some [])) → Q .normal { a with defers := { target := .collected D, args := #[] } :: a.defers } W)
    (hstop : ∀ (D : Nat) (c : Code) (pre : List α) (W : World), w.heap.size ≤ D → Sp pre → Ix c pre W → W.heap[D]? = some (.deferred (some [])) → c.wpIn Fence.wide n Tryz.prog Q { a with defers := { target := .collected D, args := #[] } :: a.defers } W) :
    (Code.rangeFunc g ps assign body).wpIn Fence.wide n Tryz.prog Q a w := by
  refine wpIn_rangeFunc fun fn hfn => ?_
  obtain ⟨M, hM⟩ : ∃ M, w.heap.size = M := ⟨_, rfl⟩
  rw [hM] at hI hIx hdone hstop hbody hBv
  let rec0 : LoopState → Option Code → Loop := fun st pe => { state := st, pending := pe, fn, tmps := a.tmps, params := ps, assign, body, defers := M }
  -- the two blocks of the loop's own
  let Bk : LoopState → Option Code → World → Prop := fun st pe W => W.heap[M + 1]? = some (.loop (rec0 st pe)) ∧ W.heap[M]? = some (.deferred (some []))
  have bkV : ∀ st pe, StaysV (β := Unit) Bv (fun _ W => Bk st pe W) := fun st pe _ W W' row hb hgr hr =>
    ⟨(hgr.block _ (Array.getElem?_eq_some_iff.1 hb.1).1 (fun e => by have := hr _ e.symm; omega)).trans hb.1, (hgr.block _ (Array.getElem?_eq_some_iff.1 hb.2).1 (fun e => by have := hr _ e.symm; omega)).trans hb.2⟩
  have ownStays : ∀ {I' : List α → World → Prop}, OwnV M Bv I' → StaysV Bv I' := fun h s W W' row hs hgr hr => h s W W' row hs hgr (fun r e => .inl (hr r e))
  let W1 := (w.alloc (.deferred (some []))).alloc (.loop (rec0 .ready none))
  have hb1 : Bk .ready none W1 := by
    have e1 := World.alloc_heap_new (w.alloc (.deferred (some []))) (.loop (rec0 .ready none))
    rw [World.size_alloc, hM] at e1
    have e2 := World.alloc_heap_new w (.deferred (some []))
    rw [hM] at e2
    exact ⟨e1, (Below.heap_alloc _ _ _ (by simp; omega)).trans e2⟩
  have hsV : W1.heap[Bv]? = w.heap[Bv]? := (Below.heap_alloc _ _ _ (by simp; omega)).trans (Below.heap_alloc _ _ _ (by omega))
  have hen := run_enterLoop_outer (P := Tryz.prog) (w := w) fn a.tmps ps assign body
  rw [hM] at hen
  refine ⟨M + 1, [{ target := .collected M, args := #[] }], W1, { target := .fn (.func gf) lb, args := #[.func (.yield (M + 1)) #[] #[]] }, W1, gf, #[.func (.yield (M + 1)) #[] #[]] ++ lb, W1, hen, ?_, fun _ _ => trivial, ?_, fun _ => h1, ?_⟩
  · simp only [resolve, hg]
    simp [go_sem]
  · simp [invoke, go_sem, eg]
  · refine (hseq (M + 1) (fun pre W => I pre W ∧ Bk .ready none W) (fun pre W => ∃ c, Ix c pre W ∧ Bk .done (some c) W) W1 hsV
      (fun s A B row hs hgr hr => ⟨ownStays hI s A B row hs.1 hgr hr, bkV _ _ () A B row hs.2 hgr hr⟩)
      (fun s A B row hs hgr hr => by
        obtain ⟨c, hc, hb⟩ := hs
        exact ⟨c, ownStays (hIx c) s A B row hc hgr hr, bkV _ _ () A B row hb hgr hr⟩)
      ?_ ⟨hI.new _ (hI.new _ h0), hb1⟩).mono ?_
    · rintro pre x W ⟨hi, hl, hk⟩ hlen hok
      have hlt : M + 1 < W.heap.size := (Array.getElem?_eq_some_iff.1 hl).1
      refine ⟨fn, _, assign, body, run_yield (P := Tryz.prog) (args := encs x) hl (hps x), roundIn_of_wpIn hfn (hassign _ x W _ fun a' hax => ⟨_, run_beginRound hl rfl, ?_⟩)⟩
      have hl2 : (W.putObj (M + 1) (.loop (rec0 .busy none))).heap[M + 1]? = some (.loop (rec0 .busy none)) := World.putObj_heap_same hlt
      have hk2 : (W.putObj (M + 1) (.loop (rec0 .busy none))).heap[M]? = some (.deferred (some [])) := (World.putObj_heap_other (by omega)).trans hk
      have hv2 : KeepV Bv W (W.putObj (M + 1) (.loop (rec0 .busy none))) := ⟨World.putObj_heap_other (by omega), by simp⟩
      refine wpIn_mono (hbody _ pre x a' _ (hI.put _ hi (by omega) hl rfl) hax hlen hok) fun e a3 W3 hp => ?_
      -- the end of a round
      have close : ∀ (jump : Option Code), KeepsFrom M (W.putObj (M + 1) (.loop (rec0 .busy none))) W3 → ∃ st, (Instr.endRound (M + 1) jump).run Tryz.prog W3 = .ok (.bool jump.isNone) (W3.putObj (M + 1) (.loop (rec0 st jump))) ∧ st = (if jump.isNone then .ready else .done) ∧
          W3.heap[M + 1]? = some (.loop (rec0 .busy none)) ∧ Bk st jump (W3.putObj (M + 1) (.loop (rec0 st jump))) ∧ KeepV Bv W3 (W3.putObj (M + 1) (.loop (rec0 st jump))) := fun jump hk3 => by
        have hl3 := hk3.same _ _ (by omega) hl2 rfl
        exact ⟨_, run_endRound (P := Tryz.prog) jump hl3, rfl, hl3, ⟨World.putObj_heap_same (Array.getElem?_eq_some_iff.1 hl3).1, (World.putObj_heap_other (by omega)).trans (hk3.same _ _ (Nat.le_refl _) hk2 rfl)⟩, World.putObj_heap_other (by omega), by simp⟩
      cases e with
      | normal =>
        obtain ⟨hk3, hkv, hi3⟩ := hp
        obtain ⟨st, hr, rfl, hl3, hb3, hv3⟩ := close none hk3
        exact ⟨_, _, hr, .inl ⟨rfl, ⟨hI.put _ hi3 (by omega) hl3 rfl, hb3⟩, (hv2.trans hkv).trans hv3⟩⟩
      | ret =>
        obtain ⟨hk3, hi3⟩ := hp
        obtain ⟨st, hr, rfl, hl3, hb3, _⟩ := close (some .ret) hk3
        exact ⟨_, _, hr, .inr ⟨rfl, .ret, (hIx _).put _ hi3 (by omega) hl3 rfl, hb3⟩⟩
      | exit id =>
        obtain ⟨hk3, hi3⟩ := hp
        obtain ⟨st, hr, rfl, hl3, hb3, _⟩ := close (some (.exit id)) hk3
        exact ⟨_, _, hr, .inr ⟨rfl, .exit id, (hIx _).put _ hi3 (by omega) hl3 rfl, hb3⟩⟩
      | goto t =>
        obtain ⟨hk3, hi3⟩ := hp
        obtain ⟨st, hr, rfl, hl3, hb3, _⟩ := close (some (.goto t)) hk3
        exact ⟨_, _, hr, .inr ⟨rfl, .goto t, (hIx _).put _ hi3 (by omega) hl3 rfl, hb3⟩⟩
      | panic ch => exact hp.elim
      | outgrown => exact hp.elim
    · rintro e W2 ⟨⟨v, rfl⟩, (⟨xs, hS, hi, hl, hk⟩ | ⟨pre, hSp, c, hi, hl, hk⟩)⟩
      · exact ⟨none, _, run_endLoop (P := Tryz.prog) hl (by simp [rec0]), hdone M xs _ (Nat.le_refl _) hS (hI.put _ hi (by omega) hl rfl) ((World.putObj_heap_other (by omega)).trans hk)⟩
      · exact ⟨some c, _, run_endLoop (P := Tryz.prog) hl (by simp [rec0]), hstop M c pre _ (Nat.le_refl _) hSp ((hIx c).put _ hi (by omega) hl rfl) ((World.putObj_heap_other (by omega)).trans hk)⟩
end Go.Proofs.YtpkkebojiengpaaGreatDoor
