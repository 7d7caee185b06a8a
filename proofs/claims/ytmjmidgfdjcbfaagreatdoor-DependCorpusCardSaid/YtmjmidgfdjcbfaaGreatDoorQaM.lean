/-
  THE PLAIN MATHEMATICS of package corpus, of no program, first part: corpora; the order of regions; the errors of their parts.
-/
import Derived.Test.YtmjmidgfdjcbfaaGreatDoorFtM
namespace Go.Proofs.YtmjmidgfdjcbfaaGreatDoor
open Go.Lib

/-- A text or a region: its name or type, begin, end, pairs. -/
structure Ex where
  name : Bs
  b : Int
  e : Int
  ps : List (Bs × Bs)
deriving DecidableEq
structure Nd where
  label : Bs
  b : Int
  e : Int
  parent : Int
deriving DecidableEq
structure Cor where
  attrs : List (Bs × Bool)
  toks : List Fs
  texts : List Ex
  regs : List Ex
  nodes : List Nd
  heads : List Int
  rels : Fs
deriving DecidableEq
def Cor.none : Cor := ⟨[], [], [], [], [], [], []⟩
/-- The first place at which p holds, or -1. -/
def findZ {α : Type} (p : α → Bool) (l : List α) : Int := match l.findIdx? p with | none => -1 | some i => (i : Int)
def cmpI (a b : Int) : Int := if a < b then -1 else if b < a then 1 else 0
def cmpP (p q : Bs × Bs) : Int := if compareBytes p.1 q.1 = 0 then compareBytes p.2 q.2 else compareBytes p.1 q.1
def cmpPs : List (Bs × Bs) → List (Bs × Bs) → Int
  | [], [] => 0
  | [], _ :: _ => -1
  | _ :: _, [] => 1
  | p :: l, q :: m => if cmpP p q = 0 then cmpPs l m else cmpP p q
/-- The order of regions. -/
def cmpR (x y : Ex) : Int :=
  if cmpI x.b y.b = 0 then (if cmpI y.e x.e = 0 then (if compareBytes x.name y.name = 0 then cmpPs x.ps y.ps else compareBytes x.name y.name) else cmpI y.e x.e) else cmpI x.b y.b
def textAt (c : Cor) (pos : Int) : Int := findZ (fun t => decide (t.b ≤ pos) && decide (pos < t.e)) c.texts
def findText (c : Cor) (n : Bs) : Int := findZ (fun t => decide (t.name = n)) c.texts
/-- The first index from k on with an error, and the error; 0, 0 if there is none. -/
def scanE (f : Nat → Nat) (n k : Nat) : Nat × Nat := if k < n then (if f k = 0 then scanE f n (k + 1) else (k, f k)) else (0, 0)
termination_by n - k
def partE (whole : Nat) (f : Nat → Nat) (n : Nat) : Nat × Nat := if whole = 0 then scanE f n 0 else (0, whole)
def attrsE (c : Cor) : Nat := if c.attrs.length = 0 then 15 else if 8 < c.attrs.length then 2 else 0
def attrE (c : Cor) (i : Nat) : Nat :=
  match c.attrs[i]? with
  | none => 0
  | some a => if nameB a.1 = false then 4 else if (c.attrs.take i).any (fun y => decide (y.1 = a.1)) then 5 else 0
def toksE (c : Cor) : Nat := if 4096 < c.toks.length then 2 else 0
def valX (a : Bs × Bool) (v : Bs) : Nat := if a.2 then (parseL v).2 else valE v
def valsE : List (Bs × Bool) → Fs → Nat
  | a :: al, v :: vs => if valX a v = 0 then valsE al vs else valX a v
  | _, _ => 0
def tokE (c : Cor) (i : Nat) : Nat :=
  match c.toks[i]? with
  | none => 0
  | some t => if t.length ≠ c.attrs.length then 15 else valsE c.attrs t
def pairsGo : Option Bs → List (Bs × Bs) → Nat
  | _, [] => 0
  | prev, p :: r => if nameB p.1 = false then 4 else if prev.any (fun q => !decide (q < p.1)) then 6 else if valE p.2 = 0 then pairsGo (some p.1) r else valE p.2
def pairsE (l : List (Bs × Bs)) : Nat := if 8 < l.length then 2 else pairsGo none l
def textsE (c : Cor) : Nat := if 64 < c.texts.length then 2 else if decide (c.texts.length = 0) ≠ decide (c.toks.length = 0) then 15 else 0
/-- Where text i must begin. -/
def endB (c : Cor) (i : Nat) : Int := if i = 0 then 0 else match c.texts[i - 1]? with | none => 0 | some t => t.e
def textE (c : Cor) (i : Nat) : Nat :=
  match c.texts[i]? with
  | none => 0
  | some t => if nameB t.name = false then 4 else if (c.texts.take i).any (fun y => decide (y.name = t.name)) then 5
    else if t.b ≠ endB c i ∨ t.e ≤ t.b ∨ (c.toks.length : Int) < t.e then 8 else if i + 1 = c.texts.length ∧ t.e ≠ (c.toks.length : Int) then 8 else pairsE t.ps
/-- Does an interval lie within one text? -/
def within (c : Cor) (b e : Int) : Bool := c.texts.any fun t => decide (t.b ≤ b) && decide (b < e) && decide (e ≤ t.e)
def regsE (c : Cor) : Nat := if 1024 < c.regs.length then 2 else 0
def crosses (x y : Ex) : Bool := decide (y.name = x.name) && decide (y.b < x.e) && decide (x.b < y.e) && !(decide (y.b ≤ x.b) && decide (x.e ≤ y.e)) && !(decide (x.b ≤ y.b) && decide (y.e ≤ x.e))
def holds (x y : Ex) : Bool := decide (y.b ≤ x.b) && decide (x.b < y.e)
/-- Is the region before x greater? -/
def badOrder (l : List Ex) (i : Nat) (x : Ex) : Bool := decide (i ≠ 0) && (match l[i - 1]? with | none => false | some y => decide (0 < cmpR y x))
def regE (c : Cor) (i : Nat) : Nat :=
  match c.regs[i]? with
  | none => 0
  | some x => if nameB x.name = false then 4 else if within c x.b x.e = false then 8 else if pairsE x.ps ≠ 0 then pairsE x.ps
    else if badOrder c.regs i x then 6 else if (c.regs.take i).any (crosses x) then 13 else if 40 < ((c.regs.take (i + 1)).filter (holds x)).length then 2 else 0
/-- The way down to the last node: indices. -/
def aboveN (path : List Int) (p : Int) : Nat := match path.findIdx? (fun k => decide (k = p)) with | none => 0 | some i => i + 1
def pathAt (l : List Nd) : Nat → List Int
  | 0 => []
  | i + 1 => match l[i]? with
    | none => pathAt l i
    | some x => (pathAt l i).take (aboveN (pathAt l i) x.parent) ++ [(i : Int)]
def nodesE (c : Cor) : Nat := if 2048 < c.nodes.length then 2 else 0
def ndAt (l : List Nd) (k : Int) : Nd := l.getD k.toNat ⟨[], 0, 0, 0⟩
/-- The error of a node of which the way down is known. -/
def nodeP (l : List Nd) (path : List Int) (x : Nd) : Nat :=
  if aboveN path x.parent = 0 ∧ x.parent ≠ -1 then 6
  else if 0 < aboveN path x.parent ∧ ¬ ((ndAt l x.parent).b ≤ x.b ∧ x.e ≤ (ndAt l x.parent).e) then 8
  else if aboveN path x.parent < path.length ∧ x.b < (ndAt l (path.getD (aboveN path x.parent) 0)).e then 8
  else if 40 < aboveN path x.parent + 1 then 2 else 0
def nodeE (c : Cor) (i : Nat) : Nat :=
  match c.nodes[i]? with
  | none => 0
  | some x => if nameB x.label = false then 4 else if within c x.b x.e = false then 8 else nodeP c.nodes (pathAt c.nodes i) x
def bare (h : List Int) (r : Fs) : Bool := h.all (fun x => decide (x = -1)) && r.all (fun x => decide (x = []))
def headsE (c : Cor) : Nat :=
  if c.heads.length ≠ c.rels.length then 15 else if c.heads.length ≠ 0 ∧ c.heads.length ≠ c.toks.length then 15 else if c.heads.length ≠ 0 ∧ bare c.heads c.rels then 14 else 0
/-- One step by heads. -/
def stepH (h : List Int) (i : Int) : Option Int := match h[i.toNat]? with
  | none => none
  | some x => if 0 ≤ x ∧ x < h.length then some x else none
def iterH (h : List Int) : Nat → Int → Option Int
  | 0, i => some i
  | k + 1, i => (stepH h i).bind (iterH h k)
/-- Does the way from i lead back to it? -/
def cyc (h : List Int) (i : Int) : Bool := (List.range h.length).any fun k => decide (iterH h (k + 1) i = some i)
def headE (c : Cor) (i : Nat) : Nat :=
  match c.heads[i]?, c.rels[i]? with
  | some h, some r => if h ≠ -1 ∧ textAt c h ≠ textAt c i then 8 else if r ≠ [] ∧ nameB r = false then 4 else if cyc c.heads i then 12 else 0
  | _, _ => 0
/-- The parts' numbers, their first error. -/
def partsE (c : Cor) : List (Nat × (Nat × Nat)) :=
  [(1, partE (attrsE c) (attrE c) c.attrs.length), (2, partE (toksE c) (tokE c) c.toks.length), (3, partE (textsE c) (textE c) c.texts.length), (4, partE (regsE c) (regE c) c.regs.length), (5, partE (nodesE c) (nodeE c) c.nodes.length), (6, partE (headsE c) (headE c) c.heads.length)]
def firstPart : List (Nat × (Nat × Nat)) → Nat × Nat × Nat
  | [] => (0, 0, 0)
  | (p, (i, e)) :: r => if e = 0 then firstPart r else (p, i, e)
def validate (c : Cor) : Nat × Nat × Nat := firstPart (partsE c)
def validC (c : Cor) : Bool := decide ((validate c).2.2 = 0)

theorem scanE_step {f : Nat → Nat} {n k : Nat} (h : k < n) : scanE f n k = if f k = 0 then scanE f n (k + 1) else (k, f k) := by rw [scanE, if_pos h]
theorem scanE_end {f : Nat → Nat} {n k : Nat} (h : ¬ k < n) : scanE f n k = (0, 0) := by rw [scanE, if_neg h]
theorem scanE_zero {f : Nat → Nat} {n : Nat} : ∀ {k : Nat}, (scanE f n k).2 = 0 ↔ ∀ j, k ≤ j → j < n → f j = 0 := by
  intro k
  obtain ⟨m, hm⟩ : ∃ m, n - k = m := ⟨_, rfl⟩
  induction m generalizing k with
  | zero =>
    rw [scanE_end (by omega)]
    exact ⟨fun _ j h1 h2 => by omega, fun _ => rfl⟩
  | succ m ih =>
    rw [scanE_step (by omega)]
    by_cases h0 : f k = 0
    · rw [if_pos h0, ih (by omega)]
      refine ⟨fun h j h1 h2 => ?_, fun h j h1 h2 => h j (by omega) h2⟩
      by_cases e : j = k
      · subst e; exact h0
      · exact h j (by omega) h2
    · rw [if_neg h0]
      exact ⟨fun h => absurd h h0, fun h => absurd (h k (Nat.le_refl _) (by omega)) h0⟩
theorem partE_zero {w : Nat} {f : Nat → Nat} {n : Nat} : (partE w f n).2 = 0 ↔ w = 0 ∧ ∀ j, j < n → f j = 0 := by
  unfold partE
  by_cases h : w = 0
  · rw [if_pos h, scanE_zero]
    exact ⟨fun g => ⟨h, fun j hj => g j (Nat.zero_le _) hj⟩, fun g j _ hj => g.2 j hj⟩
  · rw [if_neg h]
    exact ⟨fun g => absurd g h, fun g => absurd g.1 h⟩
/-- What a valid corpus is. -/
structure Valid (c : Cor) : Prop where
  attrs : attrsE c = 0
  attr : ∀ i, i < c.attrs.length → attrE c i = 0
  toks : toksE c = 0
  tok : ∀ i, i < c.toks.length → tokE c i = 0
  texts : textsE c = 0
  text : ∀ i, i < c.texts.length → textE c i = 0
  regs : regsE c = 0
  reg : ∀ i, i < c.regs.length → regE c i = 0
  nodes : nodesE c = 0
  node : ∀ i, i < c.nodes.length → nodeE c i = 0
  heads : headsE c = 0
  head : ∀ i, i < c.heads.length → headE c i = 0
theorem firstPart_zero : ∀ l : List (Nat × (Nat × Nat)), (firstPart l).2.2 = 0 ↔ ∀ x ∈ l, x.2.2 = 0
  | [] => by simp [firstPart]
  | (p, (i, e)) :: r => by
    unfold firstPart
    by_cases h : e = 0
    · rw [if_pos h, firstPart_zero r]
      simp [h]
    · rw [if_neg h]
      simp [h]
theorem valid_iff (c : Cor) : validC c = true ↔ Valid c := by
  unfold validC validate
  rw [decide_eq_true_eq, firstPart_zero]
  unfold partsE
  simp only [List.mem_cons, List.not_mem_nil, or_false, forall_eq_or_imp, forall_eq, partE_zero]
  exact ⟨fun h => ⟨h.1.1, h.1.2, h.2.1.1, h.2.1.2, h.2.2.1.1, h.2.2.1.2, h.2.2.2.1.1, h.2.2.2.1.2, h.2.2.2.2.1.1, h.2.2.2.2.1.2, h.2.2.2.2.2.1, h.2.2.2.2.2.2⟩,
    fun h => ⟨⟨h.attrs, h.attr⟩, ⟨h.toks, h.tok⟩, ⟨h.texts, h.text⟩, ⟨h.regs, h.reg⟩, ⟨h.nodes, h.node⟩, ⟨h.heads, h.head⟩⟩⟩
end Go.Proofs.YtmjmidgfdjcbfaaGreatDoor
