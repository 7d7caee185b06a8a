/-
  THE PLAIN MATHEMATICS of package corpus, of no program, first part: corpora; the order of regions; the errors of their parts.
  THE PLAIN MATHEMATICS of package corpus, second part: orders; the order of regions; sorted insertion.
  THE PLAIN MATHEMATICS of package corpus, third part: texts one behind the other; the regions that contain a place.
-/
import Derived.Test.YtebmfkkkhmjkoaaGreatFsZ
import Derived.Sort.Statements
namespace Go.Proofs.YtebmfkkkhmjkoaaGreat
open Go.Lib

/-- A text or a region: its name or type, begin, end, pairs. -/
structure Ex where
 name : Bs
 b : Int
 e : Int
 ps : List (Bs × Bs)
deriving DecidableEq
structure Nd where
 label : Bs
 b : Int
 e : Int
 parent : Int
deriving DecidableEq
structure Cor where
 attrs : List (Bs × Bool)
 toks : List Fs
 texts : List Ex
 regs : List Ex
 nodes : List Nd
 heads : List Int
 rels : Fs
deriving DecidableEq
def Cor.none : Cor := ⟨[], [], [], [], [], [], []⟩
/-- The first place at which p holds, or -1. -/
def findZ {α : Type} (p : α → Bool) (l : List α) : Int := match l.findIdx? p with | none => -1 | some i => (i : Int)
def cmpI (a b : Int) : Int := if a < b then -1 else if b < a then 1 else 0
def cmpP (p q : Bs × Bs) : Int := if compareBytes p.1 q.1 = 0 then compareBytes p.2 q.2 else compareBytes p.1 q.1
def cmpPs : List (Bs × Bs) → List (Bs × Bs) → Int
 | [], [] => 0
 | [], _ :: _ => -1
 | _ :: _, [] => 1
 | p :: l, q :: m => if cmpP p q = 0 then cmpPs l m else cmpP p q
/-- The order of regions. -/
def cmpR (x y : Ex) : Int :=
 if cmpI x.b y.b = 0 then (if cmpI y.e x.e = 0 then (if compareBytes x.name y.name = 0 then cmpPs x.ps y.ps else compareBytes x.name y.name) else cmpI y.e x.e) else cmpI x.b y.b
def textAt (c : Cor) (pos : Int) : Int := findZ (fun t => decide (t.b ≤ pos) && decide (pos < t.e)) c.texts
/-- The first index from k on with an error, and the error; 0, 0 if there is none. -/
def scanE (f : Nat → Nat) (n k : Nat) : Nat × Nat := if k < n then (if f k = 0 then scanE f n (k + 1) else (k, f k)) else (0, 0)
termination_by n - k
def partE (whole : Nat) (f : Nat → Nat) (n : Nat) : Nat × Nat := if whole = 0 then scanE f n 0 else (0, whole)
def attrsE (c : Cor) : Nat := if c.attrs.length = 0 then 15 else if 8 < c.attrs.length then 2 else 0
def attrE (c : Cor) (i : Nat) : Nat :=
 match c.attrs[i]? with
 | none => 0
 | some a => if nameB a.1 = false then 4 else if (c.attrs.take i).any (fun y => decide (y.1 = a.1)) then 5 else 0
def toksE (c : Cor) : Nat := if 4096 < c.toks.length then 2 else 0
def valX (a : Bs × Bool) (v : Bs) : Nat := if a.2 then (parseL v).2 else valE v
def valsE : List (Bs × Bool) → Fs → Nat
 | a :: al, v :: vs => if valX a v = 0 then valsE al vs else valX a v
 | _, _ => 0
def tokE (c : Cor) (i : Nat) : Nat :=
 match c.toks[i]? with
 | none => 0
 | some t => if t.length ≠ c.attrs.length then 15 else valsE c.attrs t
def pairsGo : Option Bs → List (Bs × Bs) → Nat
 | _, [] => 0
 | prev, p :: r => if nameB p.1 = false then 4 else if prev.any (fun q => !decide (q < p.1)) then 6 else if valE p.2 = 0 then pairsGo (some p.1) r else valE p.2
def pairsE (l : List (Bs × Bs)) : Nat := if 8 < l.length then 2 else pairsGo none l
def textsE (c : Cor) : Nat := if 64 < c.texts.length then 2 else if decide (c.texts.length = 0) ≠ decide (c.toks.length = 0) then 15 else 0
/-- Where text i must begin. -/
def endB (c : Cor) (i : Nat) : Int := if i = 0 then 0 else match c.texts[i - 1]? with | none => 0 | some t => t.e
def textE (c : Cor) (i : Nat) : Nat :=
 match c.texts[i]? with
 | none => 0
 | some t => if nameB t.name = false then 4 else if (c.texts.take i).any (fun y => decide (y.name = t.name)) then 5
   else if t.b ≠ endB c i ∨ t.e ≤ t.b ∨ (c.toks.length : Int) < t.e then 8 else if i + 1 = c.texts.length ∧ t.e ≠ (c.toks.length : Int) then 8 else pairsE t.ps
/-- Does an interval lie within one text? -/
def within (c : Cor) (b e : Int) : Bool := c.texts.any fun t => decide (t.b ≤ b) && decide (b < e) && decide (e ≤ t.e)
def regsE (c : Cor) : Nat := if 1024 < c.regs.length then 2 else 0
def crosses (x y : Ex) : Bool := decide (y.name = x.name) && decide (y.b < x.e) && decide (x.b < y.e) && !(decide (y.b ≤ x.b) && decide (x.e ≤ y.e)) && !(decide (x.b ≤ y.b) && decide (y.e ≤ x.e))
def holds (x y : Ex) : Bool := decide (y.b ≤ x.b) && decide (x.b < y.e)
/-- Is the region before x greater? -/
def badOrder (l : List Ex) (i : Nat) (x : Ex) : Bool := decide (i ≠ 0) && (match l[i - 1]? with | none => false | some y => decide (0 < cmpR y x))
def regE (c : Cor) (i : Nat) : Nat :=
 match c.regs[i]? with
 | none => 0
 | some x => if nameB x.name = false then 4 else if within c x.b x.e = false then 8 else if pairsE x.ps ≠ 0 then pairsE x.ps
   else if badOrder c.regs i x then 6 else if (c.regs.take i).any (crosses x) then 13 else if 40 < ((c.regs.take (i + 1)).filter (holds x)).length then 2 else 0
/-- The way down to the last node: indices. -/
def aboveN (path : List Int) (p : Int) : Nat := match path.findIdx? (fun k => decide (k = p)) with | none => 0 | some i => i + 1
def pathAt (l : List Nd) : Nat → List Int
 | 0 => []
 | i + 1 => match l[i]? with
   | none => pathAt l i
   | some x => (pathAt l i).take (aboveN (pathAt l i) x.parent) ++ [(i : Int)]
def nodesE (c : Cor) : Nat := if 2048 < c.nodes.length then 2 else 0
def ndAt (l : List Nd) (k : Int) : Nd := l.getD k.toNat ⟨[], 0, 0, 0⟩
/-- The error of a node of which the way down is known. -/
def nodeP (l : List Nd) (path : List Int) (x : Nd) : Nat :=
 if aboveN path x.parent = 0 ∧ x.parent ≠ -1 then 6
 else if 0 < aboveN path x.parent ∧ ¬ ((ndAt l x.parent).b ≤ x.b ∧ x.e ≤ (ndAt l x.parent).e) then 8
 else if aboveN path x.parent < path.length ∧ x.b < (ndAt l (path.getD (aboveN path x.parent) 0)).e then 8
 else if 40 < aboveN path x.parent + 1 then 2 else 0
def nodeE (c : Cor) (i : Nat) : Nat :=
 match c.nodes[i]? with
 | none => 0
 | some x => if nameB x.label = false then 4 else if within c x.b x.e = false then 8 else nodeP c.nodes (pathAt c.nodes i) x
def bare (h : List Int) (r : Fs) : Bool := h.all (fun x => decide (x = -1)) && r.all (fun x => decide (x = []))
def headsE (c : Cor) : Nat :=
 if c.heads.length ≠ c.rels.length then 15 else if c.heads.length ≠ 0 ∧ c.heads.length ≠ c.toks.length then 15 else if c.heads.length ≠ 0 ∧ bare c.heads c.rels then 14 else 0
/-- One step by heads. -/
def stepH (h : List Int) (i : Int) : Option Int := match h[i.toNat]? with
 | none => none
 | some x => if 0 ≤ x ∧ x < h.length then some x else none
def iterH (h : List Int) : Nat → Int → Option Int
 | 0, i => some i
 | k + 1, i => (stepH h i).bind (iterH h k)
/-- Does the way from i lead back to it? -/
def cyc (h : List Int) (i : Int) : Bool := (List.range h.length).any fun k => decide (iterH h (k + 1) i = some i)
def headE (c : Cor) (i : Nat) : Nat :=
 match c.heads[i]?, c.rels[i]? with
 | some h, some r => if h ≠ -1 ∧ textAt c h ≠ textAt c i then 8 else if r ≠ [] ∧ nameB r = false then 4 else if cyc c.heads i then 12 else 0
 | _, _ => 0
/-- The parts' numbers, their first error. -/
def partsE (c : Cor) : List (Nat × (Nat × Nat)) :=
 [(1, partE (attrsE c) (attrE c) c.attrs.length), (2, partE (toksE c) (tokE c) c.toks.length), (3, partE (textsE c) (textE c) c.texts.length), (4, partE (regsE c) (regE c) c.regs.length), (5, partE (nodesE c) (nodeE c) c.nodes.length), (6, partE (headsE c) (headE c) c.heads.length)]
def firstPart : List (Nat × (Nat × Nat)) → Nat × Nat × Nat
 | [] => (0, 0, 0)
 | (p, (i, e)) :: r => if e = 0 then firstPart r else (p, i, e)
def validate (c : Cor) : Nat × Nat × Nat := firstPart (partsE c)
def validC (c : Cor) : Bool := decide ((validate c).2.2 = 0)

theorem scanE_step {f : Nat → Nat} {n k : Nat} (h : k < n) : scanE f n k = if f k = 0 then scanE f n (k + 1) else (k, f k) := by rw [scanE, if_pos h]
theorem scanE_end {f : Nat → Nat} {n k : Nat} (h : ¬ k < n) : scanE f n k = (0, 0) := by rw [scanE, if_neg h]
theorem scanE_zero {f : Nat → Nat} {n : Nat} : ∀ {k : Nat}, (scanE f n k).2 = 0 ↔ ∀ j, k ≤ j → j < n → f j = 0 := by
 intro k
 obtain ⟨m, hm⟩ : ∃ m, n - k = m := ⟨_, rfl⟩
 induction m generalizing k with
 | zero =>
   rw [scanE_end (by omega)]
   exact ⟨fun _ j h1 h2 => by omega, fun _ => rfl⟩
 | succ m ih =>
   rw [scanE_step (by omega)]
   by_cases h0 : f k = 0
   ·
    rw [if_pos h0, ih (by omega)]
    refine ⟨fun h j h1 h2 => ?_, fun h j h1 h2 => h j (by omega) h2⟩
    by_cases e : j = k
    · subst e; exact h0
    exact h j (by omega) h2
   rw [if_neg h0]
   exact ⟨fun h => absurd h h0, fun h => absurd (h k (Nat.le_refl _) (by omega)) h0⟩
theorem partE_zero {w : Nat} {f : Nat → Nat} {n : Nat} : (partE w f n).2 = 0 ↔ w = 0 ∧ ∀ j, j < n → f j = 0 := by
 unfold partE
 by_cases h : w = 0
 · rw [if_pos h, scanE_zero]
   exact ⟨fun g => ⟨h, fun j hj => g j (Nat.zero_le _) hj⟩, fun g j _ hj => g.2 j hj⟩
 rw [if_neg h]
 exact ⟨fun g => absurd g h, fun g => absurd g.1 h⟩
/-- What a valid corpus is. -/
structure Valid (c : Cor) : Prop where
 attrs : attrsE c = 0
 attr : ∀ i, i < c.attrs.length → attrE c i = 0
 toks : toksE c = 0
 tok : ∀ i, i < c.toks.length → tokE c i = 0
 texts : textsE c = 0
 text : ∀ i, i < c.texts.length → textE c i = 0
 regs : regsE c = 0
 reg : ∀ i, i < c.regs.length → regE c i = 0
 nodes : nodesE c = 0
 node : ∀ i, i < c.nodes.length → nodeE c i = 0
 heads : headsE c = 0
 head : ∀ i, i < c.heads.length → headE c i = 0
theorem firstPart_zero : ∀ l : List (Nat × (Nat × Nat)), (firstPart l).2.2 = 0 ↔ ∀ x ∈ l, x.2.2 = 0
 | [] => by simp [firstPart]
 | (p, (i, e)) :: r => by
   unfold firstPart
   by_cases h : e = 0
   · rw [if_pos h, firstPart_zero r]
     simp [h]
   rw [if_neg h]
   simp [h]
theorem valid_iff (c : Cor) : validC c = true ↔ Valid c := by
 unfold validC validate
 rw [decide_eq_true_eq, firstPart_zero]
 unfold partsE
 simp only [List.mem_cons, List.not_mem_nil, or_false, forall_eq_or_imp, forall_eq, partE_zero]
 exact ⟨fun h => ⟨h.1.1, h.1.2, h.2.1.1, h.2.1.2, h.2.2.1.1, h.2.2.1.2, h.2.2.2.1.1, h.2.2.2.1.2, h.2.2.2.2.1.1, h.2.2.2.2.1.2, h.2.2.2.2.2.1, h.2.2.2.2.2.2⟩,
  fun h => ⟨⟨h.attrs, h.attr⟩, ⟨h.toks, h.tok⟩, ⟨h.texts, h.text⟩, ⟨h.regs, h.reg⟩, ⟨h.nodes, h.node⟩, ⟨h.heads, h.head⟩⟩⟩
end Go.Proofs.YtebmfkkkhmjkoaaGreat
namespace Go.Proofs.YtebmfkkkhmjkoaaGreat
open Go.Lib

def cmpC : List Nat → List Nat → Int
 | [], [] => 0
 | [], _ :: _ => -1
 | _ :: _, [] => 1
 | x :: xs, y :: ys => if x < y then -1 else if y < x then 1 else cmpC xs ys
def nums (l : List UInt8) : List Nat := l.map UInt8.toNat
theorem compareBytes_nums : ∀ l m : List UInt8, compareBytes l m = cmpC (nums l) (nums m)
 | [], [] => rfl
 | [], _ :: _ => rfl
 | _ :: _, [] => rfl
 | a :: l, b :: m => by
   have ih := compareBytes_nums l m
   unfold nums at ih ⊢
   simp only [compareBytes, List.map_cons, cmpC, UInt8.lt_iff_toNat_lt, ih]
theorem nums_inj {l m : List UInt8} (h : nums l = nums m) : l = m := by
 unfold nums at h
 exact List.map_inj_right (fun a b e => UInt8.toNat_inj.1 e) |>.1 h

theorem cmpC_anti : ∀ a b : List Nat, cmpC b a = - cmpC a b
 | [], [] => rfl
 | [], _ :: _ => rfl
 | _ :: _, [] => rfl
 | x :: a, y :: b => by
   simp only [cmpC]
   by_cases h1 : x < y
   · rw [if_neg (by omega), if_pos h1, if_pos h1]; rfl
   by_cases h2 : y < x
   · rw [if_pos h2, if_neg h1, if_pos h2]
   rw [if_neg h2, if_neg h1, if_neg h1, if_neg h2]
   exact cmpC_anti a b
theorem cmpC_zero : ∀ a b : List Nat, cmpC a b = 0 → a = b
 | [], [], _ => rfl
 | [], _ :: _, h => by cases h
 | _ :: _, [], h => by cases h
 | x :: a, y :: b, h => by
   simp only [cmpC] at h
   by_cases h1 : x < y
   · rw [if_pos h1] at h; cases h
   by_cases h2 : y < x
   · rw [if_neg h1, if_pos h2] at h; cases h
   rw [if_neg h1, if_neg h2] at h
   have := cmpC_zero a b h
   have hxy : x = y := by omega
   rw [hxy, this]
theorem cmpC_three : ∀ a b : List Nat, cmpC a b = -1 ∨ cmpC a b = 0 ∨ cmpC a b = 1
 | [], [] => .inr (.inl rfl)
 | [], _ :: _ => .inl rfl
 | _ :: _, [] => .inr (.inr rfl)
 | x :: a, y :: b => by
   simp only [cmpC]
   by_cases h1 : x < y
   · rw [if_pos h1]; exact .inl rfl
   by_cases h2 : y < x
   · rw [if_neg h1, if_pos h2]; exact .inr (.inr rfl)
   rw [if_neg h1, if_neg h2]
   exact cmpC_three a b
theorem cmpC_trans : ∀ a b c : List Nat, cmpC a b = -1 → cmpC b c = -1 → cmpC a c = -1
 | [], [], _, h, _ => by cases h
 | [], _ :: _, [], _, h => by cases h
 | [], _ :: _, _ :: _, _, _ => rfl
 | _ :: _, [], _, h, _ => by cases h
 | _ :: _, _ :: _, [], _, h => by cases h
 | x :: a, y :: b, z :: c, h, k => by
   simp only [cmpC] at h k ⊢
   by_cases h1 : x < y
   ·
    by_cases k1 : y < z
    · rw [if_pos (by omega)]
    by_cases k2 : z < y
    · rw [if_neg k1, if_pos k2] at k; cases k
    rw [if_pos (by omega)]
   by_cases h2 : y < x
   · rw [if_neg h1, if_pos h2] at h; cases h
   rw [if_neg h1, if_neg h2] at h
   by_cases k1 : y < z
   · rw [if_pos (by omega)]
   by_cases k2 : z < y
   · rw [if_neg k1, if_pos k2] at k; cases k
   rw [if_neg k1, if_neg k2] at k
   rw [if_neg (by omega), if_neg (by omega)]
   exact cmpC_trans a b c h k
theorem cb_anti (a b : Bs) : compareBytes b a = - compareBytes a b := by rw [compareBytes_nums, compareBytes_nums, cmpC_anti]
theorem cb_zero {a b : Bs} (h : compareBytes a b = 0) : a = b := nums_inj (cmpC_zero _ _ (by rw [← compareBytes_nums]; exact h))
theorem cb_three (a b : Bs) : compareBytes a b = -1 ∨ compareBytes a b = 0 ∨ compareBytes a b = 1 := by rw [compareBytes_nums]; exact cmpC_three _ _
theorem cb_trans {a b c : Bs} (h : compareBytes a b = -1) (k : compareBytes b c = -1) : compareBytes a c = -1 := by
 rw [compareBytes_nums] at *
 exact cmpC_trans _ _ _ h k
theorem cb_self (a : Bs) : compareBytes a a = 0 := by
 have := cb_anti a a
 omega
theorem cb_le {a b c : Bs} (h : compareBytes a b ≤ 0) (k : compareBytes b c ≤ 0) : compareBytes a c ≤ 0 := by
 rcases cb_three a b with h1 | h1 | h1
 ·
  rcases cb_three b c with k1 | k1 | k1
  · rw [cb_trans h1 k1]; decide
  · rw [← cb_zero k1, h1]; decide
  omega
 · rw [cb_zero h1]; exact k
 omega
/-- A total order, told by -1, 0, 1. -/
structure Ord3 {α : Type} (f : α → α → Int) : Prop where
 anti : ∀ a b, f b a = - f a b
 zero : ∀ a b, f a b = 0 → a = b
 three : ∀ a b, f a b = -1 ∨ f a b = 0 ∨ f a b = 1
 le : ∀ a b c, f a b ≤ 0 → f b c ≤ 0 → f a c ≤ 0
theorem ord_bytes : Ord3 compareBytes := ⟨cb_anti, fun _ _ => cb_zero, cb_three, fun _ _ _ => cb_le⟩
theorem ord_int : Ord3 cmpI := by
 refine ⟨?_, ?_, ?_, ?_⟩ <;> intros <;> unfold cmpI at * <;> (repeat' split) <;> (repeat' split at *) <;> omega
theorem Ord3.flip {α : Type} {f : α → α → Int} (h : Ord3 f) : Ord3 (fun x y => f y x) :=
 ⟨fun a b => h.anti b a, fun a b e => (h.zero b a e).symm, fun a b => h.three b a, fun a b c x y => h.le c b a y x⟩
theorem Ord3.comap {α γ : Type} {f : α → α → Int} (h : Ord3 f) (k : γ → α) (inj : ∀ x y, k x = k y → x = y) : Ord3 (fun x y => f (k x) (k y)) :=
 ⟨fun _ _ => h.anti _ _, fun _ _ e => inj _ _ (h.zero _ _ e), fun _ _ => h.three _ _, fun _ _ _ x y => h.le _ _ _ x y⟩
theorem Ord3.prod {α β : Type} {f : α → α → Int} {g : β → β → Int} (hf : Ord3 f) (hg : Ord3 g) : Ord3 (fun (x y : α × β) => if f x.1 y.1 = 0 then g x.2 y.2 else f x.1 y.1) := by
 refine ⟨fun a b => ?_, fun a b h => ?_, fun a b => ?_, fun a b c h k => ?_⟩
 ·
  have h1 := hf.anti a.1 b.1
  have h2 := hg.anti a.2 b.2
  by_cases h0 : f a.1 b.1 = 0
  · rw [if_pos h0, if_pos (by omega)]; exact h2
  rw [if_neg h0, if_neg (by omega)]; exact h1
 ·
  by_cases h0 : f a.1 b.1 = 0
  · rw [if_pos h0] at h
    exact Prod.ext (hf.zero _ _ h0) (hg.zero _ _ h)
  rw [if_neg h0] at h
  exact absurd h h0
 ·
  have h1 := hf.three a.1 b.1
  have h2 := hg.three a.2 b.2
  by_cases h0 : f a.1 b.1 = 0
  · rw [if_pos h0]; exact h2
  rw [if_neg h0]; exact h1
 have hle := hf.le a.1 b.1 c.1
 by_cases h0 : f a.1 b.1 = 0
 ·
  rw [if_pos h0] at h
  have e := hf.zero _ _ h0
  rw [e]
  by_cases k0 : f b.1 c.1 = 0
  · rw [if_pos k0] at k ⊢
    exact hg.le _ _ _ h k
  rw [if_neg k0] at k ⊢
  exact k
 rw [if_neg h0] at h
 by_cases k0 : f b.1 c.1 = 0
 · have e := hf.zero _ _ k0
   rw [← e, if_neg h0]
   exact h
 rw [if_neg k0] at k
 have := hle h k
 by_cases z0 : f a.1 c.1 = 0
 ·
  exfalso
  have e := hf.zero _ _ z0
  have h3 := hf.anti a.1 b.1
  rw [← e] at k
  omega
 rw [if_neg z0]; exact this
/-- Lists: the first elements that differ decide; a proper beginning is less. -/
def cmpL {α : Type} (f : α → α → Int) : List α → List α → Int
 | [], [] => 0
 | [], _ :: _ => -1
 | _ :: _, [] => 1
 | x :: l, y :: m => if f x y = 0 then cmpL f l m else f x y
theorem Ord3.list {α : Type} {f : α → α → Int} (h : Ord3 f) : Ord3 (cmpL f) := by
 refine ⟨?_, ?_, ?_, ?_⟩
 ·
  intro a
  induction a with
  | nil => intro b; cases b <;> rfl
  | cons x l ih =>
    intro b
    cases b with
    | nil => rfl
    | cons y m =>
      have h1 := h.anti x y
      have h2 := ih m
      simp only [cmpL]
      by_cases h0 : f x y = 0
      · rw [if_pos h0, if_pos (by omega)]; exact h2
      rw [if_neg h0, if_neg (by omega)]; exact h1
 ·
  intro a
  induction a with
  | nil => intro b e; cases b with | nil => rfl | cons y m => simp [cmpL] at e
  | cons x l ih =>
    intro b e
    cases b with
    | nil => simp [cmpL] at e
    | cons y m =>
      simp only [cmpL] at e
      by_cases h0 : f x y = 0
      · rw [if_pos h0] at e
        rw [h.zero _ _ h0, ih m e]
      rw [if_neg h0] at e
      exact absurd e h0
 ·
  intro a
  induction a with
  | nil => intro b; cases b <;> simp [cmpL]
  | cons x l ih =>
    intro b
    cases b with
    | nil => simp [cmpL]
    | cons y m =>
      have h1 := h.three x y
      simp only [cmpL]
      by_cases h0 : f x y = 0
      · rw [if_pos h0]; exact ih m
      rw [if_neg h0]; exact h1
 intro a
 induction a with
 | nil => intro b c _ _; cases c <;> simp [cmpL]
 | cons x l ih =>
   intro b c e k
   cases b with
   | nil => simp [cmpL] at e
   | cons y m =>
     cases c with
     | nil => simp [cmpL] at k
     | cons z n =>
       simp only [cmpL] at e k ⊢
       by_cases h0 : f x y = 0
       ·
        rw [if_pos h0] at e
        have ee := h.zero _ _ h0
        rw [ee]
        by_cases k0 : f y z = 0
        · rw [if_pos k0] at k ⊢
          exact ih m n e k
        rw [if_neg k0] at k ⊢
        exact k
       rw [if_neg h0] at e
       by_cases k0 : f y z = 0
       · have ee := h.zero _ _ k0
         rw [← ee, if_neg h0]
         exact e
       rw [if_neg k0] at k
       have := h.le _ _ _ e k
       by_cases z0 : f x z = 0
       ·
        exfalso
        have ee := h.zero _ _ z0
        have h3 := h.anti x y
        rw [← ee] at k
        omega
       rw [if_neg z0]; exact this
theorem cmpPs_eq : ∀ l m : List (Bs × Bs), cmpPs l m = cmpL cmpP l m
 | [], [] => rfl
 | [], _ :: _ => rfl
 | _ :: _, [] => rfl
 | p :: l, q :: m => by simp only [cmpPs, cmpL, cmpPs_eq l m]
theorem ord_pair : Ord3 cmpP := Ord3.prod ord_bytes ord_bytes
theorem ord_pairs : Ord3 cmpPs := by
 have : cmpPs = cmpL cmpP := by funext l m; exact cmpPs_eq l m
 rw [this]
 exact ord_pair.list
def keyR (x : Ex) : Int × (Int × (Bs × List (Bs × Bs))) := (x.b, (x.e, (x.name, x.ps)))
theorem ord_reg : Ord3 cmpR := (ord_int.prod (ord_int.flip.prod (ord_bytes.prod ord_pairs))).comap keyR (fun x y h => by
 cases x; cases y
 simp only [keyR, Prod.mk.injEq] at h
 obtain ⟨rfl, rfl, rfl, rfl⟩ := h
 rfl)
theorem cmpR_b {x y : Ex} (h : cmpR x y ≤ 0) : x.b ≤ y.b := by
 unfold cmpR cmpI at h
 repeat' split at h
 all_goals omega
theorem cmpR_e {x y : Ex} (h : cmpR x y ≤ 0) (hb : x.b = y.b) : y.e ≤ x.e := by
 unfold cmpR at h
 rw [show cmpI x.b y.b = 0 by unfold cmpI; rw [hb]; simp, if_pos rfl] at h
 unfold cmpI at h
 repeat' split at h
 all_goals omega
end Go.Proofs.YtebmfkkkhmjkoaaGreat
namespace Go.Proofs.YtebmfkkkhmjkoaaGreat
open Go.Lib

theorem findZ_spec {α : Type} (p : α → Bool) (l : List α) : (findZ p l = -1 ∧ ∀ x ∈ l, p x = false) ∨ ∃ (i : Nat) (x : α), l[i]? = some x ∧ p x = true ∧ (∀ (j : Nat) (y : α), j < i → l[j]? = some y → p y = false) ∧ findZ p l = (i : Int) := by
 unfold findZ
 cases h : l.findIdx? p with
 | none => exact .inl ⟨rfl, fun x hx => by simpa using List.findIdx?_eq_none_iff.1 h x hx⟩
 | some i =>
   obtain ⟨hi, hp, hj⟩ := List.findIdx?_eq_some_iff_getElem.1 h
   refine .inr ⟨i, l[i], List.getElem?_eq_getElem hi, hp, fun j y hji hy => ?_, rfl⟩
   obtain ⟨hjl, rfl⟩ := List.getElem?_eq_some_iff.1 hy
   simpa using hj j hji
theorem findZ_at {α : Type} {p : α → Bool} {l : List α} {i : Nat} {x : α} (h : l[i]? = some x) (hp : p x = true) (hj : ∀ (j : Nat) (y : α), j < i → l[j]? = some y → p y = false) : findZ p l = (i : Int) := by
 rcases findZ_spec p l with ⟨_, h1⟩ | ⟨k, y, hk, hy, h2, h3⟩
 · rw [h1 x (List.mem_of_getElem? h)] at hp; cases hp
 rcases Nat.lt_trichotomy k i with e | e | e
 · rw [hj k y e hk] at hy; cases hy
 · rw [h3, e]
 rw [h2 i x e h] at hp; cases hp
/-- What is known of text i. -/
theorem text_facts {c : Cor} (h2 : ∀ i, i < c.texts.length → textE c i = 0) {i : Nat} {t : Ex} (hi : c.texts[i]? = some t) :
 nameB t.name = true ∧ (∀ y ∈ c.texts.take i, y.name ≠ t.name) ∧ t.b = endB c i ∧ t.b < t.e ∧ t.e ≤ c.toks.length ∧ (i + 1 = c.texts.length → t.e = c.toks.length) ∧ pairsE t.ps = 0 := by
 have hl := (List.getElem?_eq_some_iff.1 hi).1
 have h := h2 i hl
 unfold textE at h
 rw [hi] at h
 simp only at h
 by_cases h1 : nameB t.name = false
 · rw [if_pos h1] at h; cases h
 rw [if_neg h1] at h
 by_cases h3 : (c.texts.take i).any (fun y => decide (y.name = t.name)) = true
 · rw [if_pos h3] at h; cases h
 rw [if_neg h3] at h
 by_cases h4 : t.b ≠ endB c i ∨ t.e ≤ t.b ∨ (c.toks.length : Int) < t.e
 · rw [if_pos h4] at h; cases h
 rw [if_neg h4] at h
 by_cases h5 : i + 1 = c.texts.length ∧ t.e ≠ (c.toks.length : Int)
 · rw [if_pos h5] at h; cases h
 rw [if_neg h5] at h
 refine ⟨by simpa using h1, fun y hy e => h3 (List.any_eq_true.2 ⟨y, hy, by simp [e]⟩), ?_, ?_, ?_, ?_, h⟩
 · by_cases e : t.b = endB c i
   · exact e
   exact absurd (.inl e) h4
 · by_cases e : t.e ≤ t.b
   · exact absurd (.inr (.inl e)) h4
   omega
 · by_cases e : (c.toks.length : Int) < t.e
   · exact absurd (.inr (.inr e)) h4
   omega
 intro hl2
 by_cases e : t.e = (c.toks.length : Int)
 · exact e
 exact absurd ⟨hl2, e⟩ h5
theorem endB_succ {c : Cor} {i : Nat} {t : Ex} (h : c.texts[i]? = some t) : endB c (i + 1) = t.e := by
 unfold endB
 rw [if_neg (by omega), Nat.add_sub_cancel, h]
theorem ends_le {c : Cor} (h2 : ∀ i, i < c.texts.length → textE c i = 0) : ∀ (j i : Nat) (t u : Ex), i < j → c.texts[i]? = some t → c.texts[j]? = some u → t.e ≤ u.b
 | 0, i, t, u, h, _, _ => by omega
 | j + 1, i, t, u, h, hi, hj => by
   have hl := (List.getElem?_eq_some_iff.1 hj).1
   obtain ⟨v, hv⟩ : ∃ v, c.texts[j]? = some v := ⟨_, List.getElem?_eq_getElem (by omega)⟩
   have hu := (text_facts h2 hj).2.2.1
   rw [endB_succ hv] at hu
   by_cases e : i = j
   ·
    subst e
    rw [hi] at hv
    cases hv
    omega
   have h3 := ends_le h2 j i t v (by omega) hi hv
   have h4 := (text_facts h2 hv).2.2.2.1
   omega
theorem begin_pos {c : Cor} (h2 : ∀ i, i < c.texts.length → textE c i = 0) {i : Nat} {t : Ex} (hi : c.texts[i]? = some t) : 0 ≤ t.b := by
 have h := (text_facts h2 hi).2.2.1
 cases i with
 | zero => rw [h]; simp [endB]
 | succ i =>
   have hl := (List.getElem?_eq_some_iff.1 hi).1
   obtain ⟨v, hv⟩ : ∃ v, c.texts[i]? = some v := ⟨_, List.getElem?_eq_getElem (by omega)⟩
   rw [endB_succ hv] at h
   have := begin_pos h2 hv
   have := (text_facts h2 hv).2.2.2.1
   omega
theorem textAt_of {c : Cor} (h2 : ∀ i, i < c.texts.length → textE c i = 0) {i : Nat} {t : Ex} {pos : Int} (hi : c.texts[i]? = some t) (h3 : t.b ≤ pos) (h4 : pos < t.e) : textAt c pos = (i : Int) := by
 unfold textAt
 refine findZ_at hi (by simp [h3, h4]) fun j y hj hy => ?_
 have := ends_le h2 i j y t hj hy hi
 simp
 omega
theorem textAt_spec (c : Cor) (pos : Int) : textAt c pos = -1 ∨ ∃ (i : Nat) (t : Ex), c.texts[i]? = some t ∧ t.b ≤ pos ∧ pos < t.e ∧ textAt c pos = (i : Int) := by
 rcases findZ_spec (fun t : Ex => decide (t.b ≤ pos) && decide (pos < t.e)) c.texts with ⟨h, _⟩ | ⟨i, t, h1, h2, _, h3⟩
 · exact .inl h
 simp only [Bool.and_eq_true, decide_eq_true_eq] at h2
 exact .inr ⟨i, t, h1, h2.1, h2.2, h3⟩
/-- Every token lies in a text. -/
theorem textAt_tok {c : Cor} (h1 : textsE c = 0) (h2 : ∀ i, i < c.texts.length → textE c i = 0) : ∀ pos : Int, (0 ≤ pos ∧ pos < c.toks.length) ↔ 0 ≤ textAt c pos := by
 intro pos
 constructor
 ·
  rintro ⟨h3, h4⟩
  have hne : 0 < c.texts.length := by
   unfold textsE at h1
   by_cases h5 : 64 < c.texts.length
   · omega
   rw [if_neg h5] at h1
   by_cases h6 : decide (c.texts.length = 0) ≠ decide (c.toks.length = 0)
   · rw [if_pos h6] at h1; cases h1
   by_cases h7 : c.texts.length = 0
   · have : ¬ c.toks.length = 0 := by omega
     simp [h7, this] at h6
   omega
  have key : ∀ k, k < c.texts.length → (∃ t, c.texts[k]? = some t ∧ pos < t.e) → 0 ≤ textAt c pos := by
   intro k
   induction k with
   | zero =>
     rintro hk ⟨t, ht, hp⟩
     have := (text_facts h2 ht).2.2.1
     rw [textAt_of h2 ht (by rw [this]; simp [endB]; omega) hp]
     omega
   | succ k ih =>
     rintro hk ⟨t, ht, hp⟩
     obtain ⟨v, hv⟩ : ∃ v, c.texts[k]? = some v := ⟨_, List.getElem?_eq_getElem (by omega)⟩
     have h5 := (text_facts h2 ht).2.2.1
     rw [endB_succ hv] at h5
     by_cases h6 : pos < v.e
     · exact ih (by omega) ⟨v, hv, h6⟩
     rw [textAt_of h2 ht (by omega) hp]
     omega
  obtain ⟨t, ht⟩ : ∃ t, c.texts[c.texts.length - 1]? = some t := ⟨_, List.getElem?_eq_getElem (by omega)⟩
  exact key (c.texts.length - 1) (by omega) ⟨t, ht, by rw [(text_facts h2 ht).2.2.2.2.2.1 (by omega)]; exact h4⟩
 intro h
 rcases textAt_spec c pos with h3 | ⟨i, t, ht, h4, h5, _⟩
 · omega
 have := begin_pos h2 ht
 have := (text_facts h2 ht).2.2.2.2.1
 exact ⟨by omega, by omega⟩
theorem within_eq {c : Cor} (h2 : ∀ i, i < c.texts.length → textE c i = 0) (b e : Int) :
 within c b e = (decide (b < e) && (decide (0 ≤ textAt c b) && (match c.texts[(textAt c b).toNat]? with | none => false | some t => decide (e ≤ t.e)))) := by
 unfold within
 rw [Bool.eq_iff_iff]
 simp only [List.any_eq_true, Bool.and_eq_true, decide_eq_true_eq]
 constructor
 ·
  rintro ⟨t, ht, ⟨h3, h4⟩, h5⟩
  obtain ⟨i, hi, rfl⟩ := List.getElem_of_mem ht
  have hx := List.getElem?_eq_getElem hi
  have h6 := textAt_of h2 hx h3 (by omega)
  rw [h6]
  refine ⟨h4, by omega, ?_⟩
  simp only [Int.toNat_natCast, hx, decide_eq_true_eq]
  exact h5
 rintro ⟨h3, h4, h5⟩
 rcases textAt_spec c b with h6 | ⟨i, t, ht, h7, h8, h9⟩
 · omega
 rw [h9] at h5
 simp only [Int.toNat_natCast, ht, decide_eq_true_eq] at h5
 exact ⟨t, List.mem_of_getElem? ht, ⟨h7, h3⟩, h5⟩

/-- The regions that are open behind the begin of the last one. -/
def openR (o : List Ex) (x : Ex) : List Ex := o.filter (fun y => decide (x.b < y.e)) ++ [x]
def openAll (l : List Ex) : List Ex := l.foldl openR []
theorem openAll_snoc (l : List Ex) (x : Ex) : openAll (l ++ [x]) = openR (openAll l) x := by simp [openAll]
theorem open_eq : ∀ (n : Nat) (l : List Ex) (x : Ex), l.length = n → (l ++ [x]).Pairwise (fun a b => a.b ≤ b.b) → (∀ y ∈ l ++ [x], y.b < y.e) → openAll (l ++ [x]) = (l ++ [x]).filter (fun y => decide (x.b < y.e))
 | 0, l, x, hn, _, hp => by
   have : l = [] := List.length_eq_zero_iff.1 hn
   subst this
   have := hp x (by simp)
   simp [openAll, openR, this]
 | n + 1, l, x, hn, hs, hp => by
   obtain ⟨m, z, rfl⟩ : ∃ m z, l = m ++ [z] := by
    refine ⟨l.dropLast, l.getLast (fun e => by rw [e] at hn; cases hn), (List.dropLast_concat_getLast _).symm⟩
   have ih := open_eq n m z (by simp at hn; omega) (List.pairwise_append.1 hs).1 (fun y hy => hp y (List.mem_append_left _ hy))
   rw [openAll_snoc, openR, ih, List.filter_filter, List.filter_append (l₁ := m ++ [z]) (l₂ := [x])]
   have hx := hp x (by simp)
   have hzx : z.b ≤ x.b := (List.pairwise_append.1 hs).2.2 z (by simp) x (by simp)
   congr 1
   ·
    refine List.filter_congr fun y hy => ?_
    by_cases h : x.b < y.e
    · simp [h]; omega
    simp [h]
   simp [hx]
/-- What is known of the regions in front of one. -/
theorem reg_facts {c : Cor} {i : Nat} {x : Ex} (hi : c.regs[i]? = some x) (h : regE c i = 0) :
 nameB x.name = true ∧ within c x.b x.e = true ∧ pairsE x.ps = 0 ∧ badOrder c.regs i x = false ∧ (c.regs.take i).any (crosses x) = false ∧ ((c.regs.take (i + 1)).filter (holds x)).length ≤ 40 := by
 unfold regE at h
 rw [hi] at h
 simp only at h
 by_cases h1 : nameB x.name = false
 · rw [if_pos h1] at h; cases h
 rw [if_neg h1] at h
 by_cases h2 : within c x.b x.e = false
 · rw [if_pos h2] at h; cases h
 rw [if_neg h2] at h
 by_cases h3 : pairsE x.ps ≠ 0
 · rw [if_pos h3] at h; exact absurd h h3
 rw [if_neg h3] at h
 by_cases h4 : badOrder c.regs i x = true
 · rw [if_pos h4] at h; cases h
 rw [if_neg h4] at h
 by_cases h5 : (c.regs.take i).any (crosses x) = true
 · rw [if_pos h5] at h; cases h
 rw [if_neg h5] at h
 by_cases h6 : 40 < ((c.regs.take (i + 1)).filter (holds x)).length
 · rw [if_pos h6] at h; cases h
 exact ⟨by simpa using h1, by simpa using h2, by omega, by simpa using h4, by simpa using h5, by omega⟩
theorem within_pos {c : Cor} {b e : Int} (h : within c b e = true) : b < e := by
 unfold within at h
 obtain ⟨t, _, h⟩ := List.any_eq_true.1 h
 simp only [Bool.and_eq_true, decide_eq_true_eq] at h
 exact h.1.2
/-- The regions up to one whose order is right are in order. -/
theorem sorted_upto {l : List Ex} : ∀ i, i ≤ l.length → (∀ j y, j < i → l[j]? = some y → badOrder l j y = false) → (l.take i).Pairwise (fun a b => cmpR a b ≤ 0)
 | 0, _, _ => by simp
 | i + 1, hi, h => by
   have ih := sorted_upto i (by omega) (fun j y hj hy => h j y (by omega) hy)
   obtain ⟨x, hx⟩ : ∃ x, l[i]? = some x := ⟨_, List.getElem?_eq_getElem (by omega)⟩
   rw [List.take_add_one, hx]
   refine List.pairwise_append.2 ⟨ih, by simp, fun a ha b hb => ?_⟩
   simp at hb
   subst hb
   have hx2 := h i b (by omega) hx
   obtain ⟨j, hj, rfl⟩ := List.getElem_of_mem ha
   have hjl : j < i := by rw [List.length_take] at hj; omega
   rw [List.getElem_take]
   obtain ⟨z, hz⟩ : ∃ z, l[i - 1]? = some z := ⟨_, List.getElem?_eq_getElem (by omega)⟩
   have hzx : cmpR z b ≤ 0 := by
    unfold badOrder at hx2
    rw [hz] at hx2
    have : i ≠ 0 := by omega
    simp [this] at hx2
    omega
   by_cases e : j = i - 1
   · subst e
     obtain ⟨_, rfl⟩ := List.getElem?_eq_some_iff.1 hz
     exact hzx
   refine ord_reg.le _ _ _ ?_ hzx
   have hp := List.pairwise_iff_getElem.1 ih j (i - 1) hj (by rw [List.length_take]; omega) (by omega)
   rw [List.getElem_take, List.getElem_take] at hp
   obtain ⟨_, rfl⟩ := List.getElem?_eq_some_iff.1 hz
   exact hp
/-- The two last tests of a region, by the open ones. -/
theorem reg_open {c : Cor} {i : Nat} {x : Ex} (hi : c.regs[i]? = some x) (hp : ∀ j, j < i → regE c j = 0) (hx : x.b < x.e) (ho : badOrder c.regs i x = false) :
 (openAll (c.regs.take (i + 1))).length = ((c.regs.take (i + 1)).filter (holds x)).length ∧
 (openAll (c.regs.take (i + 1))).any (fun o => decide (o.name = x.name) && decide (o.e < x.e)) = (c.regs.take i).any (crosses x) := by
 have hl := (List.getElem?_eq_some_iff.1 hi).1
 have hsort := sorted_upto (i + 1) hl (fun j y hj hy => by
  by_cases e : j = i
  ·
   subst e
   rw [hi] at hy
   cases hy
   exact ho
  exact (reg_facts hy (hp j (by omega))).2.2.2.1)
 have htk : c.regs.take (i + 1) = c.regs.take i ++ [x] := by rw [List.take_add_one, hi]; rfl
 rw [htk] at hsort ⊢
 have hpos : ∀ y ∈ c.regs.take i ++ [x], y.b < y.e := by
  intro y hy
  rcases List.mem_append.1 hy with hy | hy
  ·
   obtain ⟨j, hj, rfl⟩ := List.getElem_of_mem hy
   have hjl : j < i := by rw [List.length_take] at hj; omega
   rw [List.getElem_take]
   exact within_pos (reg_facts (List.getElem?_eq_getElem (by omega)) (hp j hjl)).2.1
  simp at hy
  subst hy
  exact hx
 have hb : (c.regs.take i ++ [x]).Pairwise (fun a b => a.b ≤ b.b) := hsort.imp (fun h => cmpR_b h)
 have hle : ∀ y ∈ c.regs.take i, cmpR y x ≤ 0 := fun y hy => (List.pairwise_append.1 hsort).2.2 y hy x (by simp)
 rw [open_eq _ _ _ rfl hb hpos]
 constructor
 ·
  congr 1
  refine List.filter_congr fun y hy => ?_
  unfold holds
  rcases List.mem_append.1 hy with hy | hy
  · have := cmpR_b (hle y hy)
    simp [this]
  simp at hy
  subst hy
  simp
 rw [Bool.eq_iff_iff]
 simp only [List.any_eq_true, List.mem_filter, Bool.and_eq_true, decide_eq_true_eq]
 constructor
 ·
  rintro ⟨y, ⟨hy, h1⟩, h2, h3⟩
  rcases List.mem_append.1 hy with hy | hy
  ·
   refine ⟨y, hy, ?_⟩
   have h4 := cmpR_b (hle y hy)
   have h5 : x.b = y.b → x.e ≤ y.e := fun e => cmpR_e (hle y hy) e.symm
   unfold crosses
   simp
   refine ⟨⟨⟨⟨h2, by omega⟩, h1⟩, by omega⟩, ?_⟩
   by_cases e : x.b = y.b
   · have := h5 e
     omega
   omega
  simp at hy
  subst hy
  omega
 rintro ⟨y, hy, h⟩
 unfold crosses at h
 simp at h
 have h4 := cmpR_b (hle y hy)
 refine ⟨y, ⟨List.mem_append_left _ hy, h.1.1.2⟩, h.1.1.1.1, ?_⟩
 have := h.1.2
 omega
end Go.Proofs.YtebmfkkkhmjkoaaGreat
