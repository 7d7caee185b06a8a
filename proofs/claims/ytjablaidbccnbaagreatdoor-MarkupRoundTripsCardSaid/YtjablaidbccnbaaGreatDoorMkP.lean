/-
  THE PLAIN MATHEMATICS of package markup, second part: what reading a tag gives, step by step.
-/
import Derived.Test.YtjablaidbccnbaaGreatDoorMkG
import Derived.Test.YtjablaidbccnbaaGreatDoorMkS
import Derived.Test.YtjablaidbccnbaaGreatDoorMkI
namespace Go.Proofs.YtjablaidbccnbaaGreatDoor
open Go.Lib

/-- A key with its value. -/
abbrev Pr := Bs × Bs
/-- What a step of the reading gives: a value and the place behind it, or a place and an error. -/
inductive PR (α : Type) where
  | ok (v : α) (i : Nat)
  | err (a e : Nat)
def pExpect (L : Bs) (i : Nat) (c : UInt8) : PR Unit := if L[i]? = some c then .ok () (i + 1) else .err i 3
def pName (L : Bs) (i : Nat) : PR Bs :=
  if nameN (L.drop i) = 0 then .err i 3 else if 32 < nameN (L.drop i) then .err i 2 else .ok ((L.drop i).take (nameN (L.drop i))) (i + nameN (L.drop i))
/-- A byte of a raw value. -/
def rawB (c : UInt8) : Bool := !([34, 60, 62] : Bs).contains c
def rawN (L : Bs) (i : Nat) : Nat := ((L.drop i).takeWhile rawB).length
def rawT (L : Bs) (i : Nat) : Bs := (L.drop i).take (rawN L i)
def pValue (L : Bs) (i : Nat) : PR Bs :=
  if L[i]? = some 34 then
    if L[i + 1 + rawN L (i + 1)]? = some 34 then
      match unesc (rawT L (i + 1)) with
      | .error a => .err (i + 1 + a) 3
      | .ok v => if valE v = 0 then .ok v (i + 1 + rawN L (i + 1) + 1) else .err (i + 1) (valE v)
    else .err (i + 1 + rawN L (i + 1)) 3
  else .err i 3
def hasN (ks : List Pr) (n : Bs) : Bool := ks.any fun p => decide (p.1 = n)
def pKeyName (L : Bs) (i : Nat) (ks : List Pr) : PR Bs :=
  match pName L i with
  | .err a e => .err a e
  | .ok n j => if hasN ks n then .err i 5 else if ks.length = 8 then .err i 2 else .ok n j
def pKeys : Nat → Bs → Nat → List Pr → PR (List Pr)
  | 0, _, i, ks => .ok ks i
  | f + 1, L, i, ks =>
    if spN L i = 0 then .ok ks i
    else match pKeyName L (i + spN L i) ks with
      | .err a e => .err a e
      | .ok n j => match pExpect L j 61 with
        | .err a e => .err a e
        | .ok _ k => match pValue L k with
          | .err a e => .err a e
          | .ok v m => pKeys f L m (ks ++ [(n, v)])
structure TagL where
  close : Bool
  name : Bs
  keys : List Pr
/-- The end of a tag. -/
def pEnd (L : Bs) (t : TagL) (i : Nat) : PR TagL :=
  match pExpect L i 62 with
  | .err a e => .err a e
  | .ok _ j => if j < L.length then .err j 3 else .ok t j
def pTag (L : Bs) : PR TagL :=
  match pExpect L 0 60 with
  | .err a e => .err a e
  | .ok _ i =>
    if L[i]? = some 47 then
      match pName L (i + 1) with
      | .err a e => .err a e
      | .ok n j => pEnd L ⟨true, n, []⟩ j
    else
      match pName L i with
      | .err a e => .err a e
      | .ok n j => match pKeys (L.length + 1) L j [] with
        | .err a e => .err a e
        | .ok ks k => pEnd L ⟨false, n, ks⟩ k
theorem raw_index : ∀ l : Bs, indexAny l [34, 60, 62] = if (l.takeWhile rawB).length < l.length then ((l.takeWhile rawB).length : Int) else -1
  | [] => by simp [indexAny]
  | b :: r => by
    unfold indexAny
    rw [List.takeWhile_cons]
    by_cases hb : ([34, 60, 62] : Bs).contains b = true
    · have : rawB b = false := by unfold rawB; rw [hb]; rfl
      rw [if_pos hb, this]
      simp
    · have : rawB b = true := by unfold rawB; rw [Bool.not_eq_true] at hb; rw [hb]; rfl
      rw [if_neg hb, this, raw_index r]
      simp only [if_true, List.length_cons]
      by_cases h : (r.takeWhile rawB).length < r.length
      · have h2 : (r.takeWhile rawB).length + 1 < r.length + 1 := by omega
        have h3 : ((((r.takeWhile rawB).length : Nat) : Int) == -1) = false := by simp
        simp only [if_pos h, if_pos h2, h3]
        simp
      · have h2 : ¬ (r.takeWhile rawB).length + 1 < r.length + 1 := by omega
        simp only [if_neg h, if_neg h2]
        simp
theorem raw_le (L : Bs) (i : Nat) : rawN L i ≤ L.length - i := by
  have := (List.takeWhile_sublist (p := rawB) (l := L.drop i)).length_le
  rw [List.length_drop] at this
  exact this
end Go.Proofs.YtjablaidbccnbaaGreatDoor
