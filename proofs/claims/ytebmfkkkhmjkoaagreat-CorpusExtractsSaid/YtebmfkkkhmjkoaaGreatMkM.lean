/-
 THE PLAIN MATHEMATICS of package markup, of no program, first part: names, decimal numerals, escapes, escaping and unescaping.
-/
import Derived.Lib.ParseIntB
import Derived.Lib.ItoaNum
import Derived.Lib.Small
import Derived.Lib.Strings
import Derived.Lib.TrimByte
import Derived.Lib.IndexLaws
namespace Go.Proofs.YtebmfkkkhmjkoaaGreat
open Go.Lib

abbrev Bs := List UInt8
/-- A byte, by its number, that may begin a name; one that may stand in it behind the first. -/
def letN (c : Nat) : Bool := decide (65 ≤ c ∧ c ≤ 90) || decide (97 ≤ c ∧ c ≤ 122) || decide (c = 95)
def innN (c : Nat) : Bool := decide (48 ≤ c ∧ c ≤ 57) || decide (c = 45)
def nxtB (c : UInt8) : Bool := letN c.toNat || innN c.toNat
/-- The length of the name at the beginning. -/
def nameN : Bs → Nat
 | [] => 0
 | c :: r => if letN c.toNat then 1 + (r.takeWhile nxtB).length else 0
/-- A name. -/
def nameB (l : Bs) : Bool := decide (l ≠ []) && decide (l.length ≤ 32) && decide (nameN l = l.length)
def nameAt (l : Bs) (n : Nat) : Nat := if n = 0 then nameN l else n + ((l.drop n).takeWhile nxtB).length
/-- May byte n stand in the name? -/
def goB (l : Bs) (n : Nat) : Bool := letN (l.getD n 0).toNat || (decide (0 < n) && innN (l.getD n 0).toNat)
theorem nameAt_step {l : Bs} {n : Nat} (h : n < l.length) (hc : goB l n = true) : nameAt l (n + 1) = nameAt l n := by
 unfold nameAt
 rw [if_neg (by omega)]
 cases n with
 | zero =>
   cases l with
   | nil => simp at h
   | cons c r =>
     have hc' : letN c.toNat = true := by simpa [goB] using hc
     simp [nameN, hc']
 | succ m =>
   rw [if_neg (by omega), List.drop_eq_getElem_cons h, List.takeWhile_cons]
   have hg : l.getD (m + 1) 0 = l[m + 1] := by simp [h]
   have hc' : nxtB l[m + 1] = true := by rw [← hg]; simpa [goB, nxtB] using hc
   rw [if_pos hc', List.length_cons]
   omega
theorem nameAt_stop {l : Bs} {n : Nat} (hn : n ≤ l.length) (h : n < l.length → goB l n = false) : nameAt l n = n := by
 unfold nameAt
 cases n with
 | zero =>
   rw [if_pos rfl]
   cases l with
   | nil => rfl
   | cons c r =>
     have hc' : letN c.toNat = false := by simpa [goB] using h (by simp)
     simp [nameN, hc']
 | succ m =>
   rw [if_neg (by omega)]
   by_cases hl : m + 1 < l.length
   ·
    have hg : l.getD (m + 1) 0 = l[m + 1] := by simp [hl]
    have hc' : nxtB l[m + 1] = false := by rw [← hg]; simpa [goB, nxtB] using h hl
    rw [List.drop_eq_getElem_cons hl, List.takeWhile_cons, hc']
    simp
   rw [List.drop_eq_nil_of_le (by omega)]
   simp
/- Decimal numerals. -/
/- Escapes. -/
/-- The part in front of the first byte c. -/
def upto (c : UInt8) (l : Bs) : Bs := l.takeWhile (· != c)
theorem upto_get (c : UInt8) : ∀ l : Bs, c ∈ l → l[(upto c l).length]? = some c
 | [], h => by simp at h
 | x :: r, h => by
   unfold upto
   rw [List.takeWhile_cons]
   by_cases hx : x = c
   · subst hx; simp
   have : c ∈ r := by
    rcases List.mem_cons.1 h with h | h
    · exact absurd h.symm hx
    exact h
   simp [hx]
   exact upto_get c r this
theorem upto_le (c : UInt8) (l : Bs) : (upto c l).length ≤ l.length := (List.takeWhile_sublist _).length_le
theorem upto_take (c : UInt8) (l : Bs) : upto c l = l.take (upto c l).length := by
 have h := List.prefix_iff_eq_take.1 (List.takeWhile_prefix (l := l) (fun x => x != c))
 exact h
end Go.Proofs.YtebmfkkkhmjkoaaGreat
