/-
  THE PLAIN MATHEMATICS of package feature, of no program: what stands between the bars; texts of sets; ascending order; sorted insertion; union and intersection.
  THE PLAIN MATHEMATICS of package feature, second part: texts of valid features are valid values; what parsing answers; the laws of sets.
-/
import Derived.Test.YtebmfkkkhmjkoaaGreatMkM
import Derived.Lib.Strings
import Derived.Test.YtebmfkkkhmjkoaaGreatGpZ
namespace Go.Proofs.YtebmfkkkhmjkoaaGreat
open Go.Lib

abbrev Fs := List (List UInt8)
/-- What stands between the bars, behind the first one. -/
def goF : Bs → Bs → Option Fs
 | cur, [] => if cur = [] then some [] else none
 | cur, b :: r => if b = 124 then (if cur = [] then none else (goF [] r).map (cur :: ·)) else goF (cur ++ [b]) r
def featsO : Bs → Option Fs
 | [] => none
 | b :: r => if b = 124 then goF [] r else none
def textB (l : Fs) : Bs := l.flatMap (· ++ [124])
def textL (l : Fs) : Bs := 124 :: textB l
def okF (f : Bs) : Prop := f ≠ [] ∧ (124 : UInt8) ∉ f
theorem textB_cons (f : Bs) (l : Fs) : textB (f :: l) = f ++ 124 :: textB l := by simp [textB]
theorem goF_run : ∀ (f cur r : Bs), (124 : UInt8) ∉ f → goF cur (f ++ r) = goF (cur ++ f) r
 | [], cur, r, _ => by simp
 | b :: f, cur, r, h => by
   have hb : b ≠ 124 := fun e => h (by simp [e])
   have hf : (124 : UInt8) ∉ f := fun e => h (by simp [e])
   rw [List.cons_append, goF, if_neg hb, goF_run f _ r hf, List.append_assoc]
   rfl
theorem goF_cut (f r : Bs) (h : (124 : UInt8) ∉ f) : goF [] (f ++ 124 :: r) = if f = [] then none else (goF [] r).map (f :: ·) := by
 rw [goF_run f [] _ h, List.nil_append, goF, if_pos rfl]
theorem goF_open (f : Bs) (h : (124 : UInt8) ∉ f) (hne : f ≠ []) : goF [] f = none := by
 have := goF_run f [] [] h
 rw [List.append_nil, List.nil_append] at this
 rw [this, goF, if_neg hne]
theorem goF_back : ∀ (r cur : Bs) (l : Fs), goF cur r = some l → (124 : UInt8) ∉ cur → (∀ f ∈ l, okF f) ∧ cur ++ r = textB l
 | [], cur, l, h, _ => by
   rw [goF] at h
   split at h
   · cases h; subst_vars; exact ⟨by simp, rfl⟩
   cases h
 | b :: r, cur, l, h, hc => by
   rw [goF] at h
   by_cases hb : b = 124
   ·
    rw [if_pos hb] at h
    by_cases h0 : cur = []
    · rw [if_pos h0] at h; cases h
    rw [if_neg h0] at h
    cases hm : goF [] r with
    | none => rw [hm] at h; cases h
    | some m =>
      rw [hm] at h
      injection h with h
      subst h
      obtain ⟨h1, h2⟩ := goF_back r [] m hm (by simp)
      refine ⟨fun f hf => ?_, ?_⟩
      · rcases List.mem_cons.1 hf with rfl | hf
        · exact ⟨h0, hc⟩
        exact h1 f hf
      rw [textB_cons, ← h2, hb, List.nil_append]
   rw [if_neg hb] at h
   obtain ⟨h1, h2⟩ := goF_back r (cur ++ [b]) l h (by simp [hc, Ne.symm hb])
   exact ⟨h1, by rw [← h2]; simp⟩
theorem featsO_some {s : Bs} {l : Fs} (h : featsO s = some l) : (∀ f ∈ l, okF f) ∧ s = textL l := by
 cases s with
 | nil => cases h
 | cons b r =>
   rw [featsO] at h
   by_cases hb : b = 124
   · rw [if_pos hb] at h
     obtain ⟨h1, h2⟩ := goF_back r [] l h (by simp)
     exact ⟨h1, by rw [textL, ← h2, hb]; rfl⟩
   rw [if_neg hb] at h; cases h
/-- The features, in strictly ascending order. -/
def asc (l : Fs) : Prop := l.Pairwise (· < ·)
instance (l : Fs) : Decidable (asc l) := by unfold asc; infer_instance
theorem asc_iff {l : Fs} : asc l ↔ ∀ (j : Nat) (a b : Bs), l[j]? = some a → l[j + 1]? = some b → a < b := by
 unfold asc
 rw [List.pairwise_iff_getElem]
 refine ⟨fun h j a b ha hb => ?_, fun h => ?_⟩
 · obtain ⟨h1, rfl⟩ := List.getElem?_eq_some_iff.1 ha
   obtain ⟨h2, rfl⟩ := List.getElem?_eq_some_iff.1 hb
   exact h _ _ h1 h2 (by omega)
 have key : ∀ (d i : Nat) (hi : i < l.length) (hd : i + d + 1 < l.length), l[i] < l[i + d + 1] := by
  intro d
  induction d with
  | zero => exact fun i hi hd => h i _ _ (List.getElem?_eq_getElem hi) (List.getElem?_eq_getElem hd)
  | succ d ih => exact fun i hi hd => List.lt_trans (ih i hi (by omega)) (h (i + d + 1) _ _ (List.getElem?_eq_getElem (by omega)) (List.getElem?_eq_getElem (by omega)))
 intro i j hi hj hij
 have := key (j - i - 1) i hi (by omega)
 have e : i + (j - i - 1) + 1 = j := by omega
 simpa only [e] using this
theorem len_textB (l : Fs) : l.length ≤ (textB l).length := by
 induction l with
 | nil => simp
 | cons f r ih => rw [textB_cons]; simp; omega
end Go.Proofs.YtebmfkkkhmjkoaaGreat
namespace Go.Proofs.YtebmfkkkhmjkoaaGreat
open Go.RowKit Go.Shelf Go.Lib

/-- What parsing answers: the features and the error's number. -/
def parseL (s : Bs) : Fs × Nat :=
 if valE s = 0 then (match featsO s with | none => ([], 3) | some l => if asc l then (l, 0) else ([], 6)) else ([], valE s)
end Go.Proofs.YtebmfkkkhmjkoaaGreat
