/-
  A MAP THAT COUNTS WORDS: what its datum says of the list that was counted; its keys, sorted, are the words.
-/
import Derived.Test.YteennnhinfnahaaLxM
import Derived.Maps.OwnOps
import Derived.Maps.OwnSet
import Derived.Sort.KeysCollected
namespace Go.Proofs.Yteennnhinfnahaa
open Go.RowKit Go.Maps
set_option linter.unusedVariables false
abbrev iH (n : Int) : DataW Nat := .lit (.int .i64 n)
/-- The datum of a map that counts the elements of a list. -/
structure CntD (D : DataW Nat) (vs : List Wd) : Prop where
  map : IsMap D
  at' : ∀ x, D.atKey (.string x) (iH 0) = iH (vs.count x : Int)
  has' : ∀ x, Maps.has D (.string x) = decide (x ∈ vs)
theorem CntD.start : CntD (.map []) [] := ⟨isMap_empty, fun x => rfl, fun x => by simp [Maps.has]⟩
theorem CntD.step {D : DataW Nat} {vs : List Wd} {v : Wd} {c : Int} (h : CntD D vs) (hc : D.atKey (.string v) (iH 0) = iH c) : c = (vs.count v : Int) ∧ ∀ d, d = (vs.count v : Int) + 1 → CntD (D.put (.string v) (iH d)) (vs ++ [v]) := by
  have hcv : c = (vs.count v : Int) := by
    rw [h.at' v] at hc
    simp only [iH, DataW.lit.injEq, Lit.int.injEq, true_and] at hc
    exact hc.symm
  refine ⟨hcv, fun d hd => ⟨h.map.put _ _, fun x => ?_, fun x => ?_⟩⟩
  · by_cases e : x = v
    · subst e
      rw [atKey_put_same h.map (by trivial), hd, count_snoc, if_pos rfl]
      rfl
    · rw [atKey_put_other (by intro e2; injection e2 with e3; exact e e3), h.at' x, count_snoc, if_neg (fun e2 => e e2.symm)]
      rfl
  · by_cases e : x = v
    · subst e
      rw [has_put_same h.map (by trivial)]
      simp
    · rw [has_put_other (by intro e2; injection e2 with e3; exact e e3), h.has' x]
      simp [e]
theorem asc_nodup {ws : List Wd} (h : Asc ws) : ws.Nodup := by
  show ws.Pairwise (· ≠ ·)
  exact List.Pairwise.imp (fun {a b} (hab : a < b) (e : a = b) => wd_irr a (by rw [← e] at hab; exact hab)) h
theorem CntD.perm {P : Program} {k : TypeId} {R : Value → Option (DataW Nat × List MemPlace)} {w : World} {b n : Nat} {D : DataW Nat} {vs : List Wd} (h : CntD D vs) (hk : P.underlying k = some .string) (K : Keyed P k) (hown : w.ownsMap P k R b n D) : (lexW vs).Perm (strKeys D) := by
  obtain ⟨es, rfl, hp, _⟩ := hown.entries K
  obtain ⟨es', e, hks⟩ := hown.keysOf
  cases e
  refine perm_strKeys hp (fun p hp' => ?_) (asc_nodup (lex_asc vs)) fun x => ?_
  · obtain ⟨key, hkey⟩ := hks p hp'
    obtain ⟨x, _, hx, _⟩ := Maps.keyOf_str hk hkey
    exact ⟨x, hx⟩
  · rw [h.has' x, lex_mem, decide_eq_true_iff]
theorem CntD.size {P : Program} {k : TypeId} {R : Value → Option (DataW Nat × List MemPlace)} {w : World} {b n : Nat} {D : DataW Nat} {vs : List Wd} (h : CntD D vs) (hk : P.underlying k = some .string) (K : Keyed P k) (hown : w.ownsMap P k R b n D) : Maps.size D = (lexW vs).length := by
  rw [(h.perm hk K hown).length_eq]
  obtain ⟨es, rfl, _⟩ := hown.entries K
  rw [size_eq]
  simp [strKeys]
/-- What ascends is sorted already. -/
theorem asc_sorted {ws : List Wd} (h : Asc ws) : ws.mergeSort leB = ws := by
  refine List.mergeSort_of_pairwise (h.imp fun {a b} hab => ?_)
  simp only [leB, decide_eq_true_eq]
  exact List.le_of_lt hab
theorem CntD.sorted {P : Program} {k : TypeId} {R : Value → Option (DataW Nat × List MemPlace)} {w : World} {b n : Nat} {D : DataW Nat} {vs : List Wd} (h : CntD D vs) (hk : P.underlying k = some .string) (K : Keyed P k) (hown : w.ownsMap P k R b n D) {ss : List Wd} (hs : ss.Perm (strKeys D)) : ss.mergeSort leB = lexW vs := by
  rw [mergeSort_of_perm (hs.trans (h.perm hk K hown).symm), asc_sorted (lex_asc vs)]
end Go.Proofs.Yteennnhinfnahaa
