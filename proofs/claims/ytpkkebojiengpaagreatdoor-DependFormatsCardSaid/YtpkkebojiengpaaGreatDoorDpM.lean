/-
  MATHEMATICS: lines by their chunks, as the reference reads them.
-/
import Derived.Test.YtpkkebojiengpaaGreatDoorDcG
namespace Go.Proofs.YtpkkebojiengpaaGreatDoor
open Go Go.RowKit Go.Shelf Go.Lib
set_option linter.unusedVariables false

/-- What stands in front of the first line feed. -/
def chunk (s : Bs) : Bs := s.takeWhile (fun c => c != 10)
theorem take_ne : ∀ (s : Bs), indexByte s 10 = -1 → chunk s = s
  | [], _ => rfl
  | b :: l, h => by
    have h0 := indexByte_none h 0
    have hb : b ≠ 10 := fun e => h0 (by rw [e]; rfl)
    have hl : indexByte l 10 = -1 := by
      unfold indexByte at h
      split at h
      · simp at h
      · split at h
        · rename_i h2; simpa using h2
        · rename_i h2
          have := indexByte_none (l := l) (c := 10)
          have h3 : indexByte l 10 = -2 := by omega
          have : -1 ≤ indexByte l 10 := by
            clear h h0 h2 h3 this hb
            induction l with
            | nil => simp [indexByte]
            | cons b l ih =>
              unfold indexByte
              split
              · omega
              · split
                · omega
                · omega
          omega
    unfold chunk at *
    rw [List.takeWhile_cons, if_pos (by simpa using hb)]
    congr 1
    exact take_ne l hl
theorem chunk_some {s : Bs} {i : Nat} (h : s[i]? = some 10) (hk : ∀ k, k < i → s[k]? ≠ some 10) : chunk s = s.take i := by
  induction s generalizing i with
  | nil => simp at h
  | cons b l ih =>
    cases i with
    | zero =>
      simp at h
      subst h
      simp [chunk]
    | succ i =>
      have hb : b ≠ 10 := fun e => hk 0 (by omega) (by rw [e]; rfl)
      unfold chunk at *
      rw [List.takeWhile_cons, if_pos (by simpa using hb), List.take_succ_cons]
      congr 1
      exact ih (by simpa using h) (fun k hki => by have := hk (k + 1) (by omega); simpa using this)
theorem byte_cases (s : Bs) : indexByte s 10 = -1 ∨ ∃ i : Nat, indexByte s 10 = (i : Int) := by
  by_cases h : indexByte s 10 < 0
  · left
    have : ∀ l : Bs, -1 ≤ indexByte l 10 := by
      intro l
      induction l with
      | nil => simp [indexByte]
      | cons b l ih =>
        unfold indexByte
        split
        · omega
        · split
          · omega
          · omega
    have := this s
    omega
  · right
    exact ⟨(indexByte s 10).toNat, by omega⟩
theorem chunk_len (s : Bs) : (chunk s).length ≤ s.length := by
  unfold chunk
  exact (List.takeWhile_sublist _).length_le
theorem chunk_get {s : Bs} {j : Nat} (hj : j < (chunk s).length) : s[j]? = (chunk s)[j]? ∧ s[j]? ≠ some 10 := by
  have hp : chunk s <+: s := List.takeWhile_prefix _
  obtain ⟨r, hr⟩ := hp
  have h1 : s[j]? = (chunk s)[j]? := by
    conv => lhs; rw [← hr]
    exact List.getElem?_append_left hj
  refine ⟨h1, fun e => ?_⟩
  rw [h1] at e
  have hm := List.mem_of_getElem? e
  have := List.all_takeWhile (p := fun c : UInt8 => c != 10) (l := s)
  rw [List.all_eq_true] at this
  have h2 := this 10 hm
  simp at h2
theorem chunk_end (s : Bs) : s[(chunk s).length]? = none ∨ s[(chunk s).length]? = some 10 := by
  rcases byte_cases s with h | ⟨i, h⟩
  · left
    rw [take_ne s h]
    exact List.getElem?_eq_none (Nat.le_refl _)
  · right
    obtain ⟨h1, h2⟩ := indexByte_some h
    have hl := (List.getElem?_eq_some_iff.1 h1).1
    rw [chunk_some h1 h2, List.length_take, Nat.min_eq_left (by omega)]
    exact h1
theorem lines_cons {s : Bs} (hs : s ≠ []) : linesL s = s.take ((chunk s).length + 1) :: linesL (s.drop ((chunk s).length + 1)) := by
  obtain ⟨f, hf⟩ : ∃ f, s.length = f + 1 := by
    cases s with
    | nil => exact absurd rfl hs
    | cons b l => exact ⟨l.length, rfl⟩
  unfold linesL
  rw [hf]
  rcases byte_cases s with h | ⟨i, h⟩
  · rw [linF_last hs h, take_ne s h, List.take_of_length_le (by omega), List.drop_eq_nil_of_le (by omega)]
    rw [linF_nil]
  · obtain ⟨h1, h2⟩ := indexByte_some h
    have hl := (List.getElem?_eq_some_iff.1 h1).1
    rw [linF_next hs h, chunk_some h1 h2, List.length_take, Nat.min_eq_left (by omega)]
    congr 1
    exact linF_fuel _ _ _ (by rw [List.length_drop]; omega) (Nat.le_refl _)
theorem trim_chunk {s : Bs} (hs : s ≠ []) : trimNL (s.take ((chunk s).length + 1)) = chunk s := by
  unfold trimNL trimSuffix
  rcases byte_cases s with h | ⟨i, h⟩
  · rw [take_ne s h, List.take_of_length_le (by omega)]
    have hn : hasSuffix s [10] = false := by
      rw [← Bool.not_eq_true]
      intro hx
      unfold hasSuffix at hx
      obtain ⟨r, hr⟩ := List.isSuffixOf_iff_suffix.1 hx
      have := indexByte_none h r.length
      rw [← hr] at this
      simp at this
    rw [hn]
    rfl
  · obtain ⟨h1, h2⟩ := indexByte_some h
    have hl := (List.getElem?_eq_some_iff.1 h1).1
    rw [chunk_some h1 h2, List.length_take, Nat.min_eq_left (by omega)]
    have hsf : hasSuffix (s.take (i + 1)) [10] = true := by
      have e : s.take (i + 1) = s.take i ++ [10] := by rw [List.take_add_one, h1]; rfl
      rw [e]
      unfold hasSuffix
      simp
    rw [hsf, if_pos rfl, List.take_take, List.length_take]
    congr 1
    simp only [List.length_cons, List.length_nil]
    omega
/-- Between two lines, as the reference reads them. -/
structure Rp (T : Nat) (L : Bs) (pre : List Bs) (fr : Nat) : Prop where
  lines : linesL L = pre ++ linesL (L.drop fr)
  err : (rd T pre).err = none
  off : fr < L.length → (rd T pre).off = fr
  le : fr ≤ L.length + 1
theorem Rp.start (T : Nat) (L : Bs) : Rp T L [] 0 := ⟨by simp, rfl, fun _ => rfl, by omega⟩
theorem Rp.cons {T fr : Nat} {L : Bs} {pre : List Bs} (h : Rp T L pre fr) (hf : fr < L.length) :
    linesL L = (pre ++ [(L.drop fr).take ((chunk (L.drop fr)).length + 1)]) ++ linesL (L.drop (fr + (chunk (L.drop fr)).length + 1)) ∧ trimNL ((L.drop fr).take ((chunk (L.drop fr)).length + 1)) = chunk (L.drop fr) ∧ fr + (chunk (L.drop fr)).length ≤ L.length := by
  have hne : L.drop fr ≠ [] := by
    intro e
    have := congrArg List.length e
    rw [List.length_drop] at this
    simp at this
    omega
  have h1 := chunk_len (L.drop fr)
  rw [List.length_drop] at h1
  refine ⟨?_, trim_chunk hne, by omega⟩
  rw [h.lines, lines_cons hne, List.drop_drop]
  simp [Nat.add_assoc]
theorem Rp.next {T fr : Nat} {L : Bs} {pre : List Bs} (h : Rp T L pre fr) (hf : fr < L.length) (hz : (lineR T (rd T pre).hs.length (chunk (L.drop fr))).2.1 = 0) :
    ∃ x, Rp T L (pre ++ [x]) (fr + (chunk (L.drop fr)).length + 1) ∧ (rd T (pre ++ [x])).hs = (rd T pre).hs ++ [(lineR T (rd T pre).hs.length (chunk (L.drop fr))).2.2.1] ∧
      (rd T (pre ++ [x])).rs = (rd T pre).rs ++ [(lineR T (rd T pre).hs.length (chunk (L.drop fr))).2.2.2] ∧ (rd T (pre ++ [x])).bs = (rd T pre).bs ++ [fr] := by
  obtain ⟨h1, h2, h3⟩ := h.cons hf
  refine ⟨_, ⟨h1, ?_, ?_, by omega⟩, ?_, ?_, ?_⟩
  all_goals
    have e : rd T (pre ++ [(L.drop fr).take ((chunk (L.drop fr)).length + 1)]) = ⟨none, (rd T pre).off + ((L.drop fr).take ((chunk (L.drop fr)).length + 1)).length, (rd T pre).bs ++ [(rd T pre).off], (rd T pre).hs ++ [(lineR T (rd T pre).hs.length (chunk (L.drop fr))).2.2.1], (rd T pre).rs ++ [(lineR T (rd T pre).hs.length (chunk (L.drop fr))).2.2.2]⟩ := by
      rw [rd_snoc]
      unfold stepL
      rw [h.err]
      simp only
      rw [h2, if_pos hz]
    rw [e]
  · intro hl
    simp only
    rw [h.off hf, List.length_take, List.length_drop, Nat.min_eq_left (by omega)]
    omega
  · simp only
    rw [h.off hf]
theorem Rp.fail {T fr : Nat} {L : Bs} {pre : List Bs} (h : Rp T L pre fr) (hf : fr < L.length) (hz : (lineR T (rd T pre).hs.length (chunk (L.drop fr))).2.1 ≠ 0) :
    textE T L = ((fr : Int) + (lineR T (rd T pre).hs.length (chunk (L.drop fr))).1, (lineR T (rd T pre).hs.length (chunk (L.drop fr))).2.1) := by
  obtain ⟨h1, h2, h3⟩ := h.cons hf
  have e : (rd T (pre ++ [(L.drop fr).take ((chunk (L.drop fr)).length + 1)])).err = some ((fr : Int) + (lineR T (rd T pre).hs.length (chunk (L.drop fr))).1, (lineR T (rd T pre).hs.length (chunk (L.drop fr))).2.1) := by
    rw [rd_snoc]
    unfold stepL
    rw [h.err]
    simp only
    rw [h2, if_neg hz, h.off hf]
  have hst := rd_stuck T _ e (linesL (L.drop (fr + (chunk (L.drop fr)).length + 1)))
  unfold textE
  rw [h1, hst, e]
theorem Rp.fin {T fr : Nat} {L : Bs} {pre : List Bs} (h : Rp T L pre fr) (hf : L.length ≤ fr) : linesL L = pre := by
  have h1 := h.lines
  rw [List.drop_eq_nil_of_le hf, show linesL ([] : Bs) = [] from rfl, List.append_nil] at h1
  exact h1
theorem valD_nil : valD [] = 0 := rfl
/-- What the reference has read of a number: no more than 2^40. -/
def cap (n : Nat) : Nat := min n 1099511627776
theorem cap_step (n d : Nat) (hd : d ≤ 9) : min (10 * cap n + d) 1099511627776 = cap (10 * n + d) := by unfold cap; omega
theorem cap_gt (n T : Nat) (hT : T ≤ 4096) : T < cap n ↔ T < n := by unfold cap; omega
theorem cap_le (n T : Nat) (hT : T ≤ 4096) (h : n ≤ T) : cap n = n := by unfold cap; omega
end Go.Proofs.YtpkkebojiengpaaGreatDoor
