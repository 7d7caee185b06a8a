/-
  MATHEMATICS of what Parse answers: what is read is valid; an error's offset lies within the text.
-/
import Derived.Test.YtpkkebojiengpaaGreatDoorDbH
namespace Go.Proofs.YtpkkebojiengpaaGreatDoor
open Go Go.RowKit Go.Shelf Go.Lib
set_option linter.unusedVariables false

theorem lineR_le (T k : Nat) (l : Bs) : (lineR T k l).1 ≤ (l.length : Int) := by
  have h1 := twd_len l
  unfold lineR
  split
  · simp
  · split
    · simp
    · split
      · rename_i h3; have := h3.1; simp only; omega
      · split
        · simp only; omega
        · split
          · simp
          · split
            · simp only; omega
            · simp
theorem rd_err_range (T : Nat) (pre : List Bs) {e1 e2 : Int} (h : (rd T pre).err = some (e1, e2)) : 0 ≤ e1 ∧ e1 ≤ (pre.flatten.length : Int) := by
  induction hn : pre.length generalizing pre with
  | zero =>
    have := List.length_eq_zero_iff.1 hn
    subst this
    cases h
  | succ n ih =>
    rcases List.eq_nil_or_concat pre with rfl | ⟨q, x, rfl⟩
    · simp at hn
    · rw [List.concat_eq_append] at hn h ⊢
      rw [rd_snoc] at h
      have hfl : (q ++ [x]).flatten.length = q.flatten.length + x.length := by simp
      rw [hfl]
      cases hq : (rd T q).err with
      | some e =>
        have : stepL T (rd T q) x = rd T q := by unfold stepL; rw [hq]
        rw [this] at h
        have := ih q h (by simp at hn; omega)
        omega
      | none =>
        have hok := rd_ok T q hq
        unfold stepL at h
        rw [hq] at h
        simp only at h
        by_cases hz : (lineR T (rd T q).hs.length (trimNL x)).2.1 = 0
        · rw [if_pos hz] at h; cases h
        · rw [if_neg hz] at h
          have h1 := lineR_le T (rd T q).hs.length (trimNL x)
          have h2 := (lineR_bound T (rd T q).hs.length (trimNL x)).1
          have h3 := trimNL_len x
          have h4 := hok.off
          cases h
          omega
theorem textE_range (T : Nat) (s : Bs) : 0 ≤ (textE T s).1 ∧ (textE T s).1 ≤ (s.length : Int) := by
  have hfl := lines_flat s
  unfold textE
  cases he : (rd T (linesL s)).err with
  | some e =>
    obtain ⟨e1, e2⟩ := e
    have := rd_err_range T (linesL s) he
    rw [hfl] at this
    exact this
  | none =>
    have hok := rd_ok T (linesL s) he
    simp only
    split
    · exact ⟨by simp only; omega, by simp only; omega⟩
    · split
      · exact ⟨by simp, by simp only; omega⟩
      · simp only
        refine ⟨by omega, ?_⟩
        have h4 := hok.off
        rw [hfl] at h4
        rw [List.getD_eq_getElem?_getD]
        cases hg : (rd T (linesL s)).bs[(checkH (rd T (linesL s)).hs).1.toNat]? with
        | none => simp only [Option.getD_none]; omega
        | some b =>
          have := hok.ob b (List.mem_of_getElem? hg)
          simp only [Option.getD_some]
          omega
theorem textE_ok (T : Nat) (s : Bs) (h : (textE T s).2 = 0) : (rd T (linesL s)).hs.length = T ∧ (rd T (linesL s)).rs.length = T ∧ (checkH (rd T (linesL s)).hs).2 = 0 := by
  unfold textE at h
  cases he : (rd T (linesL s)).err with
  | some e =>
    obtain ⟨e1, e2⟩ := e
    rw [he] at h
    exact absurd h (rd_err T (linesL s) he)
  | none =>
    have hok := rd_ok T (linesL s) he
    rw [he] at h
    simp only at h
    by_cases h1 : (rd T (linesL s)).hs.length < T
    · rw [if_pos h1] at h
      simp at h
    · rw [if_neg h1] at h
      have h2 := hok.le
      have h3 := hok.len
      have h4 := hok.lr
      refine ⟨by omega, by omega, ?_⟩
      by_cases hz : (checkH (rd T (linesL s)).hs).2 = 0
      · exact hz
      · rw [if_neg hz] at h
        exact absurd h hz
end Go.Proofs.YtpkkebojiengpaaGreatDoor
