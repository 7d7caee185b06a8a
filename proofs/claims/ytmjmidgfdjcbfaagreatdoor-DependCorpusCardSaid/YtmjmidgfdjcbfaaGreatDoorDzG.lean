/-
  MATHEMATICS of what Parse answers: what is read is valid; an error's offset lies within the text.
  MATHEMATICS: lines by their chunks, as the reference reads them.
  MATHEMATICS: one line as the reference reads it, byte by byte.
-/
import Derived.Test.YtmjmidgfdjcbfaaGreatDoorDbH
namespace Go.Proofs.YtmjmidgfdjcbfaaGreatDoor.Dep
open Go Go.RowKit Go.Shelf Go.Lib
set_option linter.unusedVariables false

theorem lineR_le (T k : Nat) (l : Bs) : (lineR T k l).1 ≤ (l.length : Int) := by
  have h1 := twd_len l
  unfold lineR
  split
  · simp
  · split
    · simp
    · split
      · rename_i h3; have := h3.1; simp only; omega
      · split
        · simp only; omega
        · split
          · simp
          · split
            · simp only; omega
            · simp
theorem rd_err_range (T : Nat) (pre : List Bs) {e1 e2 : Int} (h : (rd T pre).err = some (e1, e2)) : 0 ≤ e1 ∧ e1 ≤ (pre.flatten.length : Int) := by
  induction hn : pre.length generalizing pre with
  | zero =>
    have := List.length_eq_zero_iff.1 hn
    subst this
    cases h
  | succ n ih =>
    rcases List.eq_nil_or_concat pre with rfl | ⟨q, x, rfl⟩
    · simp at hn
    · rw [List.concat_eq_append] at hn h ⊢
      rw [rd_snoc] at h
      have hfl : (q ++ [x]).flatten.length = q.flatten.length + x.length := by simp
      rw [hfl]
      cases hq : (rd T q).err with
      | some e =>
        have : stepL T (rd T q) x = rd T q := by unfold stepL; rw [hq]
        rw [this] at h
        have := ih q h (by simp at hn; omega)
        omega
      | none =>
        have hok := rd_ok T q hq
        unfold stepL at h
        rw [hq] at h
        simp only at h
        by_cases hz : (lineR T (rd T q).hs.length (trimNL x)).2.1 = 0
        · rw [if_pos hz] at h; cases h
        · rw [if_neg hz] at h
          have h1 := lineR_le T (rd T q).hs.length (trimNL x)
          have h2 := (lineR_bound T (rd T q).hs.length (trimNL x)).1
          have h3 := trimNL_len x
          have h4 := hok.off
          cases h
          omega
theorem textE_range (T : Nat) (s : Bs) : 0 ≤ (textE T s).1 ∧ (textE T s).1 ≤ (s.length : Int) := by
  have hfl := lines_flat s
  unfold textE
  cases he : (rd T (linesL s)).err with
  | some e =>
    obtain ⟨e1, e2⟩ := e
    have := rd_err_range T (linesL s) he
    rw [hfl] at this
    exact this
  | none =>
    have hok := rd_ok T (linesL s) he
    simp only
    split
    · exact ⟨by simp only; omega, by simp only; omega⟩
    · split
      · exact ⟨by simp, by simp only; omega⟩
      · simp only
        refine ⟨by omega, ?_⟩
        have h4 := hok.off
        rw [hfl] at h4
        rw [List.getD_eq_getElem?_getD]
        cases hg : (rd T (linesL s)).bs[(checkH (rd T (linesL s)).hs).1.toNat]? with
        | none => simp only [Option.getD_none]; omega
        | some b =>
          have := hok.ob b (List.mem_of_getElem? hg)
          simp only [Option.getD_some]
          omega
theorem textE_ok (T : Nat) (s : Bs) (h : (textE T s).2 = 0) : (rd T (linesL s)).hs.length = T ∧ (rd T (linesL s)).rs.length = T ∧ (checkH (rd T (linesL s)).hs).2 = 0 := by
  unfold textE at h
  cases he : (rd T (linesL s)).err with
  | some e =>
    obtain ⟨e1, e2⟩ := e
    rw [he] at h
    exact absurd h (rd_err T (linesL s) he)
  | none =>
    have hok := rd_ok T (linesL s) he
    rw [he] at h
    simp only at h
    by_cases h1 : (rd T (linesL s)).hs.length < T
    · rw [if_pos h1] at h
      simp at h
    · rw [if_neg h1] at h
      have h2 := hok.le
      have h3 := hok.len
      have h4 := hok.lr
      refine ⟨by omega, by omega, ?_⟩
      by_cases hz : (checkH (rd T (linesL s)).hs).2 = 0
      · exact hz
      · rw [if_neg hz] at h
        exact absurd h hz
end Go.Proofs.YtmjmidgfdjcbfaaGreatDoor.Dep
namespace Go.Proofs.YtmjmidgfdjcbfaaGreatDoor.Dep
open Go Go.RowKit Go.Shelf Go.Lib
set_option linter.unusedVariables false

/-- What stands in front of the first line feed. -/
def chunk (s : Bs) : Bs := s.takeWhile (fun c => c != 10)
theorem take_ne : ∀ (s : Bs), indexByte s 10 = -1 → chunk s = s
  | [], _ => rfl
  | b :: l, h => by
    have h0 := indexByte_none h 0
    have hb : b ≠ 10 := fun e => h0 (by rw [e]; rfl)
    have hl : indexByte l 10 = -1 := by
      unfold indexByte at h
      split at h
      · simp at h
      · split at h
        · rename_i h2; simpa using h2
        · rename_i h2
          have := indexByte_none (l := l) (c := 10)
          have h3 : indexByte l 10 = -2 := by omega
          have : -1 ≤ indexByte l 10 := by
            clear h h0 h2 h3 this hb
            induction l with
            | nil => simp [indexByte]
            | cons b l ih =>
              unfold indexByte
              split
              · omega
              · split
                · omega
                · omega
          omega
    unfold chunk at *
    rw [List.takeWhile_cons, if_pos (by simpa using hb)]
    congr 1
    exact take_ne l hl
theorem chunk_some {s : Bs} {i : Nat} (h : s[i]? = some 10) (hk : ∀ k, k < i → s[k]? ≠ some 10) : chunk s = s.take i := by
  induction s generalizing i with
  | nil => simp at h
  | cons b l ih =>
    cases i with
    | zero =>
      simp at h
      subst h
      simp [chunk]
    | succ i =>
      have hb : b ≠ 10 := fun e => hk 0 (by omega) (by rw [e]; rfl)
      unfold chunk at *
      rw [List.takeWhile_cons, if_pos (by simpa using hb), List.take_succ_cons]
      congr 1
      exact ih (by simpa using h) (fun k hki => by have := hk (k + 1) (by omega); simpa using this)
theorem byte_cases (s : Bs) : indexByte s 10 = -1 ∨ ∃ i : Nat, indexByte s 10 = (i : Int) := by
  by_cases h : indexByte s 10 < 0
  · left
    have : ∀ l : Bs, -1 ≤ indexByte l 10 := by
      intro l
      induction l with
      | nil => simp [indexByte]
      | cons b l ih =>
        unfold indexByte
        split
        · omega
        · split
          · omega
          · omega
    have := this s
    omega
  · right
    exact ⟨(indexByte s 10).toNat, by omega⟩
theorem chunk_len (s : Bs) : (chunk s).length ≤ s.length := by
  unfold chunk
  exact (List.takeWhile_sublist _).length_le
theorem chunk_get {s : Bs} {j : Nat} (hj : j < (chunk s).length) : s[j]? = (chunk s)[j]? ∧ s[j]? ≠ some 10 := by
  have hp : chunk s <+: s := List.takeWhile_prefix _
  obtain ⟨r, hr⟩ := hp
  have h1 : s[j]? = (chunk s)[j]? := by
    conv => lhs; rw [← hr]
    exact List.getElem?_append_left hj
  refine ⟨h1, fun e => ?_⟩
  rw [h1] at e
  have hm := List.mem_of_getElem? e
  have := List.all_takeWhile (p := fun c : UInt8 => c != 10) (l := s)
  rw [List.all_eq_true] at this
  have h2 := this 10 hm
  simp at h2
theorem chunk_end (s : Bs) : s[(chunk s).length]? = none ∨ s[(chunk s).length]? = some 10 := by
  rcases byte_cases s with h | ⟨i, h⟩
  · left
    rw [take_ne s h]
    exact List.getElem?_eq_none (Nat.le_refl _)
  · right
    obtain ⟨h1, h2⟩ := indexByte_some h
    have hl := (List.getElem?_eq_some_iff.1 h1).1
    rw [chunk_some h1 h2, List.length_take, Nat.min_eq_left (by omega)]
    exact h1
theorem lines_cons {s : Bs} (hs : s ≠ []) : linesL s = s.take ((chunk s).length + 1) :: linesL (s.drop ((chunk s).length + 1)) := by
  obtain ⟨f, hf⟩ : ∃ f, s.length = f + 1 := by
    cases s with
    | nil => exact absurd rfl hs
    | cons b l => exact ⟨l.length, rfl⟩
  unfold linesL
  rw [hf]
  rcases byte_cases s with h | ⟨i, h⟩
  · rw [linF_last hs h, take_ne s h, List.take_of_length_le (by omega), List.drop_eq_nil_of_le (by omega)]
    rw [linF_nil]
  · obtain ⟨h1, h2⟩ := indexByte_some h
    have hl := (List.getElem?_eq_some_iff.1 h1).1
    rw [linF_next hs h, chunk_some h1 h2, List.length_take, Nat.min_eq_left (by omega)]
    congr 1
    exact linF_fuel _ _ _ (by rw [List.length_drop]; omega) (Nat.le_refl _)
theorem trim_chunk {s : Bs} (hs : s ≠ []) : trimNL (s.take ((chunk s).length + 1)) = chunk s := by
  unfold trimNL trimSuffix
  rcases byte_cases s with h | ⟨i, h⟩
  · rw [take_ne s h, List.take_of_length_le (by omega)]
    have hn : hasSuffix s [10] = false := by
      rw [← Bool.not_eq_true]
      intro hx
      unfold hasSuffix at hx
      obtain ⟨r, hr⟩ := List.isSuffixOf_iff_suffix.1 hx
      have := indexByte_none h r.length
      rw [← hr] at this
      simp at this
    rw [hn]
    rfl
  · obtain ⟨h1, h2⟩ := indexByte_some h
    have hl := (List.getElem?_eq_some_iff.1 h1).1
    rw [chunk_some h1 h2, List.length_take, Nat.min_eq_left (by omega)]
    have hsf : hasSuffix (s.take (i + 1)) [10] = true := by
      have e : s.take (i + 1) = s.take i ++ [10] := by rw [List.take_add_one, h1]; rfl
      rw [e]
      unfold hasSuffix
      simp
    rw [hsf, if_pos rfl, List.take_take, List.length_take]
    congr 1
    simp only [List.length_cons, List.length_nil]
    omega
/-- Between two lines, as the reference reads them. -/
structure Rp (T : Nat) (L : Bs) (pre : List Bs) (fr : Nat) : Prop where
  lines : linesL L = pre ++ linesL (L.drop fr)
  err : (rd T pre).err = none
  off : fr < L.length → (rd T pre).off = fr
  le : fr ≤ L.length + 1
theorem Rp.start (T : Nat) (L : Bs) : Rp T L [] 0 := ⟨by simp, rfl, fun _ => rfl, by omega⟩
theorem Rp.cons {T fr : Nat} {L : Bs} {pre : List Bs} (h : Rp T L pre fr) (hf : fr < L.length) :
    linesL L = (pre ++ [(L.drop fr).take ((chunk (L.drop fr)).length + 1)]) ++ linesL (L.drop (fr + (chunk (L.drop fr)).length + 1)) ∧ trimNL ((L.drop fr).take ((chunk (L.drop fr)).length + 1)) = chunk (L.drop fr) ∧ fr + (chunk (L.drop fr)).length ≤ L.length := by
  have hne : L.drop fr ≠ [] := by
    intro e
    have := congrArg List.length e
    rw [List.length_drop] at this
    simp at this
    omega
  have h1 := chunk_len (L.drop fr)
  rw [List.length_drop] at h1
  refine ⟨?_, trim_chunk hne, by omega⟩
  rw [h.lines, lines_cons hne, List.drop_drop]
  simp [Nat.add_assoc]
theorem Rp.next {T fr : Nat} {L : Bs} {pre : List Bs} (h : Rp T L pre fr) (hf : fr < L.length) (hz : (lineR T (rd T pre).hs.length (chunk (L.drop fr))).2.1 = 0) :
    ∃ x, Rp T L (pre ++ [x]) (fr + (chunk (L.drop fr)).length + 1) ∧ (rd T (pre ++ [x])).hs = (rd T pre).hs ++ [(lineR T (rd T pre).hs.length (chunk (L.drop fr))).2.2.1] ∧
      (rd T (pre ++ [x])).rs = (rd T pre).rs ++ [(lineR T (rd T pre).hs.length (chunk (L.drop fr))).2.2.2] ∧ (rd T (pre ++ [x])).bs = (rd T pre).bs ++ [fr] := by
  obtain ⟨h1, h2, h3⟩ := h.cons hf
  refine ⟨_, ⟨h1, ?_, ?_, by omega⟩, ?_, ?_, ?_⟩
  all_goals
    have e : rd T (pre ++ [(L.drop fr).take ((chunk (L.drop fr)).length + 1)]) = ⟨none, (rd T pre).off + ((L.drop fr).take ((chunk (L.drop fr)).length + 1)).length, (rd T pre).bs ++ [(rd T pre).off], (rd T pre).hs ++ [(lineR T (rd T pre).hs.length (chunk (L.drop fr))).2.2.1], (rd T pre).rs ++ [(lineR T (rd T pre).hs.length (chunk (L.drop fr))).2.2.2]⟩ := by
      rw [rd_snoc]
      unfold stepL
      rw [h.err]
      simp only
      rw [h2, if_pos hz]
    rw [e]
  · intro hl
    simp only
    rw [h.off hf, List.length_take, List.length_drop, Nat.min_eq_left (by omega)]
    omega
  · simp only
    rw [h.off hf]
theorem Rp.fail {T fr : Nat} {L : Bs} {pre : List Bs} (h : Rp T L pre fr) (hf : fr < L.length) (hz : (lineR T (rd T pre).hs.length (chunk (L.drop fr))).2.1 ≠ 0) :
    textE T L = ((fr : Int) + (lineR T (rd T pre).hs.length (chunk (L.drop fr))).1, (lineR T (rd T pre).hs.length (chunk (L.drop fr))).2.1) := by
  obtain ⟨h1, h2, h3⟩ := h.cons hf
  have e : (rd T (pre ++ [(L.drop fr).take ((chunk (L.drop fr)).length + 1)])).err = some ((fr : Int) + (lineR T (rd T pre).hs.length (chunk (L.drop fr))).1, (lineR T (rd T pre).hs.length (chunk (L.drop fr))).2.1) := by
    rw [rd_snoc]
    unfold stepL
    rw [h.err]
    simp only
    rw [h2, if_neg hz, h.off hf]
  have hst := rd_stuck T _ e (linesL (L.drop (fr + (chunk (L.drop fr)).length + 1)))
  unfold textE
  rw [h1, hst, e]
theorem Rp.fin {T fr : Nat} {L : Bs} {pre : List Bs} (h : Rp T L pre fr) (hf : L.length ≤ fr) : linesL L = pre := by
  have h1 := h.lines
  rw [List.drop_eq_nil_of_le hf, show linesL ([] : Bs) = [] from rfl, List.append_nil] at h1
  exact h1
theorem valD_nil : valD [] = 0 := rfl
/-- What the reference has read of a number: no more than 2^40. -/
def cap (n : Nat) : Nat := min n 1099511627776
theorem cap_step (n d : Nat) (hd : d ≤ 9) : min (10 * cap n + d) 1099511627776 = cap (10 * n + d) := by unfold cap; omega
theorem cap_gt (n T : Nat) (hT : T ≤ 4096) : T < cap n ↔ T < n := by unfold cap; omega
theorem cap_le (n T : Nat) (hT : T ≤ 4096) (h : n ≤ T) : cap n = n := by unfold cap; omega
end Go.Proofs.YtmjmidgfdjcbfaaGreatDoor.Dep
namespace Go.Proofs.YtmjmidgfdjcbfaaGreatDoor.Dep
open Go Go.RowKit Go.Shelf Go.Lib
set_option linter.unusedVariables false

theorem dig_iff (b : UInt8) : digB b = true ↔ 48 ≤ b.toNat ∧ b.toNat ≤ 57 := by
  unfold digB
  simp
theorem dig_get {c : Bs} {j : Nat} (hj : j < (c.takeWhile digB).length) : ∃ b, c[j]? = some b ∧ (c.takeWhile digB)[j]? = some b ∧ 48 ≤ b.toNat ∧ b.toNat ≤ 57 ∧ c.takeWhile digB = c.take (c.takeWhile digB).length := by
  have hp : c.takeWhile digB <+: c := List.takeWhile_prefix _
  obtain ⟨r, hr⟩ := hp
  have h1 : c[j]? = (c.takeWhile digB)[j]? := by
    conv => lhs; rw [← hr]
    exact List.getElem?_append_left hj
  obtain ⟨b, hb⟩ : ∃ b, (c.takeWhile digB)[j]? = some b := ⟨_, List.getElem?_eq_getElem hj⟩
  have hd := List.all_takeWhile (p := digB) (l := c)
  rw [List.all_eq_true] at hd
  have h2 := (dig_iff b).1 (hd b (List.mem_of_getElem? hb))
  refine ⟨b, h1.trans hb, hb, h2.1, h2.2, ?_⟩
  have := congrArg (List.take (c.takeWhile digB).length) hr
  rw [List.take_left] at this
  exact this
theorem dig_end (c : Bs) : c[(c.takeWhile digB).length]? = none ∨ ∃ b, c[(c.takeWhile digB).length]? = some b ∧ ¬ (48 ≤ b.toNat ∧ b.toNat ≤ 57) := by
  induction c with
  | nil => left; rfl
  | cons a l ih =>
    by_cases ha : digB a = true
    · rw [List.takeWhile_cons, if_pos ha]
      simpa using ih
    · rw [List.takeWhile_cons, if_neg ha]
      right
      exact ⟨a, rfl, fun h => ha ((dig_iff a).2 h)⟩
theorem dig_drop (c : Bs) : c.dropWhile digB = c.drop (c.takeWhile digB).length := by
  have h := congrArg (List.drop (c.takeWhile digB).length) (List.takeWhile_append_dropWhile (p := digB) (l := c))
  rw [List.drop_left] at h
  exact h
theorem dig_head (c : Bs) : (c.dropWhile digB).head? = c[(c.takeWhile digB).length]? := by
  rw [dig_drop, List.head?_drop]
theorem lineR_count {T k : Nat} {c : Bs} (h : k = T) : lineR T k c = (0, 15, 0, []) := by unfold lineR; rw [if_pos h]
theorem lineR_none {T k : Nat} {c : Bs} (h : k ≠ T) (h0 : (c.takeWhile digB).length = 0) : lineR T k c = (0, 3, 0, []) := by
  unfold lineR; rw [if_neg h, if_pos (List.length_eq_zero_iff.1 h0)]
theorem lineR_zero {T k : Nat} {c : Bs} (h : k ≠ T) (h1 : 1 < (c.takeWhile digB).length) (h2 : c[0]? = some 48) : lineR T k c = (1, 3, 0, []) := by
  have h3 : (c.takeWhile digB).head? = some 48 := by
    obtain ⟨b, e1, e2, _⟩ := dig_get (c := c) (j := 0) (by omega)
    rw [List.head?_eq_getElem?, e2, ← e1, h2]
  unfold lineR
  rw [if_neg h, if_neg (fun e => by rw [e] at h1; simp at h1), if_pos ⟨h1, h3⟩]
theorem lineR_rest {T k : Nat} {c : Bs} (h : k ≠ T) (h0 : (c.takeWhile digB).length ≠ 0) (hz : ¬ (1 < (c.takeWhile digB).length ∧ c[0]? = some 48)) :
    lineR T k c = if c[(c.takeWhile digB).length]? ≠ some 9 then (((c.takeWhile digB).length : Int), 3, 0, [])
      else if T < valD (c.takeWhile digB) then (0, 8, 0, [])
      else if relB (c.drop ((c.takeWhile digB).length + 1)) = false then ((((c.takeWhile digB).length + 1 : Nat) : Int), 4, 0, [])
      else (0, 0, (valD (c.takeWhile digB) : Int) - 1, c.drop ((c.takeWhile digB).length + 1)) := by
  have hz2 : ¬ (1 < (c.takeWhile digB).length ∧ (c.takeWhile digB).head? = some 48) := by
    rintro ⟨h1, h2⟩
    obtain ⟨b, e1, e2, _⟩ := dig_get (c := c) (j := 0) (by omega)
    rw [List.head?_eq_getElem?, e2] at h2
    exact hz ⟨h1, by rw [e1]; exact h2⟩
  have hd : (c.dropWhile digB).drop 1 = c.drop ((c.takeWhile digB).length + 1) := by rw [dig_drop, List.drop_drop]
  unfold lineR
  rw [if_neg h, if_neg (fun e => h0 (by rw [e]; rfl)), if_neg hz2, dig_head, hd]
  by_cases h9 : c[(c.takeWhile digB).length]? ≠ some 9
  · rw [if_pos h9, if_pos h9]
  · rw [if_neg h9, if_neg h9]
    have hl : (c.takeWhile digB).length < c.length := by
      have : c[(c.takeWhile digB).length]? = some 9 := by simpa using h9
      exact (List.getElem?_eq_some_iff.1 this).1
    have hlen : (c.length : Int) - ((c.drop ((c.takeWhile digB).length + 1)).length : Int) = (((c.takeWhile digB).length + 1 : Nat) : Int) := by
      rw [List.length_drop]
      omega
    rw [hlen]
theorem valD_take {c : Bs} {j : Nat} {b : UInt8} (hb : (c.takeWhile digB)[j]? = some b) : valD ((c.takeWhile digB).take (j + 1)) = 10 * valD ((c.takeWhile digB).take j) + (b.toNat - 48) := by
  rw [List.take_add_one, hb]
  exact valD_snoc _ _
end Go.Proofs.YtmjmidgfdjcbfaaGreatDoor.Dep
