/-
  MATHEMATICS: one line as the reference reads it, byte by byte.
-/
import Derived.Test.YtpkkebojiengpaaGreatDoorDpM
namespace Go.Proofs.YtpkkebojiengpaaGreatDoor
open Go Go.RowKit Go.Shelf Go.Lib
set_option linter.unusedVariables false

theorem dig_iff (b : UInt8) : digB b = true ↔ 48 ≤ b.toNat ∧ b.toNat ≤ 57 := by
  unfold digB
  simp
theorem dig_get {c : Bs} {j : Nat} (hj : j < (c.takeWhile digB).length) : ∃ b, c[j]? = some b ∧ (c.takeWhile digB)[j]? = some b ∧ 48 ≤ b.toNat ∧ b.toNat ≤ 57 ∧ c.takeWhile digB = c.take (c.takeWhile digB).length := by
  have hp : c.takeWhile digB <+: c := List.takeWhile_prefix _
  obtain ⟨r, hr⟩ := hp
  have h1 : c[j]? = (c.takeWhile digB)[j]? := by
    conv => lhs; rw [← hr]
    exact List.getElem?_append_left hj
  obtain ⟨b, hb⟩ : ∃ b, (c.takeWhile digB)[j]? = some b := ⟨_, List.getElem?_eq_getElem hj⟩
  have hd := List.all_takeWhile (p := digB) (l := c)
  rw [List.all_eq_true] at hd
  have h2 := (dig_iff b).1 (hd b (List.mem_of_getElem? hb))
  refine ⟨b, h1.trans hb, hb, h2.1, h2.2, ?_⟩
  have := congrArg (List.take (c.takeWhile digB).length) hr
  rw [List.take_left] at this
  exact this
theorem dig_end (c : Bs) : c[(c.takeWhile digB).length]? = none ∨ ∃ b, c[(c.takeWhile digB).length]? = some b ∧ ¬ (48 ≤ b.toNat ∧ b.toNat ≤ 57) := by
  induction c with
  | nil => left; rfl
  | cons a l ih =>
    by_cases ha : digB a = true
    · rw [List.takeWhile_cons, if_pos ha]
      simpa using ih
    · rw [List.takeWhile_cons, if_neg ha]
      right
      exact ⟨a, rfl, fun h => ha ((dig_iff a).2 h)⟩
theorem dig_drop (c : Bs) : c.dropWhile digB = c.drop (c.takeWhile digB).length := by
  have h := congrArg (List.drop (c.takeWhile digB).length) (List.takeWhile_append_dropWhile (p := digB) (l := c))
  rw [List.drop_left] at h
  exact h
theorem dig_head (c : Bs) : (c.dropWhile digB).head? = c[(c.takeWhile digB).length]? := by
  rw [dig_drop, List.head?_drop]
theorem lineR_count {T k : Nat} {c : Bs} (h : k = T) : lineR T k c = (0, 15, 0, []) := by unfold lineR; rw [if_pos h]
theorem lineR_none {T k : Nat} {c : Bs} (h : k ≠ T) (h0 : (c.takeWhile digB).length = 0) : lineR T k c = (0, 3, 0, []) := by
  unfold lineR; rw [if_neg h, if_pos (List.length_eq_zero_iff.1 h0)]
theorem lineR_zero {T k : Nat} {c : Bs} (h : k ≠ T) (h1 : 1 < (c.takeWhile digB).length) (h2 : c[0]? = some 48) : lineR T k c = (1, 3, 0, []) := by
  have h3 : (c.takeWhile digB).head? = some 48 := by
    obtain ⟨b, e1, e2, _⟩ := dig_get (c := c) (j := 0) (by omega)
    rw [List.head?_eq_getElem?, e2, ← e1, h2]
  unfold lineR
  rw [if_neg h, if_neg (fun e => by rw [e] at h1; simp at h1), if_pos ⟨h1, h3⟩]
theorem lineR_rest {T k : Nat} {c : Bs} (h : k ≠ T) (h0 : (c.takeWhile digB).length ≠ 0) (hz : ¬ (1 < (c.takeWhile digB).length ∧ c[0]? = some 48)) :
    lineR T k c = if c[(c.takeWhile digB).length]? ≠ some 9 then (((c.takeWhile digB).length : Int), 3, 0, [])
      else if T < valD (c.takeWhile digB) then (0, 8, 0, [])
      else if relB (c.drop ((c.takeWhile digB).length + 1)) = false then ((((c.takeWhile digB).length + 1 : Nat) : Int), 4, 0, [])
      else (0, 0, (valD (c.takeWhile digB) : Int) - 1, c.drop ((c.takeWhile digB).length + 1)) := by
  have hz2 : ¬ (1 < (c.takeWhile digB).length ∧ (c.takeWhile digB).head? = some 48) := by
    rintro ⟨h1, h2⟩
    obtain ⟨b, e1, e2, _⟩ := dig_get (c := c) (j := 0) (by omega)
    rw [List.head?_eq_getElem?, e2] at h2
    exact hz ⟨h1, by rw [e1]; exact h2⟩
  have hd : (c.dropWhile digB).drop 1 = c.drop ((c.takeWhile digB).length + 1) := by rw [dig_drop, List.drop_drop]
  unfold lineR
  rw [if_neg h, if_neg (fun e => h0 (by rw [e]; rfl)), if_neg hz2, dig_head, hd]
  by_cases h9 : c[(c.takeWhile digB).length]? ≠ some 9
  · rw [if_pos h9, if_pos h9]
  · rw [if_neg h9, if_neg h9]
    have hl : (c.takeWhile digB).length < c.length := by
      have : c[(c.takeWhile digB).length]? = some 9 := by simpa using h9
      exact (List.getElem?_eq_some_iff.1 this).1
    have hlen : (c.length : Int) - ((c.drop ((c.takeWhile digB).length + 1)).length : Int) = (((c.takeWhile digB).length + 1 : Nat) : Int) := by
      rw [List.length_drop]
      omega
    rw [hlen]
theorem valD_take {c : Bs} {j : Nat} {b : UInt8} (hb : (c.takeWhile digB)[j]? = some b) : valD ((c.takeWhile digB).take (j + 1)) = 10 * valD ((c.takeWhile digB).take j) + (b.toNat - 48) := by
  rw [List.take_add_one, hb]
  exact valD_snoc _ _
end Go.Proofs.YtpkkebojiengpaaGreatDoor
