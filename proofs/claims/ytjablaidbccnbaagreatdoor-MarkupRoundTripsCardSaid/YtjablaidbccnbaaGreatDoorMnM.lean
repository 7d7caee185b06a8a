/-
  MATHEMATICS of the law about numbers in an escape, and the opener of a number.
-/
import Derived.Test.YtjablaidbccnbaaGreatDoorMkL
namespace Go.Proofs.YtjablaidbccnbaaGreatDoor
open Go.RowKit Go.Shelf Go.Lib Go.ChangeShapes Go.WideShapes Go.ChangeAt

def numZ (n z : Nat) : Bs := List.replicate z 48 ++ decDigits n
theorem valA_zeros : ∀ (z : Nat) (ds : Bs), valA 0 (List.replicate z 48 ++ ds) = valA 0 ds
  | 0, ds => by simp
  | z + 1, ds => by
    rw [List.replicate_succ, List.cons_append]
    have h : valA 0 (48 :: (List.replicate z 48 ++ ds)) = valA 0 (List.replicate z 48 ++ ds) := rfl
    rw [h, valA_zeros z ds]
theorem numZ_dig (n z : Nat) : (numZ n z).all digB = true := by
  unfold numZ
  rw [List.all_append, (dec_dig n).1, Bool.and_true, List.all_eq_true]
  intro x hx
  rw [List.eq_of_mem_replicate hx]
  decide
theorem numZ_val (n z : Nat) : valD (numZ n z) = n := by
  unfold numZ valD
  rw [valA_zeros]
  exact (dec_dig n).2.1
theorem numZ_plain (n z : Nat) : plainD (numZ n z) = decide (z = 0) := by
  cases z with
  | zero =>
    show plainD (decDigits n) = _
    rw [dec_plain]
    rfl
  | succ z =>
    have h1 : 1 ≤ (decDigits n).length := List.length_pos_iff.2 (dec_dig n).2.2.1
    unfold plainD numZ
    rw [List.replicate_succ, List.cons_append]
    have h2 : 1 < (48 :: (List.replicate z 48 ++ decDigits n)).length := by
      simp only [List.length_cons, List.length_append]
      omega
    rw [decide_eq_true h2]
    simp
theorem while_all (p : UInt8 → Bool) (c : UInt8) (hc : p c = false) (T : Bs) : ∀ l : Bs, l.all p = true → (l ++ c :: T).takeWhile p = l
  | [], _ => by simp [hc]
  | x :: l, h => by
    rw [List.all_cons, Bool.and_eq_true] at h
    rw [List.cons_append, List.takeWhile_cons, if_pos h.1, while_all p c hc T l h.2]
/-- May the number stand in an escape? -/
def numOk (n z : Nat) : Bool := decide (z = 0) && decide ((decDigits n).length ≤ 7) && validRune (n : Int)
theorem num_cp (n z : Nat) : cpL (numZ n z) = if numOk n z then some n else none := by
  unfold cpL numOk
  rw [numZ_dig, numZ_plain, numZ_val]
  by_cases hz : z = 0
  · subst hz
    rfl
  · simp [hz]
theorem num_lead (n z : Nat) : lead (38 :: 35 :: (numZ n z ++ [59, 98])) = if numOk n z then some (utf n, (numZ n z).length + 3) else none := by
  have h : lead (38 :: 35 :: (numZ n z ++ [59, 98])) = numE (numZ n z ++ [59, 98]) := by
    unfold lead
    simp [hasPrefix, List.isPrefixOf]
  rw [h]
  unfold numE
  rw [while_all digB 59 (by decide) [98] _ (numZ_dig n z), num_cp]
  cases numOk n z with
  | true => simp
  | false => simp
theorem num_unesc (n z : Nat) : unesc (97 :: 38 :: 35 :: (numZ n z ++ [59, 98])) = if numOk n z then .ok (97 :: (utf n ++ [98])) else .error 1 := by
  rw [unesc_byte 97 _ (by decide)]
  have hl := num_lead n z
  cases hb : numOk n z with
  | true =>
    rw [hb] at hl
    rw [unesc_lead rfl hl]
    have hd : (38 :: 35 :: (numZ n z ++ [59, 98])).drop ((numZ n z).length + 3) = [98] := by
      rw [show (numZ n z).length + 3 = ((numZ n z).length + 1) + 1 + 1 by omega, List.drop_succ_cons, List.drop_succ_cons, List.drop_append]
      simp
    rw [hd, unesc_byte 98 [] (by decide), unesc_nil]
    simp [behind]
  | false =>
    rw [hb] at hl
    rw [unesc_bad rfl hl]
    simp [behind]
theorem numZ_len (n z : Nat) : (numZ n z).length = z + (decDigits n).length := by simp [numZ]
def decS (k : Nat) : Bs := if k = 0 then [] else decDigits k
theorem decS_step (k : Nat) (h : 0 < k) : decS k = decS (k / 10) ++ [UInt8.ofNat (48 + k % 10)] := by
  unfold decS
  rw [if_neg (by omega), decDigits]
  split
  · rw [if_pos (by omega), Nat.mod_eq_of_lt (by omega)]
    rfl
  · rw [if_neg (by omega)]
theorem enc_dig (d : Nat) (h : d < 10) : Utf8.encode ((48 + d : Nat) : Int) = ⟨#[UInt8.ofNat (48 + d)]⟩ := by
  rcases (by omega : d = 0 ∨ d = 1 ∨ d = 2 ∨ d = 3 ∨ d = 4 ∨ d = 5 ∨ d = 6 ∨ d = 7 ∨ d = 8 ∨ d = 9) with rfl | rfl | rfl | rfl | rfl | rfl | rfl | rfl | rfl | rfl <;> decide +kernel

section
variable {H : Type} {enc : TypeId × Value → H}
set_option maxRecDepth 100000 in
theorem open_i64 {W : World} {r : Reach} {b0 : Nat} {v : Value} {d : DataW H} {p : List MemPlace} (hv : Value.okWide Tryz.prog W r b0 3 v) (h : DataW.Trod enc Tryz.prog W 0 (fun _ => true) true 3 v d p) :
    ∃ x : Int, v = .int .i64 x ∧ -9223372036854775808 ≤ x ∧ x ≤ 9223372036854775807 := by
  obtain ⟨n, rfl, _, _, hw⟩ := open_int Tryz.underlying3 hv h
  simp [Lit.wf, IntKind.min, IntKind.max, IntKind.signed, IntKind.bits] at hw
  exact ⟨n, rfl, hw.1, hw.2⟩
end
end Go.Proofs.YtjablaidbccnbaaGreatDoor
