/-
  MATHEMATICS of LexiconLimits: words of three letters by a number.
-/
import Derived.Test.YtfcekoedhbmaeaaLzK
import Derived.Test.YtfcekoedhbmaeaaStM
namespace Go.Proofs.Ytfcekoedhbmaeaa
open Go.RowKit Go.Shelf Go.Lib
set_option linter.unusedVariables false

/-- The word with a number. -/
def wd (k : Nat) : Wd := [UInt8.ofNat (97 + k % 16), UInt8.ofNat (97 + k / 16 % 16), UInt8.ofNat (97 + k / 256)]
def idx (a i : Nat) : Nat := if a ≤ i then 0 else i
/-- The first t elements of the law's list. -/
def limL (a t : Nat) : List Wd := (List.range t).map fun i => wd (idx a i)
theorem limL_succ (a t : Nat) : limL a (t + 1) = limL a t ++ [wd (idx a t)] := by simp [limL, List.range_succ]
theorem limL_len (a t : Nat) : (limL a t).length = t := by simp [limL]
theorem idx_le (a i : Nat) (h : a ≤ 1025) : idx a i < 1025 := by unfold idx; split <;> omega
theorem units_one (k : Nat) (h : k < 128) (m : List UInt8) (p : Nat) : unitsA (UInt8.ofNat k :: m) p = ⟨k, p, 1⟩ :: unitsA m (p + 1) := by
  have e := dec_one k h m
  simp only [List.singleton_append] at e
  rw [unitsA_step _ _ (by simp), e]
  rfl
theorem good_one (k p : Nat) (h : k < 128) : (!badU ⟨k, p, 1⟩) = true := by
  rw [badU_mk]
  simp
  omega
theorem valid_wd (k : Nat) (h : k < 1025) : validW (wd k) = true := by
  unfold validW wd
  show ((unitsA [UInt8.ofNat (97 + k % 16), UInt8.ofNat (97 + k / 16 % 16), UInt8.ofNat (97 + k / 256)] 0).all fun u => !badU u) = true
  rw [units_one _ (by omega), units_one _ (by omega), units_one _ (by omega), unitsA_nil]
  simp only [List.all_cons, List.all_nil, good_one _ _ (show 97 + k % 16 < 128 by omega), good_one _ _ (show 97 + k / 16 % 16 < 128 by omega), good_one _ _ (show 97 + k / 256 < 128 by omega)]
  rfl
theorem chk_wd (k : Nat) (h : k < 1025) : chkW (wd k) = 0 := by
  unfold chkW
  rw [if_neg (by simp [wd]), valid_wd k h]
  rfl
theorem byte_inj {i j : Nat} (hi : i < 256) (hj : j < 256) (h : UInt8.ofNat i = UInt8.ofNat j) : i = j := by
  have := congrArg UInt8.toNat h
  simp only [UInt8.toNat_ofNat'] at this
  omega
theorem wd_inj {i j : Nat} (hi : i < 4096) (hj : j < 4096) (h : wd i = wd j) : i = j := by
  unfold wd at h
  injection h with h1 h
  injection h with h2 h
  injection h with h3 _
  have e1 := byte_inj (by omega) (by omega) h1
  have e2 := byte_inj (by omega) (by omega) h2
  have e3 := byte_inj (by omega) (by omega) h3
  omega
/-- How many different words there are. -/
def diffN (a b : Nat) : Nat := if a = 0 then (if b = 0 then 0 else 1) else a
theorem lim_mem (a b : Nat) (x : Wd) : x ∈ limL a (a + b) ↔ ∃ i, i < diffN a b ∧ x = wd i := by
  unfold limL diffN
  simp only [List.mem_map, List.mem_range]
  constructor
  · rintro ⟨i, hi, rfl⟩
    refine ⟨idx a i, ?_, rfl⟩
    unfold idx
    split <;> split <;> first | omega | (split <;> omega)
  · rintro ⟨i, hi, rfl⟩
    by_cases ha : a = 0
    · rw [if_pos ha] at hi
      by_cases hb : b = 0
      · rw [if_pos hb] at hi; omega
      · rw [if_neg hb] at hi
        refine ⟨0, by omega, ?_⟩
        have : i = 0 := by omega
        rw [this]
        unfold idx
        split <;> rfl
    · rw [if_neg ha] at hi
      refine ⟨i, by omega, ?_⟩
      unfold idx
      rw [if_neg (by omega)]
theorem lex_lim (a b : Nat) (ha : a ≤ 1025) : (lexW (limL a (a + b))).length = diffN a b := by
  have hc : diffN a b ≤ 1025 := by unfold diffN; split <;> (try split) <;> omega
  have h1 : (lexW (limL a (a + b))).Nodup := by
    show (lexW (limL a (a + b))).Pairwise (· ≠ ·)
    refine (lex_asc (limL a (a + b))).imp ?_
    intro x y h e
    subst e
    exact absurd h (List.lt_irrefl x)
  have h2 : ((List.range (diffN a b)).map wd).Nodup := by
    refine List.pairwise_map.2 ((List.pairwise_lt_range (n := diffN a b)).imp_of_mem fun {i j} hi hj hlt e => ?_)
    have := wd_inj (by have := List.mem_range.1 hi; omega) (by have := List.mem_range.1 hj; omega) e
    omega
  have hm : ∀ x, x ∈ lexW (limL a (a + b)) ↔ x ∈ (List.range (diffN a b)).map wd := fun x => by
    rw [lex_mem, lim_mem]
    simp only [List.mem_map, List.mem_range]
    exact ⟨fun ⟨i, h, e⟩ => ⟨i, h, e.symm⟩, fun ⟨i, h, e⟩ => ⟨i, h, e.symm⟩⟩
  have := ((List.perm_ext_iff_of_nodup h1 h2).2 hm).length_eq
  rw [this]
  simp
theorem lim_err (a b : Nat) (ha : a ≤ 1025) (hab : a + b ≤ 4097) : buildE (limL a (a + b)) = if 4096 < a + b ∨ 1024 < a then 2 else 0 := by
  have h0 : errL (limL a (a + b)) = 0 := errL_all _ fun x hx => by
    obtain ⟨i, hi, rfl⟩ := (lim_mem a b x).1 hx
    have hc : diffN a b ≤ 1025 := by unfold diffN; split <;> (try split) <;> omega
    exact chk_wd i (by omega)
  unfold buildE
  rw [limL_len, h0, lex_lim a b ha]
  unfold diffN
  by_cases h1 : 4096 < a + b
  · rw [if_pos h1, if_pos (.inl h1)]
  · rw [if_neg h1, if_neg (by simp)]
    by_cases h2 : 1024 < a
    · rw [if_neg (show ¬ a = 0 by omega), if_pos h2, if_pos (.inr h2)]
    · rw [if_neg (show ¬ (4096 < a + b ∨ 1024 < a) by omega)]
      refine if_neg ?_
      split <;> (try split) <;> omega
/-- The word as the law puts it together. -/
theorem wd_bytes (k : Nat) (h : k < 1025) : (Utf8.encode ((97 + k % 16 : Nat) : Int)).data.toList ++ (Utf8.encode ((97 + k / 16 % 16 : Nat) : Int)).data.toList ++ (Utf8.encode ((97 + k / 256 : Nat) : Int)).data.toList = wd k := by
  rw [enc_one _ (by omega), enc_one _ (by omega), enc_one _ (by omega)]
  rfl
theorem wd_str (k : Nat) (h : k < 1025) : Utf8.encode ((97 + k % 16 : Nat) : Int) ++ Utf8.encode ((97 + k / 16 % 16 : Nat) : Int) ++ Utf8.encode ((97 + k / 256 : Nat) : Int) = (⟨(wd k).toArray⟩ : ByteArray) := by
  rw [← wd_bytes k h]
  apply ByteArray.ext
  apply Array.toList_inj.1
  simp
theorem wd_zero : Utf8.encode 97 ++ Utf8.encode 97 ++ Utf8.encode 97 = (⟨(wd 0).toArray⟩ : ByteArray) := wd_str 0 (by omega)
theorem enc_lit (r : Nat) (h : 97 + r < 128) : Utf8.encode (97 + (r : Int)) = (⟨#[UInt8.ofNat (97 + r)]⟩ : ByteArray) := by
  have e : (97 + (r : Int)) = ((97 + r : Nat) : Int) := by omega
  rw [e]
  apply ByteArray.ext
  apply Array.toList_inj.1
  rw [enc_one _ h]
theorem wd_lit (k r1 e1 r2 e2 : Nat) (h1 : k % 16 = r1) (h2 : k / 16 = e1) (h3 : e1 % 16 = r2) (h4 : k / 256 = e2) (h : k < 1025) : (⟨#[UInt8.ofNat (97 + r1)]⟩ ++ ⟨#[UInt8.ofNat (97 + r2)]⟩ ++ ⟨#[UInt8.ofNat (97 + e2)]⟩ : ByteArray) = ⟨(wd k).toArray⟩ := by
  apply ByteArray.ext
  apply Array.toList_inj.1
  unfold wd
  rw [h1, h2, h3, h4]
  simp
end Go.Proofs.Ytfcekoedhbmaeaa
