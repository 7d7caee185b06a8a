/-
  THE PLAIN MATHEMATICS of package markup, of no program, first part: names, decimal numerals, escapes, escaping and unescaping.
-/
import Derived.Lib.ParseIntB
import Derived.Lib.ItoaNum
import Derived.Lib.Small
import Derived.Lib.Strings
import Derived.Lib.TrimByte
import Derived.Lib.IndexLaws
namespace Go.Proofs.Yteennnhinfnahaa
open Go.Lib

abbrev Bs := List UInt8
/-- A byte, by its number, that may begin a name; one that may stand in it behind the first. -/
def letN (c : Nat) : Bool := decide (65 ≤ c ∧ c ≤ 90) || decide (97 ≤ c ∧ c ≤ 122) || decide (c = 95)
def innN (c : Nat) : Bool := decide (48 ≤ c ∧ c ≤ 57) || decide (c = 45)
def nxtB (c : UInt8) : Bool := letN c.toNat || innN c.toNat
/-- The length of the name at the beginning. -/
def nameN : Bs → Nat
  | [] => 0
  | c :: r => if letN c.toNat then 1 + (r.takeWhile nxtB).length else 0
/-- A name. -/
def nameB (l : Bs) : Bool := decide (l ≠ []) && decide (l.length ≤ 32) && decide (nameN l = l.length)
def nameAt (l : Bs) (n : Nat) : Nat := if n = 0 then nameN l else n + ((l.drop n).takeWhile nxtB).length
/-- May byte n stand in the name? -/
def goB (l : Bs) (n : Nat) : Bool := letN (l.getD n 0).toNat || (decide (0 < n) && innN (l.getD n 0).toNat)
theorem nameAt_step {l : Bs} {n : Nat} (h : n < l.length) (hc : goB l n = true) : nameAt l (n + 1) = nameAt l n := by
  unfold nameAt
  rw [if_neg (by omega)]
  cases n with
  | zero =>
    cases l with
    | nil => simp at h
    | cons c r =>
      have hc' : letN c.toNat = true := by simpa [goB] using hc
      simp [nameN, hc']
  | succ m =>
    rw [if_neg (by omega), List.drop_eq_getElem_cons h, List.takeWhile_cons]
    have hg : l.getD (m + 1) 0 = l[m + 1] := by simp [h]
    have hc' : nxtB l[m + 1] = true := by rw [← hg]; simpa [goB, nxtB] using hc
    rw [if_pos hc', List.length_cons]
    omega
theorem nameAt_stop {l : Bs} {n : Nat} (hn : n ≤ l.length) (h : n < l.length → goB l n = false) : nameAt l n = n := by
  unfold nameAt
  cases n with
  | zero =>
    rw [if_pos rfl]
    cases l with
    | nil => rfl
    | cons c r =>
      have hc' : letN c.toNat = false := by simpa [goB] using h (by simp)
      simp [nameN, hc']
  | succ m =>
    rw [if_neg (by omega)]
    by_cases hl : m + 1 < l.length
    · have hg : l.getD (m + 1) 0 = l[m + 1] := by simp [hl]
      have hc' : nxtB l[m + 1] = false := by rw [← hg]; simpa [goB, nxtB] using h hl
      rw [List.drop_eq_getElem_cons hl, List.takeWhile_cons, hc']
      simp
    · rw [List.drop_eq_nil_of_le (by omega)]
      simp
theorem nameN_le (l : Bs) : nameN l ≤ l.length := by
  cases l with
  | nil => simp [nameN]
  | cons c r =>
    have h := (List.takeWhile_sublist (p := nxtB) (l := r)).length_le
    show (if letN c.toNat then 1 + (r.takeWhile nxtB).length else 0) ≤ _
    rw [List.length_cons]
    split <;> omega

/- Decimal numerals. -/
def digB (c : UInt8) : Bool := decide (48 ≤ c.toNat ∧ c.toNat ≤ 57)
def valA (a : Nat) (ds : Bs) : Nat := ds.foldl (fun n c => 10 * n + (c.toNat - 48)) a
def valD (ds : Bs) : Nat := valA 0 ds
/-- No zero in front. -/
def plainD (ds : Bs) : Bool := decide (ds ≠ []) && !(decide (ds.head? = some 48) && decide (1 < ds.length))
theorem valD_snoc (ds : Bs) (c : UInt8) : valD (ds ++ [c]) = 10 * valD ds + (c.toNat - 48) := by simp [valD, valA]
theorem valA_ge : ∀ (ds : Bs) (a : Nat), a ≤ valA a ds
  | [], a => Nat.le_refl _
  | c :: r, a => Nat.le_trans (by omega) (valA_ge r (10 * a + (c.toNat - 48)))
theorem digB_of (k : Nat) (h : k < 10) : digB (UInt8.ofNat (48 + k)) = true ∧ (UInt8.ofNat (48 + k)).toNat = 48 + k := by
  have e : (UInt8.ofNat (48 + k)).toNat = 48 + k := by simp; omega
  exact ⟨by unfold digB; rw [e]; simp; omega, e⟩
theorem head_app {a : Bs} (b : Bs) (h : a ≠ []) : (a ++ b).head? = a.head? := by cases a with | nil => exact absurd rfl h | cons x r => rfl
theorem dec_dig (n : Nat) : (decDigits n).all digB = true ∧ valD (decDigits n) = n ∧ decDigits n ≠ [] ∧ (1 ≤ n → (decDigits n).head? ≠ some 48) := by
  induction n using Nat.strongRecOn with
  | _ n ih =>
    by_cases h : n < 10
    · have hd := digB_of n h
      rw [decDigits, dif_pos h]
      refine ⟨by rw [List.all_cons, hd.1]; rfl, ?_, by simp, fun h1 => ?_⟩
      · rw [show [UInt8.ofNat (48 + n)] = [] ++ [UInt8.ofNat (48 + n)] from rfl, valD_snoc, hd.2]
        simp [valD, valA]
      · simp only [List.head?_cons, ne_eq, Option.some.injEq]
        intro e
        have := congrArg UInt8.toNat e
        rw [hd.2] at this
        have h48 : (48 : UInt8).toNat = 48 := rfl
        omega
    · have hd := digB_of (n % 10) (by omega)
      obtain ⟨a, b, c, d⟩ := ih (n / 10) (by omega)
      rw [decDigits, dif_neg h]
      refine ⟨by rw [List.all_append, a, List.all_cons, hd.1]; rfl, ?_, by simp, fun _ => ?_⟩
      · rw [valD_snoc, b, hd.2]; omega
      · rw [head_app _ c]
        exact d (by omega)
theorem dec_len (k : Nat) : ∀ n, n < 10 ^ (k + 1) → (decDigits n).length ≤ k + 1 := by
  induction k with
  | zero => intro n h; rw [decDigits, dif_pos (by simpa using h)]; simp
  | succ k ih =>
    intro n h
    rw [decDigits]
    split
    · simp
    · have := ih (n / 10) (by rw [Nat.pow_succ] at h; omega)
      simp
      omega
theorem dec_plain (n : Nat) : plainD (decDigits n) = true := by
  obtain ⟨_, _, c, d⟩ := dec_dig n
  unfold plainD
  by_cases h : 1 ≤ n
  · simp [c, d h]
  · obtain rfl : n = 0 := by omega
    rw [decDigits, dif_pos (by decide)]
    decide
theorem dec_of (ds : Bs) : ds.all digB = true → plainD ds = true → decDigits (valD ds) = ds := by
  induction hn : ds.length generalizing ds with
  | zero => intro _ hp; have := List.length_eq_zero_iff.1 hn; subst this; simp [plainD] at hp
  | succ k ih =>
    rcases List.eq_nil_or_concat ds with rfl | ⟨e, c, rfl⟩
    · simp at hn
    · rw [List.concat_eq_append] at hn ⊢
      intro hall hp
      rw [List.all_append] at hall
      simp only [Bool.and_eq_true, List.all_cons, List.all_nil, and_true] at hall
      have hc : 48 ≤ c.toNat ∧ c.toNat ≤ 57 := by simpa [digB] using hall.2
      rw [valD_snoc]
      cases he : e with
      | nil =>
        have h0 : valD ([] : Bs) = 0 := rfl
        rw [h0, decDigits, dif_pos (by omega)]
        have : UInt8.ofNat (48 + (10 * 0 + (c.toNat - 48))) = c := by
          apply UInt8.toNat_inj.1
          simp
          omega
        rw [this]
        rfl
      | cons x r =>
        rw [← he]
        have hne : e ≠ [] := by rw [he]; simp
        have hl : 1 < (e ++ [c]).length := by rw [he]; simp
        have hh : e.head? ≠ some 48 := by
          have hx : (e ++ [c]).head? = e.head? := head_app _ hne
          intro h48
          unfold plainD at hp
          rw [hx, h48] at hp
          simp at hp
          exact hne hp
        have hpe : plainD e = true := by unfold plainD; simp [hne, hh]
        have ihe := ih e (by simp at hn; omega) hall.1 hpe
        have hpos : valD e ≠ 0 := by
          intro h0
          rw [h0, decDigits, dif_pos (by decide)] at ihe
          rw [← ihe] at hh
          exact hh rfl
        rw [decDigits, dif_neg (by omega)]
        have e1 : (10 * valD e + (c.toNat - 48)) / 10 = valD e := by omega
        have e2 : (10 * valD e + (c.toNat - 48)) % 10 = c.toNat - 48 := by omega
        rw [e1, e2, ihe]
        congr 2
        apply UInt8.toNat_inj.1
        simp
        omega
theorem uintM_of (M : Nat) (hM : M < 10000000000) : ∀ (ds : Bs) (a : Nat), ds.all digB = true → valA a ds ≤ M → parseUintM M a ds = .ok (valA a ds)
  | [], a, _, _ => rfl
  | c :: r, a, hall, hv => by
    simp only [List.all_cons, Bool.and_eq_true] at hall
    have hc : 48 ≤ c.toNat ∧ c.toNat ≤ 57 := by simpa [digB] using hall.1
    have hs : valA a (c :: r) = valA (10 * a + (c.toNat - 48)) r := rfl
    have hg := valA_ge r (10 * a + (c.toNat - 48))
    rw [hs] at hv ⊢
    have e : a * 10 + (c.toNat - 48) = 10 * a + (c.toNat - 48) := by omega
    unfold parseUintM
    rw [if_pos hc, if_neg (by omega), if_neg (by omega), e]
    exact uintM_of M hM r _ hall.2 hv
theorem int_of (ds : Bs) (hall : ds.all digB = true) (hne : ds ≠ []) (hv : valD ds < 2147483648) : parseIntB 32 ds = .ok (valD ds : Int) := by
  cases ds with
  | nil => exact absurd rfl hne
  | cons c r =>
    have hc : 48 ≤ c.toNat ∧ c.toNat ≤ 57 := by
      have := hall
      simp only [List.all_cons, Bool.and_eq_true] at this
      simpa [digB] using this.1
    unfold parseIntB
    have h1 : ¬ (c.toNat = 43 ∨ c.toNat = 45) := by omega
    have h2 : ¬ c.toNat = 45 := by omega
    have hu : parseUintB 32 (c :: r) = .ok (valD (c :: r)) := by
      unfold parseUintB
      rw [if_neg (by simp)]
      exact uintM_of _ (by decide) _ 0 hall (by show valD _ ≤ _; omega)
    have h3 : ¬ (2147483648 ≤ valD (c :: r)) := by omega
    simp only [if_neg h1, hu]
    simp [h3, h2]

/-- The code point whose number is written so. -/
def cpL (ds : Bs) : Option Nat := if ds.all digB && plainD ds && decide (ds.length ≤ 7) && validRune (valD ds : Int) then some (valD ds) else none
theorem rune_nat {v : Int} (h : validRune v = true) : 0 ≤ v ∧ v ≤ 1114111 := by
  unfold validRune at h
  simp at h
  omega
theorem cp_ok {d : Bs} {v : Int} (hi : itoa v = d) (hv : validRune v = true) : cpL d = some v.toNat := by
  have hr := rune_nat hv
  have e : d = decDigits v.toNat := by rw [← hi]; unfold itoa; rw [if_neg (by omega)]
  obtain ⟨a, b, _, _⟩ := dec_dig v.toNat
  have hl := dec_len 6 v.toNat (by omega)
  have hn : ((v.toNat : Nat) : Int) = v := by omega
  rw [e]
  unfold cpL
  rw [a, dec_plain, b, hn, hv]
  simp
  exact hl
theorem cp_some {d : Bs} {n : Nat} (h : cpL d = some n) : parseIntB 32 d = .ok (n : Int) ∧ itoa (n : Int) = d ∧ validRune (n : Int) = true ∧ n ≤ 1114111 := by
  unfold cpL at h
  split at h
  · rename_i hc
    simp only [Bool.and_eq_true, decide_eq_true_eq] at hc
    obtain ⟨⟨⟨h1, h2⟩, h3⟩, h4⟩ := hc
    cases h
    have hr := rune_nat h4
    have hne : d ≠ [] := by intro e; subst e; simp [plainD] at h2
    refine ⟨int_of d h1 hne (by omega), ?_, h4, by omega⟩
    unfold itoa
    rw [if_neg (by omega), Int.toNat_natCast]
    exact dec_of d h1 h2
  · cases h

/- Escapes. -/
def utf (n : Nat) : Bs := (Utf8.encode (n : Int)).data.toList
theorem encL (n : Int) : (Utf8.encode n).data.toList.length ≤ 4 := by
  unfold Utf8.encode
  dsimp only
  split
  · split
    · simp
    · split
      · simp
      · split <;> simp
  · split
    · simp
    · split
      · simp
      · split <;> simp
theorem utf_eq (n : Nat) : utf n = (Utf8.encode (n : Int)).data.toList := by rw [utf]
theorem utf_len (n : Nat) : (utf n).length ≤ 4 := by
  rw [utf_eq]
  exact encL _
def numE (m : Bs) : Option (Bs × Nat) :=
  match cpL (m.takeWhile digB) with
  | some n => if m[(m.takeWhile digB).length]? = some 59 then some (utf n, (m.takeWhile digB).length + 3) else none
  | none => none
/-- What the escape at the beginning stands for, and its length. -/
def lead (l : Bs) : Option (Bs × Nat) :=
  if hasPrefix l [38, 97, 109, 112, 59] then some ([38], 5)
  else if hasPrefix l [38, 108, 116, 59] then some ([60], 4)
  else if hasPrefix l [38, 103, 116, 59] then some ([62], 4)
  else if hasPrefix l [38, 113, 117, 111, 116, 59] then some ([34], 6)
  else if hasPrefix l [38, 35] then numE (l.drop 2)
  else none
/-- The part in front of the first byte c. -/
def upto (c : UInt8) (l : Bs) : Bs := l.takeWhile (· != c)
theorem upto_get (c : UInt8) : ∀ l : Bs, c ∈ l → l[(upto c l).length]? = some c
  | [], h => by simp at h
  | x :: r, h => by
    unfold upto
    rw [List.takeWhile_cons]
    by_cases hx : x = c
    · subst hx; simp
    · have : c ∈ r := by
        rcases List.mem_cons.1 h with h | h
        · exact absurd h.symm hx
        · exact h
      simp [hx]
      exact upto_get c r this
theorem upto_le (c : UInt8) (l : Bs) : (upto c l).length ≤ l.length := (List.takeWhile_sublist _).length_le
theorem upto_all (c : UInt8) (l : Bs) (h : c ∉ l) : upto c l = l := by
  unfold upto
  induction l with
  | nil => rfl
  | cons x r ih =>
    have hx : x ≠ c := fun e => h (by rw [e]; simp)
    rw [List.takeWhile_cons, if_pos (by simpa using hx), ih (fun hr => h (List.mem_cons_of_mem _ hr))]
theorem upto_take (c : UInt8) (l : Bs) : upto c l = l.take (upto c l).length := by
  have h := List.prefix_iff_eq_take.1 (List.takeWhile_prefix (l := l) (fun x => x != c))
  exact h
theorem upto_drop (c : UInt8) (l : Bs) : (c ∈ l ∧ ∃ r, l.drop (upto c l).length = c :: r) ∨ (c ∉ l ∧ l.drop (upto c l).length = []) := by
  by_cases h : c ∈ l
  · refine .inl ⟨h, l.drop ((upto c l).length + 1), ?_⟩
    obtain ⟨hl, e⟩ := List.getElem?_eq_some_iff.1 (upto_get c l h)
    rw [List.drop_eq_getElem_cons hl, e]
  · exact .inr ⟨h, by rw [upto_all c l h]; simp⟩
theorem dig_upto (m : Bs) (h : m[(m.takeWhile digB).length]? = some 59) : 59 ∈ m ∧ upto 59 m = m.takeWhile digB := by
  refine ⟨List.mem_of_getElem? h, ?_⟩
  induction m with
  | nil => simp at h
  | cons x r ih =>
    unfold upto
    rw [List.takeWhile_cons] at h
    by_cases hx : digB x = true
    · have hne : x ≠ 59 := by intro e; subst e; revert hx; decide
      rw [if_pos hx, List.length_cons, List.getElem?_cons_succ] at h
      rw [List.takeWhile_cons, List.takeWhile_cons, if_pos (by simpa using hne), if_pos hx]
      congr 1
      exact ih h
    · rw [if_neg hx] at h
      simp at h
      subst h
      simp [show digB 59 = false by decide]
theorem upto_dig (m : Bs) (h : 59 ∈ m) (ha : (upto 59 m).all digB = true) : m.takeWhile digB = upto 59 m ∧ m[(m.takeWhile digB).length]? = some 59 := by
  have e : m.takeWhile digB = upto 59 m := by
    induction m with
    | nil => simp at h
    | cons x r ih =>
      unfold upto at ha ⊢
      rw [List.takeWhile_cons] at ha ⊢
      by_cases hx : x = 59
      · subst hx; simp [show digB 59 = false by decide]
      · have hr : 59 ∈ r := by
          rcases List.mem_cons.1 h with h | h
          · exact absurd h.symm hx
          · exact h
        have hb : (x != 59) = true := by simpa using hx
        rw [if_pos hb, List.all_cons, Bool.and_eq_true] at ha
        rw [if_pos ha.1, List.takeWhile_cons, if_pos hb]
        congr 1
        exact ih hr ha.2
  exact ⟨e, by rw [e]; exact upto_get 59 m h⟩
/-- The second half of the code's leading. -/
def leadC (l : Bs) : Option (Bs × Nat) :=
  if 59 ∈ l ∧ hasPrefix (upto 59 l) [38, 35] = true then
    match cpL ((upto 59 l).drop 2) with
    | some n => some (utf n, (upto 59 l).length + 1)
    | none => none
  else none
theorem leadC_eq (l : Bs) : leadC l = if hasPrefix l [38, 35] then numE (l.drop 2) else none := by
  have key : ∀ m : Bs, leadC (38 :: 35 :: m) = numE m := by
    intro m
    have hu : upto 59 (38 :: 35 :: m) = 38 :: 35 :: upto 59 m := by
      unfold upto
      rw [List.takeWhile_cons, if_pos (by decide), List.takeWhile_cons, if_pos (by decide)]
    have hm : (59 : UInt8) ∈ (38 :: 35 :: m : Bs) ↔ 59 ∈ m := by simp
    unfold leadC numE
    rw [hu]
    have hp : hasPrefix (38 :: 35 :: upto 59 m) [38, 35] = true := by simp [hasPrefix]
    simp only [hp, and_true, hm, List.drop_succ_cons, List.drop_zero, List.length_cons]
    by_cases h59 : 59 ∈ m
    · rw [if_pos h59]
      by_cases ha : (upto 59 m).all digB = true
      · obtain ⟨e, hg⟩ := upto_dig m h59 ha
        rw [e] at hg ⊢
        rw [hg]
        cases cpL (upto 59 m) <;> rfl
      · have h1 : cpL (upto 59 m) = none := by unfold cpL; simp [ha]
        rw [h1]
        cases h2 : cpL (m.takeWhile digB) with
        | none => rfl
        | some n =>
          by_cases hg : m[(m.takeWhile digB).length]? = some 59
          · have := (dig_upto m hg).2
            rw [← this, h1] at h2
            cases h2
          · simp [hg]
    · rw [if_neg h59]
      cases h2 : cpL (m.takeWhile digB) with
      | none => rfl
      | some n =>
        have hg : ¬ m[(m.takeWhile digB).length]? = some 59 := fun hg => h59 (dig_upto m hg).1
        simp [hg]
  match l with
  | [] => simp [leadC, hasPrefix]
  | [x] =>
    have h1 : hasPrefix (upto 59 [x]) [38, 35] = false := by
      unfold upto
      rw [List.takeWhile_cons]
      split <;> simp [hasPrefix, List.isPrefixOf]
    have h2 : hasPrefix [x] [38, 35] = false := by simp [hasPrefix, List.isPrefixOf]
    rw [h2]
    unfold leadC
    rw [h1]
    simp
  | x :: y :: m =>
    by_cases hxy : x = 38 ∧ y = 35
    · obtain ⟨rfl, rfl⟩ := hxy
      rw [key]
      simp [hasPrefix]
    · have h1 : hasPrefix (x :: y :: m) [38, 35] = false := by
        simp only [hasPrefix, List.isPrefixOf, Bool.and_true]
        rw [Bool.eq_false_iff]
        simp
        intro e1 e2
        exact hxy ⟨e1.symm, e2.symm⟩
      have h2 : hasPrefix (upto 59 (x :: y :: m)) [38, 35] = false := by
        unfold upto
        rw [List.takeWhile_cons]
        split
        · rw [List.takeWhile_cons]
          split
          · simp only [hasPrefix, List.isPrefixOf, Bool.and_true]
            rw [Bool.eq_false_iff]
            simp
            intro e1 e2
            exact hxy ⟨e1.symm, e2.symm⟩
          · simp [hasPrefix, List.isPrefixOf]
        · simp [hasPrefix, List.isPrefixOf]
      simp [leadC, h1, h2]
theorem lead_code (l : Bs) : lead l = if hasPrefix l [38, 97, 109, 112, 59] then some ([38], 5) else if hasPrefix l [38, 108, 116, 59] then some ([60], 4) else if hasPrefix l [38, 103, 116, 59] then some ([62], 4) else if hasPrefix l [38, 113, 117, 111, 116, 59] then some ([34], 6) else leadC l := by
  unfold lead
  rw [leadC_eq]
theorem pre_len {l p : Bs} (h : hasPrefix l p = true) : p.length ≤ l.length := by
  unfold hasPrefix at h
  exact (List.isPrefixOf_iff_prefix.1 h).length_le
theorem lead_len {l x : Bs} {n : Nat} (h : lead l = some (x, n)) : 4 ≤ n ∧ n ≤ l.length ∧ x.length ≤ 4 := by
  unfold lead at h
  split at h
  · rename_i hp; cases h; exact ⟨by decide, pre_len hp, by decide⟩
  · split at h
    · rename_i hp; cases h; exact ⟨by decide, pre_len hp, by decide⟩
    · split at h
      · rename_i hp; cases h; exact ⟨by decide, pre_len hp, by decide⟩
      · split at h
        · rename_i hp; cases h; exact ⟨by decide, pre_len hp, by decide⟩
        · split at h
          · rename_i hp
            unfold numE at h
            split at h
            · rename_i n' hn
              split at h
              · rename_i hg
                simp only [Option.some.injEq, Prod.mk.injEq] at h
                obtain ⟨rfl, rfl⟩ := h
                obtain ⟨hl, _⟩ := List.getElem?_eq_some_iff.1 hg
                rw [List.length_drop] at hl
                have hne : (List.takeWhile digB (l.drop 2)) ≠ [] := by
                  intro e
                  rw [e] at hn
                  simp [cpL, plainD] at hn
                have := List.length_pos_iff.2 hne
                exact ⟨by omega, by omega, utf_len _⟩
              · cases h
            · cases h
          · cases h

/-- What a string stands for, or where no escape begins. -/
def unesc (l : Bs) : Except Nat Bs :=
  match l with
  | [] => .ok []
  | c :: r =>
    if c = 38 then
      match lead (c :: r) with
      | none => .error 0
      | some (x, n) =>
        match unesc (r.drop (n - 1)) with
        | .ok t => .ok (x ++ t)
        | .error a => .error (a + n)
    else
      match unesc r with
      | .ok t => .ok (c :: t)
      | .error a => .error (a + 1)
termination_by l.length
decreasing_by all_goals simp; try omega
/-- The rest's answer behind what was read. -/
def behind (P : Bs) (k : Nat) : Except Nat Bs → Except Nat Bs
  | .ok t => .ok (P ++ t)
  | .error a => .error (a + k)
theorem behind_behind (P Q : Bs) (j k : Nat) (e : Except Nat Bs) : behind P j (behind Q k e) = behind (P ++ Q) (j + k) e := by
  cases e with
  | ok t => simp [behind]
  | error a => simp [behind]; omega
theorem unesc_nil : unesc [] = .ok [] := by rw [unesc]
theorem unesc_byte (c : UInt8) (r : Bs) (h : c ≠ 38) : unesc (c :: r) = behind [c] 1 (unesc r) := by
  rw [unesc, if_neg h]
  cases unesc r <;> rfl
theorem unesc_amp (r : Bs) : unesc (38 :: r) = match lead (38 :: r) with | none => .error 0 | some (x, n) => behind x n (unesc (r.drop (n - 1))) := by
  rw [unesc, if_pos rfl]
  cases lead (38 :: r) with
  | none => rfl
  | some p =>
    obtain ⟨x, n⟩ := p
    simp only
    cases unesc (r.drop (n - 1)) <;> rfl
theorem unesc_lead {l x : Bs} {n : Nat} (h : l.head? = some 38) (hl : lead l = some (x, n)) : unesc l = behind x n (unesc (l.drop n)) := by
  cases l with
  | nil => simp at h
  | cons c r =>
    simp at h
    subst h
    have h4 := (lead_len hl).1
    rw [unesc_amp, hl]
    obtain ⟨m, rfl⟩ : ∃ m, n = m + 1 := ⟨n - 1, by omega⟩
    simp
theorem unesc_bad {l : Bs} (h : l.head? = some 38) (hl : lead l = none) : unesc l = .error 0 := by
  cases l with
  | nil => simp at h
  | cons c r =>
    simp at h
    subst h
    rw [unesc_amp, hl]
theorem unesc_run : ∀ l : Bs, unesc l = behind (upto 38 l) (upto 38 l).length (unesc (l.drop (upto 38 l).length))
  | [] => by simp [upto, unesc_nil, behind]
  | c :: r => by
    by_cases h : c = 38
    · subst h
      have : upto 38 (38 :: r) = [] := by simp [upto]
      rw [this]
      simp only [List.length_nil, List.drop_zero]
      cases unesc (38 :: r) <;> simp [behind]
    · have hu : upto 38 (c :: r) = c :: upto 38 r := by simp [upto, h]
      rw [unesc_byte c r h, unesc_run r, hu, behind_behind, List.length_cons, List.drop_succ_cons, Nat.add_comm]
      rfl
/-- The escaped form. -/
def escB (c : UInt8) : Bs := if c = 38 then [38, 97, 109, 112, 59] else if c = 60 then [38, 108, 116, 59] else if c = 62 then [38, 103, 116, 59] else if c = 34 then [38, 113, 117, 111, 116, 59] else [c]
def esc (l : Bs) : Bs := l.flatMap escB
theorem esc_app (a b : Bs) : esc (a ++ b) = esc a ++ esc b := by simp [esc]
theorem esc_len (l : Bs) : (esc l).length ≤ 6 * l.length := by
  induction l with
  | nil => simp [esc]
  | cons c r ih =>
    have hc : (escB c).length ≤ 6 := by
      unfold escB
      by_cases h1 : c = 38
      · rw [if_pos h1]; decide
      · rw [if_neg h1]
        by_cases h2 : c = 60
        · rw [if_pos h2]; decide
        · rw [if_neg h2]
          by_cases h3 : c = 62
          · rw [if_pos h3]; decide
          · rw [if_neg h3]
            by_cases h4 : c = 34
            · rw [if_pos h4]; decide
            · rw [if_neg h4]; simp
    have e : esc (c :: r) = escB c ++ esc r := by simp [esc]
    rw [e, List.length_append, List.length_cons]
    omega
theorem unesc_esc : ∀ l : Bs, unesc (esc l) = .ok l
  | [] => by simp [esc, unesc_nil]
  | c :: r => by
    have e : esc (c :: r) = escB c ++ esc r := by simp [esc]
    rw [e]
    have ih := unesc_esc r
    unfold escB
    by_cases h1 : c = 38
    · subst h1
      rw [if_pos rfl, unesc_lead (x := [38]) (n := 5) rfl (by simp [lead, hasPrefix])]
      simp [ih, behind]
    · rw [if_neg h1]
      by_cases h2 : c = 60
      · subst h2
        rw [if_pos rfl, unesc_lead (x := [60]) (n := 4) rfl (by simp [lead, hasPrefix])]
        simp [ih, behind]
      · rw [if_neg h2]
        by_cases h3 : c = 62
        · subst h3
          rw [if_pos rfl, unesc_lead (x := [62]) (n := 4) rfl (by simp [lead, hasPrefix])]
          simp [ih, behind]
        · rw [if_neg h3]
          by_cases h4 : c = 34
          · subst h4
            rw [if_pos rfl, unesc_lead (x := [34]) (n := 6) rfl (by simp [lead, hasPrefix])]
            simp [ih, behind]
          · rw [if_neg h4, List.singleton_append, unesc_byte c _ h1, ih]
            rfl
end Go.Proofs.Yteennnhinfnahaa
