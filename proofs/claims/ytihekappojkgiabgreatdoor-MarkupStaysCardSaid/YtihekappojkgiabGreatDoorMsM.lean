/-
  MATHEMATICS for the law that an error in front of the end stays: what follows behind a further > is not read.
-/
import Derived.Test.YtihekappojkgiabGreatDoorMkV
namespace Go.Proofs.YtihekappojkgiabGreatDoor
open Go.RowKit Go.Shelf Go.Lib

theorem while_app (p : UInt8 → Bool) (c : UInt8) (hc : p c = false) (T : Bs) : ∀ l : Bs, (l ++ c :: T).takeWhile p = l.takeWhile p
  | [] => by simp [hc]
  | x :: l => by
    rw [List.cons_append, List.takeWhile_cons, List.takeWhile_cons, while_app p c hc T l]
theorem let_gt : letN 62 = false := by decide
theorem nameN_app (T : Bs) : ∀ l : Bs, nameN (l ++ 62 :: T) = nameN l
  | [] => by
    simp [nameN, let_gt]
  | x :: l => by
    show (if letN x.toNat = true then 1 + ((l ++ 62 :: T).takeWhile nxtB).length else 0) = if letN x.toNat = true then 1 + (l.takeWhile nxtB).length else 0
    rw [while_app nxtB 62 (by decide) T l]

section
variable {L T : Bs}
theorem drop_app {i : Nat} (h : i ≤ L.length) : (L ++ 62 :: T).drop i = L.drop i ++ 62 :: T := List.drop_append_of_le_length h
theorem at_app {i : Nat} (h : i < L.length) : (L ++ 62 :: T)[i]? = L[i]? := List.getElem?_append_left h
/-- What is read stays. -/
def Keep {α : Type} (n : Nat) (r r' : PR α) : Prop := (∀ a e, r = .err a e → a < n → r' = .err a e) ∧ ∀ v i, r = .ok v i → r' = .ok v i ∧ i ≤ n
theorem Keep.err {α : Type} {n a e : Nat} {r' : PR α} (h : a < n → r' = .err a e) : Keep n (.err a e) r' :=
  ⟨fun _ _ q hl => by cases q; exact h hl, fun _ _ q => by cases q⟩
theorem Keep.ok {α : Type} {n i : Nat} {v : α} {r' : PR α} (h : r' = .ok v i) (hi : i ≤ n) : Keep n (.ok v i) r' :=
  ⟨fun _ _ q _ => (by cases q), fun _ _ q => (by cases q; exact ⟨h, hi⟩)⟩
theorem expect_keep (c : UInt8) {i : Nat} (h : i ≤ L.length) : Keep L.length (pExpect L i c) (pExpect (L ++ 62 :: T) i c) := by
  unfold pExpect
  by_cases hi : i < L.length
  · rw [at_app hi]
    split
    · exact .ok rfl (by omega)
    · exact .err fun _ => rfl
  · have : L[i]? = none := List.getElem?_eq_none (by omega)
    rw [this, if_neg (by simp)]
    exact .err fun h => absurd h hi
theorem name_keep {i : Nat} (h : i ≤ L.length) : Keep L.length (pName L i) (pName (L ++ 62 :: T) i) := by
  have hl := nameN_le (L.drop i)
  rw [List.length_drop] at hl
  unfold pName
  rw [drop_app h, nameN_app]
  split
  · exact .err fun _ => rfl
  · split
    · exact .err fun _ => rfl
    · refine .ok ?_ (by omega)
      rw [List.take_append_of_le_length (by rw [List.length_drop]; exact hl)]
theorem raw_app {i : Nat} (h : i ≤ L.length) : rawN (L ++ 62 :: T) i = rawN L i ∧ rawT (L ++ 62 :: T) i = rawT L i := by
  have e : rawN (L ++ 62 :: T) i = rawN L i := by
    unfold rawN
    rw [drop_app h, while_app rawB 62 (by decide)]
  have hl := raw_le L i
  refine ⟨e, ?_⟩
  unfold rawT
  rw [e, drop_app h, List.take_append_of_le_length (by rw [List.length_drop]; exact hl)]
theorem value_keep {i : Nat} (h : i ≤ L.length) : Keep L.length (pValue L i) (pValue (L ++ 62 :: T) i) := by
  by_cases hi : i < L.length
  · have hr := raw_app (L := L) (T := T) (i := i + 1) hi
    have hl := raw_le L (i + 1)
    unfold pValue
    rw [at_app hi, hr.1, hr.2]
    split
    · by_cases hq : i + 1 + rawN L (i + 1) < L.length
      · rw [at_app hq]
        split
        · split
          · exact .err fun _ => rfl
          · split
            · exact .ok rfl (by omega)
            · exact .err fun _ => rfl
        · exact .err fun _ => rfl
      · have : L[i + 1 + rawN L (i + 1)]? = none := List.getElem?_eq_none (by omega)
        rw [this, if_neg (by simp)]
        exact .err fun h => absurd h hq
    · exact .err fun _ => rfl
  · have : L[i]? = none := List.getElem?_eq_none (by omega)
    have e : pValue L i = .err i 3 := by
      unfold pValue
      rw [this, if_neg (by simp)]
    rw [e]
    exact .err fun h => absurd h hi
theorem keyName_keep {i : Nat} (ks : List Pr) (h : i ≤ L.length) : Keep L.length (pKeyName L i ks) (pKeyName (L ++ 62 :: T) i ks) := by
  have hn := name_keep (L := L) (T := T) h
  unfold pKeyName
  cases hp : pName L i with
  | err a e =>
    refine .err fun hl => ?_
    rw [hn.1 a e hp hl]
  | ok n j =>
    obtain ⟨e, hj⟩ := hn.2 n j hp
    rw [e]
    simp only
    split
    · exact .err fun _ => rfl
    · split
      · exact .err fun _ => rfl
      · exact .ok rfl hj
theorem sp_app {i : Nat} (h : i ≤ L.length) : spN (L ++ 62 :: T) i = spN L i := by
  unfold spN
  rw [drop_app h, while_app (fun c => c == 32) 62 (by decide)]
theorem name_ge {i j : Nat} {n : Bs} (h : pName L i = .ok n j) : i ≤ j := by
  unfold pName at h
  split at h
  · cases h
  · split at h
    · cases h
    · cases h; omega
theorem keyName_ge {i j : Nat} {n : Bs} {ks : List Pr} (h : pKeyName L i ks = .ok n j) : i ≤ j := by
  unfold pKeyName at h
  cases hp : pName L i with
  | err a e => rw [hp] at h; cases h
  | ok m k =>
    have := name_ge hp
    rw [hp] at h
    simp only at h
    split at h
    · cases h
    · split at h
      · cases h
      · cases h; exact this
theorem expect_eq {i j : Nat} {c : UInt8} {u : Unit} (h : pExpect L i c = .ok u j) : j = i + 1 := by
  unfold pExpect at h
  split at h
  · cases h; rfl
  · cases h
theorem value_gt {i j : Nat} {v : Bs} (h : pValue L i = .ok v j) : i < j := by
  unfold pValue at h
  split at h
  · split at h
    · split at h
      · cases h
      · split at h
        · cases h; omega
        · cases h
    · cases h
  · cases h
theorem keys_keep : ∀ (f f' i : Nat) (ks : List Pr), i ≤ L.length → L.length < i + f → (L ++ 62 :: T).length < i + f' → Keep L.length (pKeys f L i ks) (pKeys f' (L ++ 62 :: T) i ks) := by
  intro f
  induction f with
  | zero => intro f' i ks h1 h2; omega
  | succ f ih =>
    intro f' i ks h1 h2 h3
    have hll : L.length ≤ (L ++ 62 :: T).length := by simp
    obtain ⟨g, rfl⟩ : ∃ g, f' = g + 1 := ⟨f' - 1, by omega⟩
    have hsl := sp_le L i
    unfold pKeys
    rw [sp_app h1]
    split
    · exact .ok rfl h1
    · rename_i hs
      have hn := keyName_keep (L := L) (T := T) (i := i + spN L i) ks (by omega)
      cases hp : pKeyName L (i + spN L i) ks with
      | err a e => exact .err fun hl => by rw [hn.1 a e hp hl]
      | ok n j =>
        obtain ⟨e, hj⟩ := hn.2 n j hp
        rw [e]
        simp only
        have hx := expect_keep (L := L) (T := T) 61 hj
        cases hq : pExpect L j 61 with
        | err a e => exact .err fun hl => by rw [hx.1 a e hq hl]
        | ok u k =>
          obtain ⟨e, hk⟩ := hx.2 u k hq
          rw [e]
          simp only
          have hv := value_keep (L := L) (T := T) hk
          cases hw : pValue L k with
          | err a e => exact .err fun hl => by rw [hv.1 a e hw hl]
          | ok v m =>
            obtain ⟨e, hm⟩ := hv.2 v m hw
            rw [e]
            simp only
            have hjm : i < m := by
              have g1 := keyName_ge hp
              have g2 := expect_eq hq
              have g3 := value_gt hw
              omega
            exact ih g m _ hm (by omega) (by omega)
theorem end_keep {t : TagL} {i a e : Nat} (h : i ≤ L.length) (hp : pEnd L t i = .err a e) (hl : a < L.length) : pEnd (L ++ 62 :: T) t i = .err a e := by
  have hx := expect_keep (L := L) (T := T) 62 h
  unfold pEnd at hp ⊢
  cases hq : pExpect L i 62 with
  | err a' e' =>
    rw [hq] at hp
    cases hp
    rw [hx.1 _ _ hq hl]
  | ok u j =>
    rw [hq] at hp
    obtain ⟨e2, hj⟩ := hx.2 u j hq
    rw [e2]
    simp only at hp ⊢
    split at hp
    · rw [if_pos (by simp; omega)]
      exact hp
    · cases hp
theorem tag_keep {a e : Nat} (hp : pTag L = .err a e) (hl : a < L.length) : pTag (L ++ 62 :: T) = .err a e := by
  have hx := expect_keep (L := L) (T := T) 60 (Nat.zero_le _)
  unfold pTag at hp ⊢
  cases hq : pExpect L 0 60 with
  | err a' e' =>
    rw [hq] at hp
    cases hp
    rw [hx.1 _ _ hq hl]
  | ok u i =>
    rw [hq] at hp
    obtain ⟨e2, hi⟩ := hx.2 u i hq
    rw [e2]
    simp only at hp ⊢
    have hc : (L ++ 62 :: T)[i]? = some 47 ↔ L[i]? = some 47 := by
      by_cases h : i < L.length
      · rw [at_app h]
      · have e1 : L[i]? = none := List.getElem?_eq_none (by omega)
        have e3 : i = L.length := by omega
        rw [e1, e3, List.getElem?_append_right (Nat.le_refl _)]
        simp
    by_cases h47 : L[i]? = some 47
    · rw [if_pos h47] at hp
      rw [if_pos (hc.2 h47)]
      have hi1 : i + 1 ≤ L.length := (List.getElem?_eq_some_iff.1 h47).1
      have hn := name_keep (L := L) (T := T) hi1
      cases hw : pName L (i + 1) with
      | err a' e' =>
        rw [hw] at hp
        cases hp
        rw [hn.1 _ _ hw hl]
      | ok n j =>
        rw [hw] at hp
        obtain ⟨e3, hj⟩ := hn.2 n j hw
        rw [e3]
        exact end_keep hj hp hl
    · rw [if_neg h47] at hp
      rw [if_neg (fun h => h47 (hc.1 h))]
      have hn := name_keep (L := L) (T := T) hi
      cases hw : pName L i with
      | err a' e' =>
        rw [hw] at hp
        cases hp
        rw [hn.1 _ _ hw hl]
      | ok n j =>
        rw [hw] at hp
        obtain ⟨e3, hj⟩ := hn.2 n j hw
        rw [e3]
        simp only at hp ⊢
        have hk := keys_keep (L := L) (T := T) (L.length + 1) ((L ++ 62 :: T).length + 1) j [] hj (by omega) (by omega)
        cases hv : pKeys (L.length + 1) L j [] with
        | err a' e' =>
          rw [hv] at hp
          cases hp
          rw [hk.1 _ _ hv hl]
        | ok ks k =>
          rw [hv] at hp
          obtain ⟨e4, hk2⟩ := hk.2 ks k hv
          rw [e4]
          exact end_keep hk2 hp hl
end
end Go.Proofs.YtihekappojkgiabGreatDoor
