/-
  WALKS over the laws about markup: what ParseTag hands back, in one form.
-/
import Derived.Test.YtjablaidbccnbaaGreatDoorRqM
import Derived.Test.YtjablaidbccnbaaGreatDoorRtM
import Derived.Test.YtjablaidbccnbaaGreatDoorEqM
namespace Go.Proofs.YtjablaidbccnbaaGreatDoor
open Go.RowKit Go.Shelf Go.Lib

theorem refParse_any (s : ByteArray) (hs : s.size ≤ 1000000) (w : World) :
    Calls Tryz.prog 7 #[.string s] w fun e w' => Below w.heap.size w w' ∧ ∃ v, e = .returned v ∧ ParseV (pTag s.data.toList) w' v := by
  by_cases h0 : s.data.toList[0]? = some 60
  · by_cases h1 : s.data.toList[1]? = some 47
    · exact refParse_closing s hs w h0 h1
    · by_cases hs1 : 1 < s.size
      · exact refParse_open1 s hs w h0 h1 hs1
      · exact refParse_open2 s hs w h0 h1 hs1
  · exact refParse_bad s hs w h0
def rC : PR TagL → Bool | .ok t _ => t.close | .err _ _ => false
def rN : PR TagL → Bs | .ok t _ => t.name | .err _ _ => []
def rK : PR TagL → List Pr | .ok t _ => sortP t.keys | .err _ _ => []
def rA : PR TagL → Nat | .ok _ _ => 0 | .err a _ => a
def rE : PR TagL → Nat | .ok _ _ => 0 | .err _ e => e
theorem parseV_form {r : PR TagL} {w : World} {v : Value} (h : ParseV r w v) :
    ∃ (A : Option Addr) (cap : Nat), v = .tuple #[.agg #[.bool (rC r), .string ⟨(rN r).toArray⟩, .slice A (rK r).length cap], .int .i64 (rA r : Nat), .int .i64 (rE r : Nat)] ∧ Keys w (.slice A (rK r).length cap) (rK r) := by
  cases r with
  | ok t i =>
    obtain ⟨ks, rfl, hk⟩ := h
    obtain ⟨A, cap, rfl, _⟩ := id hk
    exact ⟨A, cap, rfl, hk⟩
  | err a e =>
    have h' : v = .tuple #[.agg #[.bool false, .string ⟨#[]⟩, .slice none 0 0], .int .i64 (a : Int), .int .i64 (e : Int)] := h
    subst h'
    exact ⟨none, 0, rfl, keys_nil w⟩
theorem pKeys_len : ∀ (f : Nat) (L : Bs) (i : Nat) (ks : List Pr), ks.length ≤ 8 → ∀ (r : List Pr) (k : Nat), pKeys f L i ks = .ok r k → r.length ≤ 8
  | 0, L, i, ks, h, r, k, hp => by
    unfold pKeys at hp
    cases hp
    exact h
  | f + 1, L, i, ks, h, r, k, hp => by
    unfold pKeys at hp
    split at hp
    · cases hp
      exact h
    · cases hk : pKeyName L (i + spN L i) ks with
      | err a e => rw [hk] at hp; cases hp
      | ok nm j =>
        have h8 := (keyName_ok hk).2.1
        rw [hk] at hp
        simp only at hp
        cases he : pExpect L j 61 with
        | err a e => rw [he] at hp; cases hp
        | ok u m =>
          rw [he] at hp
          simp only at hp
          cases hv : pValue L m with
          | err a e => rw [hv] at hp; cases hp
          | ok v q =>
            rw [hv] at hp
            simp only at hp
            exact pKeys_len f L q _ (by rw [List.length_append]; simp; omega) r k hp
theorem pEnd_same {L : Bs} {t u : TagL} {i k : Nat} (h : pEnd L t i = .ok u k) : u = t := by
  rw [pEnd_eq] at h
  split at h
  · split at h
    · cases h
    · cases h; rfl
  · cases h
theorem pTag_len {L : Bs} {t : TagL} {i : Nat} (h : pTag L = .ok t i) : t.keys.length ≤ 8 := by
  unfold pTag at h
  cases h0 : pExpect L 0 60 with
  | err a e => rw [h0] at h; cases h
  | ok u k =>
    rw [h0] at h
    simp only at h
    split at h
    · cases hn : pName L (k + 1) with
      | err a e => rw [hn] at h; cases h
      | ok n j =>
        rw [hn] at h
        rw [pEnd_same h]
        exact Nat.zero_le _
    · cases hn : pName L k with
      | err a e => rw [hn] at h; cases h
      | ok n j =>
        rw [hn] at h
        simp only at h
        cases hk : pKeys (L.length + 1) L j [] with
        | err a e => rw [hk] at h; cases h
        | ok ks m =>
          rw [hk] at h
          simp only at h
          rw [pEnd_same h]
          exact pKeys_len _ _ _ _ (Nat.zero_le _) _ _ hk
theorem rK_len (L : Bs) : (rK (pTag L)).length ≤ 8 := by
  cases h : pTag L with
  | ok t i => show (sortP t.keys).length ≤ 8; rw [sortP_len]; exact pTag_len h
  | err a e => exact Nat.zero_le _
end Go.Proofs.YtjablaidbccnbaaGreatDoor
