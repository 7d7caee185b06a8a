/-
  WALKS over the laws about markup: a tag is read back from its text.
-/
import Derived.Test.YtjablaidbccnbaaGreatDoorRdM
import Derived.Test.YtjablaidbccnbaaGreatDoorLgM
import Derived.Test.YtjablaidbccnbaaGreatDoorMkX
namespace Go.Proofs.YtjablaidbccnbaaGreatDoor
open Go.RowKit Go.Shelf Go.Lib

theorem totP_perm {l m : List Pr} (h : l.Perm m) : totP l = totP m := by
  induction h with
  | nil => rfl
  | cons x _ ih => show _ + totP _ = _ + totP _; rw [ih]
  | swap x y l => show _ + (_ + totP l) = _ + (_ + totP l); omega
  | trans _ _ h1 h2 => rw [h1, h2]
theorem keysT_tot : ∀ l : List Pr, (l.flatMap keyT).length ≤ 4 * l.length + 6 * totP l
  | [] => Nat.le_refl _
  | k :: r => by
    have ih := keysT_tot r
    have he := esc_len k.2
    have h1 : (keyT k).length = k.1.length + (esc k.2).length + 4 := by unfold keyT; simp only [List.length_append, List.length_cons, List.length_nil]; omega
    have ht : totP (k :: r) = k.1.length + k.2.length + totP r := rfl
    rw [List.flatMap_cons, List.length_append, List.length_cons, h1, ht]
    omega
theorem textG_len {t : TagL} {g : Nat} (hb : t.name.length + totP t.keys ≤ 2000 ∧ t.keys.length ≤ 12) (hg : g ≤ 20) : (textG t g).length ≤ 100000 := by
  have h1 := keysT_tot (sortP t.keys)
  rw [sortP_len, totP_perm (sortP_perm t.keys)] at h1
  have h2 : (headT t).length ≤ t.name.length + 2 := by
    unfold headT
    split <;> (simp only [List.length_append, List.length_cons, List.length_nil]; omega)
  unfold textG
  simp only [List.length_append, List.length_replicate, List.length_cons, List.length_nil]
  omega
theorem parse_back {t : TagL} (h : checkT t = 0) (g : Nat) (hg : t.keys = [] → g = 0) (X : ByteArray) (hX : X = ⟨(textG t g).toArray⟩) (hz : X.size ≤ 1000000) {W : World} (m : Mem W) :
    Calls Tryz.prog 6 #[.string X] W fun e w' => Below W.heap.size W w' ∧ ∃ (A : Option Addr) (cap : Nat), e = .returned (.tuple #[.agg #[.bool t.close, .string ⟨t.name.toArray⟩, .slice A t.keys.length cap], .int .i64 0, .int .i64 0]) ∧ Keys w' (.slice A t.keys.length cap) (sortP t.keys) := by
  obtain ⟨i, hp⟩ := read_back h g hg
  have hap := (checkT_zero h).2.2.2.2
  have hc := parseTag_any m X hz
  have hd : X.data.toList = textG t g := by rw [hX]
  rw [hd, hp] at hc
  refine hc.mono ?_
  rintro e w' ⟨hb, v, rfl, ks', rfl, hk⟩
  have hk' : Keys w' ks' (sortP (sortP t.keys)) := hk
  rw [sortP_again hap] at hk'
  obtain ⟨A, cap, hv, _⟩ := id hk'
  rw [sortP_len] at hv
  subst hv
  exact ⟨hb, A, cap, rfl, hk'⟩
end Go.Proofs.YtjablaidbccnbaaGreatDoor
