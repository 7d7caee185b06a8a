/-
  WALKS over package feature: Parse alone.
-/
import Derived.Test.YtmjmidgfdjcbfaaGreatDoorFcM
import Derived.Test.YtmjmidgfdjcbfaaGreatDoorFtM
namespace Go.Proofs.YtmjmidgfdjcbfaaGreatDoor
open Go.RowKit Go.Shelf Go.Lib

/-- What parsing answers. -/
def ParV (w : World) (p : Fs × Nat) (e : Ending) (w' : World) : Prop :=
  (∃ v, e = .returned (.tuple #[v, .int .i64 (p.2 : Int)]) ∧ w'.ownsRow w.heap.size 9 1 v p.1.length (strs p.1)) ∧ Below w.heap.size w w'

set_option maxRecDepth 100000 in
set_option maxHeartbeats 2000000 in
theorem parse_any (s : ByteArray) (hs : s.size ≤ maxLen) (w : World) : Calls Tryz.prog 80 #[.string s] w (ParV w (parseL s.data.toList)) := by
  have hv := validValue_any s hs w
  obtain ⟨k, hk⟩ : ∃ k, valE s.data.toList = k := ⟨_, rfl⟩
  obtain ⟨p, hp⟩ : ∃ p, parseL s.data.toList = p := ⟨_, rfl⟩
  have hpe := hp
  unfold parseL at hpe
  rw [hk] at hv hpe
  rw [hp]
  have HV := Lib.hid hv
  by_cases h0 : k = 0
  · subst h0
    rw [if_pos rfl] at hpe
    have hsz : s.size ≤ 120 := by
      have := (valE_zero.1 hk).1
      rw [← Lib.size_eq] at this
      exact this
    have hsp := fun W : World => split_any s hsz W
    obtain ⟨o, ho⟩ : ∃ o, featsO s.data.toList = o := ⟨_, rfl⟩
    rw [ho] at hsp hpe
    have hlen : ∀ l, o = some l → l.length ≤ 1000000 := fun l hl => by
      rw [hl] at ho
      have h1 := len_textB l
      have h2 := (featsO_some ho).2
      have h3 : (textL l).length ≤ 120 := by rw [← h2, ← Lib.size_eq]; exact hsz
      rw [textL, List.length_cons] at h3
      omega
    have HS := Lib.hid hsp
    have HLEN := Lib.hid hlen
    clear hv hk hp ho hsp hlen
    go_enter Tryz.func80, Tryz.ntmps80
    go_wp2_with fail
    refine HV.out.mono ?_
    rintro e w1 ⟨rfl, hb1⟩
    have HB1 := Lib.hid hb1
    clear hb1
    go_wp2_with fail
    refine (HS.out _).mono ?_
    rintro e w2 ⟨he, hb2⟩
    have HB2 := Lib.hid (HB1.out.trans (hb2.mono HB1.out.size))
    have HSZ := Lib.hid HB1.out.size
    clear hb2
    cases o with
    | none =>
      have he' : e = .returned (.tuple #[.slice none 0 0, .bool false]) := he
      subst he'
      simp only at hpe
      subst hpe
      go_wp2_with fail
      go_ret2
      exact ⟨⟨_, rfl, World.ownsRow_nil _ _ _ _⟩, HB2.out⟩
    | some l =>
      obtain ⟨v, rfl, hown⟩ := he
      simp only at hpe
      have ha := fun W (h : Below w2.heap.size w2 W) => ascending_any (w := W) ((rs_own hown).1.below h) (HLEN.out l rfl)
      have HA := Lib.hid ha
      have HO := Lib.hid hown
      clear ha hown
      obtain ⟨q, hq⟩ : ∃ q, decide (asc l) = q := ⟨_, rfl⟩
      rw [hq] at HA
      cases q with
      | true =>
        rw [if_pos (of_decide_eq_true hq)] at hpe
        subst hpe
        clear hq
        go_wp2_with fail
        refine (HA.out _ (Below.refl _ _)).mono ?_
        rintro e w3 ⟨rfl, hb3⟩
        have HB3 := Lib.hid hb3
        clear hb3
        go_wp2_with fail
        go_ret2
        exact ⟨⟨_, rfl, ownsRow_base (own_after HO.out HB3.out) HSZ.out⟩, HB2.out.trans (HB3.out.mono HB2.out.size)⟩
      | false =>
        rw [if_neg (of_decide_eq_false hq)] at hpe
        subst hpe
        clear hq
        go_wp2_with fail
        refine (HA.out _ (Below.refl _ _)).mono ?_
        rintro e w3 ⟨rfl, hb3⟩
        have HB3 := Lib.hid hb3
        clear hb3
        go_wp2_with fail
        go_ret2
        exact ⟨⟨_, rfl, World.ownsRow_nil _ _ _ _⟩, HB2.out.trans (HB3.out.mono HB2.out.size)⟩
  · rw [if_neg h0] at hpe
    subst hpe
    have h0i : ¬ ((k : Int) = 0) := by omega
    clear hv hk hp h0
    go_enter Tryz.func80, Tryz.ntmps80
    go_wp2_with fail
    refine HV.out.mono ?_
    rintro e w1 ⟨rfl, hb1⟩
    have HB1 := Lib.hid hb1
    clear hb1
    go_wp2_with fail
    go_ret2
    exact ⟨⟨_, rfl, World.ownsRow_nil _ _ _ _⟩, HB1.out⟩

end Go.Proofs.YtmjmidgfdjcbfaaGreatDoor
