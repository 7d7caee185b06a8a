/-
  WALKS over the reference of feature: Union, Intersect, Subset.
-/
import Derived.Test.YthagjdhfngdigaaFzM
import Derived.Test.YthagjdhfngdigaaFuM
namespace Go.Proofs.Ythagjdhfngdigaa
open Go.RowKit Go.Shelf Go.Lib

theorem format_good {x y : Fs} (hx : goodS x) (hy : goodS y) : formatL (x ++ y) = textT (x ++ y) := by
  unfold formatL
  rw [if_pos ((errS_zero _).2 fun f hf => (List.mem_append.1 hf).elim (fun h => elE_zero.2 ⟨hx.2.1 f h, hx.2.2 f h⟩) (fun h => elE_zero.2 ⟨hy.2.1 f h, hy.2.2 f h⟩))]

set_option maxRecDepth 100000 in
set_option maxHeartbeats 4000000 in
theorem refUnion_any (a b : ByteArray) (ha : a.size ≤ 400) (hb : b.size ≤ 400) (w : World) :
    Calls Try.prog 21 #[.string a, .string b] w fun e w' => e = .returned (.tuple #[.string ⟨(unionL a.data.toList b.data.toList).1.toArray⟩, .int .i64 ((unionL a.data.toList b.data.toList).2 : Nat)]) ∧ Below w.heap.size w w' := by
  have hpa := fun W => refParse_any a ha W
  have hpb := fun W => refParse_any b hb W
  obtain ⟨hx1, hx2⟩ := parse_small a.data.toList
  obtain ⟨hy1, hy2⟩ := parse_small b.data.toList
  have hu : unionL a.data.toList b.data.toList = if err2 a.data.toList b.data.toList = 0 then textT ((parseL a.data.toList).1 ++ (parseL b.data.toList).1) else ([], err2 a.data.toList b.data.toList) := rfl
  have he : err2 a.data.toList b.data.toList = if (parseL a.data.toList).2 = 0 then (parseL b.data.toList).2 else (parseL a.data.toList).2 := rfl
  have hfg : (parseL a.data.toList).2 = 0 → (parseL b.data.toList).2 = 0 → formatL ((parseL a.data.toList).1 ++ (parseL b.data.toList).1) = textT ((parseL a.data.toList).1 ++ (parseL b.data.toList).1) := fun h1 h2 => format_good (parseL_ok h1).1 (parseL_ok h2).1
  rw [he] at hu
  obtain ⟨p, hp⟩ : ∃ p, parseL a.data.toList = p := ⟨_, rfl⟩
  obtain ⟨r, hr⟩ : ∃ p, parseL b.data.toList = p := ⟨_, rfl⟩
  obtain ⟨U, hU⟩ : ∃ U, unionL a.data.toList b.data.toList = U := ⟨_, rfl⟩
  rw [hU] at hu ⊢
  rw [hp, hr] at hu hfg
  rw [hp] at hpa hx1 hx2
  rw [hr] at hpb hy1 hy2
  obtain ⟨x, ka⟩ := p
  obtain ⟨y, kb⟩ := r
  simp only at hu hfg hx1 hx2 hy1 hy2
  have HPA := Lib.hid hpa
  have HPB := Lib.hid hpb
  have HS : Hid (∀ f ∈ x ++ y, f.length ≤ 400) := Lib.hid fun f hf => (List.mem_append.1 hf).elim (fun h => by have := hx2 f h; omega) (fun h => by have := hy2 f h; omega)
  clear hpa hpb hp hr hU ha hb he hx2 hy2
  by_cases h1 : ka = 0
  · subst h1
    rw [if_pos rfl] at hu
    by_cases h2 : kb = 0
    · subst h2
      rw [if_pos rfl] at hu
      have hf := hfg rfl rfl
      rw [← hf] at hu
      have HU := Lib.hid hu
      have hlx := strs_len x
      have hly := strs_len y
      have HLX := Lib.hid hlx
      have HLY := Lib.hid hly
      obtain ⟨i0, hi, hz0, hz1, hz2⟩ := info_parts' Try.infoStr
      clear hu hfg hf hlx hly
      go_enter Try.func21, Try.ntmps21
      go_wp2_with fail
      refine (HPA.out _).mono ?_
      rintro e w1 ⟨⟨v1, rfl, hown1⟩, hb1⟩
      have HB1 := Lib.hid hb1
      have HO1 := Lib.hid (rs_own hown1).1
      clear hb1 hown1
      go_wp2_with fail
      refine (HPB.out _).mono ?_
      rintro e w2 ⟨⟨v2, rfl, hown2⟩, hb2⟩
      have HB2 := Lib.hid (HB1.out.trans (hb2.mono HB1.out.size))
      have HX := Lib.hid (show SeesC w2 w2.heap.size v1 (strs x) from HO1.out.below hb2)
      have HY := Lib.hid (show SeesC w2 w2.heap.size v2 (strs y) from (rs_own hown2).1)
      clear hb2 hown2
      obtain ⟨A1, c1, rfl, hc1, -⟩ := RS.form HX.out
      obtain ⟨A2, c2, rfl, hc2, -⟩ := RS.form HY.out
      go_wp2_with (at_builtin; refine wpList_append_sees rfl (.const (.slice none 0 0)) (.tmp 25) 23 rfl w2.heap.size 9 i0 _ 16 Try.underlying23 hi hz0 hz1 hz2 rfl _ 0 [] rfl (World.ownsRow_nil _ _ _ _) _ _ (strs x) rfl HX.out (strs_one _) (by rw [HLX.out]; unfold maxLen; omega) (by rw [HLX.out]; omega) (Nat.le_refl _) ?_)
      intro v3 w3 hown3 hg3 _
      have hb3 : Below w2.heap.size w2 w3 := (Below.refl _ w2).grown hg3 (Nat.le_refl _) (fun k e => nomatch (show (none : Option Nat) = some k from e))
      have HB3 := Lib.hid hb3
      have HY3 := Lib.hid (HY.out.below hb3)
      have HO3 := Lib.hid (show w3.ownsRow w2.heap.size 9 1 v3 x.length (strs x) by rw [← HLX.out]; simpa using hown3)
      clear hown3 hg3 hb3
      go_wp2_with (at_builtin; refine wpList_append_sees rfl (.tmp 26) (.tmp 27) 23 rfl w2.heap.size 9 i0 _ 16 Try.underlying23 hi hz0 hz1 hz2 rfl _ x.length (strs x) rfl HO3.out _ w2.heap.size (strs y) rfl HY3.out (strs_one _) (by rw [HLY.out]; unfold maxLen; omega) (by rw [HLY.out]; omega) HB3.out.size ?_)
      intro v4 w4 hown4 hg4 _
      have HB4 := Lib.hid (HB3.out.grown hg4 HB3.out.size (fun k e => (own_low HO3.out k e).1))
      rw [← strs_app] at hown4
      have HF := Lib.hid (refFormat_any (rs_own hown4).1 (by rw [List.length_append]; omega) HS.out)
      rw [← HU.out] at HF
      clear hown4 hg4
      go_wp2_with fail
      refine HF.out.mono ?_
      rintro e w5 ⟨rfl, hb5⟩
      have HB5 := Lib.hid (HB2.out.trans ((HB4.out.trans (hb5.mono HB4.out.size)).mono HB2.out.size))
      clear hb5
      go_wp2_with fail
      go_ret2
      exact ⟨rfl, HB5.out⟩
    · rw [if_neg h2] at hu
      subst hu
      have h2i : ¬ ((kb : Int) = 0) := by omega
      clear hfg h2
      go_enter Try.func21, Try.ntmps21
      go_wp2_with fail
      refine (HPA.out _).mono ?_
      rintro e w1 ⟨⟨v1, rfl, -⟩, hb1⟩
      have HB1 := Lib.hid hb1
      clear hb1
      go_wp2_with fail
      refine (HPB.out _).mono ?_
      rintro e w2 ⟨⟨v2, rfl, -⟩, hb2⟩
      have HB2 := Lib.hid (HB1.out.trans (hb2.mono HB1.out.size))
      clear hb2
      go_wp2_with fail
      go_ret2
      exact ⟨rfl, HB2.out⟩
  · rw [if_neg h1, if_neg h1] at hu
    subst hu
    have h1i : ¬ ((ka : Int) = 0) := by omega
    clear hfg h1
    go_enter Try.func21, Try.ntmps21
    go_wp2_with fail
    refine (HPA.out _).mono ?_
    rintro e w1 ⟨⟨v1, rfl, -⟩, hb1⟩
    have HB1 := Lib.hid hb1
    clear hb1
    go_wp2_with fail
    go_ret2
    exact ⟨rfl, HB1.out⟩
end Go.Proofs.Ythagjdhfngdigaa
