/-
  WALKS over the reference of feature: Intersect, Subset.
-/
import Derived.Test.YthagjdhfngdigaaFkM
namespace Go.Proofs.Ythagjdhfngdigaa
open Go.RowKit Go.Shelf Go.Lib

theorem all_take {l m : Fs} {k : Nat} {f : Bs} (hf : l[k]? = some f) (h : ∀ g ∈ l.take k, g ∈ m) (hm : f ∈ m) : ∀ g ∈ l.take (k + 1), g ∈ m := by
  intro g hg
  rw [List.take_add_one, hf, List.mem_append] at hg
  rcases hg with hg | hg
  · exact h g hg
  · simp at hg
    rw [hg]
    exact hm

set_option maxRecDepth 100000 in
set_option maxHeartbeats 4000000 in
theorem refInter_any (a b : ByteArray) (ha : a.size ≤ 400) (hb : b.size ≤ 400) (w : World) :
    Calls Try.prog 23 #[.string a, .string b] w fun e w' => e = .returned (.tuple #[.string ⟨(interL a.data.toList b.data.toList).1.toArray⟩, .int .i64 ((interL a.data.toList b.data.toList).2 : Nat)]) ∧ Below w.heap.size w w' := by
  have hpa := fun W => refParse_any a ha W
  have hpb := fun W => refParse_any b hb W
  obtain ⟨hx1, -⟩ := parse_small a.data.toList
  obtain ⟨hy1, -⟩ := parse_small b.data.toList
  have hu : interL a.data.toList b.data.toList = if err2 a.data.toList b.data.toList = 0 then (textL (bothS (parseL a.data.toList).1 (parseL b.data.toList).1), 0) else ([], err2 a.data.toList b.data.toList) := rfl
  have he : err2 a.data.toList b.data.toList = if (parseL a.data.toList).2 = 0 then (parseL b.data.toList).2 else (parseL a.data.toList).2 := rfl
  have hlen : (parseL a.data.toList).2 = 0 → (textL (bothS (parseL a.data.toList).1 (parseL b.data.toList).1)).length ≤ 120 := fun h => both_len h
  rw [he] at hu
  obtain ⟨p, hp⟩ : ∃ p, parseL a.data.toList = p := ⟨_, rfl⟩
  obtain ⟨r, hr⟩ : ∃ p, parseL b.data.toList = p := ⟨_, rfl⟩
  obtain ⟨U, hU⟩ : ∃ U, interL a.data.toList b.data.toList = U := ⟨_, rfl⟩
  rw [hU] at hu ⊢
  rw [hp, hr] at hu
  rw [hp, hr] at hlen
  rw [hp] at hpa hx1
  rw [hr] at hpb hy1
  obtain ⟨x, ka⟩ := p
  obtain ⟨y, kb⟩ := r
  simp only at hu hx1 hy1 hlen
  have HPA := Lib.hid hpa
  have HPB := Lib.hid hpb
  clear hpa hpb hp hr hU ha hb he
  by_cases h1 : ka = 0
  · subst h1
    rw [if_pos rfl] at hu
    by_cases h2 : kb = 0
    · subst h2
      rw [if_pos rfl] at hu
      have HU := Lib.hid hu
      obtain ⟨n, hn⟩ : ∃ n, x.length = n := ⟨_, rfl⟩
      have HN := Lib.hid hn
      rw [hn] at hx1
      have hl120 := hlen rfl
      have HL := Lib.hid hl120
      have hbl : ∀ k, (bothS (x.take k) y).length ≤ 1000 := fun k => by
        have h1 : (bothS (x.take k) y).length ≤ (x.take k).length := List.length_filter_le _ _
        rw [List.length_take] at h1
        omega
      have HBL := Lib.hid hbl
      clear hu hn hl120 hbl hlen
      go_enter Try.func23, Try.ntmps23
      go_wp2_with fail
      refine (HPA.out _).mono ?_
      rintro e w1 ⟨⟨v1, rfl, hown1⟩, hb1⟩
      have HB1 := Lib.hid hb1
      have HO1 := Lib.hid (rs_own hown1).1
      clear hb1 hown1
      go_wp2_with fail
      refine (HPB.out _).mono ?_
      rintro e w2 ⟨⟨v2, he2, hown2⟩, hb2⟩
      have he3 : e = .returned (.tuple #[v2, .int .i64 0]) := he2
      subst he3
      clear he2
      have HB2 := Lib.hid (HB1.out.trans (hb2.mono HB1.out.size))
      have hx := HO1.out.below hb2
      have hy := (rs_own hown2).1
      obtain ⟨A, cap, rfl, hc, -⟩ := hx.form
      have HX := Lib.hid (fun W (h : Below w2.heap.size w2 W) => hx.below h)
      have HM := Lib.hid (fun W (h : Below w2.heap.size w2 W) => member_any (w := W) (l := y) (hy.below h) (by omega))
      simp only [HN.out] at hc HX ⊢
      clear hb2 hown2 hx hy
      go_wp2_with fail
      go_loopw [9, 30] (fun bv iv wr => ∃ k : Nat, k ≤ n ∧ iv = .int .i64 k ∧ wr.ownsRow w2.heap.size 9 1 bv (bothS (x.take k) y).length (strs (bothS (x.take k) y)) ∧ Below w2.heap.size w2 wr) (fun _ i _ => n - (Go.RowKit.intOf i).toNat)
      case atStart => exact ⟨0, Nat.zero_le _, rfl, World.ownsRow_nil _ _ _ _, Below.refl _ _⟩
      case round =>
        obtain ⟨k, hk, rfl, hown, hb⟩ := hrel
        by_cases hlt : k < n
        · obtain ⟨f, hf⟩ : ∃ f, x[k]? = some f := ⟨_, List.getElem?_eq_getElem (by rw [HN.out]; omega)⟩
          obtain ⟨A', cap', he', -, hr⟩ := (HX.out wr hb).form
          rw [HN.out] at he' hr
          cases he'
          obtain ⟨bk, off, rfl, -, hj⟩ := hr (by omega)
          have c0 := hj k f hf
          have hnx := both_take (m := y) hf
          obtain ⟨F, hF⟩ : ∃ s : ByteArray, (⟨f.toArray⟩ : ByteArray) = s := ⟨_, rfl⟩
          have hFl : F.data.toList = f := by rw [← hF]
          rw [hF] at c0
          have hcn := HM.out wr hb F
          rw [hFl] at hcn
          obtain ⟨q, hq⟩ : ∃ q, decide (f ∈ y) = q := ⟨_, rfl⟩
          rw [hq] at hcn hnx
          have hbl := HBL.out k
          obtain ⟨L, hL⟩ : ∃ L, bothS (x.take k) y = L := ⟨_, rfl⟩
          rw [hL] at hnx hown hbl
          have HC := Lib.hid hcn
          have HXX := Lib.hid hnx
          have HO := Lib.hid hown
          have HB := Lib.hid hb
          have HFL := Lib.hid hFl
          clear hcn hnx hown hb hF hFl hq hL hj hr hf
          cases q with
          | true =>
            go_wp2_with fail
            refine HC.out.mono ?_
            rintro e w3 ⟨rfl, hb3⟩
            have HB3 := Lib.hid (HB.out.trans (hb3.mono HB.out.size))
            have HO3 := Lib.hid (own_after HO.out hb3)
            have hszb := HB3.out.size
            clear hb3
            go_wp2_with (at_builtin; refine wpList_push rfl (.tmp 37) (.tmp 39) rfl w2.heap.size _ L.length L F rfl rfl HO3.out (by omega) hszb ?_)
            intro v' w4 h1 h2 _
            have HO4 := Lib.hid h1.out
            have HB4 := Lib.hid (h2.out w2.heap.size w2 HB3.out (Nat.le_refl _))
            clear h1 h2
            go_wp2_with fail
            refine ⟨⟨k + 1, by omega, by go_num, ?_, HB4.out⟩, by simp only [Go.RowKit.intOf]; omega⟩
            have hx := HXX.out
            simp only [if_true] at hx
            rw [hx, List.length_append, List.length_singleton, ← HFL.out]
            exact HO4.out
          | false =>
            go_wp2_with fail
            refine HC.out.mono ?_
            rintro e w3 ⟨rfl, hb3⟩
            have HB3 := Lib.hid (HB.out.trans (hb3.mono HB.out.size))
            have HO3 := Lib.hid (own_after HO.out hb3)
            clear hb3
            go_wp2_with fail
            refine ⟨⟨k + 1, by omega, by go_num, ?_, HB3.out⟩, by simp only [Go.RowKit.intOf]; omega⟩
            have hx := HXX.out
            simp only [Bool.false_eq_true, if_false] at hx
            rw [hx]
            exact HO3.out
        · have hkn : k = n := by omega
          have hT : x.take k = x := List.take_of_length_le (by rw [HN.out]; omega)
          rw [hT] at hown
          have HT := Lib.hid (refText_any (rs_own hown).1 (by have := HL.out; omega))
          have HB := Lib.hid hb
          obtain ⟨A9, c9, rfl, hc9⟩ := own_form hown
          clear hown hb hT
          go_wp2_with fail
          refine HT.out.mono ?_
          rintro e w3 ⟨rfl, hb3⟩
          have HB3 := Lib.hid (HB2.out.trans ((HB.out.trans (hb3.mono HB.out.size)).mono HB2.out.size))
          clear hb3
          go_wp2_with fail
          go_ret2
          exact ⟨by rw [HU.out]; rfl, HB3.out⟩
    · rw [if_neg h2] at hu
      subst hu
      have h2i : ¬ ((kb : Int) = 0) := by omega
      clear h2 hlen
      go_enter Try.func23, Try.ntmps23
      go_wp2_with fail
      refine (HPA.out _).mono ?_
      rintro e w1 ⟨⟨v1, rfl, -⟩, hb1⟩
      have HB1 := Lib.hid hb1
      clear hb1
      go_wp2_with fail
      refine (HPB.out _).mono ?_
      rintro e w2 ⟨⟨v2, rfl, -⟩, hb2⟩
      have HB2 := Lib.hid (HB1.out.trans (hb2.mono HB1.out.size))
      clear hb2
      go_wp2_with fail
      go_ret2
      exact ⟨rfl, HB2.out⟩
  · rw [if_neg h1, if_neg h1] at hu
    subst hu
    have h1i : ¬ ((ka : Int) = 0) := by omega
    clear h1 hlen
    go_enter Try.func23, Try.ntmps23
    go_wp2_with fail
    refine (HPA.out _).mono ?_
    rintro e w1 ⟨⟨v1, rfl, -⟩, hb1⟩
    have HB1 := Lib.hid hb1
    clear hb1
    go_wp2_with fail
    go_ret2
    exact ⟨rfl, HB1.out⟩

set_option maxRecDepth 100000 in
set_option maxHeartbeats 4000000 in
theorem refSubset_any (a b : ByteArray) (ha : a.size ≤ 400) (hb : b.size ≤ 400) (w : World) :
    Calls Try.prog 25 #[.string a, .string b] w fun e w' => e = .returned (.tuple #[.bool (subL a.data.toList b.data.toList).1, .int .i64 ((subL a.data.toList b.data.toList).2 : Nat)]) ∧ Below w.heap.size w w' := by
  have hpa := fun W => refParse_any a ha W
  have hpb := fun W => refParse_any b hb W
  obtain ⟨hx1, -⟩ := parse_small a.data.toList
  obtain ⟨hy1, -⟩ := parse_small b.data.toList
  have hu : subL a.data.toList b.data.toList = if err2 a.data.toList b.data.toList = 0 then (decide (∀ f ∈ (parseL a.data.toList).1, f ∈ (parseL b.data.toList).1), 0) else (false, err2 a.data.toList b.data.toList) := rfl
  have he : err2 a.data.toList b.data.toList = if (parseL a.data.toList).2 = 0 then (parseL b.data.toList).2 else (parseL a.data.toList).2 := rfl
  rw [he] at hu
  obtain ⟨p, hp⟩ : ∃ p, parseL a.data.toList = p := ⟨_, rfl⟩
  obtain ⟨r, hr⟩ : ∃ p, parseL b.data.toList = p := ⟨_, rfl⟩
  obtain ⟨U, hU⟩ : ∃ U, subL a.data.toList b.data.toList = U := ⟨_, rfl⟩
  rw [hU] at hu ⊢
  rw [hp, hr] at hu
  rw [hp] at hpa hx1
  rw [hr] at hpb hy1
  obtain ⟨x, ka⟩ := p
  obtain ⟨y, kb⟩ := r
  simp only at hu hx1 hy1
  have HPA := Lib.hid hpa
  have HPB := Lib.hid hpb
  clear hpa hpb hp hr hU ha hb he
  by_cases h1 : ka = 0
  · subst h1
    rw [if_pos rfl] at hu
    by_cases h2 : kb = 0
    · subst h2
      rw [if_pos rfl] at hu
      have HU := Lib.hid hu
      obtain ⟨n, hn⟩ : ∃ n, x.length = n := ⟨_, rfl⟩
      have HN := Lib.hid hn
      rw [hn] at hx1
      clear hu hn
      go_enter Try.func25, Try.ntmps25
      go_wp2_with fail
      refine (HPA.out _).mono ?_
      rintro e w1 ⟨⟨v1, rfl, hown1⟩, hb1⟩
      have HB1 := Lib.hid hb1
      have HO1 := Lib.hid (rs_own hown1).1
      clear hb1 hown1
      go_wp2_with fail
      refine (HPB.out _).mono ?_
      rintro e w2 ⟨⟨v2, he2, hown2⟩, hb2⟩
      have he3 : e = .returned (.tuple #[v2, .int .i64 0]) := he2
      subst he3
      clear he2
      have HB2 := Lib.hid (HB1.out.trans (hb2.mono HB1.out.size))
      have hx := HO1.out.below hb2
      have hy := (rs_own hown2).1
      obtain ⟨A, cap, rfl, hc, -⟩ := hx.form
      have HX := Lib.hid (fun W (h : Below w2.heap.size w2 W) => hx.below h)
      have HM := Lib.hid (fun W (h : Below w2.heap.size w2 W) => member_any (w := W) (l := y) (hy.below h) (by omega))
      simp only [HN.out] at hc HX ⊢
      clear hb2 hown2 hx hy
      go_wp2_with fail
      go_loopw [29] (fun iv wr => ∃ k : Nat, k ≤ n ∧ iv = .int .i64 k ∧ (∀ f ∈ x.take k, f ∈ y) ∧ Below w2.heap.size w2 wr) (fun i _ => n - (Go.RowKit.intOf i).toNat)
      case atStart => exact ⟨0, Nat.zero_le _, rfl, fun f hf => by simp at hf, Below.refl _ _⟩
      case round =>
        obtain ⟨k, hk, rfl, hall, hb⟩ := hrel
        by_cases hlt : k < n
        · obtain ⟨f, hf⟩ : ∃ f, x[k]? = some f := ⟨_, List.getElem?_eq_getElem (by rw [HN.out]; omega)⟩
          obtain ⟨A', cap', he', -, hr⟩ := (HX.out wr hb).form
          rw [HN.out] at he' hr
          cases he'
          obtain ⟨bk, off, rfl, -, hj⟩ := hr (by omega)
          have c0 := hj k f hf
          obtain ⟨F, hF⟩ : ∃ s : ByteArray, (⟨f.toArray⟩ : ByteArray) = s := ⟨_, rfl⟩
          have hFl : F.data.toList = f := by rw [← hF]
          rw [hF] at c0
          have hcn := HM.out wr hb F
          rw [hFl] at hcn
          have hnx : decide (f ∈ y) = true → ∀ g ∈ x.take (k + 1), g ∈ y := fun h => all_take hf hall (of_decide_eq_true h)
          have hno : decide (f ∈ y) = false → decide (∀ f ∈ x, f ∈ y) = false := fun h => decide_eq_false fun hh => of_decide_eq_false h (hh f (List.mem_of_getElem? hf))
          obtain ⟨q, hq⟩ : ∃ q, decide (f ∈ y) = q := ⟨_, rfl⟩
          rw [hq] at hcn hnx hno
          have HC := Lib.hid hcn
          have HB := Lib.hid hb
          clear hcn hb hF hFl hq hj hr hf hall
          cases q with
          | true =>
            have HXX := Lib.hid (hnx rfl)
            clear hnx hno
            go_wp2_with fail
            refine HC.out.mono ?_
            rintro e w3 ⟨rfl, hb3⟩
            have HB3 := Lib.hid (HB.out.trans (hb3.mono HB.out.size))
            clear hb3
            go_wp2_with fail
            exact ⟨⟨k + 1, by omega, by go_num, HXX.out, HB3.out⟩, by simp only [Go.RowKit.intOf]; omega⟩
          | false =>
            have HXX := Lib.hid (hno rfl)
            clear hnx hno
            go_wp2_with fail
            refine HC.out.mono ?_
            rintro e w3 ⟨rfl, hb3⟩
            have HB3 := Lib.hid (HB2.out.trans ((HB.out.trans (hb3.mono HB.out.size)).mono HB2.out.size))
            clear hb3
            go_wp2_with fail
            go_ret2
            exact ⟨by rw [HU.out, HXX.out]; rfl, HB3.out⟩
        · have hT : x.take k = x := List.take_of_length_le (by rw [HN.out]; omega)
          rw [hT] at hall
          have HXX := Lib.hid (decide_eq_true hall)
          have HB := Lib.hid (HB2.out.trans (hb.mono HB2.out.size))
          clear hb hT hall
          go_wp2_with fail
          go_ret2
          exact ⟨by rw [HU.out, HXX.out]; rfl, HB.out⟩
    · rw [if_neg h2] at hu
      subst hu
      have h2i : ¬ ((kb : Int) = 0) := by omega
      clear h2
      go_enter Try.func25, Try.ntmps25
      go_wp2_with fail
      refine (HPA.out _).mono ?_
      rintro e w1 ⟨⟨v1, rfl, -⟩, hb1⟩
      have HB1 := Lib.hid hb1
      clear hb1
      go_wp2_with fail
      refine (HPB.out _).mono ?_
      rintro e w2 ⟨⟨v2, rfl, -⟩, hb2⟩
      have HB2 := Lib.hid (HB1.out.trans (hb2.mono HB1.out.size))
      clear hb2
      go_wp2_with fail
      go_ret2
      exact ⟨rfl, HB2.out⟩
  · rw [if_neg h1, if_neg h1] at hu
    subst hu
    have h1i : ¬ ((ka : Int) = 0) := by omega
    clear h1
    go_enter Try.func25, Try.ntmps25
    go_wp2_with fail
    refine (HPA.out _).mono ?_
    rintro e w1 ⟨⟨v1, rfl, -⟩, hb1⟩
    have HB1 := Lib.hid hb1
    clear hb1
    go_wp2_with fail
    go_ret2
    exact ⟨rfl, HB1.out⟩
end Go.Proofs.Ythagjdhfngdigaa
