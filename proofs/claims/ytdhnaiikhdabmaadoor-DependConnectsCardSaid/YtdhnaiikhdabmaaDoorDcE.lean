/-
  WALKS over the reference of depend: Path, at any arguments.
-/
import Derived.Test.YtdhnaiikhdabmaaDoorDcD
namespace Go.Proofs.YtdhnaiikhdabmaaDoor
open Go Go.RowKit Go.Shelf Go.Lib
set_option linter.unusedVariables false
attribute [local go_sem] Oper.semAt_some

set_option maxRecDepth 100000 in
set_option maxHeartbeats 4000000 in
theorem refPath_any {w : World} {v : Value} {h : List Int} (hv : Rows 1 EInt w v h) (hl : h.length ≤ maxLen) (a b : Int) :
    Calls Tryd.prog 18 #[v, .int .i64 a, .int .i64 b] w fun e w' => (∃ vr, e = .returned (.tuple #[vr, .int .i64 (pathH h a b).2]) ∧ RN w' vr (pathH h a b).1) ∧ Below w.heap.size w w' := by
  unfold pathH
  have HVA := Lib.hid (refValid_any hv hl)
  by_cases hok : okH h = true
  · by_cases ha : 0 ≤ a ∧ a < (h.length : Int)
    · by_cases hb : 0 ≤ b ∧ b < (h.length : Int)
      · rw [if_pos ⟨hok, ha, hb⟩]
        obtain ⟨x, rfl⟩ : ∃ x : Nat, a = (x : Int) := ⟨a.toNat, by omega⟩
        obtain ⟨y, rfl⟩ : ∃ y : Nat, b = (y : Int) := ⟨b.toNat, by omega⟩
        rw [Int.toNat_natCast, Int.toNat_natCast]
        exact refPath_ok hv hl hok x y (by omega) (by omega)
      · rw [if_neg (fun hh => hb hh.2.2)]
        rw [hok] at HVA
        obtain ⟨A, cap, rfl, hc⟩ := hv.form
        obtain ⟨n, hn⟩ : ∃ n, h.length = n := ⟨_, rfl⟩
        rw [hn] at HVA ha hb ⊢
        have ea : ¬ a < 0 := by omega
        have ea2 : ¬ a ≥ (n : Int) := by omega
        clear hv hc hl hok hn
        by_cases eb : b < 0
        · clear ha hb
          go_enter Tryd.func18, Tryd.ntmps18
          go_wp2_with fail
          refine HVA.out.mono ?_
          rintro e w1 ⟨rfl, hb1⟩
          have HB1 := Lib.hid hb1
          clear hb1
          go_wp2_with fail
          go_ret2
          exact ⟨⟨_, rfl, RN.nil _⟩, HB1.out⟩
        · have eb2 : b ≥ (n : Int) := by omega
          clear ha hb
          go_enter Tryd.func18, Tryd.ntmps18
          go_wp2_with fail
          refine HVA.out.mono ?_
          rintro e w1 ⟨rfl, hb1⟩
          have HB1 := Lib.hid hb1
          clear hb1
          go_wp2_with fail
          go_ret2
          exact ⟨⟨_, rfl, RN.nil _⟩, HB1.out⟩
    · rw [if_neg (fun hh => ha hh.2.1)]
      rw [hok] at HVA
      obtain ⟨A, cap, rfl, hc⟩ := hv.form
      obtain ⟨n, hn⟩ : ∃ n, h.length = n := ⟨_, rfl⟩
      rw [hn] at HVA ha ⊢
      clear hv hc hl hok hn
      by_cases ea : a < 0
      · clear ha
        go_enter Tryd.func18, Tryd.ntmps18
        go_wp2_with fail
        refine HVA.out.mono ?_
        rintro e w1 ⟨rfl, hb1⟩
        have HB1 := Lib.hid hb1
        clear hb1
        go_wp2_with fail
        go_ret2
        exact ⟨⟨_, rfl, RN.nil _⟩, HB1.out⟩
      · have ea2 : a ≥ (n : Int) := by omega
        clear ha
        go_enter Tryd.func18, Tryd.ntmps18
        go_wp2_with fail
        refine HVA.out.mono ?_
        rintro e w1 ⟨rfl, hb1⟩
        have HB1 := Lib.hid hb1
        clear hb1
        go_wp2_with fail
        go_ret2
        exact ⟨⟨_, rfl, RN.nil _⟩, HB1.out⟩
  · rw [if_neg (fun hh => hok hh.1)]
    have hok2 : okH h = false := by simpa using hok
    rw [hok2] at HVA
    obtain ⟨A, cap, rfl, hc⟩ := hv.form
    obtain ⟨n, hn⟩ : ∃ n, h.length = n := ⟨_, rfl⟩
    rw [hn] at HVA ⊢
    clear hv hc hl hok hok2 hn
    go_enter Tryd.func18, Tryd.ntmps18
    go_wp2_with fail
    refine HVA.out.mono ?_
    rintro e w1 ⟨rfl, hb1⟩
    have HB1 := Lib.hid hb1
    clear hb1
    go_wp2_with fail
    go_ret2
    exact ⟨⟨_, rfl, RN.nil _⟩, HB1.out⟩

theorem intsN_inj {l m : List Nat} : intsN l = intsN m ↔ l = m := by
  constructor
  · intro h
    have := congrArg (List.map Int.toNat) h
    simpa [intsN, List.map_map, Function.comp_def] using this
  · intro h; rw [h]
theorem path_len (h : List Int) (hl : h.length ≤ 4096) (a b : Int) : (pathH h a b).1.length ≤ 8192 := by
  unfold pathH
  split
  · rename_i hh
    have hO := okh_iff.1 hh.1
    have h1 := way_len hO (i := a.toNat) (by omega)
    have h2 := way_len hO (i := b.toNat) (by omega)
    unfold joinW
    split
    · simp
    · simp only [List.length_append, List.length_take, List.length_reverse]
      omega
  · simp
end Go.Proofs.YtdhnaiikhdabmaaDoor
