/-
  MarkupParses is proved: for every string the call of the law returns true, and each argument reads afterwards as it read before. The package-level variables that the row lists hold what the program's text lays in them: this is tied to the text.
-/
import Derived.Test.YtjablaidbccnbaaGreatDoorRows
import Derived.Test.YtjablaidbccnbaaGreatDoorCards
import Derived.Test.YtjablaidbccnbaaGreatDoorTie
import Derived.Test.YtjablaidbccnbaaGreatDoorMkL
import Derived.Test.YtjablaidbccnbaaGreatDoorPaM
import Derived.ProofKit
import Derived.OpenShut
import Derived.Carry
import Derived.SevenTiedAt
import Derived.LaidMore
import Derived.Stop.Joined
namespace Go.Proofs.YtjablaidbccnbaaGreatDoor.markupParses
open Go.ChangeShapes Go.WideShapes Go.ChangeAt Go.RowKit Go.Shelf Go.Lib
set_option linter.unusedVariables false

theorem walk (s : ByteArray) (hs : s.size ≤ maxLen) {w : World} (m : Mem w) :
    Calls Tryz.prog 3 #[.string s] w fun e w1 => e = .returned (.bool true) ∧ Below w.heap.size w w1 := by
  unfold maxLen at hs
  by_cases hl : s.size ≤ 2000
  · have h1 := parseTag_any m s (by omega)
    have h2 := fun W => refParse_any s (by omega) W
    have h3 := fun (W : World) (h : Mem W) => awake_any h
    have hl8 := rK_len s.data.toList
    obtain ⟨R, hR⟩ : ∃ R, pTag s.data.toList = R := ⟨_, rfl⟩
    rw [hR] at h1 hl8
    simp only [hR] at h2
    obtain ⟨c, hc⟩ : ∃ c, rC R = c := ⟨_, rfl⟩
    obtain ⟨n, hn⟩ : ∃ n : ByteArray, (⟨(rN R).toArray⟩ : ByteArray) = n := ⟨_, rfl⟩
    obtain ⟨ks, hks⟩ : ∃ ks, rK R = ks := ⟨_, rfl⟩
    obtain ⟨l, hll⟩ : ∃ l, ks.length = l := ⟨_, rfl⟩
    obtain ⟨a, ha⟩ : ∃ a, rA R = a := ⟨_, rfl⟩
    obtain ⟨e0, he⟩ : ∃ e, rE R = e := ⟨_, rfl⟩
    have hform : ∀ (w : World) (v : Value), ParseV R w v → ∃ (A : Option Addr) (cap : Nat), v = .tuple #[.agg #[.bool c, .string n, .slice A l cap], .int .i64 (a : Int), .int .i64 (e0 : Int)] ∧ Keys w (.slice A l cap) ks := by
      intro w v h
      have := parseV_form h
      rw [hc, hn, hks, hll, ha, he] at this
      exact this
    rw [hks, hll] at hl8
    have HFO := Lib.hid hform
    have H1 := Lib.hid h1
    have H2 := Lib.hid h2
    have H3 := Lib.hid h3
    have HM := Lib.hid m
    clear h1 h2 h3 hR hc hn hks hll ha he hform m
    go_enter Tryz.func3, Tryz.ntmps3
    go_wp2_with fail
    refine H1.out.mono ?_
    rintro e w1 ⟨hb1, v1, rfl, hv1⟩
    obtain ⟨A, cap, rfl, hk1⟩ := HFO.out _ _ hv1
    have HB1 := Lib.hid hb1
    have HK1 := Lib.hid hk1
    clear hb1 hv1 hk1
    obtain ⟨W2, hW2⟩ : ∃ W2, w1.alloc (.cells #[.bool c, .string n, .slice A l cap] 24) = W2 := ⟨_, rfl⟩
    have HW2 := Lib.hid hW2
    clear hW2
    go_wp2_with fail
    rw [HW2.out]
    refine (H2.out _).mono ?_
    rintro e w3 ⟨hb3, v3, rfl, hv3⟩
    obtain ⟨B, capB, rfl, hk3⟩ := HFO.out _ _ hv3
    have hb2 : Below w1.heap.size w1 W2 := by rw [← HW2.out]; exact (Below.refl _ w1).alloc (Nat.le_refl _) _
    have hn2 : W2.heap[w1.heap.size]? = some (.cells #[.bool c, .string n, .slice A l cap] 24 (0, 0)) := by rw [← HW2.out]; exact block_new w1 _
    have hb4 : Below w3.heap.size w3 (w3.alloc (.cells #[.bool c, .string n, .slice B l capB] 28)) := (Below.refl _ w3).alloc (Nat.le_refl _) _
    have hn4 : (w3.alloc (.cells #[.bool c, .string n, .slice B l capB] 28)).heap[w3.heap.size]? = some (.cells #[.bool c, .string n, .slice B l capB] 28 (0, 0)) := block_new w3 _
    have hn3 := block_below (block_below hn2 hb3 (Array.getElem?_eq_some_iff.1 hn2).1) hb4 (Nat.lt_of_lt_of_le (Array.getElem?_eq_some_iff.1 hn2).1 hb3.size)
    have hk4 := (((HK1.out.below hb2).below hb3).below hb4)
    have hk5 := hk3.below hb4
    have HEQ := Lib.hid (equal_any c n A B l cap capB ks (by omega) hk4 hk5)
    have a0 := cell_of (i := 0) hn3 rfl
    have a1 := cell_of (i := 1) hn3 rfl
    have a2 := cell_of (i := 2) hn3 rfl
    have b0 := cell_of (i := 0) hn4 rfl
    have b1 := cell_of (i := 1) hn4 rfl
    have b2 := cell_of (i := 2) hn4 rfl
    have HB4 : Hid (Below w.heap.size w (w3.alloc (.cells #[.bool c, .string n, .slice B l capB] 28))) := Lib.hid (by
      have h1 := HB1.out.trans (hb2.mono HB1.out.size)
      have h2 := h1.trans (hb3.mono h1.size)
      exact h2.trans (hb4.mono h2.size))
    clear hb3 hv3 hk3 hb2 hn2 hb4 hn4 hn3 hk4 hk5
    go_wp2_with fail
    refine HEQ.out.mono ?_
    rintro e w5 ⟨rfl, hb5⟩
    have HB5 := Lib.hid (HB4.out.trans (hb5.mono HB4.out.size))
    clear hb5 a0 a1 a2 b0 b1 b2
    go_wp2_with fail
    refine (H3.out _ (HM.out.below HB5.out (Nat.le_refl _))).mono ?_
    rintro e w6 ⟨rfl, hb6⟩
    have HB6 := Lib.hid (HB5.out.trans (hb6.mono HB5.out.size))
    clear hb6
    go_wp2
    go_ret
    exact ⟨rfl, HB6.out⟩
  · have hl2 : (2000 : Int) < s.size := by omega
    go_enter Tryz.func3, Tryz.ntmps3
    go_wp2
    go_ret
    exact ⟨rfl, Below.refl _ _⟩

theorem own : ownKnob Tryz.prog.godebug = none := by kernel_rfl

set_option maxRecDepth 100000 in
theorem lifted (os : Os) (started : os.Started) (H : Type) (enc : TypeId × Value → H) :
    ReturnsInHanded {} Tryz.checked os 3 .any (fun w args => (Rows.markupParsesSpec.pre enc Tryz.prog Tryz.f3 [] false w args ∧ laidMetH Tryz.prog Rows.markupParsesRow.laid w) ∧ sizedMet enc Tryz.prog Tryz.f3 (OpenSpec.ofChange Rows.markupParsesSpec) false w args)
      (Rows.markupParsesSpec.post enc Tryz.prog Tryz.f3 false true false false) := by
  refine returnsInHanded_of_change_and (C := Tryz.checked) (X := fun w _ => laidMetH Tryz.prog Rows.markupParsesRow.laid w) (fun _ _ _ hh h => h.of_heap hh) own started (by kernel_rfl) Tryz.func3
    (ChangeSpec.witness_shaped (enc := enc) (C := Tryz.checked) (os := os) (X := fun w _ => laidMetH Tryz.prog Rows.markupParsesRow.laid w) false (World.laidAll Tryz.prog os laidAll) #[.string ⟨#[]⟩] 8 (World.laidAll_os _ _ _) (all_shaped os) (by kernel_rfl) (by kernel_rfl) (by kernel_rfl) (all_met os _)) ?_
  intro W base args ds gs before hval0 hW _ _ hL _
  have hval : ∀ (j : Nat) t v, Tryz.f3.params[j]? = some t → args[j]? = some v → Value.okWide Tryz.prog W .any base t v := hval0
  have hW' := hW
  have hplt : ∀ x ∈ before, x.block < W.heap.size := fun x hx => hW.lt x hx
  obtain ⟨p, q, hA0, hV, rfl, hfz, hnd⟩ := hW
  have hA : DataW.TrodAll enc Tryz.prog W 0 (fun _ => true) true Tryz.f3.params.toList args.toList ds p := hA0
  rw [Tryz.params3] at hA hval
  obtain ⟨v0, vs0, d0, ds0, p0, q0, hargs, rfl, rfl, h0, r0⟩ := trodAll_cons hA
  obtain ⟨rfl, rfl, rfl⟩ := trodAll_nil r0
  obtain rfl : args = #[v0] := by cases args; simp_all
  obtain ⟨rfl, rfl⟩ := trodVars_none hV
  obtain ⟨a0, rfl, m0⟩ := open_str (hval 0 9 v0 rfl rfl) h0
  clear hA0 hval0
  refine (walk a0 m0 (mem_of_laid hL)).mono fun e W' ⟨he, bel⟩ => ?_
  subst he
  exact ⟨_, rfl, _, _, _, [], _, [], hW', trodAll_mk1 (shut_bool Tryz.underlying4 _), (trodAll_cons_mk (Below.trod Tryz.laidOut (by kernel_rfl) (of_decide_eq_true (by kernel_rfl)) h0 bel (fun x hx => hplt x (by simp [hx]))) trodAll_mk0), rfl, World.keptBut_mono (fun x hx => ⟨hx, Or.inr (by simpa using hx)⟩) (bel.frame (· ∈ _)), fun h => by cases h⟩

theorem over : Rows.markupParsesRow.holds Tryz.pinned (OpenSpec.ofChange Rows.markupParsesSpec) :=
  OpenClaim.holds_of_wide 3 Tryz.f3 rfl rfl rfl rfl rfl rfl rfl ⟨rfl, rfl, rfl, rfl, rfl⟩ rfl rfl rfl rfl rfl (by kernel_rfl) Tryz.func3 (by kernel_rfl)
    (of_decide_eq_true (by kernel_rfl)) (by unfold Func.isWrapper; first | (rw [if_pos (by decide +kernel)]; kernel_rfl) | (rw [if_neg (by decide +kernel)]; exact ⟨rfl, rfl⟩))
    (fun os started H enc _ => lifted os started H enc)

/-- THE STATEMENT: the tied card. -/
theorem proved : Rows.MarkupParsesCardSaid :=
  Claim7.holds_tied_plain_at .later [] Rows.markupParsesCard.laidKinds true Rows.markupParsesCard.stood.harness Rows.markupParsesCard.stood.looks
    over (fun _ h => by cases h) (by kernel_rfl) (fun _ h => by cases h) markupParses_row_tie rfl ⟨rfl, rfl⟩ (by kernel_rfl) rfl
    (fun f fn hf hfn => by
      obtain rfl : f = 3 := Option.some.inj ((show Tryz.prog.funcNamed "corpora/corporalaw04.MarkupParses" = some 3 by kernel_rfl).symm.trans hf) |>.symm
      obtain rfl : fn = Tryz.f3 := (Option.some.inj (Tryz.func3.symm.trans hfn)).symm
      exact ⟨by kernel_rfl, fun j t ht => by
        rw [Tryz.params3] at ht
        have hm : t ∈ [9] := by simpa using Array.mem_of_getElem? ht
        have hall : ([9].all fun u => !Tryz.prog.wantsStandIn u) = true := by kernel_rfl
        exact (show Tryz.prog.wantsStandIn t = false by simpa using List.all_eq_true.1 hall t hm)⟩)
    (by kernel_rfl)
end Go.Proofs.YtjablaidbccnbaaGreatDoor.markupParses
