/-
  ChecksumUnseals is proved: for every byte slice the call of the law returns true, and each argument reads afterwards as it read before. The package-level variables that the row lists hold what the program's text lays in them: this is tied to the text.
-/
import Derived.Test.YtgclmiheahfakaaDoorRows
import Derived.Test.YtgclmiheahfakaaDoorCards
import Derived.Test.YtgclmiheahfakaaDoorTie
import Derived.Test.YtgclmiheahfakaaDoorCkO
import Derived.Test.YtgclmiheahfakaaDoorCkD
import Derived.ProofKit
import Derived.OpenShut
import Derived.Carry
import Derived.SevenTiedAt
import Derived.LaidMore
import Derived.Stop.Joined
namespace Go.Proofs.YtgclmiheahfakaaDoor.checksumUnseals
open Go.ChangeShapes Go.WideShapes Go.ChangeAt Go.RowKit Go.Shelf Go.Lib
set_option linter.unusedVariables false

set_option maxRecDepth 100000 in
set_option maxHeartbeats 1000000 in
theorem walk (v : Value) (L : List UInt8) {w : World} (hs : Sees w w.heap.size v L) (hm : L.length ≤ maxLen) (ht : Tab w) :
    Calls Tryd.prog 8 #[v] w fun e w1 => e = .returned (.bool true) ∧ Below w.heap.size w w1 := by
  unfold maxLen at hm
  obtain ⟨A, cap, hv, _⟩ := hs.le
  obtain ⟨n, hn⟩ : ∃ n, L.length = n := ⟨_, rfl⟩
  by_cases hL : L.length ≤ 2000
  · by_cases h4 : L.length < 4
    · have h1 := unseal_short hs h4
      have h2 := refUnseal_short hs h4
      have h3 := awake_any ht ht.pos
      rw [hn] at hv hL hm h4
      have H1 := Lib.hid h1
      have H2 := Lib.hid h2
      have H3 := Lib.hid h3
      have h4' : (n : Int) < 4 := by omega
      subst hv
      clear h1 h2 h3 hs ht hn
      go_enter Tryd.func8, Tryd.ntmps8
      go_wp2_with fail
      refine H1.out.mono ?_
      rintro e w1 ⟨rfl, rfl⟩
      go_wp2_with fail
      refine H2.out.mono ?_
      rintro e w1 ⟨rfl, rfl⟩
      go_wp2_with fail
      refine H3.out.mono ?_
      rintro e w1 ⟨rfl, hb⟩
      have HB := Lib.hid hb
      clear hb
      go_wp2
      go_ret
      exact ⟨rfl, HB.out⟩
    · obtain ⟨m, hnm⟩ : ∃ m, L.length = m + 4 := ⟨L.length - 4, by omega⟩
      have h2 : ∀ W : World, Sees W W.heap.size v L → Calls Tryd.prog 19 #[v] W fun e w' => ∃ v', e = .returned (.tuple #[v', .bool (decide (sealL (L.take m) = L))]) ∧ Sees w' w'.heap.size v' (L.take m) ∧ Below W.heap.size W w' :=
        fun W h => refUnseal_long h m hnm (by omega)
      by_cases hd : sealL (L.take m) = L
      · have h1 := unseal_long hs m hnm (by omega) ht (fun r w' => ∃ v', r = .tuple #[v', .int .i64 0] ∧ Sees w' w'.heap.size v' (L.take m) ∧ Below w.heap.size w w')
          (fun hne => absurd hd hne) (fun _ v' w' h1 h2 => ⟨v', rfl, h1, h2⟩)
        rw [decide_eq_true hd] at h2
        rw [hn] at hv hL hm h4
        obtain ⟨P, hP⟩ : ∃ P, L.take m = P := ⟨_, rfl⟩
        rw [hP] at h1 h2
        obtain ⟨x, hx⟩ : ∃ x, (⟨P.toArray⟩ : ByteArray) = x := ⟨_, rfl⟩
        have hcv : ∀ (W : World) (B : Nat) (V : Value), Sees W B V P → (convert 22 9 V).run Tryd.prog W = .ok (.string x) W := fun _ _ _ h => by rw [← hx]; exact h.convert
        have H1 := Lib.hid h1
        have H2 := Lib.hid h2
        have HT := Lib.hid ht
        have HS := Lib.hid hs
        have HCV := Lib.hid hcv
        have h4' : (4 : Int) ≤ n := by omega
        subst hv
        clear h1 h2 hs ht hn hnm hd hP hx hcv
        go_enter Tryd.func8, Tryd.ntmps8
        go_wp2_with fail
        refine H1.out.mono ?_
        rintro e w1 ⟨r, rfl, v1, rfl, hs1, hb1⟩
        have HS1 := Lib.hid hs1
        have HB1 := Lib.hid hb1
        clear hs1 hb1
        go_wp2_with fail
        refine (H2.out w1 ((HS.out.below HB1.out).mono HB1.out.size)).mono ?_
        rintro e w2 ⟨v2, rfl, hs2, hb2⟩
        have hk1 := HCV.out _ _ _ (HS1.out.below hb2)
        have hk2 := HCV.out _ _ _ hs2
        have HB2 := Lib.hid (HB1.out.trans (hb2.mono HB1.out.size))
        clear hs2 hb2
        go_wp2_with fail
        refine (awake_any (HT.out.below HB2.out HT.out.pos) (HT.out.below HB2.out HT.out.pos).pos).mono ?_
        rintro e w3 ⟨rfl, hb3⟩
        have HB3 := Lib.hid (HB2.out.trans (hb3.mono HB2.out.size))
        clear hb3
        go_wp2
        go_ret
        exact ⟨rfl, HB3.out⟩
      · have h1 := unseal_long hs m hnm (by omega) ht (fun r w' => r = .tuple #[.slice none 0 0, .int .i64 9] ∧ Below w.heap.size w w')
          (fun _ w' h => ⟨rfl, h⟩) (fun hne => absurd hne hd)
        rw [decide_eq_false hd] at h2
        rw [hn] at hv hL hm h4
        have H1 := Lib.hid h1
        have H2 := Lib.hid h2
        have HT := Lib.hid ht
        have HS := Lib.hid hs
        have h4' : (4 : Int) ≤ n := by omega
        subst hv
        clear h1 h2 hs ht hn hnm hd
        go_enter Tryd.func8, Tryd.ntmps8
        go_wp2_with fail
        refine H1.out.mono ?_
        rintro e w1 ⟨r, rfl, rfl, hb1⟩
        have HB1 := Lib.hid hb1
        clear hb1
        go_wp2_with fail
        refine (H2.out w1 ((HS.out.below HB1.out).mono HB1.out.size)).mono ?_
        rintro e w2 ⟨v2, rfl, hs2, hb2⟩
        have HB2 := Lib.hid (HB1.out.trans (hb2.mono HB1.out.size))
        clear hs2 hb2
        go_wp2_with fail
        refine (awake_any (HT.out.below HB2.out HT.out.pos) (HT.out.below HB2.out HT.out.pos).pos).mono ?_
        rintro e w3 ⟨rfl, hb3⟩
        have HB3 := Lib.hid (HB2.out.trans (hb3.mono HB2.out.size))
        clear hb3
        go_wp2
        go_ret
        exact ⟨rfl, HB3.out⟩
  · rw [hn] at hv hL hm
    subst hv
    have hl2 : (2000 : Int) < n := by omega
    clear hs hn ht
    go_enter Tryd.func8, Tryd.ntmps8
    go_wp2
    go_ret
    exact ⟨rfl, Below.refl _ _⟩

theorem own : ownKnob Tryd.prog.godebug = none := by kernel_rfl

set_option maxRecDepth 100000 in
theorem lifted (os : Os) (started : os.Started) (H : Type) (enc : TypeId × Value → H) :
    ReturnsInHanded {} Tryd.checked os 8 .any (fun w args => (Rows.checksumUnsealsSpec.pre enc Tryd.prog Tryd.f8 [] false w args ∧ laidMetH Tryd.prog Rows.checksumUnsealsRow.laid w) ∧ sizedMet enc Tryd.prog Tryd.f8 (OpenSpec.ofChange Rows.checksumUnsealsSpec) false w args)
      (Rows.checksumUnsealsSpec.post enc Tryd.prog Tryd.f8 false true false false) := by
  refine returnsInHanded_of_change_and (C := Tryd.checked) (X := fun w _ => laidMetH Tryd.prog Rows.checksumUnsealsRow.laid w) (fun _ _ _ hh h => h.of_heap hh) own started (by kernel_rfl) Tryd.func8
    (ChangeSpec.witness_shaped (enc := enc) (C := Tryd.checked) (os := os) (X := fun w _ => laidMetH Tryd.prog Rows.checksumUnsealsRow.laid w) false (World.doorLaid Tryd.prog 400 os) #[.slice none 0 0] 8 rfl (World.shaped_of_RefB (by kernel_rfl) (by kernel_rfl)) (by kernel_rfl) (by kernel_rfl) (by kernel_rfl) (door_met os _)) ?_
  intro W base args ds gs before hval0 hW _ _ hL _
  have hval : ∀ (j : Nat) t v, Tryd.f8.params[j]? = some t → args[j]? = some v → Value.okWide Tryd.prog W .any base t v := hval0
  have hW' := hW
  have hplt : ∀ x ∈ before, x.block < W.heap.size := fun x hx => hW.lt x hx
  obtain ⟨p, q, hA0, hV, rfl, hfz, hnd⟩ := hW
  have hA : DataW.TrodAll enc Tryd.prog W 0 (fun _ => true) true Tryd.f8.params.toList args.toList ds p := hA0
  rw [Tryd.params8] at hA hval
  obtain ⟨v0, vs0, d0, ds0, p0, q0, hargs, rfl, rfl, h0, r0⟩ := trodAll_cons hA
  obtain ⟨rfl, rfl, rfl⟩ := trodAll_nil r0
  obtain rfl : args = #[v0] := by cases args; simp_all
  obtain ⟨rfl, rfl⟩ := trodVars_none hV
  obtain ⟨L0, s0, m0⟩ := open_bytes (hval 0 22 v0 rfl rfl) h0
  clear hA0 hval0
  refine (walk v0 L0 s0 m0 (tab_of_laid hL)).mono fun e W' ⟨he, bel⟩ => ?_
  subst he
  exact ⟨_, rfl, _, _, _, [], _, [], hW', trodAll_mk1 (shut_bool Tryd.underlying4 _), (trodAll_cons_mk (Below.trod Tryd.laidOut (by kernel_rfl) (of_decide_eq_true (by kernel_rfl)) h0 bel (fun x hx => hplt x (by simp [hx]))) trodAll_mk0), rfl, World.keptBut_mono (fun x hx => ⟨hx, Or.inr (by simpa using hx)⟩) (bel.frame (· ∈ _)), fun h => by cases h⟩

theorem over : Rows.checksumUnsealsRow.holds Tryd.pinned (OpenSpec.ofChange Rows.checksumUnsealsSpec) :=
  OpenClaim.holds_of_wide 8 Tryd.f8 rfl rfl rfl rfl rfl rfl rfl ⟨rfl, rfl, rfl, rfl, rfl⟩ rfl rfl rfl rfl rfl (by kernel_rfl) Tryd.func8 (by kernel_rfl)
    (of_decide_eq_true (by kernel_rfl)) (by unfold Func.isWrapper; first | (rw [if_pos (by decide +kernel)]; kernel_rfl) | (rw [if_neg (by decide +kernel)]; exact ⟨rfl, rfl⟩))
    (fun os started H enc _ => lifted os started H enc)

/-- THE STATEMENT: the tied card. -/
theorem proved : Rows.ChecksumUnsealsCardSaid :=
  Claim7.holds_tied_plain_at .later [] Rows.checksumUnsealsCard.laidKinds true Rows.checksumUnsealsCard.stood.harness Rows.checksumUnsealsCard.stood.looks
    over (fun _ h => by cases h) (by kernel_rfl) (fun _ h => by cases h) checksumUnseals_row_tie rfl ⟨rfl, rfl⟩ (by kernel_rfl) rfl
    (fun f fn hf hfn => by
      obtain rfl : f = 8 := Option.some.inj ((show Tryd.prog.funcNamed "corpora/corporalaw03.ChecksumUnseals" = some 8 by kernel_rfl).symm.trans hf) |>.symm
      obtain rfl : fn = Tryd.f8 := (Option.some.inj (Tryd.func8.symm.trans hfn)).symm
      exact ⟨by kernel_rfl, fun j t ht => by
        rw [Tryd.params8] at ht
        have hm : t ∈ [22] := by simpa using Array.mem_of_getElem? ht
        have hall : ([22].all fun u => !Tryd.prog.wantsStandIn u) = true := by kernel_rfl
        exact (show Tryd.prog.wantsStandIn t = false by simpa using List.all_eq_true.1 hall t hm)⟩)
    (by kernel_rfl)
end Go.Proofs.YtgclmiheahfakaaDoor.checksumUnseals
