/-
  ChecksumChains is proved: for every three sums and two lengths the call of the law returns true, and each argument reads afterwards as it read before. The package-level variables that the row lists hold what the program's text lays in them: this is tied to the text.
-/
import Derived.Test.YtgclmiheahfakaaDoorRows
import Derived.Test.YtgclmiheahfakaaDoorCards
import Derived.Test.YtgclmiheahfakaaDoorTie
import Derived.Test.YtgclmiheahfakaaDoorCkO
import Derived.Test.YtgclmiheahfakaaDoorCkF
import Derived.ProofKit
import Derived.Deep.RegionHeld3
import Derived.OpenShut
import Derived.Carry
import Derived.SevenTiedAt
import Derived.LaidMore
import Derived.Stop.Joined
namespace Go.Proofs.YtgclmiheahfakaaDoor.checksumChains
open Go.ChangeShapes Go.WideShapes Go.ChangeAt Go.RowKit Go.Shelf Go.Lib
set_option linter.unusedVariables false

/-- The parts in their box, behind which everything happens. -/
def Box (x y z i k b : Nat) (w : World) : Prop := w.heap[b]? = some (.cells #[.int .u32 x, .int .u32 y, .int .u32 z, .int .u8 i, .int .u8 k] 32 (0, 0))
theorem Box.below {x y z i k b B : Nat} {w w' : World} (h : Box x y z i k b w) (hb : Below B w w') (hB : b < B) : Box x y z i k b w' := (hb.block b hB).trans h
theorem Box.lt {x y z i k b : Nat} {w : World} (h : Box x y z i k b w) : b < w.heap.size := (Array.getElem?_eq_some_iff.1 h).1
theorem Box.cells {x y z i k b : Nat} {w : World} (h : Box x y z i k b w) : w.cell? ⟨b, 0, none⟩ = some (.int .u32 x) ∧ w.cell? ⟨b, 1, none⟩ = some (.int .u32 y) ∧ w.cell? ⟨b, 2, none⟩ = some (.int .u32 z) :=
  ⟨cell_of (i := 0) h rfl, cell_of (i := 1) h rfl, cell_of (i := 2) h rfl⟩
set_option maxRecDepth 100000 in
set_option maxHeartbeats 2000000 in
theorem walk (x y z i k : Nat) (hm : x < 4294967296 ∧ y < 4294967296 ∧ z < 4294967296 ∧ i < 256 ∧ k < 256) {w : World} (ht : Tab w) :
    Calls Tryd.prog 6 #[.agg #[.int .u32 x, .int .u32 y, .int .u32 z, .int .u8 i, .int .u8 k]] w fun e w1 => e = .returned (.bool true) ∧ Below w.heap.size w w1 := by
  obtain ⟨hx, hy, hz, hi, hk⟩ := hm
  have hbox : Box x y z i k w.heap.size (w.alloc (.cells #[.int .u32 x, .int .u32 y, .int .u32 z, .int .u8 i, .int .u8 k] 32)) := block_new w _
  have hb1 : Below w.heap.size w (w.alloc (.cells #[.int .u32 x, .int .u32 y, .int .u32 z, .int .u8 i, .int .u8 k] 32)) := (Below.refl _ w).alloc (Nat.le_refl _) _
  have c3 : (w.alloc (.cells #[.int .u32 x, .int .u32 y, .int .u32 z, .int .u8 i, .int .u8 k] 32)).cell? ⟨w.heap.size, 3, none⟩ = some (.int .u8 i) := cell_of (i := 3) hbox rfl
  have c4 : (w.alloc (.cells #[.int .u32 x, .int .u32 y, .int .u32 z, .int .u8 i, .int .u8 k] 32)).cell? ⟨w.heap.size, 4, none⟩ = some (.int .u8 k) := cell_of (i := 4) hbox rfl
  have ht1 := ht.below hb1 ht.pos
  have hcxy := comb_lt hx hy i
  have hcyz := comb_lt hy hz k
  have hchain := comb_chain x y z i k
  obtain ⟨p, hp⟩ : ∃ p, comb x y i = p := ⟨_, rfl⟩
  obtain ⟨q, hq⟩ : ∃ q, comb y z k = q := ⟨_, rfl⟩
  obtain ⟨r, hr⟩ : ∃ r, comb p z k = r := ⟨_, rfl⟩
  have hxyi : ∀ W, Tab W → Calls Tryd.prog 14 #[.int .u32 x, .int .u32 y, .int .i64 i] W fun e w' => e = .returned (.int .u32 ((p : Nat) : Int)) ∧ Below W.heap.size W w' := fun W h => by
    rw [← hp]; exact combine_any x y i i rfl hx hy (by omega) h h.pos
  have hyzk : ∀ W, Tab W → Calls Tryd.prog 14 #[.int .u32 y, .int .u32 z, .int .i64 k] W fun e w' => e = .returned (.int .u32 ((q : Nat) : Int)) ∧ Below W.heap.size W w' := fun W h => by
    rw [← hq]; exact combine_any y z k k rfl hy hz (by omega) h h.pos
  rw [hp] at hcxy hchain
  rw [hq] at hcyz hchain
  rw [hr] at hchain
  have hpz : ∀ W, Tab W → Calls Tryd.prog 14 #[.int .u32 p, .int .u32 z, .int .i64 k] W fun e w' => e = .returned (.int .u32 ((r : Nat) : Int)) ∧ Below W.heap.size W w' := fun W h => by
    rw [← hr]; exact combine_any p z k k rfl hcxy hz (by omega) h h.pos
  have hxq : ∀ W, Tab W → Calls Tryd.prog 14 #[.int .u32 x, .int .u32 q, .int .i64 ((i : Int) + k)] W fun e w' => e = .returned (.int .u32 ((r : Nat) : Int)) ∧ Below W.heap.size W w' := fun W h => by
    rw [hchain]; exact combine_any x q (i + k) _ (by omega) hx hcyz (by omega) h h.pos
  have HXY := Lib.hid hxyi
  have HYZ := Lib.hid hyzk
  have HPZ := Lib.hid hpz
  have HXQ := Lib.hid hxq
  have hbd : ∀ n : Nat, Below w.heap.size w ((w.alloc (.cells #[.int .u32 x, .int .u32 y, .int .u32 z, .int .u8 i, .int .u8 k] 32)).drewN n) := fun n => below_drewN hb1 n
  have htd : ∀ n : Nat, Tab ((w.alloc (.cells #[.int .u32 x, .int .u32 y, .int .u32 z, .int .u8 i, .int .u8 k] 32)).drewN n) := fun n => ht1.drewN n
  have hxd : ∀ n : Nat, Box x y z i k w.heap.size ((w.alloc (.cells #[.int .u32 x, .int .u32 y, .int .u32 z, .int .u8 i, .int .u8 k] 32)).drewN n) := fun n => hbox
  have HBD := Lib.hid hbd
  have HTD := Lib.hid htd
  have HXD := Lib.hid hxd
  clear hbox hb1 ht1 hchain hp hq hr hxyi hyzk hpz hxq hbd htd hxd ht
  have hik : IntKind.i64.wrap ((i : Int) + k) = (i : Int) + k := by rw [IntKind.wrap_i64]; omega
  go_enter Tryd.func6, Tryd.ntmps6
  go_wp2_with fail
  go_quiet (fail)
  go_wp2_with fail
  have hb2 := HBD.out nq
  have ht2 := HTD.out nq
  have hx2 := HXD.out nq
  obtain ⟨W2, hW2⟩ : ∃ W2, (w.alloc (.cells #[.int .u32 x, .int .u32 y, .int .u32 z, .int .u8 i, .int .u8 k] 32)).drewN nq = W2 := ⟨_, rfl⟩
  rw [hW2] at hb2 ht2 hx2 ⊢
  obtain ⟨d0, d1, d2⟩ := hx2.cells
  have HT2 := Lib.hid (show Tab W2.drew from ht2.drewN 1)
  have HB2 := Lib.hid (hb2.drew)
  have HX2 := Lib.hid (show Box x y z i k w.heap.size W2.drew from hx2)
  clear hb2 ht2 hx2 hW2 c3 c4
  go_region_held3 (fun w' => w'.cell? ⟨w.heap.size, 0, none⟩ = some (.int .u32 x) ∧ w'.cell? ⟨w.heap.size, 1, none⟩ = some (.int .u32 y) ∧ w'.cell? ⟨w.heap.size, 2, none⟩ = some (.int .u32 z))
    (first
      | go_keep
      | (exact ((HX2.out.below hb3 HX2.out.lt).below hb4 (HX2.out.below hb3 HX2.out.lt).lt).cells)
      | (exact (HX2.out.below hb3 HX2.out.lt).cells)
      | fail)
    ((first
      | (go_at_call 14; (with_reducible refine (HXY.out _ HT2.out).mono ?_); rintro e w3 ⟨rfl, hb3⟩)
      | (go_at_call 14; (with_reducible refine (HPZ.out _ (HT2.out.below hb3 HT2.out.pos)).mono ?_); rintro e w4 ⟨rfl, hb4⟩)
      | fail))
  have hb4' := (HX2.out.below hb3 HX2.out.lt).below hb4 (HX2.out.below hb3 HX2.out.lt).lt
  have ht4 := (HT2.out.below hb3 HT2.out.pos).below hb4 (HT2.out.below hb3 HT2.out.pos).pos
  have hb34 := HB2.out.trans (hb3.mono HB2.out.size)
  have HB4 := Lib.hid ((hb34.trans (hb4.mono hb34.size)).drew)
  have HT4 := Lib.hid (show Tab w4.drew from ht4.drewN 1)
  have HX4 := Lib.hid (show Box x y z i k w.heap.size w4.drew from hb4')
  obtain ⟨d0, d1, d2⟩ := hb4'.cells
  clear hb3 hb4 hb4' ht4 hb34
  go_wp2_with fail
  go_region_held3 (fun w' => w'.cell? ⟨w.heap.size, 0, none⟩ = some (.int .u32 x) ∧ w'.cell? ⟨w.heap.size, 1, none⟩ = some (.int .u32 y) ∧ w'.cell? ⟨w.heap.size, 2, none⟩ = some (.int .u32 z))
    (first
      | go_keep
      | (exact ((HX4.out.below hb5 HX4.out.lt).below hb6 (HX4.out.below hb5 HX4.out.lt).lt).cells)
      | (exact (HX4.out.below hb5 HX4.out.lt).cells)
      | fail)
    ((first
      | (go_at_call 14; (with_reducible refine (HYZ.out _ HT4.out).mono ?_); rintro e w5 ⟨rfl, hb5⟩)
      | (go_at_call 14; (with_reducible refine (HXQ.out _ (HT4.out.below hb5 HT4.out.pos)).mono ?_); rintro e w6 ⟨rfl, hb6⟩)
      | fail))
  have HB6 := Lib.hid ((HB4.out.trans (hb5.mono HB4.out.size)).trans (hb6.mono (HB4.out.trans (hb5.mono HB4.out.size)).size))
  have HT6 := Lib.hid ((HT4.out.below hb5 HT4.out.pos).below hb6 (HT4.out.below hb5 HT4.out.pos).pos)
  clear hb5 hb6 d0 d1 d2
  go_wp2_with fail
  refine (awake_any HT6.out HT6.out.pos).mono ?_
  rintro e w7 ⟨rfl, hb7⟩
  have HB7 := Lib.hid (HB6.out.trans (hb7.mono HB6.out.size))
  clear hb7
  go_wp2
  go_ret
  exact ⟨rfl, HB7.out⟩

theorem own : ownKnob Tryd.prog.godebug = none := by kernel_rfl

set_option maxRecDepth 100000 in
theorem lifted (os : Os) (started : os.Started) (H : Type) (enc : TypeId × Value → H) :
    ReturnsInHanded {} Tryd.checked os 6 .any (fun w args => (Rows.checksumChainsSpec.pre enc Tryd.prog Tryd.f6 [] false w args ∧ laidMetH Tryd.prog Rows.checksumChainsRow.laid w) ∧ sizedMet enc Tryd.prog Tryd.f6 (OpenSpec.ofChange Rows.checksumChainsSpec) false w args)
      (Rows.checksumChainsSpec.post enc Tryd.prog Tryd.f6 false true false false) := by
  refine returnsInHanded_of_change_and (C := Tryd.checked) (X := fun w _ => laidMetH Tryd.prog Rows.checksumChainsRow.laid w) (fun _ _ _ hh h => h.of_heap hh) own started (by kernel_rfl) Tryd.func6
    (ChangeSpec.witness_shaped (enc := enc) (C := Tryd.checked) (os := os) (X := fun w _ => laidMetH Tryd.prog Rows.checksumChainsRow.laid w) false (World.doorLaid Tryd.prog 400 os) #[.agg #[.int .u32 0, .int .u32 0, .int .u32 0, .int .u8 0, .int .u8 0]] 8 rfl (World.shaped_of_RefB (by kernel_rfl) (by kernel_rfl)) (by kernel_rfl) (by kernel_rfl) (by kernel_rfl) (door_met os _)) ?_
  intro W base args ds gs before hval0 hW _ _ hL _
  have hval : ∀ (j : Nat) t v, Tryd.f6.params[j]? = some t → args[j]? = some v → Value.okWide Tryd.prog W .any base t v := hval0
  have hW' := hW
  have hplt : ∀ x ∈ before, x.block < W.heap.size := fun x hx => hW.lt x hx
  obtain ⟨p, q, hA0, hV, rfl, hfz, hnd⟩ := hW
  have hA : DataW.TrodAll enc Tryd.prog W 0 (fun _ => true) true Tryd.f6.params.toList args.toList ds p := hA0
  rw [Tryd.params6] at hA hval
  obtain ⟨v0, vs0, d0, ds0, p0, q0, hargs, rfl, rfl, h0, r0⟩ := trodAll_cons hA
  obtain ⟨rfl, rfl, rfl⟩ := trodAll_nil r0
  obtain rfl : args = #[v0] := by cases args; simp_all
  obtain ⟨rfl, rfl⟩ := trodVars_none hV
  obtain ⟨x0, y0, z0, i0, k0, rfl, m0⟩ := open_parts (hval 0 32 v0 rfl rfl) h0
  clear hA0 hval0
  refine (walk x0 y0 z0 i0 k0 m0 (tab_of_laid hL)).mono fun e W' ⟨he, bel⟩ => ?_
  subst he
  exact ⟨_, rfl, _, _, _, [], _, [], hW', trodAll_mk1 (shut_bool Tryd.underlying4 _), (trodAll_cons_mk (Below.trod Tryd.laidOut (by kernel_rfl) (of_decide_eq_true (by kernel_rfl)) h0 bel (fun x hx => hplt x (by simp [hx]))) trodAll_mk0), rfl, World.keptBut_mono (fun x hx => ⟨hx, Or.inr (by simpa using hx)⟩) (bel.frame (· ∈ _)), fun h => by cases h⟩

theorem over : Rows.checksumChainsRow.holds Tryd.pinned (OpenSpec.ofChange Rows.checksumChainsSpec) :=
  OpenClaim.holds_of_wide 6 Tryd.f6 rfl rfl rfl rfl rfl rfl rfl ⟨rfl, rfl, rfl, rfl, rfl⟩ rfl rfl rfl rfl rfl (by kernel_rfl) Tryd.func6 (by kernel_rfl)
    (of_decide_eq_true (by kernel_rfl)) (by unfold Func.isWrapper; first | (rw [if_pos (by decide +kernel)]; kernel_rfl) | (rw [if_neg (by decide +kernel)]; exact ⟨rfl, rfl⟩))
    (fun os started H enc _ => lifted os started H enc)

/-- THE STATEMENT: the tied card. -/
theorem proved : Rows.ChecksumChainsCardSaid :=
  Claim7.holds_tied_plain_at .later [] Rows.checksumChainsCard.laidKinds true Rows.checksumChainsCard.stood.harness Rows.checksumChainsCard.stood.looks
    over (fun _ h => by cases h) (by kernel_rfl) (fun _ h => by cases h) checksumChains_row_tie rfl ⟨rfl, rfl⟩ (by kernel_rfl) rfl
    (fun f fn hf hfn => by
      obtain rfl : f = 6 := Option.some.inj ((show Tryd.prog.funcNamed "corpora/corporalaw03.ChecksumChains" = some 6 by kernel_rfl).symm.trans hf) |>.symm
      obtain rfl : fn = Tryd.f6 := (Option.some.inj (Tryd.func6.symm.trans hfn)).symm
      exact ⟨by kernel_rfl, fun j t ht => by
        rw [Tryd.params6] at ht
        have hm : t ∈ [32] := by simpa using Array.mem_of_getElem? ht
        have hall : ([32].all fun u => !Tryd.prog.wantsStandIn u) = true := by kernel_rfl
        exact (show Tryd.prog.wantsStandIn t = false by simpa using List.all_eq_true.1 hall t hm)⟩)
    (by kernel_rfl)
end Go.Proofs.YtgclmiheahfakaaDoor.checksumChains
