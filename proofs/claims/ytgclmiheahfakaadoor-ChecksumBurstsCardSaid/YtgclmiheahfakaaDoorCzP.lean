/-
  ChecksumBursts is proved: for every byte slice and every number and every number of 32 bits the call of the law returns true, and each argument reads afterwards as it read before. The package-level variables that the row lists hold what the program's text lays in them: this is tied to the text.
-/
import Derived.Test.YtgclmiheahfakaaDoorRows
import Derived.Test.YtgclmiheahfakaaDoorCards
import Derived.Test.YtgclmiheahfakaaDoorTie
import Derived.Test.YtgclmiheahfakaaDoorCkO
import Derived.Test.YtgclmiheahfakaaDoorCkD
import Derived.ProofKit
import Derived.Laws.ShiftsVarLaws
import Derived.OpenShut
import Derived.Carry
import Derived.SevenTiedAt
import Derived.LaidMore
import Derived.Stop.Joined
namespace Go.Proofs.YtgclmiheahfakaaDoor.checksumBursts
open Go.ChangeShapes Go.WideShapes Go.ChangeAt Go.RowKit Go.Shelf Go.Lib
set_option linter.unusedVariables false

/-- The sealed bytes, in their block, with some bits exchanged. -/
def BAt (g cap : Nat) (B : List UInt8) (w : World) : Prop := ∃ cur : Array Value, w.heap[g]? = some (.cells cur 5 (0, 0)) ∧ B.length ≤ cap ∧ cap ≤ maxLen ∧ cur.size = cap ∧ cur.toList.take B.length = byteCells B
theorem BAt.cell {g cap : Nat} {B : List UInt8} {w : World} (h : BAt g cap B w) (i : Nat) (hi : i < B.length) : w.cell? ⟨g, i, none⟩ = some (.int .u8 ((B[i].toNat : Nat) : Int)) := by
  obtain ⟨cur, hg, h1, h2, h3, h4⟩ := h
  refine cell_of hg ?_
  have e : (cur.toList.take B.length)[i]? = (byteCells B)[i]? := by rw [h4]
  rw [List.getElem?_take_of_lt hi] at e
  rw [← Array.getElem?_toList, e]
  simp [byteCells, hi]
theorem BAt.frozen {g cap : Nat} {B : List UInt8} {w : World} (h : BAt g cap B w) (i : Nat) : w.frozen? ⟨g, i, none⟩ = false := by
  obtain ⟨cur, hg, _⟩ := h
  exact frozen_of hg
theorem BAt.store {g cap : Nat} {B : List UInt8} {w : World} (h : BAt g cap B w) (i : Nat) (x : UInt8) : BAt g cap (B.set i x) (w.setCell ⟨g, i, none⟩ (.int .u8 ((x.toNat : Nat) : Int))) := by
  obtain ⟨cur, hg, h1, h2, h3, h4⟩ := h
  refine ⟨_, set_of hg _, by rw [List.length_set]; exact h1, h2, by rw [Array.size_setIfInBounds]; exact h3, ?_⟩
  rw [Array.toList_setIfInBounds, List.length_set, List.take_set, h4]
  unfold byteCells
  rw [← List.map_set]
theorem BAt.sees {g cap : Nat} {B : List UInt8} {w : World} (h : BAt g cap B w) : Sees w w.heap.size (.slice (some ⟨g, 0, none⟩) B.length cap) B := by
  refine .inr ⟨_, _, rfl, h.choose_spec.2.1, fun _ => (Array.getElem?_eq_some_iff.1 h.choose_spec.1).1, fun j hj => ?_⟩
  rw [add_plain, Nat.zero_add]
  exact h.cell j hj
theorem bat_own {w : World} {base : Nat} {v : Value} {K : List UInt8} (h : w.ownsRow base 5 1 v K.length (byteCells K)) (hk : 0 < K.length) : ∃ g cap, v = .slice (some ⟨g, 0, none⟩) K.length cap ∧ base ≤ g ∧ BAt g cap K w := by
  rcases h.2 with ⟨_, h0⟩ | ⟨g, cap, cur, hv, hb, hg, h1, h2, h3, h4⟩
  · omega
  · exact ⟨g, cap, hv, hb, cur, hg, h1, h2, by rw [h3, Nat.mul_one], by rw [← h4, Nat.mul_one]⟩

theorem and_bit (p i : Nat) (hp : p < 4294967296) : bits .and .u32 ((p : Int) / 2 ^ i) 1 = ((p / 2 ^ i % 2 : Nat) : Int) := by
  have hq : p / 2 ^ i < 4294967296 := Nat.lt_of_le_of_lt (Nat.div_le_self _ _) hp
  have e : (p : Int) / 2 ^ i = ((p / 2 ^ i : Nat) : Int) := by simp
  rw [e, and_one _ hq]
theorem flip_byte (x : UInt8) (k : Nat) : bits .xor .u8 ((x.toNat : Nat) : Int) (2 ^ k % 256) = (((x ^^^ UInt8.ofNat (2 ^ k)).toNat : Nat) : Int) := by
  have e : (2 : Int) ^ k % 256 = ((2 ^ k % 256 : Nat) : Int) := by simp
  rw [e, u8_xor_nat _ _ (byte_lt x) (Nat.mod_lt _ (by decide)), UInt8.toNat_xor, UInt8.toNat_ofNat']
theorem low_ne (p i : Nat) (h : p / 2 ^ i % 2 = 1) : ¬ p % 2 ^ (i + 1) = 0 := by
  intro e
  have := Nat.mod_mul_right_div_self p (2 ^ i) 2
  rw [← Nat.pow_succ, e, h] at this
  simp at this
theorem low_eq (p i : Nat) (h : ¬ p / 2 ^ i % 2 = 1) : p % 2 ^ (i + 1) = p % 2 ^ i := by
  rw [mod_step, if_neg h, Nat.xor_zero]

set_option maxRecDepth 100000 in
set_option maxHeartbeats 2000000 in
theorem walk (v : Value) (L : List UInt8) {w : World} (hs : Sees w w.heap.size v L) (hm : L.length ≤ maxLen) (at' : Int) (ha1 : -9223372036854775808 ≤ at') (ha2 : at' ≤ 9223372036854775807) (p : Nat) (hp : p < 4294967296) (ht : Tab w) :
    Calls Tryd.prog 10 #[v, .int .i64 at', .int .u32 p] w fun e w1 => e = .returned (.bool true) ∧ Below w.heap.size w w1 := by
  unfold maxLen at hm
  obtain ⟨A, cap, hv, hcap⟩ := hs.le
  obtain ⟨n, hn⟩ : ∃ n, L.length = n := ⟨_, rfl⟩
  rw [hn] at hv hm hcap
  by_cases hL : n ≤ 1000
  · have hl0 : (n : Int) ≤ 1000 := by omega
    by_cases hp0 : p = 0
    · have hpz : ((p : Int) == 0) = true := by simp [hp0]
      subst hv
      clear hs hn ht hp0
      go_enter Tryd.func10, Tryd.ntmps10
      go_wp2
      go_ret
      exact ⟨rfl, Below.refl _ _⟩
    · have hpz : ((p : Int) == 0) = false := by simp; omega
      by_cases hneg : at' < 0
      · subst hv
        clear hs hn ht hp0
        go_enter Tryd.func10, Tryd.ntmps10
        go_wp2
        go_ret
        exact ⟨rfl, Below.refl _ _⟩
      · obtain ⟨a, rfl⟩ : ∃ a : Nat, at' = a := ⟨at'.toNat, by omega⟩
        have ha0 : (0 : Int) ≤ a := by omega
        by_cases hbig : 8 * (n : Int) + 32 ≤ (a : Int)
        · subst hv
          clear hs hn ht hp0
          go_enter Tryd.func10, Tryd.ntmps10
          go_wp2
          go_ret
          exact ⟨rfl, Below.refl _ _⟩
        · have hsm : (a : Int) < 8 * (n : Int) + 32 := by omega
          have hseal := seal_any hs (by omega) ht
          have hlen := seal_len L
          rw [hn] at hlen
          have HSEAL := Lib.hid hseal
          have HT := Lib.hid ht
          have HLEN := Lib.hid hlen
          have HN := Lib.hid hn
          have HP := Lib.hid hp0
          subst hv
          clear hs hn ht hp0 hseal hlen
          go_enter Tryd.func10, Tryd.ntmps10
          go_wp2_with fail
          refine HSEAL.out.mono ?_
          rintro e w1 ⟨v1, rfl, hown, hb1⟩
          obtain ⟨g, cap1, hv1, hg, hbat⟩ := bat_own hown (by rw [HLEN.out]; omega)
          rw [HLEN.out] at hv1
          subst hv1
          have HB1 := Lib.hid hb1
          have HBAT := Lib.hid hbat
          clear hown hb1 hbat
          go_wp2_with fail
          go_loopw [8, 9] (fun v8 v9 wr => ∃ (c i : Nat) (B : List UInt8), v8 = .int .i64 c ∧ c ≤ i ∧ v9 = .int .i64 i ∧ i ≤ 32 ∧ a + i ≤ 8 * (n + 4) ∧ BAt g cap1 B wr ∧ Below w.heap.size w wr ∧ B.length = n + 4 ∧ Hid (leN B = leN (sealL L) ^^^ 2 ^ a * (p % 2 ^ i)) ∧ Hid (c = 0 ↔ p % 2 ^ i = 0)) (fun _ v9 _ => 32 - (intOf v9).toNat)
          case atStart => exact ⟨0, 0, sealL L, rfl, Nat.le_refl _, rfl, Nat.zero_le _, by omega, HBAT.out, HB1.out, HLEN.out, (by rw [Nat.pow_zero, Nat.mod_one, Nat.mul_zero, Nat.xor_zero] : leN (sealL L) = leN (sealL L) ^^^ 2 ^ a * (p % 2 ^ 0)), (by rw [Nat.pow_zero, Nat.mod_one] : (0 : Nat) = 0 ↔ p % 2 ^ 0 = 0)⟩
          case round =>
            obtain ⟨c, i, B, rfl, hci, rfl, hi, hai, hbat, hb, hBl, HE, HC⟩ := hrel
            by_cases hlt : i < 32 ∧ a + i < 8 * (n + 4)
            · obtain ⟨hi32, hq8⟩ := hlt
              obtain ⟨q, hq⟩ : ∃ q, a + i = q := ⟨_, rfl⟩
              have hqi : (a : Int) + (i : Int) = (q : Int) := by omega
              have hq2 : (q : Int) < 8 * ((n : Int) + 4) := by omega
              have hqn : q / 8 < B.length := by omega
              have cb := hbat.cell (q / 8) hqn
              have fb := hbat.frozen (q / 8)
              by_cases hbit : p / 2 ^ i % 2 = 1
              · have hand : bits .and .u32 ((p : Int) / 2 ^ i) 1 = 1 := by rw [and_bit p i hp, hbit]; rfl
                have hst := hbat.store (q / 8) (B[q / 8] ^^^ UInt8.ofNat (2 ^ (q % 8)))
                rw [← flip_byte] at hst
                have hle : leN (B.set (q / 8) (B[q / 8]'hqn ^^^ UInt8.ofNat (2 ^ (q % 8)))) = leN B ^^^ 2 ^ q := leN_flip B q (by omega)
                have hbs := burst_step (leN (sealL L)) a p i
                rw [if_pos hbit, hq] at hbs
                rw [HE.out, ← hbs] at hle
                have HLE := Lib.hid hle
                have HST := Lib.hid hst
                have HB := Lib.hid (hb.setCell (p := ⟨g, q / 8, none⟩) hg (.int .u8 (bits .xor .u8 ((B[q / 8].toNat : Nat) : Int) (2 ^ (q % 8) % 256))))
                have HBL := Lib.hid ((List.length_set ..).trans hBl : (B.set (q / 8) (B[q / 8] ^^^ UInt8.ofNat (2 ^ (q % 8)))).length = n + 4)
                have HLN := Lib.hid (low_ne p i hbit)
                have hai' : a + (i + 1) ≤ 8 * (n + 4) := by omega
                clear hq hbat hb hBl hst hle hbs hbit HE HC hai
                go_wp2_with fail
                exact ⟨⟨c + 1, i + 1, _, by go_num, by omega, by go_num, by omega, hai', HST.out, HB.out, HBL.out, HLE, Lib.hid ⟨fun h => absurd h (Nat.succ_ne_zero c), fun h => absurd h HLN.out⟩⟩, by simp only [intOf]; omega⟩
              · have hand : bits .and .u32 ((p : Int) / 2 ^ i) 1 = 0 := by
                  rw [and_bit p i hp, show p / 2 ^ i % 2 = 0 by omega]; rfl
                have hlow := low_eq p i hbit
                rw [← hlow] at HE HC
                have HBATR := Lib.hid hbat
                have HB := Lib.hid hb
                have HBL := Lib.hid hBl
                have hai' : a + (i + 1) ≤ 8 * (n + 4) := by omega
                clear hq hbat hb hBl hbit hai hlow cb fb
                go_wp2_with fail
                exact ⟨⟨c, i + 1, B, rfl, by omega, by go_num, by omega, hai', HBATR.out, HB.out, HBL.out, HE, HC⟩, by simp only [intOf]; omega⟩
            · have htr := HT.out.below hb HT.out.pos
              have HAW := Lib.hid (awake_any htr htr.pos)
              have HB := Lib.hid hb
              by_cases hc0 : c = 0
              · subst hc0
                clear hbat hBl HE HC htr hb
                by_cases hi32 : i < 32
                · have hend : 8 * ((n : Int) + 4) ≤ (a : Int) + i := by omega
                  clear hlt
                  go_wp2_with fail
                  refine HAW.out.mono ?_
                  rintro e w4 ⟨rfl, hb4⟩
                  have HB4 := Lib.hid (HB.out.trans (hb4.mono HB.out.size))
                  clear hb4
                  go_wp2
                  go_ret
                  exact ⟨rfl, HB4.out⟩
                · have hi' : (32 : Int) ≤ i := by omega
                  clear hlt
                  go_wp2_with fail
                  refine HAW.out.mono ?_
                  rintro e w4 ⟨rfl, hb4⟩
                  have HB4 := Lib.hid (HB.out.trans (hb4.mono HB.out.size))
                  clear hb4
                  go_wp2
                  go_ret
                  exact ⟨rfl, HB4.out⟩
              · have hpi : ¬ p % 2 ^ i = 0 := fun h => hc0 (HC.out.2 h)
                have hsb := hbat.sees
                have hlL : (sealL L).length = (sealL (B.take n)).length := by rw [HLEN.out, seal_len, List.length_take]; omega
                have hun := unseal_long hsb n hBl (by omega) htr (fun r w' => r = .tuple #[.slice none 0 0, .int .i64 9] ∧ Below wr.heap.size wr w')
                  (fun _ w' h => ⟨rfl, h⟩) (fun hok => absurd (no_burst L (B.take n) hlL (p % 2 ^ i) a (Nat.lt_of_le_of_lt (Nat.mod_le _ _) hp) hpi (by rw [HLEN.out]; omega) (by rw [hok]; exact HE.out)) id)
                rw [hBl] at hun
                have HUN := Lib.hid hun
                have HTR := Lib.hid htr
                have hcz : ((c : Int) == 0) = false := by simp; omega
                clear hbat hBl HE HC htr hb hsb hlL hun hpi hc0
                by_cases hi32 : i < 32
                · have hend : 8 * ((n : Int) + 4) ≤ (a : Int) + i := by omega
                  clear hlt
                  go_wp2_with fail
                  refine HUN.out.mono ?_
                  rintro e w4 ⟨r, rfl, rfl, hb4⟩
                  have HB4 := Lib.hid (HB.out.trans (hb4.mono HB.out.size))
                  have HT4 := Lib.hid (HTR.out.below hb4 HTR.out.pos)
                  clear hb4
                  go_wp2_with fail
                  refine (awake_any HT4.out HT4.out.pos).mono ?_
                  rintro e w5 ⟨rfl, hb5⟩
                  have HB5 := Lib.hid (HB4.out.trans (hb5.mono HB4.out.size))
                  clear hb5
                  go_wp2
                  go_ret
                  exact ⟨rfl, HB5.out⟩
                · have hi' : (32 : Int) ≤ i := by omega
                  clear hlt
                  go_wp2_with fail
                  refine HUN.out.mono ?_
                  rintro e w4 ⟨r, rfl, rfl, hb4⟩
                  have HB4 := Lib.hid (HB.out.trans (hb4.mono HB.out.size))
                  have HT4 := Lib.hid (HTR.out.below hb4 HTR.out.pos)
                  clear hb4
                  go_wp2_with fail
                  refine (awake_any HT4.out HT4.out.pos).mono ?_
                  rintro e w5 ⟨rfl, hb5⟩
                  have HB5 := Lib.hid (HB4.out.trans (hb5.mono HB4.out.size))
                  clear hb5
                  go_wp2
                  go_ret
                  exact ⟨rfl, HB5.out⟩
  · have hl0 : (1000 : Int) < n := by omega
    subst hv
    clear hs hn ht
    go_enter Tryd.func10, Tryd.ntmps10
    go_wp2
    go_ret
    exact ⟨rfl, Below.refl _ _⟩

theorem own : ownKnob Tryd.prog.godebug = none := by kernel_rfl

set_option maxRecDepth 100000 in
theorem lifted (os : Os) (started : os.Started) (H : Type) (enc : TypeId × Value → H) :
    ReturnsInHanded {} Tryd.checked os 10 .any (fun w args => (Rows.checksumBurstsSpec.pre enc Tryd.prog Tryd.f10 [] false w args ∧ laidMetH Tryd.prog Rows.checksumBurstsRow.laid w) ∧ sizedMet enc Tryd.prog Tryd.f10 (OpenSpec.ofChange Rows.checksumBurstsSpec) false w args)
      (Rows.checksumBurstsSpec.post enc Tryd.prog Tryd.f10 false true false false) := by
  refine returnsInHanded_of_change_and (C := Tryd.checked) (X := fun w _ => laidMetH Tryd.prog Rows.checksumBurstsRow.laid w) (fun _ _ _ hh h => h.of_heap hh) own started (by kernel_rfl) Tryd.func10
    (ChangeSpec.witness_shaped (enc := enc) (C := Tryd.checked) (os := os) (X := fun w _ => laidMetH Tryd.prog Rows.checksumBurstsRow.laid w) false (World.doorLaid Tryd.prog 400 os) #[.slice none 0 0, .int .i64 0, .int .u32 0] 8 rfl (World.shaped_of_RefB (by kernel_rfl) (by kernel_rfl)) (by kernel_rfl) (by kernel_rfl) (by kernel_rfl) (door_met os _)) ?_
  intro W base args ds gs before hval0 hW _ _ hL _
  have hval : ∀ (j : Nat) t v, Tryd.f10.params[j]? = some t → args[j]? = some v → Value.okWide Tryd.prog W .any base t v := hval0
  have hW' := hW
  have hplt : ∀ x ∈ before, x.block < W.heap.size := fun x hx => hW.lt x hx
  obtain ⟨p, q, hA0, hV, rfl, hfz, hnd⟩ := hW
  have hA : DataW.TrodAll enc Tryd.prog W 0 (fun _ => true) true Tryd.f10.params.toList args.toList ds p := hA0
  rw [Tryd.params10] at hA hval
  obtain ⟨v0, vs0, d0, ds0, p0, q0, hargs, rfl, rfl, h0, r0⟩ := trodAll_cons hA
  obtain ⟨v1, vs1, d1, ds1, p1, q1, rfl, rfl, rfl, h1, r1⟩ := trodAll_cons r0
  obtain ⟨v2, vs2, d2, ds2, p2, q2, rfl, rfl, rfl, h2, r2⟩ := trodAll_cons r1
  obtain ⟨rfl, rfl, rfl⟩ := trodAll_nil r2
  obtain rfl : args = #[v0, v1, v2] := by cases args; simp_all
  obtain ⟨rfl, rfl⟩ := trodVars_none hV
  obtain ⟨L0, s0, m0⟩ := open_bytes (hval 0 22 v0 rfl rfl) h0
  obtain ⟨x1, rfl, m1, n1⟩ := open_i64 (hval 1 3 v1 rfl rfl) h1
  obtain ⟨x2, rfl, m2⟩ := open_u32 (hval 2 23 v2 rfl rfl) h2
  clear hA0 hval0
  refine (walk v0 L0 s0 m0 x1 m1 n1 x2 m2 (tab_of_laid hL)).mono fun e W' ⟨he, bel⟩ => ?_
  subst he
  exact ⟨_, rfl, _, _, _, [], _, [], hW', trodAll_mk1 (shut_bool Tryd.underlying4 _), (trodAll_cons_mk (Below.trod Tryd.laidOut (by kernel_rfl) (of_decide_eq_true (by kernel_rfl)) h0 bel (fun x hx => hplt x (by simp [hx]))) (trodAll_cons_mk (Below.trod Tryd.laidOut (by kernel_rfl) (of_decide_eq_true (by kernel_rfl)) h1 bel (fun x hx => hplt x (by simp [hx]))) (trodAll_cons_mk (Below.trod Tryd.laidOut (by kernel_rfl) (of_decide_eq_true (by kernel_rfl)) h2 bel (fun x hx => hplt x (by simp [hx]))) trodAll_mk0))), rfl, World.keptBut_mono (fun x hx => ⟨hx, Or.inr (by simpa using hx)⟩) (bel.frame (· ∈ _)), fun h => by cases h⟩

theorem over : Rows.checksumBurstsRow.holds Tryd.pinned (OpenSpec.ofChange Rows.checksumBurstsSpec) :=
  OpenClaim.holds_of_wide 10 Tryd.f10 rfl rfl rfl rfl rfl rfl rfl ⟨rfl, rfl, rfl, rfl, rfl⟩ rfl rfl rfl rfl rfl (by kernel_rfl) Tryd.func10 (by kernel_rfl)
    (of_decide_eq_true (by kernel_rfl)) (by unfold Func.isWrapper; first | (rw [if_pos (by decide +kernel)]; kernel_rfl) | (rw [if_neg (by decide +kernel)]; exact ⟨rfl, rfl⟩))
    (fun os started H enc _ => lifted os started H enc)

/-- THE STATEMENT: the tied card. -/
theorem proved : Rows.ChecksumBurstsCardSaid :=
  Claim7.holds_tied_plain_at .later [] Rows.checksumBurstsCard.laidKinds true Rows.checksumBurstsCard.stood.harness Rows.checksumBurstsCard.stood.looks
    over (fun _ h => by cases h) (by kernel_rfl) (fun _ h => by cases h) checksumBursts_row_tie rfl ⟨rfl, rfl⟩ (by kernel_rfl) rfl
    (fun f fn hf hfn => by
      obtain rfl : f = 10 := Option.some.inj ((show Tryd.prog.funcNamed "corpora/corporalaw03.ChecksumBursts" = some 10 by kernel_rfl).symm.trans hf) |>.symm
      obtain rfl : fn = Tryd.f10 := (Option.some.inj (Tryd.func10.symm.trans hfn)).symm
      exact ⟨by kernel_rfl, fun j t ht => by
        rw [Tryd.params10] at ht
        have hm : t ∈ [22, 3, 23] := by simpa using Array.mem_of_getElem? ht
        have hall : ([22, 3, 23].all fun u => !Tryd.prog.wantsStandIn u) = true := by kernel_rfl
        exact (show Tryd.prog.wantsStandIn t = false by simpa using List.all_eq_true.1 hall t hm)⟩)
    (by kernel_rfl)
end Go.Proofs.YtgclmiheahfakaaDoor.checksumBursts
