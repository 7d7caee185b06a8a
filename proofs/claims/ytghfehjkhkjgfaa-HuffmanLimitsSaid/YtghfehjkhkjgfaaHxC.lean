/-
  HuffmanLimits is proved: for every list of numbers and every number and every number the call of the law returns true, and each argument reads afterwards as it read before. It has no condition.
-/
import Derived.Test.YtghfehjkhkjgfaaRows
import Derived.Test.YtghfehjkhkjgfaaHoO
import Derived.Test.YtghfehjkhkjgfaaHuT
import Derived.ProofKit
import Derived.OpenShut
import Derived.Carry
namespace Go.Proofs.Ytghfehjkhkjgfaa.huffmanLimits
open Go.ChangeShapes Go.WideShapes Go.ChangeAt Go.RowKit Go.Shelf Go.Lib
set_option linter.unusedVariables false

/-- The greatest of the first i. -/
def mxF (g : Nat → Nat) : Nat → Nat
  | 0 => 0
  | i + 1 => max (mxF g i) (g i)
theorem mxF_le {g : Nat → Nat} {M : Nat} (h : ∀ s, g s ≤ M) : ∀ i, mxF g i ≤ M
  | 0 => Nat.zero_le _
  | i + 1 => by have := mxF_le h i; have := h i; unfold mxF; omega
theorem mxF_ge {g : Nat → Nat} {s : Nat} : ∀ {i : Nat}, s < i → g s ≤ mxF g i
  | 0, h => absurd h (by omega)
  | i + 1, h => by
    unfold mxF
    rcases Nat.lt_or_ge s i with h2 | h2
    · have := mxF_ge (g := g) h2; omega
    · rw [show s = i by omega]; omega
theorem huf_15 {cs : List Int} {l : Nat} (h1 : 1 ≤ l) (h2 : l ≤ 15) (h3 : presN cs ≤ 2 ^ l) (s : Nat) : hufL (cN cs) (preS cs 0) l s ≤ 15 := by
  have h4 : (preS cs 0).length ≤ 2 ^ l := by rw [preS_len]; exact h3
  by_cases h : s ∈ preS cs 0
  · have := huf_le (c := cN cs) (preS_nodup cs 0) h1 h4 h; omega
  · rw [huf_out (preS_nodup cs 0) h1 h4 h]; omega
theorem sumP_mul {cs : List Int} {g : Nat → Nat} {i x : Nat} (h : cs[i]? = some (x : Int)) : sumP cs (fun s => cN cs s * g s) (i + 1) = sumP cs (fun s => cN cs s * g s) i + x * g i := by
  rw [sumP_step h]
  have hx : cN cs i = x := by unfold cN; rw [List.getD_eq_getElem?_getD, h]; simp
  by_cases hc : 0 < (x : Int)
  · rw [if_pos hc, hx]
  · rw [if_neg hc, show x = 0 by omega, Nat.zero_mul]
set_option maxRecDepth 100000 in
set_option maxHeartbeats 8000000 in
theorem walk {w : World} (v : Value) (cs : List Int) (hv : Rows 1 EInt w v cs) (hm : cs.length ≤ maxLen) (_ : ∀ x ∈ cs, -9223372036854775808 ≤ x ∧ x ≤ 9223372036854775807)
    (lim : Int) (hl0 : -9223372036854775808 ≤ lim) (hl1 : lim ≤ 9223372036854775807) (more : Int) (_ : -9223372036854775808 ≤ more) (_ : more ≤ 9223372036854775807) :
    Calls Try.prog 11 #[v, .int .i64 lim, .int .i64 more] w fun e w1 => e = .returned (.bool true) ∧ Below w.heap.size w w1 := by
  have HLE := Lib.hid (lengths_any hv hm lim hl0 hl1)
  have HLF := Lib.hid (fun (W : World) (hb : Below w.heap.size w W) (lm : Int) (h0 : -9223372036854775808 ≤ lm) (h1 : lm ≤ 9223372036854775807) => lengths_any (hv.below stays_int hb) hm lm h0 h1)
  have HCK := Lib.hid (refCheck_any hv hm lim hl0 hl1)
  have HV := Lib.hid (fun W (hb : Below w.heap.size w W) => hv.below stays_int hb)
  have HA := Lib.hid (fun (W : World) => awake_any W)
  obtain ⟨A, cap, rfl, hc⟩ := hv.form
  obtain ⟨n, hn⟩ : ∃ n, cs.length = n := ⟨_, rfl⟩
  rw [hn] at HLE HLF HCK HV hm ⊢
  unfold maxLen at hm
  have HN := Lib.hid hn
  clear hv hc hn
  go_enter Try.func11, Try.ntmps11
  by_cases hbig : 30 < n
  · have hI : (30 : Int) < (n : Int) := by omega
    have b1 : decide ((n : Int) > 30) = true := decide_eq_true hI
    have b2 : decide (30 < n) = true := decide_eq_true hbig
    go_wp2_with fail
    go_ret
    exact ⟨rfl, Below.refl _ _⟩
  · have hI : ¬ (30 : Int) < (n : Int) := by omega
    have b1 : decide ((30 : Int) < (n : Int)) = false := decide_eq_false hI
    have b2 : decide (30 < n) = false := decide_eq_false hbig
    by_cases hs1 : more < 0
    · have b3 : decide (more < 0) = true := decide_eq_true hs1
      go_wp2_with fail
      go_ret
      exact ⟨rfl, Below.refl _ _⟩
    · have b3 : decide (more < 0) = false := decide_eq_false hs1
      by_cases hs2 : 15 < more
      · have b4 : decide (more > 15) = true := decide_eq_true hs2
        go_wp2_with fail
        go_ret
        exact ⟨rfl, Below.refl _ _⟩
      · have b4 : decide (more > 15) = false := decide_eq_false hs2
        by_cases hz : chkH cs lim = 0
        · obtain ⟨l, rfl, h1, h2, h3, h4, h5⟩ := chk_zero hz
          obtain ⟨m, rfl⟩ : ∃ m : Nat, more = m := ⟨more.toNat, by omega⟩
          rw [hz] at HCK
          obtain ⟨j, hj⟩ : ∃ j, l + m = j := ⟨_, rfl⟩
          have k1 : wrap64 ((l : Int) + (m : Int)) = (j : Int) := by unfold wrap64; omega
          have b4' : decide (15 < m) = false := decide_eq_false (by omega)
          by_cases hs3 : 15 < j
          · have b5 : decide ((j : Int) > 15) = true := decide_eq_true (by omega)
            have b5' : decide (15 < j) = true := decide_eq_true hs3
            clear hz h1 h2 h3 h4 h5 hl0 hl1 HLE HLF
            go_wp2_with fail
            refine HCK.out.mono ?_
            rintro e w1 ⟨rfl, rfl⟩
            go_wp2_with fail
            go_ret
            exact ⟨rfl, Below.refl _ _⟩
          · have b5 : decide ((j : Int) > 15) = false := decide_eq_false (by omega)
            have b5' : decide (15 < j) = false := decide_eq_false hs3
            have h5j : presN cs ≤ 2 ^ j := Nat.le_trans h5 (Nat.pow_le_pow_right (by omega) (by omega))
            have hzj : chkH cs (j : Int) = 0 := by
              have hz' := hz
              unfold chkH at hz' ⊢
              rw [if_neg (by omega)] at hz'
              rw [if_neg (by omega)]
              by_cases c2 : 1024 < cs.length
              · rw [if_pos c2] at hz'; omega
              · rw [if_neg c2] at hz' ⊢
                by_cases c3 : cs.any badC = true
                · rw [if_pos c3] at hz'; omega
                · rw [if_neg c3, if_neg (by rw [Int.toNat_natCast]; omega)]
            have HZ := Lib.hid (And.intro hz hzj)
            have HLL := Lib.hid (And.intro h1 (And.intro h2 (And.intro h5 (And.intro h5j (show l ≤ j by omega)))))
            have H4 := Lib.hid h4
            have HJ := Lib.hid (show j ≤ 15 by omega)
            clear hz h1 h2 h3 h4 h5 hl0 hl1 hzj h5j hj hbig hs1 hs2 hs3
            go_wp2_with fail
            refine HCK.out.mono ?_
            rintro e w1 ⟨rfl, rfl⟩
            go_wp2_with fail
            refine HLE.out.mono ?_
            rintro e w2 ⟨hb, h⟩
            have hlv : ∃ v3, e = .returned (.tuple #[v3, .int .i64 0]) ∧ Rows 1 EInt w2 v3 (hufLs cs l) := by
              rcases h with ⟨h, _⟩ | ⟨_, v3, h, hr⟩
              · exact absurd HZ.out.1 h
              · exact ⟨v3, h, hr⟩
            obtain ⟨v3, rfl, hr3⟩ := hlv
            obtain ⟨A3, c3, rfl, -⟩ := hr3.form
            rw [hufLs_len, HN.out] at hr3 ⊢
            have HB := Lib.hid hb
            have HR3 := Lib.hid (fun W (hb : Below w2.heap.size w2 W) => hr3.below stays_int hb)
            have HL2 := Lib.hid (HLF.out w2 hb (j : Int) (by have := HJ.out; omega) (by have := HJ.out; omega))
            clear hb h hr3 HLE HLF HCK
            go_wp2_with fail
            refine HL2.out.mono ?_
            rintro e w3 ⟨hb, h⟩
            have hlv : ∃ v4, e = .returned (.tuple #[v4, .int .i64 0]) ∧ Rows 1 EInt w3 v4 (hufLs cs j) := by
              rcases h with ⟨h, _⟩ | ⟨_, v4, h, hr⟩
              · exact absurd HZ.out.2 h
              · exact ⟨v4, h, hr⟩
            obtain ⟨v4, rfl, hr4⟩ := hlv
            obtain ⟨A4, c4, rfl, -⟩ := hr4.form
            rw [hufLs_len, HN.out] at hr4 ⊢
            have HB3 := Lib.hid (HB.out.trans (hb.mono HB.out.size))
            have R1 := Lib.hid (HV.out w3 HB3.out)
            have R3 := Lib.hid (HR3.out w3 hb)
            have R4 := Lib.hid hr4
            obtain ⟨C, hC⟩ : ∃ C : Nat → Nat, ∀ i, sumP cs (fun s => cN cs s * hufL (cN cs) (preS cs 0) l s) i = C i := ⟨_, fun _ => rfl⟩
            obtain ⟨D, hD⟩ : ∃ D : Nat → Nat, ∀ i, sumP cs (fun s => cN cs s * hufL (cN cs) (preS cs 0) j s) i = D i := ⟨_, fun _ => rfl⟩
            obtain ⟨M, hM⟩ : ∃ M : Nat → Nat, ∀ i, mxF (hufL (cN cs) (preS cs 0) j) i = M i := ⟨_, fun _ => rfl⟩
            have hA15 : ∀ s, hufL (cN cs) (preS cs 0) l s ≤ 15 := huf_15 HLL.out.1 HLL.out.2.1 HLL.out.2.2.1
            have hB15 : ∀ s, hufL (cN cs) (preS cs 0) j s ≤ 15 := huf_15 (Nat.le_trans HLL.out.1 HLL.out.2.2.2.2) HJ.out HLL.out.2.2.2.1
            have hcN : ∀ s, cN cs s ≤ 4096 := fun s => by
              unfold cN
              rw [List.getD_eq_getElem?_getD]
              cases e : cs[s]? with
              | none => simp
              | some c => have := H4.out c (List.mem_of_getElem? e); rw [Option.getD_some]; omega
            have hCB : ∀ i, i ≤ 30 → C i ≤ 1843200 := fun i hi => by
              rw [← hC]
              refine Nat.le_trans (sumP_bound (M := 61440) (fun s hs => ?_) i) (Nat.le_trans (Nat.mul_le_mul_right _ hi) (by decide))
              exact Nat.le_trans (Nat.mul_le_mul (hcN s) (hA15 s)) (by decide)
            have hDB : ∀ i, i ≤ 30 → D i ≤ 1843200 := fun i hi => by
              rw [← hD]
              refine Nat.le_trans (sumP_bound (M := 61440) (fun s hs => ?_) i) (Nat.le_trans (Nat.mul_le_mul_right _ hi) (by decide))
              exact Nat.le_trans (Nat.mul_le_mul (hcN s) (hB15 s)) (by decide)
            have HSTEP := Lib.hid (show ∀ (i x : Nat), cs[i]? = some (x : Int) → ∃ a b, (hufLs cs l)[i]? = some ((a : Nat) : Int) ∧ (hufLs cs j)[i]? = some ((b : Nat) : Int) ∧ a ≤ 15 ∧ b ≤ 15 ∧ x ≤ 4096 ∧ C (i + 1) = C i + x * a ∧ D (i + 1) = D i + x * b ∧ M (i + 1) = max (M i) b from fun i x hx => by
              have hi := (List.getElem?_eq_some_iff.1 hx).1
              have h4 := H4.out _ (List.mem_of_getElem? hx)
              refine ⟨_, _, hufLs_at hi, hufLs_at hi, hA15 i, hB15 i, by omega, ?_, ?_, ?_⟩
              · rw [← hC, ← hC]; exact sumP_mul hx
              · rw [← hD, ← hD]; exact sumP_mul hx
              · rw [← hM, ← hM]; rfl)
            have hMB : ∀ i, M i ≤ 15 := fun i => by rw [← hM]; exact mxF_le hB15 i
            have hC0 : C 0 = 0 := by rw [← hC, sumP_zero]
            have hD0 : D 0 = 0 := by rw [← hD, sumP_zero]
            have hM0 : M 0 = 0 := by rw [← hM]; rfl
            have HEND : Hid (D n ≤ C n ∧ (M n ≤ l → C n ≤ D n)) := Lib.hid (by
              rw [← hC, ← hD, ← HN.out, sumP_all, sumP_all]
              have hlen : (preS cs 0).length ≤ 2 ^ l := by rw [preS_len]; exact HLL.out.2.2.1
              refine ⟨huf_longer (preS_nodup cs 0) HLL.out.1 HLL.out.2.2.2.2 hlen, fun hle => huf_stay (preS_nodup cs 0) HLL.out.1 HLL.out.2.2.2.2 hlen fun s hs => ?_⟩
              obtain ⟨_, c, q1, _⟩ := preS_ge cs 0 s hs
              rw [Nat.sub_zero] at q1
              have := mxF_ge (g := hufL (cN cs) (preS cs 0) j) (List.getElem?_eq_some_iff.1 q1).1
              rw [hM] at this
              omega)
            have HCB := Lib.hid hCB
            have HDB := Lib.hid hDB
            have HMB := Lib.hid hMB
            have hnn : ((n : Int) != (n : Int)) = false := by simp
            clear hb h hr4 HL2 hC hD hM hA15 hB15 hcN hCB hDB hMB HR3
            go_wp2_with fail
            go_loopw [11, 12, 13, 75] (fun xv yv mv sv wr => wr = w3 ∧ ∃ i : Nat, i ≤ n ∧ sv = .int .i64 i ∧ xv = .int .i64 (C i : Nat) ∧ yv = .int .i64 (D i : Nat) ∧ mv = .int .i64 (M i : Nat)) (fun _ _ _ sv _ => n - (Go.RowKit.intOf sv).toNat)
            case atStart => exact ⟨rfl, 0, Nat.zero_le _, rfl, by rw [hC0]; rfl, by rw [hD0]; rfl, by rw [hM0]; rfl⟩
            case round =>
              obtain ⟨rfl, i, hi, rfl, rfl, rfl, rfl⟩ := hrel
              by_cases hlt : i < n
              · have hlti : (i : Int) < (n : Int) := by omega
                obtain ⟨c, hcx⟩ : ∃ c, cs[i]? = some c := ⟨_, List.getElem?_eq_getElem (by rw [HN.out]; exact hlt)⟩
                have h4 := H4.out c (List.mem_of_getElem? hcx)
                obtain ⟨x, rfl⟩ : ∃ x : Nat, c = x := ⟨c.toNat, by omega⟩
                obtain ⟨a, b, ha, hbx, ha15, hb15, hx4, s1, s2, s3⟩ := HSTEP.out i x hcx
                obtain ⟨bb1, o1, rfl, -, hj1⟩ := at_int R1.out (by rw [HN.out]; omega)
                obtain ⟨bb3, o3, rfl, -, hj3⟩ := at_int R3.out (by rw [hufLs_len, HN.out]; omega)
                obtain ⟨bb4, o4, rfl, -, hj4⟩ := at_int R4.out (by rw [hufLs_len, HN.out]; omega)
                have u1 := hj1 i _ hcx
                have u3 := hj3 i _ ha
                have u4 := hj4 i _ hbx
                obtain ⟨xa, hxa⟩ : ∃ y, x * a = y := ⟨_, rfl⟩
                obtain ⟨xb, hxb⟩ : ∃ y, x * b = y := ⟨_, rfl⟩
                have hxa1 : xa ≤ 61440 := by rw [← hxa]; exact Nat.le_trans (Nat.mul_le_mul hx4 ha15) (by decide)
                have hxb1 : xb ≤ 61440 := by rw [← hxb]; exact Nat.le_trans (Nat.mul_le_mul hx4 hb15) (by decide)
                rw [hxa] at s1
                rw [hxb] at s2
                have m1 := wrap_mulN hxa (Nat.le_trans hxa1 (by decide))
                have m2 := wrap_mulN hxb (Nat.le_trans hxb1 (by decide))
                have m3 := wrap_addN s1 (Nat.le_trans (Nat.le_of_eq s1) (Nat.le_trans (Nat.add_le_add (HCB.out i (by omega)) hxa1) (by decide)))
                have m4 := wrap_addN s2 (Nat.le_trans (Nat.le_of_eq s2) (Nat.le_trans (Nat.add_le_add (HDB.out i (by omega)) hxb1) (by decide)))
                have m5 : max ((M i : Nat) : Int) (b : Int) = ((M (i + 1) : Nat) : Int) := by rw [s3]; omega
                clear hcx h4 ha hbx ha15 hb15 hx4 s1 s2 s3 hj1 hj3 hj4 hxa hxb hxa1 hxb1
                go_wp2_with fail
                exact ⟨⟨trivial, i + 1, by omega, by go_num, (by first | rfl | rw [m3]), (by first | rfl | rw [m4]), (by first | rfl | rw [m5])⟩, by simp only [Go.RowKit.intOf]; omega⟩
              · obtain rfl : i = n := by omega
                have hlti : ¬ (i : Int) < (i : Int) := by omega
                have HAW := Lib.hid (HA.out wr)
                have hle := HEND.out.1
                obtain ⟨x, hx⟩ : ∃ x, C i = x := ⟨_, rfl⟩
                obtain ⟨y, hy⟩ : ∃ y, D i = y := ⟨_, rfl⟩
                obtain ⟨z, hz⟩ : ∃ z, M i = z := ⟨_, rfl⟩
                rw [hx, hy] at hle HEND
                rw [hz] at HEND
                rw [hx, hy, hz]
                have g1 : decide ((y : Int) ≤ (x : Int)) = true := decide_eq_true (by omega)
                have g2 : decide (y ≤ x) = true := decide_eq_true hle
                clear hx hy hz
                by_cases hgt : l < z
                · have g3 : decide ((z : Int) > (l : Int)) = true := decide_eq_true (by omega)
                  have g4 : decide (l < z) = true := decide_eq_true hgt
                  clear HEND hle hgt
                  go_wp2_with fail
                  refine HAW.out.mono ?_
                  rintro e w4 ⟨rfl, hb4⟩
                  have HE2 := Lib.hid (HB3.out.trans (hb4.mono HB3.out.size))
                  clear hb4
                  go_wp2_with fail
                  go_ret
                  exact ⟨rfl, HE2.out⟩
                · have g3 : decide ((z : Int) > (l : Int)) = false := decide_eq_false (by omega)
                  have g4 : decide (l < z) = false := decide_eq_false hgt
                  obtain rfl : x = y := by have := HEND.out.2 (by omega); omega
                  have g5 : ((x : Int) == (x : Int)) = true := by simp
                  clear HEND hle hgt
                  go_wp2_with fail
                  refine HAW.out.mono ?_
                  rintro e w4 ⟨rfl, hb4⟩
                  have HE2 := Lib.hid (HB3.out.trans (hb4.mono HB3.out.size))
                  clear hb4
                  go_wp2_with fail
                  go_ret
                  exact ⟨rfl, HE2.out⟩
        · have hne : (chkH cs lim != 0) = true := by simpa using hz
          obtain ⟨r, hr⟩ : ∃ r, chkH cs lim = r := ⟨_, rfl⟩
          rw [hr] at HCK hne
          clear hr hz
          go_wp2_with fail
          refine HCK.out.mono ?_
          rintro e w1 ⟨rfl, rfl⟩
          go_wp2_with fail
          go_ret
          exact ⟨rfl, Below.refl _ _⟩

theorem own : ownKnob Try.prog.godebug = none := by kernel_rfl

set_option maxRecDepth 100000 in
theorem lifted (os : Os) (started : os.Started) (H : Type) (enc : TypeId × Value → H) :
    ReturnsInHanded {} Try.checked os 11 .any (Rows.huffmanLimitsSpec.pre6 enc Try.prog Try.f11 Rows.huffmanLimitsRow.domain false) (Rows.huffmanLimitsSpec.post enc Try.prog Try.f11 false true false false) := by
  refine returnsInHanded_of_change (C := Try.checked) own started (by kernel_rfl) Try.func11
    (ChangeSpec.witness6 (enc := enc) (C := Try.checked) false ⟨#[], #[.slice none 0 0, .int .i64 0, .int .i64 0], []⟩ 8 (by kernel_rfl) (by kernel_rfl) (by kernel_rfl) (by kernel_rfl)) ?_
  intro W base args ds gs before hval0 hW hcnd _
  have hval : ∀ (j : Nat) t v, Try.f11.params[j]? = some t → args[j]? = some v → Value.okWide Try.prog W .any base t v := hval0
  have hW' := hW
  have hplt : ∀ x ∈ before, x.block < W.heap.size := fun x hx => hW.lt x hx
  obtain ⟨p, q, hA0, hV, rfl, hfz, hnd⟩ := hW
  have hA : DataW.TrodAll enc Try.prog W 0 (fun _ => true) true Try.f11.params.toList args.toList ds p := hA0
  rw [Try.params11] at hA hval
  obtain ⟨v0, vs0, d0, ds0, p0, q0, hargs, rfl, rfl, h0, r0⟩ := trodAll_cons hA
  obtain ⟨v1, vs1, d1, ds1, p1, q1, rfl, rfl, rfl, h1, r1⟩ := trodAll_cons r0
  obtain ⟨v2, vs2, d2, ds2, p2, q2, rfl, rfl, rfl, h2, r2⟩ := trodAll_cons r1
  obtain ⟨rfl, rfl, rfl⟩ := trodAll_nil r2
  obtain rfl : args = #[v0, v1, v2] := by cases args; simp_all
  obtain ⟨rfl, rfl⟩ := trodVars_none hV
  obtain ⟨l0, s0, m0, n0⟩ := open_rowI (hval 0 22 v0 rfl rfl) h0
  obtain ⟨x1, rfl, m1, n1⟩ := open_i64 (hval 1 3 v1 rfl rfl) h1
  obtain ⟨x2, rfl, m2, n2⟩ := open_i64 (hval 2 3 v2 rfl rfl) h2
  clear hA0 hval0
  refine (walk v0 l0 s0 m0 n0 x1 m1 n1 x2 m2 n2).mono fun e W' ⟨he, bel⟩ => ?_
  subst he
  exact ⟨_, rfl, _, _, _, [], _, [], hW', trodAll_mk1 (shut_bool Try.underlying4 _), (trodAll_cons_mk (Below.trod Try.laidOut (by kernel_rfl) (of_decide_eq_true (by kernel_rfl)) h0 bel (fun x hx => hplt x (by simp [hx]))) (trodAll_cons_mk (Below.trod Try.laidOut (by kernel_rfl) (of_decide_eq_true (by kernel_rfl)) h1 bel (fun x hx => hplt x (by simp [hx]))) (trodAll_cons_mk (Below.trod Try.laidOut (by kernel_rfl) (of_decide_eq_true (by kernel_rfl)) h2 bel (fun x hx => hplt x (by simp [hx]))) trodAll_mk0))), rfl, World.keptBut_mono (fun x hx => ⟨hx, Or.inr (by simpa using hx)⟩) (bel.frame (· ∈ _)), fun h => by cases h⟩

theorem over : Rows.huffmanLimitsRow.holds Try.pinned (OpenSpec.ofChange Rows.huffmanLimitsSpec) :=
  OpenClaim.holds_of_wide 11 Try.f11 rfl rfl rfl rfl rfl rfl rfl ⟨rfl, rfl, rfl, rfl, rfl⟩ rfl rfl rfl rfl rfl (by kernel_rfl) Try.func11 (by kernel_rfl)
    (of_decide_eq_true (by kernel_rfl)) (by unfold Func.isWrapper; first | (rw [if_pos (by decide +kernel)]; kernel_rfl) | (rw [if_neg (by decide +kernel)]; exact ⟨rfl, rfl⟩))
    (fun os started H enc _ => lifted os started H enc)

/-- THE STATEMENT. -/
theorem proved : Rows.HuffmanLimitsSaid := over
end Go.Proofs.Ytghfehjkhkjgfaa.huffmanLimits
