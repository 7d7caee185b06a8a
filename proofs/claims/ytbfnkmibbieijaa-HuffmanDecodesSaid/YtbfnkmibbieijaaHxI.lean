/-
  HuffmanDecodes is proved: for every list of numbers and all bytes with two numbers the call of the law returns true, and each argument reads afterwards as it read before. It has no condition.
-/
import Derived.Test.YtbfnkmibbieijaaRows
import Derived.Test.YtbfnkmibbieijaaHpO
import Derived.Test.YtbfnkmibbieijaaHvB
import Derived.Test.YtbfnkmibbieijaaHuS
import Derived.ProofKit
import Derived.OpenShut
import Derived.Carry
namespace Go.Proofs.Ytbfnkmibbieijaa.huffmanDecodes
open Go.ChangeShapes Go.WideShapes Go.ChangeAt Go.RowKit Go.Shelf Go.Lib
set_option linter.unusedVariables false

theorem dcA_len (L : List Nat) (l : List Bool) : ∀ (n p : Nat) (acc : List Nat), (dcA L l n p acc).1.length ≤ acc.length + n := by
  intro n
  induction n with
  | zero => intro p acc; simp [dcA]
  | succ n ih =>
    intro p acc
    rw [dcA_step rfl]
    split
    · have := ih (rdB L l p).2.1 (acc ++ [(rdB L l p).1])
      rw [List.length_append, List.length_singleton] at this
      omega
    · simp
theorem decF_len (cs : List Int) (bs : List UInt8) (bits count : Int) : (decF cs bs bits count).1.length ≤ 4096 := by
  unfold decF
  split
  · simp
  · split
    · simp
    · split
      · simp
      · split
        · simp
        · refine Nat.le_trans (dcA_len _ _ _ _ _) ?_
          simp only [List.length_nil]
          omega
set_option maxRecDepth 100000 in
set_option maxHeartbeats 8000000 in
theorem walk {w : World} (v : Value) (cs : List Int) (hv : Rows 1 EInt w v cs) (hm : cs.length ≤ maxLen) (_ : ∀ x ∈ cs, -9223372036854775808 ≤ x ∧ x ≤ 9223372036854775807)
    (vb : Value) (bs : List UInt8) (bits count : Int) (hs : Sees w w.heap.size vb bs) (hmb : bs.length ≤ maxLen) (hbb : -9223372036854775808 ≤ bits ∧ bits ≤ 9223372036854775807) (hcc : -9223372036854775808 ≤ count ∧ count ≤ 9223372036854775807) :
    Calls Try.prog 11 #[v, .agg #[vb, .int .i64 bits, .int .i64 count]] w fun e w1 => e = .returned (.bool true) ∧ Below w.heap.size w w1 := by
  have HA := Lib.hid (fun (W : World) => awake_any W)
  have HM := Lib.hid hm
  have hb1 := below_box w (.cells #[vb, .int .i64 bits, .int .i64 count] 50)
  have h00 := block_new w (.cells #[vb, .int .i64 bits, .int .i64 count] 50)
  have HBX : Hid (∀ W, Below (w.alloc (.cells #[vb, .int .i64 bits, .int .i64 count] 50)).heap.size (w.alloc (.cells #[vb, .int .i64 bits, .int .i64 count] 50)) W → W.cell? ⟨w.heap.size, 0, none⟩ = some vb ∧ W.cell? ⟨w.heap.size, 1, none⟩ = some (.int .i64 bits) ∧ W.cell? ⟨w.heap.size, 2, none⟩ = some (.int .i64 count)) := Lib.hid (fun W hb => by
    have h1 := (hb.block w.heap.size (by simp)).trans h00
    exact ⟨cell_of h1 rfl, cell_of h1 rfl, cell_of h1 rfl⟩)
  obtain ⟨w1, hw1⟩ : ∃ X, w.alloc (.cells #[vb, .int .i64 bits, .int .i64 count] 50) = X := ⟨_, rfl⟩
  rw [hw1] at HBX hb1
  have HW1 := Lib.hid hw1
  have HB1 := Lib.hid hb1
  obtain ⟨A, cap, rfl, hc⟩ := hv.form
  obtain ⟨n, hn⟩ : ∃ n, cs.length = n := ⟨_, rfl⟩
  obtain ⟨Ab, capb, rfl, hcb⟩ := hs.form
  obtain ⟨m, hm'⟩ : ∃ m, bs.length = m := ⟨_, rfl⟩
  rw [hn] at hv hm ⊢
  rw [hm'] at hs hmb HBX hw1 HW1 ⊢
  obtain ⟨q0, q1, q2⟩ := HBX.out w1 (Below.refl _ _)
  have HR := Lib.hid (fun W (hb : Below w.heap.size w W) => And.intro (hv.below stays_int hb) ((hs.below hb).mono hb.size))
  have HN := Lib.hid hn
  have HMB := Lib.hid hm'
  clear hv hs hc hn hcb hm' hb1 h00
  go_enter Try.func11, Try.ntmps11
  by_cases hbig : 40 < n
  · have hI : (40 : Int) < (n : Int) := by omega
    go_wp2_with fail
    go_ret
    exact ⟨rfl, HB1.out⟩
  · have hI : ¬ (40 : Int) < (n : Int) := by omega
    by_cases hbig2 : 40 < m
    · have hI2 : (40 : Int) < (m : Int) := by omega
      go_wp2_with fail
      go_ret
      exact ⟨rfl, HB1.out⟩
    · have hI2 : ¬ (40 : Int) < (m : Int) := by omega
      by_cases hbig3 : 400 < count
      · have b1 : decide (count > 400) = true := decide_eq_true hbig3
        go_wp2_with fail
        go_ret
        exact ⟨rfl, HB1.out⟩
      · have b1 : decide (count > 400) = false := decide_eq_false hbig3
        obtain ⟨r1, r2⟩ := HR.out w1 HB1.out
        have HC1 := Lib.hid (decode_any r1 HM.out r2 (by rw [HMB.out]; omega) bits count hbb.1 hbb.2 hcc.1 hcc.2)
        have HC2 := Lib.hid (fun W (hb : Below w.heap.size w W) => refDecode_any (HR.out W hb).1 HM.out (HR.out W hb).2 (by rw [HMB.out]; omega) bits count hbb.1 hbb.2 hcc.1 hcc.2)
        have hFL := decF_len cs bs bits count
        obtain ⟨F, hF⟩ : ∃ F, decF cs bs bits count = F := ⟨_, rfl⟩
        rw [hF] at HC1 HC2 hFL
        have HFL := Lib.hid hFL
        obtain ⟨fe, hfe⟩ : ∃ x, F.2 = x := ⟨_, rfl⟩
        have HFE := Lib.hid hfe
        clear r1 r2 hbb hcc hF hFL hfe hm hmb
        go_wp2_with fail
        refine HC1.out.mono ?_
        rintro e w2 ⟨hb2, v2, rfl, hr2⟩
        rw [HFE.out]
        obtain ⟨A2, cp2, rfl, -⟩ := hr2.form
        have HB2 := Lib.hid (HB1.out.trans (hb2.mono HB1.out.size))
        obtain ⟨s0, s1, s2⟩ := HBX.out w2 hb2
        have HR2 := Lib.hid hr2
        have HD := Lib.hid (HC2.out w2 HB2.out)
        clear hr2 hb2 HC1 HC2
        go_wp2_with fail
        refine HD.out.mono ?_
        rintro e w3 ⟨hb3, v3, rfl, hr3⟩
        rw [HFE.out]
        obtain ⟨A3, cp3, rfl, -⟩ := hr3.form
        have HB3 := Lib.hid (HB2.out.trans (hb3.mono HB2.out.size))
        have hcl : (castN' F.1).length ≤ maxLen := by
          have := HFL.out
          unfold maxLen castN'
          rw [List.length_map]
          omega
        have HSM := Lib.hid (sameInts_any (HR2.out.below stays_int hb3) hr3 hcl hcl)
        have hne : (((fe : Nat) : Int) == (fe : Int)) = true := beq_self_eq_true _
        clear hr3 hb3 hcl HD HR2 s0 s1 s2
        go_wp2_with fail
        refine HSM.out.mono ?_
        rintro e w4 ⟨rfl, hb4⟩
        have HB4 := Lib.hid (HB3.out.trans (hb4.mono HB3.out.size))
        have HA4 := Lib.hid (HA.out w4)
        clear hb4 HSM
        go_wp2_with fail
        refine HA4.out.mono ?_
        rintro e w5 ⟨rfl, hb5⟩
        have HB5 := Lib.hid (HB4.out.trans (hb5.mono HB4.out.size))
        clear hb5
        go_wp2_with fail
        go_ret
        exact ⟨rfl, HB5.out⟩

theorem own : ownKnob Try.prog.godebug = none := by kernel_rfl

set_option maxRecDepth 100000 in
theorem lifted (os : Os) (started : os.Started) (H : Type) (enc : TypeId × Value → H) :
    ReturnsInHanded {} Try.checked os 11 .any (Rows.huffmanDecodesSpec.pre6 enc Try.prog Try.f11 Rows.huffmanDecodesRow.domain false) (Rows.huffmanDecodesSpec.post enc Try.prog Try.f11 false true false false) := by
  refine returnsInHanded_of_change (C := Try.checked) own started (by kernel_rfl) Try.func11
    (ChangeSpec.witness6 (enc := enc) (C := Try.checked) false ⟨#[], #[.slice none 0 0, .agg #[.slice none 0 0, .int .i64 0, .int .i64 0]], []⟩ 8 (by kernel_rfl) (by kernel_rfl) (by kernel_rfl) (by kernel_rfl)) ?_
  intro W base args ds gs before hval0 hW hcnd _
  have hval : ∀ (j : Nat) t v, Try.f11.params[j]? = some t → args[j]? = some v → Value.okWide Try.prog W .any base t v := hval0
  have hW' := hW
  have hplt : ∀ x ∈ before, x.block < W.heap.size := fun x hx => hW.lt x hx
  obtain ⟨p, q, hA0, hV, rfl, hfz, hnd⟩ := hW
  have hA : DataW.TrodAll enc Try.prog W 0 (fun _ => true) true Try.f11.params.toList args.toList ds p := hA0
  rw [Try.params11] at hA hval
  obtain ⟨v0, vs0, d0, ds0, p0, q0, hargs, rfl, rfl, h0, r0⟩ := trodAll_cons hA
  obtain ⟨v1, vs1, d1, ds1, p1, q1, rfl, rfl, rfl, h1, r1⟩ := trodAll_cons r0
  obtain ⟨rfl, rfl, rfl⟩ := trodAll_nil r1
  obtain rfl : args = #[v0, v1] := by cases args; simp_all
  obtain ⟨rfl, rfl⟩ := trodVars_none hV
  obtain ⟨l0, s0, m0, n0⟩ := open_rowI (hval 0 22 v0 rfl rfl) h0
  obtain ⟨b1, L1, k1, c1, rfl, s1, m1, n1, o1⟩ := open_bits (hval 1 50 v1 rfl rfl) h1
  clear hA0 hval0
  refine (walk v0 l0 s0 m0 n0 b1 L1 k1 c1 s1 m1 n1 o1).mono fun e W' ⟨he, bel⟩ => ?_
  subst he
  exact ⟨_, rfl, _, _, _, [], _, [], hW', trodAll_mk1 (shut_bool Try.underlying4 _), (trodAll_cons_mk (Below.trod Try.laidOut (by kernel_rfl) (of_decide_eq_true (by kernel_rfl)) h0 bel (fun x hx => hplt x (by simp [hx]))) (trodAll_cons_mk (Below.trod Try.laidOut (by kernel_rfl) (of_decide_eq_true (by kernel_rfl)) h1 bel (fun x hx => hplt x (by simp [hx]))) trodAll_mk0)), rfl, World.keptBut_mono (fun x hx => ⟨hx, Or.inr (by simpa using hx)⟩) (bel.frame (· ∈ _)), fun h => by cases h⟩

theorem over : Rows.huffmanDecodesRow.holds Try.pinned (OpenSpec.ofChange Rows.huffmanDecodesSpec) :=
  OpenClaim.holds_of_wide 11 Try.f11 rfl rfl rfl rfl rfl rfl rfl ⟨rfl, rfl, rfl, rfl, rfl⟩ rfl rfl rfl rfl rfl (by kernel_rfl) Try.func11 (by kernel_rfl)
    (of_decide_eq_true (by kernel_rfl)) (by unfold Func.isWrapper; first | (rw [if_pos (by decide +kernel)]; kernel_rfl) | (rw [if_neg (by decide +kernel)]; exact ⟨rfl, rfl⟩))
    (fun os started H enc _ => lifted os started H enc)

/-- THE STATEMENT. -/
theorem proved : Rows.HuffmanDecodesSaid := over
end Go.Proofs.Ytbfnkmibbieijaa.huffmanDecodes
