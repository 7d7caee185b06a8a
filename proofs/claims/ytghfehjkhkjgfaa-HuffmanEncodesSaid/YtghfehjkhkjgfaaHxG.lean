/-
  HuffmanEncodes is proved: for every list of numbers and every list of numbers the call of the law returns true, and each argument reads afterwards as it read before. It has no condition.
-/
import Derived.Test.YtghfehjkhkjgfaaRows
import Derived.Test.YtghfehjkhkjgfaaHoO
import Derived.Test.YtghfehjkhkjgfaaHuV
import Derived.Test.YtghfehjkhkjgfaaHuW
import Derived.ProofKit
import Derived.OpenShut
import Derived.Carry
namespace Go.Proofs.Ytghfehjkhkjgfaa.huffmanEncodes
open Go.ChangeShapes Go.WideShapes Go.ChangeAt Go.RowKit Go.Shelf Go.Lib
set_option linter.unusedVariables false

/-- What both Encodes answer, errors and all. -/
noncomputable def eB (cs ss : List Int) : List UInt8 := if encE cs ss = 0 then pack (encB (natLs cs) (natLs ss)) else []
noncomputable def eN (cs ss : List Int) : Int := if encE cs ss = 0 then ((encB (natLs cs) (natLs ss)).length : Nat) else 0
theorem encV_one {w : World} {cs ss : List Int} {e : Ending} {w' : World} (h : EncV w cs ss e w') :
    ∃ v, e = .returned (.tuple #[v, .int .i64 (eN cs ss), .int .i64 (encE cs ss)]) ∧ Sees w' w'.heap.size v (eB cs ss) ∧ Below w.heap.size w w' := by
  obtain ⟨hb, ⟨h0, rfl⟩ | ⟨h0, v, rfl, hs⟩⟩ := h
  · exact ⟨_, by unfold eN; rw [if_neg h0], by unfold eB; rw [if_neg h0]; exact Sees.nil _ _, hb⟩
  · exact ⟨v, by unfold eN; rw [if_pos h0, h0], by unfold eB; rw [if_pos h0]; exact hs, hb⟩
set_option maxRecDepth 100000 in
set_option maxHeartbeats 8000000 in
theorem walk {w : World} (v : Value) (cs : List Int) (hv : Rows 1 EInt w v cs) (hm : cs.length ≤ maxLen) (_ : ∀ x ∈ cs, -9223372036854775808 ≤ x ∧ x ≤ 9223372036854775807)
    (v2 : Value) (ss : List Int) (hv2 : Rows 1 EInt w v2 ss) (hm2 : ss.length ≤ maxLen) (_ : ∀ x ∈ ss, -9223372036854775808 ≤ x ∧ x ≤ 9223372036854775807) :
    Calls Try.prog 8 #[v, v2] w fun e w1 => e = .returned (.bool true) ∧ Below w.heap.size w w1 := by
  have HC1 := Lib.hid (encode_any hv hm hv2 hm2)
  have HC2 := Lib.hid (fun W (hb : Below w.heap.size w W) => refEncode_any (hv.below stays_int hb) hm (hv2.below stays_int hb) hm2)
  have HA := Lib.hid (fun (W : World) => awake_any W)
  obtain ⟨A, cap, rfl, hc⟩ := hv.form
  obtain ⟨n, hn⟩ : ∃ n, cs.length = n := ⟨_, rfl⟩
  obtain ⟨A2, cap2, rfl, hc2⟩ := hv2.form
  obtain ⟨m, hm'⟩ : ∃ m, ss.length = m := ⟨_, rfl⟩
  rw [hn] at HC1 HC2 hm ⊢
  rw [hm'] at HC1 HC2 hm2 ⊢
  unfold maxLen at hm hm2
  clear hv hc hn hv2 hc2 hm'
  go_enter Try.func8, Try.ntmps8
  by_cases hbig : 40 < n
  · have hI : (40 : Int) < (n : Int) := by omega
    go_wp2_with fail
    go_ret
    exact ⟨rfl, Below.refl _ _⟩
  · have hI : ¬ (40 : Int) < (n : Int) := by omega
    by_cases hbig2 : 60 < m
    · have hI2 : (60 : Int) < (m : Int) := by omega
      clear hbig hm
      go_wp2_with fail
      go_ret
      exact ⟨rfl, Below.refl _ _⟩
    · have hI2 : ¬ (60 : Int) < (m : Int) := by omega
      clear hbig hm hbig2 hm2
      go_wp2_with fail
      refine HC1.out.mono ?_
      rintro e w2 h
      obtain ⟨v1, rfl, hs2, hb2⟩ := encV_one h
      have HD := Lib.hid (HC2.out w2 hb2)
      obtain ⟨K, hK⟩ : ∃ K, eB cs ss = K := ⟨_, rfl⟩
      obtain ⟨nn, hnn⟩ : ∃ K, eN cs ss = K := ⟨_, rfl⟩
      obtain ⟨ee, hee⟩ : ∃ K, encE cs ss = K := ⟨_, rfl⟩
      rw [hK] at hs2
      rw [hnn, hee]
      have HB := Lib.hid hb2
      have HK := Lib.hid hK
      have HNN := Lib.hid hnn
      have HEE := Lib.hid hee
      have HS2 := Lib.hid hs2
      clear hb2 HC1 HC2 h hs2 hK hnn hee
      go_wp2_with fail
      refine HD.out.mono ?_
      rintro e w3 h
      obtain ⟨v3, rfl, hs3, hb3⟩ := encV_one h
      rw [HK.out] at hs3
      rw [HNN.out, HEE.out]
      have hs23 := HS2.out.below hb3
      obtain ⟨st, hst⟩ : ∃ y, (⟨K.toArray⟩ : ByteArray) = y := ⟨_, rfl⟩
      have hcv : ∀ (W : World) (B : Nat) (V : Value), Sees W B V K → (convert 37 9 V).run Try.prog W = .ok (.string st) W := fun _ _ _ h => by rw [← hst]; exact h.convert
      have hc1 := hcv _ _ _ hs23
      have hc1d := hcv _ _ _ hs23.drew'
      have hc2 := hcv _ _ _ hs3
      have hc2d := hcv _ _ _ hs3.drew'
      have hb03 := HB.out.trans (hb3.mono HB.out.size)
      have HB3 := Lib.hid hb03
      have HBD := Lib.hid (show Below w.heap.size w w3.drew from hb03.drew)
      have HAW := Lib.hid (HA.out w3)
      have HAWD := Lib.hid (HA.out w3.drew)
      have hne1 : (nn == nn) = true := beq_self_eq_true _
      have hne2 : (ee == ee) = true := beq_self_eq_true _
      clear h hs3 hs23 hb3 hb03 hst HD HA hcv HS2 HB
      go_wp2_with fail
      refine HAW.out.mono ?_
      rintro e w4 ⟨rfl, hb4⟩
      have HE2 := Lib.hid (HB3.out.trans (hb4.mono HB3.out.size))
      clear hb4
      go_wp2_with fail
      go_ret
      exact ⟨rfl, HE2.out⟩

theorem own : ownKnob Try.prog.godebug = none := by kernel_rfl

set_option maxRecDepth 100000 in
theorem lifted (os : Os) (started : os.Started) (H : Type) (enc : TypeId × Value → H) :
    ReturnsInHanded {} Try.checked os 8 .any (Rows.huffmanEncodesSpec.pre6 enc Try.prog Try.f8 Rows.huffmanEncodesRow.domain false) (Rows.huffmanEncodesSpec.post enc Try.prog Try.f8 false true false false) := by
  refine returnsInHanded_of_change (C := Try.checked) own started (by kernel_rfl) Try.func8
    (ChangeSpec.witness6 (enc := enc) (C := Try.checked) false ⟨#[], #[.slice none 0 0, .slice none 0 0], []⟩ 8 (by kernel_rfl) (by kernel_rfl) (by kernel_rfl) (by kernel_rfl)) ?_
  intro W base args ds gs before hval0 hW hcnd _
  have hval : ∀ (j : Nat) t v, Try.f8.params[j]? = some t → args[j]? = some v → Value.okWide Try.prog W .any base t v := hval0
  have hW' := hW
  have hplt : ∀ x ∈ before, x.block < W.heap.size := fun x hx => hW.lt x hx
  obtain ⟨p, q, hA0, hV, rfl, hfz, hnd⟩ := hW
  have hA : DataW.TrodAll enc Try.prog W 0 (fun _ => true) true Try.f8.params.toList args.toList ds p := hA0
  rw [Try.params8] at hA hval
  obtain ⟨v0, vs0, d0, ds0, p0, q0, hargs, rfl, rfl, h0, r0⟩ := trodAll_cons hA
  obtain ⟨v1, vs1, d1, ds1, p1, q1, rfl, rfl, rfl, h1, r1⟩ := trodAll_cons r0
  obtain ⟨rfl, rfl, rfl⟩ := trodAll_nil r1
  obtain rfl : args = #[v0, v1] := by cases args; simp_all
  obtain ⟨rfl, rfl⟩ := trodVars_none hV
  obtain ⟨l0, s0, m0, n0⟩ := open_rowI (hval 0 22 v0 rfl rfl) h0
  obtain ⟨l1, s1, m1, n1⟩ := open_rowI (hval 1 22 v1 rfl rfl) h1
  clear hA0 hval0
  refine (walk v0 l0 s0 m0 n0 v1 l1 s1 m1 n1).mono fun e W' ⟨he, bel⟩ => ?_
  subst he
  exact ⟨_, rfl, _, _, _, [], _, [], hW', trodAll_mk1 (shut_bool Try.underlying4 _), (trodAll_cons_mk (Below.trod Try.laidOut (by kernel_rfl) (of_decide_eq_true (by kernel_rfl)) h0 bel (fun x hx => hplt x (by simp [hx]))) (trodAll_cons_mk (Below.trod Try.laidOut (by kernel_rfl) (of_decide_eq_true (by kernel_rfl)) h1 bel (fun x hx => hplt x (by simp [hx]))) trodAll_mk0)), rfl, World.keptBut_mono (fun x hx => ⟨hx, Or.inr (by simpa using hx)⟩) (bel.frame (· ∈ _)), fun h => by cases h⟩

theorem over : Rows.huffmanEncodesRow.holds Try.pinned (OpenSpec.ofChange Rows.huffmanEncodesSpec) :=
  OpenClaim.holds_of_wide 8 Try.f8 rfl rfl rfl rfl rfl rfl rfl ⟨rfl, rfl, rfl, rfl, rfl⟩ rfl rfl rfl rfl rfl (by kernel_rfl) Try.func8 (by kernel_rfl)
    (of_decide_eq_true (by kernel_rfl)) (by unfold Func.isWrapper; first | (rw [if_pos (by decide +kernel)]; kernel_rfl) | (rw [if_neg (by decide +kernel)]; exact ⟨rfl, rfl⟩))
    (fun os started H enc _ => lifted os started H enc)

/-- THE STATEMENT. -/
theorem proved : Rows.HuffmanEncodesSaid := over
end Go.Proofs.Ytghfehjkhkjgfaa.huffmanEncodes
