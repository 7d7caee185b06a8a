/-
  HuffmanCodes is proved: for every list of numbers the call of the law returns true, and each argument reads afterwards as it read before. It has no condition.
-/
import Derived.Test.YtghfehjkhkjgfaaRows
import Derived.Test.YtghfehjkhkjgfaaHoO
import Derived.Test.YtghfehjkhkjgfaaHuV
import Derived.ProofKit
import Derived.OpenShut
import Derived.Carry
namespace Go.Proofs.Ytghfehjkhkjgfaa.huffmanCodes
open Go.ChangeShapes Go.WideShapes Go.ChangeAt Go.RowKit Go.Shelf Go.Lib
set_option linter.unusedVariables false

set_option maxRecDepth 100000 in
set_option maxHeartbeats 8000000 in
theorem walk {w : World} (v : Value) (cs : List Int) (hv : Rows 1 EInt w v cs) (hm : cs.length ≤ maxLen) (_ : ∀ x ∈ cs, -9223372036854775808 ≤ x ∧ x ≤ 9223372036854775807) :
    Calls Try.prog 6 #[v] w fun e w1 => e = .returned (.bool true) ∧ Below w.heap.size w w1 := by
  have HC1 := Lib.hid (codesF_any hv hm)
  have HC2 := Lib.hid (fun W (hb : Below w.heap.size w W) => refCodes_any (hv.below stays_int hb) hm)
  have HA := Lib.hid (fun (W : World) => awake_any W)
  obtain ⟨A, cap, rfl, hc⟩ := hv.form
  obtain ⟨n, hn⟩ : ∃ n, cs.length = n := ⟨_, rfl⟩
  rw [hn] at HC1 HC2 hm ⊢
  unfold maxLen at hm
  have HN := Lib.hid hn
  clear hv hc hn
  go_enter Try.func6, Try.ntmps6
  by_cases hbig : 60 < n
  · have hI : (60 : Int) < (n : Int) := by omega
    go_wp2_with fail
    go_ret
    exact ⟨rfl, Below.refl _ _⟩
  · have hI : ¬ (60 : Int) < (n : Int) := by omega
    clear hbig hm
    go_wp2_with fail
    refine HC1.out.mono ?_
    rintro e w2 ⟨hb, h⟩
    have HD := Lib.hid (HC2.out w2 hb)
    have HB := Lib.hid hb
    clear hb HC1 HC2
    rcases h with ⟨hno, rfl⟩ | ⟨hok, v2, rfl, hr2⟩
    · have HNO := Lib.hid hno
      clear hno
      go_wp2_with fail
      refine HD.out.mono ?_
      rintro e w3 ⟨hb3, h⟩
      have h' : e = .returned (.tuple #[.slice none 0 0, .int .i64 1]) := by
        rcases h with ⟨_, h⟩ | ⟨h, _⟩
        · exact h
        · exact absurd h HNO.out
      subst h'
      have HB3 := Lib.hid (HB.out.trans (hb3.mono HB.out.size))
      have HAW := Lib.hid (HA.out w3)
      clear h hb3 HD
      go_wp2_with fail
      refine wp_loop_rounds 1 ?_
      rw [rounds_succ]
      go_wp2_with fail
      refine HAW.out.mono ?_
      rintro e w4 ⟨rfl, hb4⟩
      have HE2 := Lib.hid (HB3.out.trans (hb4.mono HB3.out.size))
      clear hb4
      go_wp2_with fail
      go_ret
      exact ⟨rfl, HE2.out⟩
    · have HOK := Lib.hid hok
      obtain ⟨A2, c2, rfl, -⟩ := hr2.form
      have hcl : (cdF (natLs cs)).length = n := by rw [cdF_len]; unfold natLs; rw [List.length_map, HN.out]
      rw [hcl] at hr2 ⊢
      have HR2 := Lib.hid (fun W (hb : Below w2.heap.size w2 W) => hr2.below stays_u hb)
      clear hok hr2
      go_wp2_with fail
      refine HD.out.mono ?_
      rintro e w3 ⟨hb3, h⟩
      have h' : ∃ v3, e = .returned (.tuple #[v3, .int .i64 0]) ∧ Rows 1 EU w3 v3 (cdF (natLs cs)) := by
        rcases h with ⟨h, _⟩ | ⟨_, v3, h, hr⟩
        · exact absurd HOK.out h
        · exact ⟨v3, h, hr⟩
      obtain ⟨v3, rfl, hr3⟩ := h'
      obtain ⟨A3, c3, rfl, -⟩ := hr3.form
      rw [hcl] at hr3 ⊢
      have HR := Lib.hid (fun W (hb : Below w3.heap.size w3 W) => And.intro (HR2.out W (hb3.trans (hb.mono hb3.size))) (hr3.below stays_u hb))
      have HB3 := Lib.hid (HB.out.trans (hb3.mono HB.out.size))
      have HCL := Lib.hid hcl
      have hnn : ((n : Int) != (n : Int)) = false := by simp
      clear h hb3 hr3 hcl HR2 HD
      go_wp2_with fail
      go_loopw [33] (fun sv wr => ∃ i : Nat, i ≤ n ∧ sv = .int .i64 i ∧ Hid (Below w3.heap.size w3 wr)) (fun sv _ => n - (Go.RowKit.intOf sv).toNat)
      case atStart => exact ⟨0, Nat.zero_le _, rfl, Lib.hid (Below.refl _ _)⟩
      case round =>
        obtain ⟨i, hi, rfl, HS⟩ := hrel
        by_cases hlt : i < n
        · have hlti : (i : Int) < (n : Int) := by omega
          obtain ⟨r1, r2⟩ := HR.out wr HS.out
          obtain ⟨x, hx⟩ : ∃ x, (cdF (natLs cs))[i]? = some x := ⟨_, List.getElem?_eq_getElem (by rw [HCL.out]; exact hlt)⟩
          obtain ⟨b1, o1, rfl, -, hj1⟩ := at_u r1 (by rw [HCL.out]; omega)
          obtain ⟨b2, o2, rfl, -, hj2⟩ := at_u r2 (by rw [HCL.out]; omega)
          have u1 := hj1 i x hx
          have u2 := hj2 i x hx
          have hxx : ((x : Int) != (x : Int)) = false := by simp
          clear r1 r2 hx hj1 hj2
          go_wp2_with fail
          go_quiet (fail)
          go_wp2_with fail
          exact ⟨⟨i + 1, by omega, by go_num, Lib.hid (below_drewN HS.out _)⟩, by simp only [Go.RowKit.intOf]; omega⟩
        · obtain rfl : i = n := by omega
          have hlti : ¬ (i : Int) < (i : Int) := by omega
          have HAW := Lib.hid (HA.out wr)
          have HBW := Lib.hid (HB3.out.trans (HS.out.mono HB3.out.size))
          clear HS
          go_wp2_with fail
          refine HAW.out.mono ?_
          rintro e w4 ⟨rfl, hb4⟩
          have HE2 := Lib.hid (HBW.out.trans (hb4.mono HBW.out.size))
          clear hb4
          go_wp2_with fail
          go_ret
          exact ⟨rfl, HE2.out⟩

theorem own : ownKnob Try.prog.godebug = none := by kernel_rfl

set_option maxRecDepth 100000 in
theorem lifted (os : Os) (started : os.Started) (H : Type) (enc : TypeId × Value → H) :
    ReturnsInHanded {} Try.checked os 6 .any (Rows.huffmanCodesSpec.pre6 enc Try.prog Try.f6 Rows.huffmanCodesRow.domain false) (Rows.huffmanCodesSpec.post enc Try.prog Try.f6 false true false false) := by
  refine returnsInHanded_of_change (C := Try.checked) own started (by kernel_rfl) Try.func6
    (ChangeSpec.witness6 (enc := enc) (C := Try.checked) false ⟨#[], #[.slice none 0 0], []⟩ 8 (by kernel_rfl) (by kernel_rfl) (by kernel_rfl) (by kernel_rfl)) ?_
  intro W base args ds gs before hval0 hW hcnd _
  have hval : ∀ (j : Nat) t v, Try.f6.params[j]? = some t → args[j]? = some v → Value.okWide Try.prog W .any base t v := hval0
  have hW' := hW
  have hplt : ∀ x ∈ before, x.block < W.heap.size := fun x hx => hW.lt x hx
  obtain ⟨p, q, hA0, hV, rfl, hfz, hnd⟩ := hW
  have hA : DataW.TrodAll enc Try.prog W 0 (fun _ => true) true Try.f6.params.toList args.toList ds p := hA0
  rw [Try.params6] at hA hval
  obtain ⟨v0, vs0, d0, ds0, p0, q0, hargs, rfl, rfl, h0, r0⟩ := trodAll_cons hA
  obtain ⟨rfl, rfl, rfl⟩ := trodAll_nil r0
  obtain rfl : args = #[v0] := by cases args; simp_all
  obtain ⟨rfl, rfl⟩ := trodVars_none hV
  obtain ⟨l0, s0, m0, n0⟩ := open_rowI (hval 0 22 v0 rfl rfl) h0
  clear hA0 hval0
  refine (walk v0 l0 s0 m0 n0).mono fun e W' ⟨he, bel⟩ => ?_
  subst he
  exact ⟨_, rfl, _, _, _, [], _, [], hW', trodAll_mk1 (shut_bool Try.underlying4 _), (trodAll_cons_mk (Below.trod Try.laidOut (by kernel_rfl) (of_decide_eq_true (by kernel_rfl)) h0 bel (fun x hx => hplt x (by simp [hx]))) trodAll_mk0), rfl, World.keptBut_mono (fun x hx => ⟨hx, Or.inr (by simpa using hx)⟩) (bel.frame (· ∈ _)), fun h => by cases h⟩

theorem over : Rows.huffmanCodesRow.holds Try.pinned (OpenSpec.ofChange Rows.huffmanCodesSpec) :=
  OpenClaim.holds_of_wide 6 Try.f6 rfl rfl rfl rfl rfl rfl rfl ⟨rfl, rfl, rfl, rfl, rfl⟩ rfl rfl rfl rfl rfl (by kernel_rfl) Try.func6 (by kernel_rfl)
    (of_decide_eq_true (by kernel_rfl)) (by unfold Func.isWrapper; first | (rw [if_pos (by decide +kernel)]; kernel_rfl) | (rw [if_neg (by decide +kernel)]; exact ⟨rfl, rfl⟩))
    (fun os started H enc _ => lifted os started H enc)

/-- THE STATEMENT. -/
theorem proved : Rows.HuffmanCodesSaid := over
end Go.Proofs.Ytghfehjkhkjgfaa.huffmanCodes
