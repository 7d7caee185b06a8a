/-
  HuffmanPrefixes is proved: for every list of numbers the call of the law returns true, and each argument reads afterwards as it read before. It has no condition.
-/
import Derived.Test.YtghfehjkhkjgfaaRows
import Derived.Test.YtghfehjkhkjgfaaHoO
import Derived.Test.YtghfehjkhkjgfaaHuS
import Derived.ProofKit
import Derived.OpenShut
import Derived.Carry
namespace Go.Proofs.Ytghfehjkhkjgfaa.huffmanPrefixes
open Go.ChangeShapes Go.WideShapes Go.ChangeAt Go.RowKit Go.Shelf Go.Lib
set_option linter.unusedVariables false

set_option maxRecDepth 100000 in
set_option maxHeartbeats 8000000 in
theorem walk {w : World} (v : Value) (cs : List Int) (hv : Rows 1 EInt w v cs) (hm : cs.length ≤ maxLen) (_ : ∀ x ∈ cs, -9223372036854775808 ≤ x ∧ x ≤ 9223372036854775807) :
    Calls Try.prog 7 #[v] w fun e w1 => e = .returned (.bool true) ∧ Below w.heap.size w w1 := by
  have HCD := Lib.hid (codesF_any hv hm)
  have HV := Lib.hid (fun W (hb : Below w.heap.size w W) => hv.below stays_int hb)
  have HA := Lib.hid (fun (W : World) => awake_any W)
  obtain ⟨A, cap, rfl, hc⟩ := hv.form
  obtain ⟨n, hn⟩ : ∃ n, cs.length = n := ⟨_, rfl⟩
  rw [hn] at HCD HV hm ⊢
  unfold maxLen at hm
  have HN := Lib.hid hn
  clear hv hc hn
  go_enter Try.func7, Try.ntmps7
  go_wp2_with fail
  refine HCD.out.mono ?_
  rintro e w2 ⟨hb, h | h⟩
  · obtain ⟨hno, rfl⟩ := h
    have HB := Lib.hid hb
    clear hb hno HCD
    by_cases hbig : 60 < n
    · have hI : decide ((60 : Int) < (n : Int)) = true := decide_eq_true (by omega)
      have hI2 : (60 : Int) < (n : Int) := by omega
      go_wp2_with fail
      go_ret
      exact ⟨rfl, HB.out⟩
    · have hI : ¬ (60 : Int) < (n : Int) := by omega
      go_wp2_with fail
      go_ret
      exact ⟨rfl, HB.out⟩
  · obtain ⟨hok, v2, rfl, hr2⟩ := h
    have hcl : (cdF (natLs cs)).length = n := by rw [cdF_len]; unfold natLs; rw [List.length_map, HN.out]
    obtain ⟨A2, c2, rfl, -⟩ := hr2.form
    rw [hcl] at hr2 ⊢
    have HB := Lib.hid hb
    have HOK := Lib.hid hok
    have HR := Lib.hid (fun W (h : Below w2.heap.size w2 W) => hr2.below stays_u h)
    clear hb hok hr2 HCD
    by_cases hbig : 60 < n
    · have hI : (60 : Int) < (n : Int) := by omega
      clear hcl
      go_wp2_with fail
      go_ret
      exact ⟨rfl, HB.out⟩
    · have hI : ¬ (60 : Int) < (n : Int) := by omega
      obtain ⟨L, hL⟩ : ∃ L, natLs cs = L := ⟨_, rfl⟩
      have hat : ∀ (i : Nat) (x : Int), cs[i]? = some x → ∃ l : Nat, x = l ∧ l ≤ 15 ∧ L[i]? = some l := fun i x hx => by
        have h1 := HOK.out.2.1 x (List.mem_of_getElem? hx)
        refine ⟨x.toNat, by omega, by omega, ?_⟩
        rw [← hL]; unfold natLs
        rw [List.getElem?_map, hx]; rfl
      have HAT := Lib.hid hat
      rw [hL] at HR hcl
      have HCL := Lib.hid hcl
      have HLO : Hid (okLens L) := Lib.hid (by rw [← hL]; exact HOK.out.lens)
      have hnn : ((n : Int) != (n : Int)) = false := by simp
      clear hat hL hcl hbig
      go_wp2_with fail
      go_loopw [28] (fun sv wr => ∃ i : Nat, i ≤ n ∧ sv = .int .i64 i ∧ Hid (Below w2.heap.size w2 wr)) (fun sv _ => n - (Go.RowKit.intOf sv).toNat)
      case atStart => exact ⟨0, Nat.zero_le _, rfl, Lib.hid (Below.refl _ _)⟩
      case round =>
        obtain ⟨i, hi, rfl, HS⟩ := hrel
        by_cases hlt : i < n
        · have hlti : (i : Int) < (n : Int) := by omega
          have HV2 := Lib.hid (fun W (h : Below w2.heap.size w2 W) => HV.out W (HB.out.trans (h.mono HB.out.size)))
          obtain ⟨x, hx⟩ : ∃ x, cs[i]? = some x := ⟨_, List.getElem?_eq_getElem (by rw [HN.out]; exact hlt)⟩
          obtain ⟨a, rfl, ha15, hai⟩ := HAT.out i x hx
          obtain ⟨b, o, rfl, -, hj⟩ := at_int (HV2.out wr HS.out) (by rw [HN.out]; omega)
          have u0 := hj i (a : Int) hx
          have HAI := Lib.hid hai
          obtain ⟨wo, rfl⟩ : ∃ wo, wo = wr := ⟨_, rfl⟩
          clear hj hx hai
          go_wp2_with fail
          clear u0
          go_loopw [35] (fun sv wr => ∃ k : Nat, k ≤ n ∧ sv = .int .i64 k ∧ Hid (Below w2.heap.size w2 wr)) (fun sv _ => n - (Go.RowKit.intOf sv).toNat)
          case atStart => exact ⟨0, Nat.zero_le _, rfl, HS⟩
          case round =>
            clear HS
            obtain ⟨k, hk, rfl, HT⟩ := hrel
            by_cases hlt2 : k < n
            · have hltk : (k : Int) < (n : Int) := by omega
              obtain ⟨y, hy⟩ : ∃ y, cs[k]? = some y := ⟨_, List.getElem?_eq_getElem (by rw [HN.out]; exact hlt2)⟩
              obtain ⟨c, rfl, hc15, hck⟩ := HAT.out k y hy
              obtain ⟨b1, o1, e1, -, hj⟩ := at_int (HV2.out wr HT.out) (by rw [HN.out]; omega)
              cases e1
              have u0 := hj k (c : Int) hy
              have e1 : decide ((a : Int) < 0) = false := decide_eq_false (by omega)
              have e2 : decide ((c : Int) < 0) = false := decide_eq_false (by omega)
              have e3 : decide ((a : Int) > 15) = false := decide_eq_false (by omega)
              have e4 : decide ((c : Int) > 15) = false := decide_eq_false (by omega)
              have e3' : decide (15 < a) = false := decide_eq_false (by omega)
              have e4' : decide (15 < c) = false := decide_eq_false (by omega)
              have HNX := Lib.hid (show Below w2.heap.size w2 wr from HT.out)
              have HCK := Lib.hid hck
              clear hj hy hck HT
              by_cases d1 : i = k
              · subst d1
                have b1 : ((i : Int) == (i : Int)) = true := by simp
                go_wp2_with fail
                exact ⟨⟨i + 1, by omega, by go_num, HNX⟩, by simp only [Go.RowKit.intOf]; omega⟩
              · have b1 : ((i : Int) == (k : Int)) = false := by simp; omega
                by_cases d2 : a = 0
                · subst d2
                  go_wp2_with fail
                  exact ⟨⟨k + 1, by omega, by go_num, HNX⟩, by simp only [Go.RowKit.intOf]; omega⟩
                · have b2 : ((a : Int) == 0) = false := by simp; omega
                  by_cases d3 : c = 0
                  · subst d3
                    go_wp2_with fail
                    exact ⟨⟨k + 1, by omega, by go_num, HNX⟩, by simp only [Go.RowKit.intOf]; omega⟩
                  · have b3 : ((c : Int) == 0) = false := by simp; omega
                    by_cases d4 : c < a
                    · have b4 : decide ((a : Int) > (c : Int)) = true := decide_eq_true (by omega)
                      have b4' : decide (c < a) = true := decide_eq_true d4
                      go_wp2_with fail
                      exact ⟨⟨k + 1, by omega, by go_num, HNX⟩, by simp only [Go.RowKit.intOf]; omega⟩
                    · have b4 : decide ((a : Int) > (c : Int)) = false := decide_eq_false (by omega)
                      have b4' : decide (c < a) = false := decide_eq_false d4
                      obtain ⟨b2a, o2a, rfl, -, hj2⟩ := at_u (HR.out wr HNX.out) (by rw [HCL.out]; omega)
                      have p0 := hj2 i _ (cdF_at HAI.out)
                      have p1 := hj2 k _ (cdF_at HCK.out)
                      have hle1 := codeN_le HLO.out i
                      have hle2 := codeN_le HLO.out k
                      obtain ⟨d, hd⟩ : ∃ d, c - a = d := ⟨_, rfl⟩
                      have hsub : wrap64 ((c : Int) - (a : Int)) = (d : Int) := by unfold wrap64; omega
                      have hcv : IntKind.u64.wrap (d : Int) = (d : Int) := by rw [show IntKind.u64.wrap (d : Int) = (d : Int) % 18446744073709551616 from rfl]; omega
                      have hsub2 : IntKind.i64.wrap ((c : Int) - (a : Int)) = (d : Int) := by rw [IntKind.wrap_i64]; omega
                      have hmin : min d 64 = d := by omega
                      have hd64 : (d : Int) ≤ 64 := by omega
                      have hpd : (2 : Nat) ^ d ≤ 2 ^ 15 := Nat.pow_le_pow_right (by omega) (by omega)
                      have hpd1 : 1 ≤ (2 : Nat) ^ d := Nat.one_le_two_pow
                      have hne : codeN L k / 2 ^ d ≠ codeN L i ∧ (a < c → codeN L i * 2 ^ d ≤ codeN L k) := by
                        by_cases hac : a < c
                        · have := code_above HAI.out HCK.out (by omega) hac
                          rw [hd] at this
                          exact ⟨by omega, fun _ => this.1⟩
                        · have hda : a = c := by omega
                          subst hda
                          have hd0 : d = 0 := by omega
                          subst hd0
                          refine ⟨fun e => d1 ?_, fun h => absurd h hac⟩
                          rw [Nat.pow_zero, Nat.div_one] at e
                          exact code_inj HAI.out HCK.out (by omega) e.symm
                      obtain ⟨x, hx⟩ : ∃ x, codeN L i = x := ⟨_, rfl⟩
                      obtain ⟨y, hy⟩ : ∃ y, codeN L k = y := ⟨_, rfl⟩
                      rw [hx] at p0 hle1 hne
                      rw [hy] at p1 hle2 hne
                      have q1 : ((y : Int) / 2 ^ d == (x : Int)) = false := by
                        have e : (y : Int) / 2 ^ d = ((y / 2 ^ d : Nat) : Int) := by simp
                        rw [e]
                        have := hne.1
                        simp only [beq_eq_false_iff_ne, ne_eq]
                        omega
                      have q1n : (y / 2 ^ d == x) = false := by simpa using hne.1
                      have q1p : ¬ (y : Int) / 2 ^ d = (x : Int) := by simpa using q1
                      have q1d : decide ((y : Int) / 2 ^ d = (x : Int)) = false := decide_eq_false q1p
                      by_cases hac : a < c
                      · have hz := hne.2 hac
                        obtain ⟨z, hz2⟩ : ∃ z, x * 2 ^ d = z := ⟨_, rfl⟩
                        rw [hz2] at hz
                        have q2 : decide ((a : Int) < (c : Int)) = true := decide_eq_true (by omega)
                        have q2' : decide (a < c) = true := decide_eq_true hac
                        have q3 : IntKind.u64.wrap ((x : Int) * 2 ^ d) = (z : Int) := by
                          have e : (x : Int) * 2 ^ d = (z : Int) := by rw [← hz2]; simp
                          rw [e, show IntKind.u64.wrap (z : Int) = (z : Int) % 18446744073709551616 from rfl]; omega
                        have q4 : decide ((z : Int) > (y : Int)) = false := decide_eq_false (by omega)
                        have q4' : decide (y < z) = false := decide_eq_false (by omega)
                        clear hne hx hy hz hz2 hj2 hd hpd hpd1 hle1 hle2 d4 HCK
                        go_wp2_with fail
                        go_quiet (fail)
                        go_wp2_with fail
                        exact ⟨⟨k + 1, by omega, by go_num, Lib.hid (below_drewN HNX.out _)⟩, by simp only [Go.RowKit.intOf]; omega⟩
                      · have q2 : decide ((a : Int) < (c : Int)) = false := decide_eq_false (by omega)
                        have q2' : decide (a < c) = false := decide_eq_false hac
                        clear hne hx hy hj2 hd hpd hpd1 hle1 hle2 d4 HCK
                        go_wp2_with fail
                        go_quiet (fail)
                        go_wp2_with fail
                        exact ⟨⟨k + 1, by omega, by go_num, Lib.hid (below_drewN HNX.out _)⟩, by simp only [Go.RowKit.intOf]; omega⟩
            · obtain rfl : k = n := by omega
              have hltk : ¬ (k : Int) < (k : Int) := by omega
              go_wp2_with fail
              exact ⟨⟨i + 1, by omega, by go_num, HT⟩, by simp only [Go.RowKit.intOf]; omega⟩
        · obtain rfl : i = n := by omega
          have hlti : ¬ (i : Int) < (i : Int) := by omega
          have HE := Lib.hid (HB.out.trans (HS.out.mono HB.out.size))
          have HAW := Lib.hid (HA.out wr)
          clear HS
          go_wp2_with fail
          refine HAW.out.mono ?_
          rintro e w3 ⟨rfl, hb3⟩
          have HE2 := Lib.hid (HE.out.trans (hb3.mono HE.out.size))
          clear hb3
          go_wp2_with fail
          go_ret
          exact ⟨rfl, HE2.out⟩

theorem own : ownKnob Try.prog.godebug = none := by kernel_rfl

set_option maxRecDepth 100000 in
theorem lifted (os : Os) (started : os.Started) (H : Type) (enc : TypeId × Value → H) :
    ReturnsInHanded {} Try.checked os 7 .any (Rows.huffmanPrefixesSpec.pre6 enc Try.prog Try.f7 Rows.huffmanPrefixesRow.domain false) (Rows.huffmanPrefixesSpec.post enc Try.prog Try.f7 false true false false) := by
  refine returnsInHanded_of_change (C := Try.checked) own started (by kernel_rfl) Try.func7
    (ChangeSpec.witness6 (enc := enc) (C := Try.checked) false ⟨#[], #[.slice none 0 0], []⟩ 8 (by kernel_rfl) (by kernel_rfl) (by kernel_rfl) (by kernel_rfl)) ?_
  intro W base args ds gs before hval0 hW hcnd _
  have hval : ∀ (j : Nat) t v, Try.f7.params[j]? = some t → args[j]? = some v → Value.okWide Try.prog W .any base t v := hval0
  have hW' := hW
  have hplt : ∀ x ∈ before, x.block < W.heap.size := fun x hx => hW.lt x hx
  obtain ⟨p, q, hA0, hV, rfl, hfz, hnd⟩ := hW
  have hA : DataW.TrodAll enc Try.prog W 0 (fun _ => true) true Try.f7.params.toList args.toList ds p := hA0
  rw [Try.params7] at hA hval
  obtain ⟨v0, vs0, d0, ds0, p0, q0, hargs, rfl, rfl, h0, r0⟩ := trodAll_cons hA
  obtain ⟨rfl, rfl, rfl⟩ := trodAll_nil r0
  obtain rfl : args = #[v0] := by cases args; simp_all
  obtain ⟨rfl, rfl⟩ := trodVars_none hV
  obtain ⟨l0, s0, m0, n0⟩ := open_rowI (hval 0 22 v0 rfl rfl) h0
  clear hA0 hval0
  refine (walk v0 l0 s0 m0 n0).mono fun e W' ⟨he, bel⟩ => ?_
  subst he
  exact ⟨_, rfl, _, _, _, [], _, [], hW', trodAll_mk1 (shut_bool Try.underlying4 _), (trodAll_cons_mk (Below.trod Try.laidOut (by kernel_rfl) (of_decide_eq_true (by kernel_rfl)) h0 bel (fun x hx => hplt x (by simp [hx]))) trodAll_mk0), rfl, World.keptBut_mono (fun x hx => ⟨hx, Or.inr (by simpa using hx)⟩) (bel.frame (· ∈ _)), fun h => by cases h⟩

theorem over : Rows.huffmanPrefixesRow.holds Try.pinned (OpenSpec.ofChange Rows.huffmanPrefixesSpec) :=
  OpenClaim.holds_of_wide 7 Try.f7 rfl rfl rfl rfl rfl rfl rfl ⟨rfl, rfl, rfl, rfl, rfl⟩ rfl rfl rfl rfl rfl (by kernel_rfl) Try.func7 (by kernel_rfl)
    (of_decide_eq_true (by kernel_rfl)) (by unfold Func.isWrapper; first | (rw [if_pos (by decide +kernel)]; kernel_rfl) | (rw [if_neg (by decide +kernel)]; exact ⟨rfl, rfl⟩))
    (fun os started H enc _ => lifted os started H enc)

/-- THE STATEMENT. -/
theorem proved : Rows.HuffmanPrefixesSaid := over
end Go.Proofs.Ytghfehjkhkjgfaa.huffmanPrefixes
