/-
  WALKS over package block, second part: the cost of an encoding with a width; the table of costs, the cheapest width.
-/
import Derived.Test.YtbfnkmibbieijaaBkA
import Derived.Laws.ShiftsVarLaws
import Derived.Laws.Rows
import Derived.Laws.Tables
import Derived.Deep.WholeRow
namespace Go.Proofs.Ytbfnkmibbieijaa
open Go.RowKit Go.Shelf Go.Lib
set_option linter.unusedVariables false
set_option linter.unusedSimpArgs false

theorem shr_nat (v k : Nat) : (v : Int) / 2 ^ k = ((v / 2 ^ k : Nat) : Int) := by simp
theorem uvs_of (X : Int) (v : Nat) (hX : X = v) (hv : v < 2147483648) (w : World) :
    Calls Try.prog 78 #[.int .i64 X] w fun e w' => e = .returned (.int .i64 (uvs v : Nat)) ∧ w' = w := by
  subst hX
  exact uvs_any v hv w
/-- What has been counted before element k. -/
def CsAt (W : Nat) (vs : List Nat) (k e b h : Nat) : Prop := (xsK W vs k).ex = e ∧ (xsK W vs k).bf = b ∧ (xsK W vs k).hi.length = h ∧ e ≤ k ∧ b ≤ k ∧ h ≤ 7 * k
theorem CsAt.zero (W : Nat) (vs : List Nat) : CsAt W vs 0 0 0 0 := ⟨rfl, rfl, rfl, Nat.le_refl _, Nat.le_refl _, Nat.le_refl _⟩
theorem CsAt.no {W : Nat} {vs : List Nat} {k e b h v : Nat} (hc : CsAt W vs k e b h) (hv : vs[k]? = some v) (h0 : v / 2 ^ W = 0) : CsAt W vs (k + 1) e b h := by
  obtain ⟨h1, h2, h3, h4, h5, h6⟩ := hc
  unfold CsAt
  rw [xsK_at hv, xstep_no h0]
  exact ⟨h1, h2, h3, by omega, by omega, by omega⟩
theorem CsAt.yes {W : Nat} {vs : List Nat} {k e b h v g q : Nat} (hc : CsAt W vs k e b h) (hk : k < 128) (hv : vs[k]? = some v) (hv31 : v < 2147483648) (h0 : v / 2 ^ W ≠ 0) (hg : k + 1 - b = g) (hq : v / 2 ^ W = q) : CsAt W vs (k + 1) (e + 1) (k + 1) (h + (uvs g + uvs q)) := by
  obtain ⟨h1, h2, h3, h4, h5, h6⟩ := hc
  have e1 := uvs_two (v := g) (by omega)
  have e2 := uvs_five (v := q) (by rw [← hq]; exact Nat.lt_of_le_of_lt (Nat.div_le_self _ _) hv31)
  unfold CsAt
  rw [xsK_at hv, xstep_yes h0]
  refine ⟨by simp only; omega, rfl, ?_, by omega, by omega, by omega⟩
  simp only [List.length_append, enc_uvs, h2, h3, hg, hq]
  omega

set_option maxRecDepth 100000 in
set_option maxHeartbeats 4000000 in
theorem cost_any {w : World} {v : Value} {vs : List Nat} (hv : Rows 1 EInt w v (castB vs)) (hok : ok31 vs) (W : Nat) (hW : W ≤ 31) :
    Calls Try.prog 40 #[v, .int .i64 W] w fun e w' => e = .returned (.int .i64 (cst vs W : Nat)) ∧ w' = w := by
  obtain ⟨A, cap, rfl, hc⟩ := hv.form
  obtain ⟨n, hn⟩ : ∃ n, vs.length = n := ⟨_, rfl⟩
  rw [castB_len, hn] at hv hc ⊢
  have HV := Lib.hid hv
  have HN := Lib.hid hn
  have HOK := Lib.hid hok
  have hn1 : n ≤ 128 := by rw [← hn]; exact hok.1
  clear hv hn hok hc
  go_enter Try.func40, Try.ntmps40
  go_wp2_with fail
  go_loopw [5, 6, 7, 13] (fun hv ev bv iv wr => wr = w ∧ ∃ k e b h : Nat, k ≤ n ∧ hv = .int .i64 h ∧ ev = .int .i64 e ∧ bv = .int .i64 ((b : Int) - 1) ∧ iv = .int .i64 k ∧ Hid (CsAt W vs k e b h)) (fun _ _ _ iv _ => n - (Go.RowKit.intOf iv).toNat)
  case atStart => exact ⟨rfl, 0, 0, 0, 0, Nat.zero_le _, rfl, rfl, rfl, rfl, Lib.hid (CsAt.zero W vs)⟩
  case round =>
    obtain ⟨rfl, k, e, b, h, hk, rfl, rfl, rfl, rfl, HC⟩ := hrel
    by_cases hlt : k < n
    · have hlti : (k : Int) < (n : Int) := by omega
      obtain ⟨x, hx⟩ : ∃ x, vs[k]? = some x := ⟨_, List.getElem?_eq_getElem (by rw [HN.out]; exact hlt)⟩
      obtain ⟨bb, o, rfl, -, hj⟩ := at_int HV.out (by rw [castB_len, HN.out]; omega)
      have u0 := hj k (x : Int) (by unfold castB; rw [List.getElem?_map, hx]; rfl)
      have hx31 := HOK.out.2 x (List.mem_of_getElem? hx)
      have hcb := HC.out.2.2.2
      have hsh := shr_nat x W
      obtain ⟨q, hq⟩ : ∃ q, x / 2 ^ W = q := ⟨_, rfl⟩
      have hq31 : q < 2147483648 := by rw [← hq]; exact Nat.lt_of_le_of_lt (Nat.div_le_self _ _) hx31
      rw [hq] at hsh
      by_cases hq0 : q = 0
      · subst hq0
        have HNX := Lib.hid (HC.out.no hx hq)
        clear hj hx HC hq
        go_wp2_with fail
        exact ⟨⟨trivial, k + 1, e, b, h, by omega, rfl, rfl, rfl, by go_num, HNX⟩, by simp only [Go.RowKit.intOf]; omega⟩
      · obtain ⟨g, hg⟩ : ∃ g, k + 1 - b = g := ⟨_, rfl⟩
        have HNX := Lib.hid (HC.out.yes (by omega) hx hx31 (by omega) hg hq)
        have hq0i : (0 : Int) < (q : Int) := by omega
        have n1 : (k : Int) - ((b : Int) - 1) = (g : Int) := by omega
        have HU1 := Lib.hid (uvs_any g (by omega) wr)
        have HU2 := Lib.hid (uvs_any q hq31 wr)
        have e1 := uvs_two (v := g) (by omega)
        have e2 := uvs_five (v := q) hq31
        obtain ⟨s, hs⟩ : ∃ s, uvs g = s := ⟨_, rfl⟩
        obtain ⟨t, ht⟩ : ∃ t, uvs q = t := ⟨_, rfl⟩
        rw [hs] at HU1 e1 HNX
        rw [ht] at HU2 e2 HNX
        clear hj hx HC hq hs ht
        go_wp2_with fail
        refine HU1.out.mono ?_
        rintro e w' ⟨rfl, rfl⟩
        go_wp2_with fail
        refine HU2.out.mono ?_
        rintro e w' ⟨rfl, rfl⟩
        go_wp2_with fail
        exact ⟨⟨trivial, k + 1, e + 1, k + 1, h + (s + t), by omega, by go_num, by go_num, by go_num, by go_num, HNX⟩, by simp only [Go.RowKit.intOf]; omega⟩
    · obtain rfl : k = n := by omega
      have hlti : ¬ (k : Int) < (k : Int) := by omega
      obtain ⟨c1, c2, c3, c4, c5, c6⟩ := HC.out
      have HE := Lib.hid (cst_eq vs W)
      rw [HN.out, c1, c3] at HE
      have hm : k * W ≤ 128 * 31 := Nat.mul_le_mul hn1 hW
      have HU1 := Lib.hid (uvs_any k (by omega) wr)
      have HU2 := Lib.hid (uvs_any W (by omega) wr)
      have HU3 := Lib.hid (uvs_any e (by omega) wr)
      have HU4 := Lib.hid (lowSize_any k W hn1 (by omega) wr)
      have e1 := uvs_two (v := k) (by omega)
      have e2 := uvs_two (v := W) (by omega)
      have e3 := uvs_two (v := e) (by omega)
      obtain ⟨s, hs⟩ : ∃ s, uvs k = s := ⟨_, rfl⟩
      obtain ⟨t, ht⟩ : ∃ t, uvs W = t := ⟨_, rfl⟩
      obtain ⟨u, hu⟩ : ∃ u, uvs e = u := ⟨_, rfl⟩
      obtain ⟨z, hz⟩ : ∃ z, (k * W + 7) / 8 = z := ⟨_, rfl⟩
      have hzb : z ≤ 1000 := by omega
      rw [hs] at HU1 e1 HE
      rw [ht] at HU2 e2 HE
      rw [hu] at HU3 e3 HE
      rw [hz] at HU4 HE
      clear HC c1 c2 c3 hs ht hu hz hm
      go_wp2_with fail
      refine HU1.out.mono ?_
      rintro e w' ⟨rfl, rfl⟩
      go_wp2_with fail
      refine HU2.out.mono ?_
      rintro e w' ⟨rfl, rfl⟩
      go_wp2_with fail
      refine HU3.out.mono ?_
      rintro e w' ⟨rfl, rfl⟩
      go_wp2_with fail
      refine HU4.out.mono ?_
      rintro e w' ⟨rfl, rfl⟩
      go_wp2_with fail
      go_ret
      refine ⟨congrArg Ending.returned (congrArg (Value.int .i64) ?_), rfl⟩
      rw [HE.out]
      omega
end Go.Proofs.Ytbfnkmibbieijaa
