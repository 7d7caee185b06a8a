/-
  WALKS over package block, first part: check, and the reference's Check; the sizes of numbers; the cost of an encoding.
  WALKS over package block, second part: the cost of an encoding with a width; the table of costs, the cheapest width.
  WALKS over package block, third part: the table of costs, the cheapest width; Width, Cost.
  WALKS over package block, fourth part: putNumbers, encode, Pack.
  WALKS over the laws of package block: awake; what Cost and Pack answer for lists that are not refused.
-/
import Derived.Test.YteennnhinfnahaaDoorTzO
import Derived.Test.YteennnhinfnahaaDoorTzC
import Derived.Test.YteennnhinfnahaaDoorDaR
import Derived.BigQuiet
import Derived.Deep.QuietTactic
import Derived.Laws.ShiftsVarLaws
import Derived.Laws.Rows
import Derived.Laws.Tables
import Derived.Deep.WholeRow
import Derived.Test.YteennnhinfnahaaDoorTzI
import Derived.Laws.Bits64b
namespace Go.Proofs.YteennnhinfnahaaDoor
open Go.RowKit Go.Shelf Go.Lib
set_option linter.unusedVariables false
set_option linter.unusedSimpArgs false

def bad31 (c : Int) : Bool := decide (c < 0 ∨ 2147483647 < c)
/-- The error of a list of numbers. -/
def chkB (cs : List Int) : Int := if 128 < cs.length then 2 else if cs.any bad31 then 8 else 0
def natB (cs : List Int) : List Nat := cs.map Int.toNat
def castB (ns : List Nat) : List Int := ns.map fun (j : Nat) => (j : Int)
theorem bad_at {cs : List Int} {k : Nat} {c : Int} (h : cs[k]? = some c) (hb : bad31 c = true) : cs.any bad31 = true := List.any_eq_true.2 ⟨c, List.mem_of_getElem? h, hb⟩
theorem bad_step {cs : List Int} {k : Nat} {c : Int} (h : cs[k]? = some c) (h0 : ∀ x ∈ cs.take k, bad31 x = false) (hb : bad31 c = false) : ∀ x ∈ cs.take (k + 1), bad31 x = false := fun x hx => by
  rw [List.take_add_one, h] at hx
  rcases List.mem_append.1 hx with hx | hx
  · exact h0 x hx
  · have : x = c := by simpa using hx
    rw [this]; exact hb
theorem bad_all {cs : List Int} (h0 : ∀ x ∈ cs.take cs.length, bad31 x = false) : cs.any bad31 = false := by
  rw [List.take_length] at h0
  exact List.any_eq_false.2 fun x hx => by rw [h0 x hx]; simp
theorem castB_len (ns : List Nat) : (castB ns).length = ns.length := by simp [castB]
/-- A list that is not refused is a list of numbers. -/
theorem chk_ok {cs : List Int} (h : chkB cs = 0) : castB (natB cs) = cs ∧ ok31 (natB cs) := by
  unfold chkB at h
  split at h
  · omega
  · rename_i h1
    split at h
    · omega
    · rename_i h2
      have h3 : ∀ c ∈ cs, bad31 c = false := fun c hc => by
        cases hb : bad31 c
        · rfl
        · exact absurd (List.any_eq_true.2 ⟨c, hc, hb⟩) h2
      have h4 : ∀ c ∈ cs, 0 ≤ c ∧ c ≤ 2147483647 := fun c hc => by
        have := h3 c hc
        unfold bad31 at this
        have := of_decide_eq_false this
        omega
      refine ⟨?_, ?_, ?_⟩
      · unfold castB natB
        rw [List.map_map]
        conv => rhs; rw [← List.map_id cs]
        refine List.map_congr_left fun c hc => ?_
        have := h4 c hc
        simp only [Function.comp, id_eq]
        omega
      · unfold natB; rw [List.length_map]; omega
      · intro v hv
        obtain ⟨c, hc, rfl⟩ := List.mem_map.1 hv
        have := h4 c hc
        omega
theorem chk_nat {ns : List Nat} (h : ok31 ns) : chkB (castB ns) = 0 := by
  unfold chkB
  rw [castB_len, if_neg (by have := h.1; omega)]
  have : (castB ns).any bad31 = false := List.any_eq_false.2 fun x hx => by
    obtain ⟨v, hv, rfl⟩ := List.mem_map.1 hx
    have := h.2 v hv
    unfold bad31
    simp only [decide_eq_true_eq]
    omega
  rw [this]; rfl
theorem natB_cast (ns : List Nat) : natB (castB ns) = ns := by
  unfold natB castB
  rw [List.map_map]
  conv => rhs; rw [← List.map_id ns]
  exact List.map_congr_left fun c _ => by simp

set_option maxRecDepth 100000 in
set_option maxHeartbeats 4000000 in
theorem checkB_any {w : World} {v : Value} {cs : List Int} (hv : Rows 1 EInt w v cs) (hlen : cs.length ≤ maxLen) :
    Calls Tryd.prog 33 #[v] w fun e w' => e = .returned (.int .i64 (chkB cs)) ∧ w' = w := by
  obtain ⟨A, cap, rfl, hc⟩ := hv.form
  have HV := Lib.hid hv
  obtain ⟨n, hn⟩ : ∃ n, cs.length = n := ⟨_, rfl⟩
  rw [hn] at HV hc hlen ⊢
  unfold maxLen at hlen
  have HN := Lib.hid hn
  by_cases hbig : 128 < n
  · have hI : (128 : Int) < (n : Int) := by omega
    have hE : chkB cs = 2 := by unfold chkB; rw [hn, if_pos hbig]
    rw [hE]
    clear hE hv hn hlen hc hbig
    go_enter Tryd.func33, Tryd.ntmps33
    go_wp2_with fail
    go_ret
    exact ⟨rfl, rfl⟩
  · have hI : ¬ (128 : Int) < (n : Int) := by omega
    obtain ⟨r, hr⟩ : ∃ r, chkB cs = r := ⟨_, rfl⟩
    have hE0 : r = if cs.any bad31 then 8 else 0 := by rw [← hr]; unfold chkB; rw [hn, if_neg hbig]
    rw [hr]
    have HE0 := Lib.hid hE0
    have HPL := Lib.hid (show n ≤ 128 from by omega)
    clear hE0 hv hn hlen hc hbig hr
    go_enter Tryd.func33, Tryd.ntmps33
    go_wp2_with fail
    clear hI
    go_loopw [10] (fun sv wr => wr = w ∧ ∃ k : Nat, k ≤ n ∧ sv = .int .i64 k ∧ Hid (∀ x ∈ cs.take k, bad31 x = false)) (fun sv _ => n - (Go.RowKit.intOf sv).toNat)
    case atStart => exact ⟨rfl, 0, Nat.zero_le _, rfl, fun x hx => by simp at hx⟩
    case round =>
      obtain ⟨rfl, k, hk, rfl, HB⟩ := hrel
      have hn1 := HPL.out
      by_cases hlt : k < n
      · have hlti : (k : Int) < (n : Int) := by omega
        obtain ⟨c, hcx⟩ : ∃ c, cs[k]? = some c := ⟨_, List.getElem?_eq_getElem (by rw [HN.out]; exact hlt)⟩
        obtain ⟨b, o, rfl, -, hj⟩ := at_int HV.out (by rw [HN.out]; omega)
        have u0 := hj k c hcx
        by_cases d1 : c < 0
        · have HE : Hid (r = 8) := by rw [HE0.out, if_pos (bad_at hcx (by unfold bad31; exact decide_eq_true (.inl d1)))]; rfl
          have b1 : decide (c < 0) = true := decide_eq_true d1
          clear hj hcx HB
          go_wp2_with fail
          go_ret
          rw [HE.out]
          exact ⟨rfl, rfl⟩
        · have b1 : decide (c < 0) = false := decide_eq_false d1
          by_cases d2 : 2147483647 < c
          · have HE : Hid (r = 8) := by rw [HE0.out, if_pos (bad_at hcx (by unfold bad31; exact decide_eq_true (.inr d2)))]; rfl
            have b2 : decide (c > 2147483647) = true := decide_eq_true d2
            clear hj hcx HB d1
            go_wp2_with fail
            go_ret
            rw [HE.out]
            exact ⟨rfl, rfl⟩
          · have b2 : decide (c > 2147483647) = false := decide_eq_false d2
            have HB2 := Lib.hid (bad_step hcx HB.out (by unfold bad31; exact decide_eq_false (by omega)))
            clear hj hcx HB d1 d2
            go_wp2_with fail
            exact ⟨⟨trivial, k + 1, by omega, by go_num, HB2⟩, by simp only [Go.RowKit.intOf]; omega⟩
      · obtain rfl : k = n := by omega
        have hlti : ¬ (k : Int) < (k : Int) := by omega
        have HE : Hid (r = 0) := by
          rw [HE0.out, bad_all (by rw [HN.out]; exact HB.out)]; rfl
        clear HB
        go_wp2_with fail
        go_ret
        rw [HE.out]
        exact ⟨rfl, rfl⟩

set_option maxHeartbeats 1000000 in
theorem bitsLen_any (v : Nat) (hv : v < 18446744073709551616) (w : World) :
    Calls Tryd.prog 80 #[.int .u64 v] w fun e w' => e = .returned (.int .i64 (bitLen v)) ∧ w' = w := by
  have HL := Lib.hid (len64_any v (by omega) (by omega) w)
  go_enter Tryd.func80, Tryd.ntmps80
  go_wp2_with fail
  refine HL.out.mono ?_
  rintro e w' ⟨rfl, rfl⟩
  go_wp2_with fail
  go_ret
  exact ⟨rfl, rfl⟩
set_option maxHeartbeats 1000000 in
theorem uvs_any (v : Nat) (hv : v < 2147483648) (w : World) :
    Calls Tryd.prog 77 #[.int .i64 v] w fun e w' => e = .returned (.int .i64 (uvs v : Nat)) ∧ w' = w := by
  have HL := Lib.hid (bitsLen_any v (by omega) w)
  have hb : bitLen v ≤ 31 := by
    unfold bitLen
    by_cases h0 : v = 0
    · rw [if_pos h0]; omega
    · rw [if_neg h0]
      have := (Nat.log2_lt h0 (k := 31)).2 (by omega)
      omega
  unfold uvs
  obtain ⟨t, ht⟩ : ∃ t, bitLen v = t := ⟨_, rfl⟩
  rw [ht] at HL hb ⊢
  clear ht
  go_enter Tryd.func77, Tryd.ntmps77
  go_wp2_with fail
  refine HL.out.mono ?_
  rintro e w' ⟨rfl, rfl⟩
  go_wp2_with fail
  all_goals go_ret
  all_goals refine ⟨?_, rfl⟩
  all_goals refine congrArg Ending.returned (congrArg (Value.int .i64) ?_)
  all_goals omega
set_option maxHeartbeats 1000000 in
theorem lowSize_any (n k : Nat) (hn : n ≤ 128) (hk : k ≤ 128) (w : World) :
    Calls Tryd.prog 69 #[.int .i64 n, .int .i64 k] w fun e w' => e = .returned (.int .i64 ((n * k + 7) / 8 : Nat)) ∧ w' = w := by
  have hm : n * k ≤ 128 * 128 := Nat.mul_le_mul hn hk
  have e1 : (n : Int) * (k : Int) = ((n * k : Nat) : Int) := (Int.natCast_mul n k).symm
  obtain ⟨t, ht⟩ : ∃ t, n * k = t := ⟨_, rfl⟩
  rw [ht] at hm e1 ⊢
  clear ht
  go_enter Tryd.func69, Tryd.ntmps69
  go_wp2_with fail
  go_ret
  refine ⟨?_, rfl⟩
  refine congrArg Ending.returned (congrArg (Value.int .i64) ?_)
  omega
end Go.Proofs.YteennnhinfnahaaDoor
namespace Go.Proofs.YteennnhinfnahaaDoor
open Go.RowKit Go.Shelf Go.Lib
set_option linter.unusedVariables false
set_option linter.unusedSimpArgs false

theorem shr_nat (v k : Nat) : (v : Int) / 2 ^ k = ((v / 2 ^ k : Nat) : Int) := by simp
theorem uvs_of (X : Int) (v : Nat) (hX : X = v) (hv : v < 2147483648) (w : World) :
    Calls Tryd.prog 77 #[.int .i64 X] w fun e w' => e = .returned (.int .i64 (uvs v : Nat)) ∧ w' = w := by
  subst hX
  exact uvs_any v hv w
/-- What has been counted before element k. -/
def CsAt (W : Nat) (vs : List Nat) (k e b h : Nat) : Prop := (xsK W vs k).ex = e ∧ (xsK W vs k).bf = b ∧ (xsK W vs k).hi.length = h ∧ e ≤ k ∧ b ≤ k ∧ h ≤ 7 * k
theorem CsAt.zero (W : Nat) (vs : List Nat) : CsAt W vs 0 0 0 0 := ⟨rfl, rfl, rfl, Nat.le_refl _, Nat.le_refl _, Nat.le_refl _⟩
theorem CsAt.no {W : Nat} {vs : List Nat} {k e b h v : Nat} (hc : CsAt W vs k e b h) (hv : vs[k]? = some v) (h0 : v / 2 ^ W = 0) : CsAt W vs (k + 1) e b h := by
  obtain ⟨h1, h2, h3, h4, h5, h6⟩ := hc
  unfold CsAt
  rw [xsK_at hv, xstep_no h0]
  exact ⟨h1, h2, h3, by omega, by omega, by omega⟩
theorem CsAt.yes {W : Nat} {vs : List Nat} {k e b h v g q : Nat} (hc : CsAt W vs k e b h) (hk : k < 128) (hv : vs[k]? = some v) (hv31 : v < 2147483648) (h0 : v / 2 ^ W ≠ 0) (hg : k + 1 - b = g) (hq : v / 2 ^ W = q) : CsAt W vs (k + 1) (e + 1) (k + 1) (h + (uvs g + uvs q)) := by
  obtain ⟨h1, h2, h3, h4, h5, h6⟩ := hc
  have e1 := uvs_two (v := g) (by omega)
  have e2 := uvs_five (v := q) (by rw [← hq]; exact Nat.lt_of_le_of_lt (Nat.div_le_self _ _) hv31)
  unfold CsAt
  rw [xsK_at hv, xstep_yes h0]
  refine ⟨by simp only; omega, rfl, ?_, by omega, by omega, by omega⟩
  simp only [List.length_append, enc_uvs, h2, h3, hg, hq]
  omega

set_option maxRecDepth 100000 in
set_option maxHeartbeats 4000000 in
theorem cost_any {w : World} {v : Value} {vs : List Nat} (hv : Rows 1 EInt w v (castB vs)) (hok : ok31 vs) (W : Nat) (hW : W ≤ 31) :
    Calls Tryd.prog 72 #[v, .int .i64 W] w fun e w' => e = .returned (.int .i64 (cst vs W : Nat)) ∧ w' = w := by
  obtain ⟨A, cap, rfl, hc⟩ := hv.form
  obtain ⟨n, hn⟩ : ∃ n, vs.length = n := ⟨_, rfl⟩
  rw [castB_len, hn] at hv hc ⊢
  have HV := Lib.hid hv
  have HN := Lib.hid hn
  have HOK := Lib.hid hok
  have hn1 : n ≤ 128 := by rw [← hn]; exact hok.1
  clear hv hn hok hc
  go_enter Tryd.func72, Tryd.ntmps72
  go_wp2_with fail
  go_loopw [5, 6, 7, 13] (fun hv ev bv iv wr => wr = w ∧ ∃ k e b h : Nat, k ≤ n ∧ hv = .int .i64 h ∧ ev = .int .i64 e ∧ bv = .int .i64 ((b : Int) - 1) ∧ iv = .int .i64 k ∧ Hid (CsAt W vs k e b h)) (fun _ _ _ iv _ => n - (Go.RowKit.intOf iv).toNat)
  case atStart => exact ⟨rfl, 0, 0, 0, 0, Nat.zero_le _, rfl, rfl, rfl, rfl, Lib.hid (CsAt.zero W vs)⟩
  case round =>
    obtain ⟨rfl, k, e, b, h, hk, rfl, rfl, rfl, rfl, HC⟩ := hrel
    by_cases hlt : k < n
    · have hlti : (k : Int) < (n : Int) := by omega
      obtain ⟨x, hx⟩ : ∃ x, vs[k]? = some x := ⟨_, List.getElem?_eq_getElem (by rw [HN.out]; exact hlt)⟩
      obtain ⟨bb, o, rfl, -, hj⟩ := at_int HV.out (by rw [castB_len, HN.out]; omega)
      have u0 := hj k (x : Int) (by unfold castB; rw [List.getElem?_map, hx]; rfl)
      have hx31 := HOK.out.2 x (List.mem_of_getElem? hx)
      have hcb := HC.out.2.2.2
      have hsh := shr_nat x W
      obtain ⟨q, hq⟩ : ∃ q, x / 2 ^ W = q := ⟨_, rfl⟩
      have hq31 : q < 2147483648 := by rw [← hq]; exact Nat.lt_of_le_of_lt (Nat.div_le_self _ _) hx31
      rw [hq] at hsh
      by_cases hq0 : q = 0
      · subst hq0
        have HNX := Lib.hid (HC.out.no hx hq)
        clear hj hx HC hq
        go_wp2_with fail
        exact ⟨⟨trivial, k + 1, e, b, h, by omega, rfl, rfl, rfl, by go_num, HNX⟩, by simp only [Go.RowKit.intOf]; omega⟩
      · obtain ⟨g, hg⟩ : ∃ g, k + 1 - b = g := ⟨_, rfl⟩
        have HNX := Lib.hid (HC.out.yes (by omega) hx hx31 (by omega) hg hq)
        have hq0i : (0 : Int) < (q : Int) := by omega
        have n1 : (k : Int) - ((b : Int) - 1) = (g : Int) := by omega
        have HU1 := Lib.hid (uvs_any g (by omega) wr)
        have HU2 := Lib.hid (uvs_any q hq31 wr)
        have e1 := uvs_two (v := g) (by omega)
        have e2 := uvs_five (v := q) hq31
        obtain ⟨s, hs⟩ : ∃ s, uvs g = s := ⟨_, rfl⟩
        obtain ⟨t, ht⟩ : ∃ t, uvs q = t := ⟨_, rfl⟩
        rw [hs] at HU1 e1 HNX
        rw [ht] at HU2 e2 HNX
        clear hj hx HC hq hs ht
        go_wp2_with fail
        refine HU1.out.mono ?_
        rintro e w' ⟨rfl, rfl⟩
        go_wp2_with fail
        refine HU2.out.mono ?_
        rintro e w' ⟨rfl, rfl⟩
        go_wp2_with fail
        exact ⟨⟨trivial, k + 1, e + 1, k + 1, h + (s + t), by omega, by go_num, by go_num, by go_num, by go_num, HNX⟩, by simp only [Go.RowKit.intOf]; omega⟩
    · obtain rfl : k = n := by omega
      have hlti : ¬ (k : Int) < (k : Int) := by omega
      obtain ⟨c1, c2, c3, c4, c5, c6⟩ := HC.out
      have HE := Lib.hid (cst_eq vs W)
      rw [HN.out, c1, c3] at HE
      have hm : k * W ≤ 128 * 31 := Nat.mul_le_mul hn1 hW
      have HU1 := Lib.hid (uvs_any k (by omega) wr)
      have HU2 := Lib.hid (uvs_any W (by omega) wr)
      have HU3 := Lib.hid (uvs_any e (by omega) wr)
      have HU4 := Lib.hid (lowSize_any k W hn1 (by omega) wr)
      have e1 := uvs_two (v := k) (by omega)
      have e2 := uvs_two (v := W) (by omega)
      have e3 := uvs_two (v := e) (by omega)
      obtain ⟨s, hs⟩ : ∃ s, uvs k = s := ⟨_, rfl⟩
      obtain ⟨t, ht⟩ : ∃ t, uvs W = t := ⟨_, rfl⟩
      obtain ⟨u, hu⟩ : ∃ u, uvs e = u := ⟨_, rfl⟩
      obtain ⟨z, hz⟩ : ∃ z, (k * W + 7) / 8 = z := ⟨_, rfl⟩
      have hzb : z ≤ 1000 := by omega
      rw [hs] at HU1 e1 HE
      rw [ht] at HU2 e2 HE
      rw [hu] at HU3 e3 HE
      rw [hz] at HU4 HE
      clear HC c1 c2 c3 hs ht hu hz hm
      go_wp2_with fail
      refine HU1.out.mono ?_
      rintro e w' ⟨rfl, rfl⟩
      go_wp2_with fail
      refine HU2.out.mono ?_
      rintro e w' ⟨rfl, rfl⟩
      go_wp2_with fail
      refine HU3.out.mono ?_
      rintro e w' ⟨rfl, rfl⟩
      go_wp2_with fail
      refine HU4.out.mono ?_
      rintro e w' ⟨rfl, rfl⟩
      go_wp2_with fail
      go_ret
      refine ⟨congrArg Ending.returned (congrArg (Value.int .i64) ?_), rfl⟩
      rw [HE.out]
      omega
end Go.Proofs.YteennnhinfnahaaDoor
namespace Go.Proofs.YteennnhinfnahaaDoor
open Go.RowKit Go.Shelf Go.Lib
set_option linter.unusedVariables false
set_option linter.unusedSimpArgs false

/-- A table half filled: the costs with the first j widths. -/
def partT (vs : List Nat) (j : Nat) : List Value := (List.range 32).map fun i => Value.int .i64 (((if i < j then cst vs i else 0) : Nat) : Int)
theorem partT_cell (vs : List Nat) (j i : Nat) (hi : i < 32) : (partT vs j).toArray[i]? = some (.int .i64 (((if i < j then cst vs i else 0) : Nat) : Int)) := by simp [partT, hi]
theorem partT_set (vs : List Nat) (j : Nat) : (partT vs j).toArray.setIfInBounds j (.int .i64 ((cst vs j : Nat) : Int)) = (partT vs (j + 1)).toArray := by
  apply Array.ext
  · simp [partT]
  · intro i h1 h2
    have hi : i < 32 := by simpa [partT] using h2
    rw [Array.getElem_setIfInBounds (by simpa [partT] using h2)]
    by_cases h : j = i
    · subst h
      simp [partT]
    · rw [if_neg h]
      simp only [partT, List.getElem_toArray, List.getElem_map, List.getElem_range]
      by_cases h3 : i < j
      · rw [if_pos h3, if_pos (by omega)]
      · rw [if_neg h3, if_neg (by omega)]
def TbAt (vs : List Nat) (w : World) (j : Nat) (w' : World) : Prop :=
  Below w.heap.size w w' ∧ w'.heap[w.heap.size]? = some (.cells (partT vs 0).toArray 101 (0, 0)) ∧ w'.heap[w.heap.size + 1]? = some (.cells (partT vs j).toArray 101 (0, 0))
theorem partT_size (vs : List Nat) (j : Nat) : (partT vs j).toArray.size = 32 := by simp [partT]
theorem partT_zero (vs : List Nat) : (partT vs 0).toArray = (List.replicate 32 (Value.int .i64 0)).toArray := rfl
theorem partT_one (vs : List Nat) (j : Nat) : (partT vs j).toArray.all (·.oneCell') = true := by
  rw [Array.all_eq_true_iff_forall_mem]
  intro u hu
  simp only [partT, List.mem_toArray, List.mem_map] at hu
  obtain ⟨i, _, rfl⟩ := hu
  rfl
theorem tabSize : (Tryd.prog.info? 101).map (·.size) = some 32 := by kernel_rfl
theorem below_setRowB {B g : Nat} {a w : World} (h : Below B a w) (hg : B ≤ g) (cs : Array Value) : Below B a (w.setRow g cs) :=
  ⟨h.os, h.tape, h.output, by rw [size_setRow]; exact h.size, fun k hk => (setRow_other w g k cs (by omega)).trans (h.block k hk)⟩
theorem TbAt.new (vs : List Nat) (w : World) : TbAt vs w 0 ((w.alloc (.cells (List.replicate 32 (Value.int .i64 0)).toArray 101)).alloc (.cells (List.replicate 32 (Value.int .i64 0)).toArray 101)) := by
  refine ⟨((Below.refl _ w).alloc (Nat.le_refl _) _).alloc (by simp) _, ?_, ?_⟩
  · rw [partT_zero]; exact heap_alloc2_old w _ _
  · rw [partT_zero]; exact heap_alloc2_new w _ _
theorem TbAt.step {vs : List Nat} {j : Nat} {w w' : World} (h : TbAt vs w j w') : TbAt vs w (j + 1) (w'.setCell ⟨w.heap.size + 1, j, none⟩ (.int .i64 ((cst vs j : Nat) : Int))) := by
  obtain ⟨hb, h0, h1⟩ := h
  refine ⟨hb.setCell (p := ⟨w.heap.size + 1, j, none⟩) (Nat.le_succ _) _, block_other _ h0 (Nat.ne_of_lt (Nat.lt_succ_self _)), ?_⟩
  have := set_of h1 (i := j) (.int .i64 ((cst vs j : Nat) : Int))
  rw [partT_set vs j] at this
  exact this
theorem TbAt.last {vs : List Nat} {w w' : World} (h : TbAt vs w 32 w') : Below w.heap.size w (w'.setRow w.heap.size (partT vs 32).toArray) ∧ (w'.setRow w.heap.size (partT vs 32).toArray).heap[w.heap.size]? = some (.cells (partT vs 32).toArray 101 (0, 0)) := by
  refine ⟨below_setRowB h.1 (Nat.le_refl _) _, ?_⟩
  rw [setRow_heap _ _ _ _ _ _ h.2.1]

set_option maxRecDepth 100000 in
set_option maxHeartbeats 4000000 in
theorem tabulate_any {w : World} {v : Value} {vs : List Nat} (hv : Rows 1 EInt w v (castB vs)) (hok : ok31 vs) :
    Calls Tryd.prog 57 #[v] w fun e w' => e = .returned (.agg (partT vs 32).toArray) ∧ Below w.heap.size w w' := by
  have HC := Lib.hid (fun W (hb : Below w.heap.size w W) j (hj : j ≤ 31) => cost_any (hv.below stays_int hb) hok j hj)
  have HS0 := Lib.hid (TbAt.new vs w)
  clear hv hok
  go_enter Tryd.func57, Tryd.ntmps57
  go_wp2_with fail
  go_loopw [5] (fun iv wr => ∃ j : Nat, j ≤ 32 ∧ iv = .int .i64 j ∧ Hid (TbAt vs w j wr)) (fun iv _ => 32 - (intOf iv).toNat)
  case atStart => exact ⟨0, Nat.zero_le _, rfl, HS0⟩
  case round =>
    clear HS0
    obtain ⟨j, hj, rfl, HS⟩ := hrel
    by_cases hlt : j < 32
    · have hc := cell_of (i := j) HS.out.2.2 (partT_cell vs j j hlt)
      have hf := frozen_of (i := j) HS.out.2.2
      have HCJ := Lib.hid (HC.out wr HS.out.1 j (by omega))
      have hstep := HS.out.step
      obtain ⟨c, hce⟩ : ∃ c, cst vs j = c := ⟨_, rfl⟩
      rw [hce] at HCJ hstep
      have HST := Lib.hid hstep
      clear hstep hce HS
      go_wp2_with fail
      refine HCJ.out.mono ?_
      rintro e w' ⟨rfl, rfl⟩
      go_wp2_with fail
      exact ⟨⟨j + 1, by omega, by go_num, HST⟩, by simp only [intOf]; omega⟩
    · have hj32 : j = 32 := by omega
      subst hj32
      have H1 := Lib.hid HS.out.2.1
      have H2 := Lib.hid HS.out.2.2
      have HL := Lib.hid HS.out.last
      clear HS
      go_wp2_with (first
        | refine wpList_load_row rfl 101 (.tmp 3) rfl (w.heap.size + 1) rfl 101 (partT vs 32).toArray (0, 0) _ H2.out Tryd.underlying101 rfl (by rw [partT_size]; exact tabSize) ?_
        | refine wpList_store_row rfl 101 (.tmp 2) (.tmp 14) rfl w.heap.size (partT vs 32).toArray rfl rfl 101 _ H1.out (by rw [partT_size]; exact tabSize) (by rw [partT_size, partT_size]) (partT_one _ _) ?_)
      exact bodyPost_ret (v := .agg (partT vs 32).toArray) (results_cell_row Tryd.results57 _ _ w.heap.size _ _ _ _ rfl HL.out.2 Tryd.underlying101 rfl (by rw [partT_size]; exact tabSize)) rfl ⟨rfl, HL.out.1⟩

theorem run_index_table (T : Array Value) (i : Nat) (x : Int) (hi : i < 32) (hT : T[i]? = some (.int .i64 x)) (W : World) :
    (Instr.index 101 (.agg T) (.int .i64 (i : Int))).run Tryd.prog W = .ok (.int .i64 x) W := by
  have hi2 : (0 ≤ (i : Int) ∧ (i : Int) < ((32 : Nat) : Int)) := by omega
  have hu := Tryd.underlying101
  simp [Instr.index, run_underlying hu, asIntOf, hi2, go_sem]
  rw [if_pos hi, hT]
  rfl
set_option maxRecDepth 100000 in
set_option maxHeartbeats 4000000 in
theorem cheapest_any (vs : List Nat) (w : World) :
    Calls Tryd.prog 58 #[.agg (partT vs 32).toArray] w fun e w' => e = .returned (.int .i64 (wid vs : Nat)) ∧ Below w.heap.size w w' := by
  obtain ⟨T, hT⟩ : ∃ T, (partT vs 32).toArray = T := ⟨_, rfl⟩
  have HT := Lib.hid (show ∀ i, i < 32 → T[i]? = some (.int .i64 (cst vs i : Nat)) from fun i hi => by rw [← hT, partT_cell vs 32 i hi, if_pos hi])
  have HTS := Lib.hid (show T.size = 32 by rw [← hT, partT_size])
  rw [hT]
  clear hT
  go_enter Tryd.func58, Tryd.ntmps58
  go_wp2_with (refine wpList_load_row rfl 101 (.tmp 1) rfl w.heap.size rfl 101 T (0, 0) _ (block_new w _) Tryd.underlying101 rfl (by rw [HTS.out]; exact tabSize) ?_)
  have hcell : ∀ i, i < 32 → (w.alloc (.cells T 101)).cell? ⟨w.heap.size, i, none⟩ = some (.int .i64 (cst vs i : Nat)) := fun i hi => cell_of (block_new w _) (HT.out i hi)
  obtain ⟨w1, hw1⟩ : ∃ w1, w.alloc (.cells T 101) = w1 := ⟨_, rfl⟩
  have HB := Lib.hid (show Below w.heap.size w w1 by rw [← hw1]; exact below_box w _)
  rw [hw1] at hcell ⊢
  have HCE := Lib.hid hcell
  clear hcell hw1
  go_loopw [3, 7] (fun bv iv wr => wr = w1 ∧ ∃ j b : Nat, j ≤ 32 ∧ bv = .int .i64 b ∧ iv = .int .i64 j ∧ Hid (b = bestK vs (j - 1))) (fun _ iv _ => 32 - (intOf iv).toNat)
  case atStart => exact ⟨rfl, 0, 0, by omega, rfl, rfl, Lib.hid rfl⟩
  case round =>
    obtain ⟨rfl, j, b, hj, rfl, rfl, HBK⟩ := hrel
    by_cases hlt : j < 32
    · have hb31 : b ≤ 31 := by rw [HBK.out]; exact Nat.le_trans (bestK_le _ _) (by omega)
      have hTj := HT.out j hlt
      have hcb := HCE.out b (by omega)
      have hnx : bestK vs (j + 1 - 1) = if cst vs j < cst vs b then j else b := by
        rw [Nat.add_sub_cancel]
        cases j with
        | zero => rw [HBK.out]; simp [bestK]
        | succ m => rw [HBK.out]; rfl
      obtain ⟨x, hx⟩ : ∃ x, cst vs j = x := ⟨_, rfl⟩
      obtain ⟨y, hy⟩ : ∃ y, cst vs b = y := ⟨_, rfl⟩
      rw [hx] at hTj hnx
      have hrun := run_index_table T j (x : Int) hlt hTj wr
      rw [hy] at hcb hnx
      by_cases hxy : x < y
      · have hxyi : (x : Int) < (y : Int) := by omega
        rw [if_pos hxy] at hnx
        have HNX := Lib.hid hnx.symm
        clear hnx hx hy HBK
        go_wp2_with fail
        exact ⟨⟨trivial, j + 1, j, by omega, rfl, by go_num, HNX⟩, by simp only [intOf]; omega⟩
      · have hxyi : ¬ (x : Int) < (y : Int) := by omega
        rw [if_neg hxy] at hnx
        have HNX := Lib.hid hnx.symm
        clear hnx hx hy HBK
        go_wp2_with fail
        exact ⟨⟨trivial, j + 1, b, by omega, rfl, by go_num, HNX⟩, by simp only [intOf]; omega⟩
    · obtain rfl : j = 32 := by omega
      have hE : b = wid vs := HBK.out
      subst hE
      go_wp2_with fail
      go_ret
      exact ⟨rfl, HB.out⟩

set_option maxRecDepth 100000 in
set_option maxHeartbeats 4000000 in
theorem widthB_any {w : World} {v : Value} {cs : List Int} (hv : Rows 1 EInt w v cs) (hlen : cs.length ≤ maxLen) :
    Calls Tryd.prog 35 #[v] w fun e w' => e = .returned (.int .i64 (if chkB cs = 0 then (wid (natB cs) : Int) else 0)) ∧ Below w.heap.size w w' := by
  have HCK := Lib.hid (checkB_any hv hlen)
  by_cases hk : chkB cs = 0
  · obtain ⟨hcs, hok⟩ := chk_ok hk
    rw [if_pos hk]
    obtain ⟨r, hr⟩ : ∃ r, chkB cs = r := ⟨_, rfl⟩
    rw [hr] at hk HCK
    subst hk
    rw [← hcs] at hv
    have HT := Lib.hid (tabulate_any hv hok)
    clear hv hok hcs hr
    go_enter Tryd.func35, Tryd.ntmps35
    go_wp2_with fail
    refine HCK.out.mono ?_
    rintro e w' ⟨rfl, rfl⟩
    go_wp2_with fail
    refine HT.out.mono ?_
    rintro e w2 ⟨rfl, hb⟩
    have HB := Lib.hid hb
    have HCH := Lib.hid (cheapest_any (natB cs) w2)
    clear hb
    go_wp2_with fail
    refine HCH.out.mono ?_
    rintro e w3 ⟨rfl, hb3⟩
    have HB3 := Lib.hid (HB.out.trans (hb3.mono HB.out.size))
    clear hb3
    go_wp2_with fail
    go_ret
    exact ⟨rfl, HB3.out⟩
  · rw [if_neg hk]
    obtain ⟨r, hr⟩ : ∃ r, chkB cs = r := ⟨_, rfl⟩
    rw [hr] at hk HCK
    have hb : (r != 0) = true := by simpa using hk
    clear hv hlen hr
    go_enter Tryd.func35, Tryd.ntmps35
    go_wp2_with fail
    refine HCK.out.mono ?_
    rintro e w' ⟨rfl, rfl⟩
    go_wp2_with fail
    go_ret
    exact ⟨rfl, Below.refl _ _⟩

/-- What Cost answers. -/
def costE (cs : List Int) (k : Int) : Int × Int := if chkB cs ≠ 0 then (0, chkB cs) else if k < 0 ∨ 31 < k then (0, 1) else (((cst (natB cs) k.toNat : Nat) : Int), 0)
end Go.Proofs.YteennnhinfnahaaDoor
namespace Go.Proofs.YteennnhinfnahaaDoor
open Go.RowKit Go.Shelf Go.Lib
set_option linter.unusedVariables false
set_option linter.unusedSimpArgs false

theorem own_baseB {w : World} {b1 b2 : Nat} {e : TypeId} {size n : Nat} {v : Value} {xs : List Value} (h : w.ownsRow b2 e size v n xs) (hb : b1 ≤ b2) : w.ownsRow b1 e size v n xs := by
  rcases h.2 with hn | ⟨g, cap, cur, hv, hg, rest⟩
  · exact ⟨h.1, .inl hn⟩
  · exact ⟨h.1, .inr ⟨g, cap, cur, hv, Nat.le_trans hb hg, rest⟩⟩
/-- An answer that is a row of bytes of the call's own. -/
def OwnB (w : World) (L : List UInt8) (e : Ending) (w' : World) : Prop := ∃ v', e = .returned v' ∧ w'.ownsRow w.heap.size 5 1 v' L.length (byteCells L) ∧ Below w.heap.size w w'
/-- append of bytes that are read to a row of the call's own. -/
theorem wpList_catB {w : World} {ops : Array Oper} {rest : List Oper} {o : Oper} {a : Act} {Q : Exit → Act → World → Prop} (hgd : o.guard = none) (s x : Operand)
    (ho : o.op = .call { callee := .builtin .append, args := #[s, x], argTypes := #[44, 44] }) (base : Nat) (v : Value) (L : List UInt8) (hs : a.eval s = v) (hown : w.ownsRow base 5 1 v L.length (byteCells L))
    (vx : Value) (B : Nat) (M : List UInt8) (hx : a.eval x = vx) (hn : Sees w B vx M) (h63 : L.length + M.length ≤ 100000) (hbase : base ≤ w.heap.size)
    (h : ∀ v' w', Hid (w'.ownsRow base 5 1 v' (L ++ M).length (byteCells (L ++ M))) → Hid (w.grownBy w' v.ownBlock) → wpList Tryd.prog ops Q rest (a.put o.dst v') w') : wpList Tryd.prog ops Q (o :: rest) a w := by
  obtain ⟨i0, hi, hz0, hz1, hz2⟩ := info_parts' Tryd.infoByte
  have hcl := byteCells_length M
  refine wpList_append_sees hgd s x 44 ho base 5 i0 _ 1 Tryd.underlying44 hi hz0 hz1 hz2 rfl v L.length (byteCells L) hs hown vx B (byteCells M) hx hn.cells (bytes_one M) (by rw [hcl]; unfold maxLen; omega) (by rw [hcl]; omega) hbase ?_
  intro v' w' h1 h2 _
  refine h v' w' (Lib.hid ?_) (Lib.hid h2)
  rw [hcl] at h1
  rw [List.length_append, byteCells_app]
  exact h1
theorem WAt.stay {w w' : World} {B g : Nat} {v : Value} {l : List Bool} (h : WAt w B g v l) (hb : Below w.heap.size w w') : WAt w' B g v l :=
  ⟨h.1, (hb.block g h.lt).trans h.2.1, own_below h.2.2 fun k e => hb.block k (own_low h.2.2 k e).2⟩
theorem block_rowsB {W : World} {B n : Nat} {cs : Array Value} (xs : List Int) (h : W.heap[B]? = some (.cells cs 3 (0, 0))) (hc : cs.toList = xs.map fun x => Value.int .i64 x) (hn : xs.length = n) (hm : n ≤ maxLen) : Rows 1 EInt W (.slice (some ⟨B, 0, none⟩) n n) xs := by
  subst hn
  refine own_rows (base := 0) ⟨by simp, .inr ⟨B, xs.length, cs, rfl, Nat.zero_le _, h, Nat.le_refl _, hm, ?_, ?_⟩⟩
  · rw [← Array.length_toList, hc]; simp
  · rw [hc, List.take_of_length_le (by simp)]
theorem flat_len {ns : List Nat} (hn : ∀ n ∈ ns, n < 2147483648) : (ns.flatMap enc).length ≤ 5 * ns.length := by
  induction ns with
  | nil => simp
  | cons n r ih =>
    have h1 := ih fun m hm => hn m (List.mem_cons_of_mem _ hm)
    have h2 := uvs_five (hn n (List.mem_cons_self ..))
    rw [List.flatMap_cons, List.length_append, enc_uvs, List.length_cons]
    omega
/-- Some of the numbers have been written. -/
def PnAt (w : World) (L : List UInt8) (ns : List Nat) (k : Nat) (bv : Value) (wr : World) : Prop :=
  Below w.heap.size w wr ∧ Sees wr wr.heap.size bv (L ++ (ns.take k).flatMap enc) ∧ (0 < k → wr.ownsRow w.heap.size 5 1 bv (L ++ (ns.take k).flatMap enc).length (byteCells (L ++ (ns.take k).flatMap enc)))
set_option maxRecDepth 100000 in
set_option maxHeartbeats 4000000 in
theorem many_any {w : World} {v vn : Value} {L : List UInt8} {ns : List Nat} (h : Sees w w.heap.size v L) (hr : Rows 1 EInt w vn (castB ns)) (hne : 0 < ns.length) (h3 : ns.length ≤ 3) (hL : L.length ≤ 960) (hn : ∀ n ∈ ns, n < 2147483648) :
    Calls Tryd.prog 56 #[v, vn] w (OwnB w (L ++ ns.flatMap enc)) := by
  obtain ⟨A, cap, rfl, -⟩ := hr.form
  obtain ⟨m, hm⟩ : ∃ m, ns.length = m := ⟨_, rfl⟩
  rw [castB_len, hm] at hr ⊢
  rw [hm] at hne h3
  have HST0 : Hid (PnAt w L ns 0 v w) := Lib.hid ⟨Below.refl _ _, by simpa using h, fun h => absurd h (by omega)⟩
  have HR := Lib.hid (fun W (hb : Below w.heap.size w W) => hr.below stays_int hb)
  have HN := Lib.hid hn
  have HM := Lib.hid hm
  have HL := Lib.hid hL
  clear h hr hn hm hL
  go_enter Tryd.func56, Tryd.ntmps56
  go_wp2_with fail
  go_loopw [0, 9] (fun bv iv wr => ∃ k : Nat, k ≤ m ∧ iv = .int .i64 k ∧ Hid (PnAt w L ns k bv wr)) (fun _ iv _ => m - (Go.RowKit.intOf iv).toNat)
  case atStart => exact ⟨0, Nat.zero_le _, rfl, HST0⟩
  case round =>
    clear HST0
    obtain ⟨k, hk, rfl, HS⟩ := hrel
    by_cases hlt : k < m
    · have hlti : (k : Int) < (m : Int) := by omega
      obtain ⟨x, hx⟩ : ∃ x, ns[k]? = some x := ⟨_, List.getElem?_eq_getElem (by rw [HM.out]; exact hlt)⟩
      obtain ⟨b, o, rfl, -, hj⟩ := at_int (HR.out _ HS.out.1) (by rw [castB_len, HM.out]; omega)
      have u0 := hj k (x : Int) (by unfold castB; rw [List.getElem?_map, hx]; rfl)
      have hx31 := HN.out x (List.mem_of_getElem? hx)
      have hlen : (L ++ (ns.take k).flatMap enc).length ≤ 1000 := by
        have h1 := flat_len (ns := ns.take k) fun n hn => HN.out n (List.mem_of_mem_take hn)
        have h2 := HL.out
        rw [List.length_take] at h1
        rw [List.length_append]
        omega
      have HP := Lib.hid (put_any HS.out.2.1 hlen x (by omega))
      have hst : L ++ (ns.take (k + 1)).flatMap enc = (L ++ (ns.take k).flatMap enc) ++ enc x := by
        rw [List.take_add_one, hx, List.flatMap_append, List.append_assoc]
        simp
      have HST := Lib.hid hst
      have HB := Lib.hid HS.out.1
      clear hj hx hlen hst HS
      go_wp2_with fail
      refine HP.out.mono ?_
      rintro e w2 ⟨v2, rfl, ho2, hb2⟩
      have HNX : Hid (PnAt w L ns (k + 1) v2 w2) := Lib.hid (by
        unfold PnAt
        rw [HST.out]
        exact ⟨HB.out.trans (hb2.mono HB.out.size), sees_own ho2, fun _ => own_baseB ho2 HB.out.size⟩)
      clear ho2 hb2
      go_wp2_with fail
      exact ⟨⟨k + 1, by omega, by go_num, HNX⟩, by simp only [Go.RowKit.intOf]; omega⟩
    · obtain rfl : k = m := by omega
      have hlti : ¬ (k : Int) < (k : Int) := by omega
      obtain ⟨hb, -, ho⟩ := HS.out
      have ho := ho hne
      rw [List.take_of_length_le (by rw [HM.out]; exact Nat.le_refl _)] at ho
      have HO := Lib.hid ho
      have HB := Lib.hid hb
      clear ho hb HS
      go_wp2_with fail
      go_ret
      exact ⟨_, rfl, HO.out, HB.out⟩

theorem low_mod (x : Nat) (W : Nat) : ∀ n, n ≤ W → low (x % 2 ^ W) n = low x n
  | 0, _ => rfl
  | n + 1, h => by
    have e : x % 2 ^ W / 2 ^ n % 2 = x / 2 ^ n % 2 := by
      obtain ⟨d, rfl⟩ : ∃ d, W = n + 1 + d := ⟨W - (n + 1), by omega⟩
      rw [Nat.add_assoc, Nat.pow_add, Nat.mod_mul_right_div_self, Nat.pow_add, Nat.pow_one, Nat.mod_mul_right_mod]
    simp only [low, e, low_mod x W n (by omega)]
theorem mask_low (x W : Nat) (hx : x < 2147483648) (hW : W ≤ 31) : bits .and .u64 (x : Int) (IntKind.u64.wrap (IntKind.u64.wrap ((2 : Int) ^ W) - 1)) = ((x % 2 ^ W : Nat) : Int) := by
  have h31 : 2 ^ W ≤ 2 ^ 31 := Nat.pow_le_pow_right (by omega) hW
  have h32 : (2 : Nat) ^ 31 = 2147483648 := by decide
  have h0 : 1 ≤ 2 ^ W := Nat.one_le_two_pow
  have e0 : (2 : Int) ^ W = ((2 ^ W : Nat) : Int) := by simp
  rw [e0, ← Nat.and_two_pow_sub_one_eq_mod]
  obtain ⟨P, hP⟩ : ∃ P, 2 ^ W = P := ⟨_, rfl⟩
  rw [hP] at h31 h0 ⊢
  have e1 : IntKind.u64.wrap (P : Int) = P := by rw [IntKind.wrap_u64]; omega
  have e2 : IntKind.u64.wrap ((P : Int) - 1) = ((P - 1 : Nat) : Int) := by rw [IntKind.wrap_u64]; omega
  rw [e1, e2, bits_and_u64_nat _ _ (by omega) (by omega)]
/-- Between two numbers of encode. -/
structure EnAt (w : World) (W : Nat) (vs : List Nat) (k e b : Nat) (hv : Value) (wr : World) : Prop where
  bl : Below w.heap.size w wr
  sz : w.heap.size ≤ wr.heap.size
  wat : ∃ v, WAt wr w.heap.size w.heap.size v (lowB W (vs.take k)) ∧ ∀ c, hv.ownBlock = some c → c ≠ w.heap.size ∧ v.ownBlock ≠ some c
  own : wr.ownsRow w.heap.size 5 1 hv (xsK W vs k).hi.length (byteCells (xsK W vs k).hi)
  ex : (xsK W vs k).ex = e
  bf : (xsK W vs k).bf = b
  le : e ≤ k ∧ b ≤ k ∧ (xsK W vs k).hi.length ≤ 7 * k
set_option maxRecDepth 100000 in
set_option maxHeartbeats 4000000 in
theorem encodeB_any {w : World} {v : Value} {vs : List Nat} (hv : Rows 1 EInt w v (castB vs)) (hok : ok31 vs) (W : Nat) (hW : W ≤ 31) :
    Calls Tryd.prog 34 #[v, .int .i64 W] w (OwnB w (blkB vs W)) := by
  obtain ⟨A, cap, rfl, hc⟩ := hv.form
  obtain ⟨n, hn⟩ : ∃ n, vs.length = n := ⟨_, rfl⟩
  rw [castB_len, hn] at hv hc ⊢
  have HV := Lib.hid (fun W (hb : Below w.heap.size w W) => hv.below stays_int hb)
  have HN := Lib.hid hn
  have HOK := Lib.hid hok
  have hn1 : n ≤ 128 := by rw [← hn]; exact hok.1
  have HNW := Lib.hid (newWriter_any w)
  clear hv hn hok hc
  go_enter Tryd.func34, Tryd.ntmps34
  go_wp2_with fail
  refine HNW.out.mono ?_
  rintro e w1 ⟨rfl, hw1⟩
  have HS0 : Hid (EnAt w W vs 0 0 0 (.slice none 0 0) w1) := Lib.hid (by
    have hwn := writer_new w
    rw [← hw1] at hwn
    exact ⟨by rw [hw1]; exact below_box _ _, by rw [hw1]; simp, ⟨_, by simpa [lowB] using hwn, fun c h => by cases h⟩, World.ownsRow_nil _ _ _ _, rfl, rfl, Nat.le_refl _, Nat.le_refl _, Nat.le_refl _⟩)
  clear hw1 HNW
  go_wp2_with fail
  go_loopw [6, 7, 8, 15] (fun hv0 ev bv iv wr => ∃ (hv : Value) (k e b : Nat), hv = hv0 ∧ k ≤ n ∧ ev = .int .i64 e ∧ bv = .int .i64 ((b : Int) - 1) ∧ iv = .int .i64 k ∧ Hid (EnAt w W vs k e b hv wr)) (fun _ _ _ iv _ => n - (Go.RowKit.intOf iv).toNat)
  case atStart => exact ⟨_, 0, 0, 0, rfl, Nat.zero_le _, rfl, rfl, rfl, HS0⟩
  case round =>
    clear HS0
    obtain ⟨hv, k, e, b, rfl, hk, rfl, rfl, rfl, HS⟩ := hrel
    by_cases hlt : k < n
    · have hlti : (k : Int) < (n : Int) := by omega
      obtain ⟨x, hx⟩ : ∃ x, vs[k]? = some x := ⟨_, List.getElem?_eq_getElem (by rw [HN.out]; exact hlt)⟩
      obtain ⟨bb, o, rfl, -, hj⟩ := at_int (HV.out _ HS.out.bl) (by rw [castB_len, HN.out]; omega)
      have u0 := hj k (x : Int) (by unfold castB; rw [List.getElem?_map, hx]; rfl)
      have hx31 := HOK.out.2 x (List.mem_of_getElem? hx)
      clear hj
      obtain ⟨vw, hat, hap⟩ := HS.out.wat
      have hmask := mask_low x W hx31 hW
      have hlw : lowB W (vs.take (k + 1)) = lowB W (vs.take k) ++ low (x % 2 ^ W) W := by rw [lowB_step hx, low_mod x W W (Nat.le_refl _)]
      have hr2 : x % 2 ^ W < 2 ^ W := Nat.mod_lt _ (Nat.pow_pos (by decide))
      have hr3 : x % 2 ^ W ≤ x := Nat.mod_le _ _
      obtain ⟨r, hr⟩ : ∃ r, x % 2 ^ W = r := ⟨_, rfl⟩
      rw [hr] at hmask hlw hr2 hr3
      have hll : (lowB W (vs.take k)).length ≤ 900000 := by
        rw [lowB_len]
        have h1 : (vs.take k).length ≤ 128 := by rw [List.length_take]; omega
        have := Nat.mul_le_mul h1 hW
        omega
      have HWB := Lib.hid (wbits_any hat HS.out.sz r W (by omega) (by omega) hr2 hll)
      have hsh := shr_nat x W
      obtain ⟨q, hq⟩ : ∃ q, x / 2 ^ W = q := ⟨_, rfl⟩
      have hq31 : q < 2147483648 := by rw [← hq]; exact Nat.lt_of_le_of_lt (Nat.div_le_self _ _) hx31
      rw [hq] at hsh
      have hle := HS.out.le
      have HX := Lib.hid hx
      have HQ := Lib.hid hq
      have HLW := Lib.hid hlw
      have HNX2 : Hid (∀ v2 w2, WAt w2 w.heap.size w.heap.size v2 (lowB W (vs.take k) ++ low r W) → Stepped w.heap.size vw wr v2 w2 →
          WAt w2 w.heap.size w.heap.size v2 (lowB W (vs.take (k + 1))) ∧ Below w.heap.size w w2 ∧ w2.ownsRow w.heap.size 5 1 hv (xsK W vs k).hi.length (byteCells (xsK W vs k).hi) ∧ w.heap.size ≤ w2.heap.size ∧ ∀ c, hv.ownBlock = some c → c ≠ w.heap.size ∧ v2.ownBlock ≠ some c) := Lib.hid (fun v2 w2 h1 h2 => by
        refine ⟨by rw [hlw]; exact h1, HS.out.bl.trans (hat.below h2 HS.out.sz), own_below HS.out.own fun c e => h2.block c (own_low HS.out.own c e).2 (hap c e).1 (hap c e).2, Nat.le_trans HS.out.sz h2.size, fun c e => ⟨(hap c e).1, fun e2 => ?_⟩⟩
        rcases h2.own c e2 with h | h
        · exact (hap c e).2 h
        · have := (own_low HS.out.own c e).2
          omega)
      clear hlw hr2 hr3 hr hll hat hap hx hq
      by_cases hq0 : q = 0
      · subst hq0
        go_wp2_with fail
        refine HWB.out.mono ?_
        rintro er w2 ⟨v2, rfl, hw2, hs2⟩
        obtain ⟨a1, a2, a3, a4, a5⟩ := HNX2.out v2 w2 hw2 hs2
        have HNX : Hid (EnAt w W vs (k + 1) e b hv w2) := Lib.hid (by
          have hst := xsK_at (w := W) HX.out
          rw [xstep_no HQ.out] at hst
          refine ⟨a2, a4, ⟨v2, a1, a5⟩, by rw [hst]; exact a3, by rw [hst]; exact HS.out.ex, by rw [hst]; exact HS.out.bf, by rw [hst]; omega⟩)
        clear hw2 hs2 a1 a2 a3 a4 a5 HNX2 HWB HS
        go_wp2_with fail
        exact ⟨⟨_, k + 1, e, b, rfl, by omega, rfl, rfl, by go_num, HNX⟩, by simp only [Go.RowKit.intOf]; omega⟩
      · obtain ⟨g, hg⟩ : ∃ g, k + 1 - b = g := ⟨_, rfl⟩
        have hq0i : ((q : Int) == 0) = false := by simp; omega
        have n1 : (k : Int) - ((b : Int) - 1) = (g : Int) := by omega
        go_wp2_with fail
        refine HWB.out.mono ?_
        rintro er w2 ⟨v2, rfl, hw2, hs2⟩
        obtain ⟨a1, a2, a3, a4, a5⟩ := HNX2.out v2 w2 hw2 hs2
        have hlt2 := a1.lt
        have HP := Lib.hid (many_any (w := w2.alloc (.cells #[.int .i64 (g : Int), .int .i64 (q : Int)] 3)) (ns := [g, q]) (((sees_own a3).below (below_box _ _)).mono (by simp)) (block_rowsB [(g : Int), (q : Int)] (block_new _ _) rfl rfl (by show 2 ≤ maxLen; decide)) (by simp) (by simp) (by omega) (by simp; omega))
        have HNX : Hid (∀ v3 w3, w3.ownsRow (w2.alloc (.cells #[.int .i64 (g : Int), .int .i64 (q : Int)] 3)).heap.size 5 1 v3 ((xsK W vs k).hi ++ [g, q].flatMap enc).length (byteCells ((xsK W vs k).hi ++ [g, q].flatMap enc)) → Below (w2.alloc (.cells #[.int .i64 (g : Int), .int .i64 (q : Int)] 3)).heap.size (w2.alloc (.cells #[.int .i64 (g : Int), .int .i64 (q : Int)] 3)) w3 → EnAt w W vs (k + 1) (e + 1) (k + 1) v3 w3) := Lib.hid (fun v3 w3 h1 h2 => by
          have hst := xsK_at (w := W) HX.out
          rw [xstep_yes (by rw [HQ.out]; exact hq0), HQ.out, HS.out.bf, hg] at hst
          have hbb := below_alloc _ h2
          have hsz : (w2.alloc (.cells #[.int .i64 (g : Int), .int .i64 (q : Int)] 3)).heap.size = w2.heap.size + 1 := alloc_sz _ _
          have e1 := uvs_two (v := g) (by omega)
          have e2 := uvs_five (v := q) hq31
          have hfl : (xsK W vs k).hi ++ [g, q].flatMap enc = (xsK W vs k).hi ++ enc g ++ enc q := by simp
          rw [hfl] at h1
          refine ⟨a2.trans (hbb.mono a4), Nat.le_trans a4 hbb.size, ⟨v2, a1.stay hbb, fun c ec => ?_⟩, ?_, by rw [hst]; simp only [HS.out.ex], by rw [hst], ?_⟩
          · have h5 := own_low h1 c ec
            rw [hsz] at h5
            exact ⟨by omega, fun e2 => by have := (own_low a1.2.2 c e2).2; omega⟩
          · rw [hst]; exact own_baseB h1 (by rw [hsz]; omega)
          · rw [hst]
            simp only [List.length_append, enc_uvs]
            omega)
        clear hw2 hs2 a1 a2 a3 a4 a5 hlt2 HNX2 HWB HS hg
        go_wp2_with fail
        refine HP.out.mono ?_
        rintro er w3 ⟨v3, rfl, ho3, hb3⟩
        have HN3 := Lib.hid (HNX.out v3 w3 ho3 hb3)
        clear ho3 hb3 HNX HP
        go_wp2_with fail
        exact ⟨⟨_, k + 1, e + 1, k + 1, rfl, by omega, by go_num, by go_num, by go_num, HN3⟩, by simp only [Go.RowKit.intOf]; omega⟩
    · obtain rfl : k = n := by omega
      have hlti : ¬ (k : Int) < (k : Int) := by omega
      obtain ⟨vw, hat, hap⟩ := HS.out.wat
      have hle := HS.out.le
      rw [List.take_of_length_le (by rw [HN.out]; exact Nat.le_refl _)] at hat
      have HAT := Lib.hid hat
      have HSH := Lib.hid (sees_own HS.out.own)
      have HBL := Lib.hid HS.out.bl
      have HSZ := Lib.hid HS.out.sz
      have HE : Hid (blkB vs W = (([] ++ [k, W, e].flatMap enc) ++ pack (lowB W vs)) ++ (xsK W vs k).hi) := Lib.hid (by
        unfold blkB
        rw [HN.out, HS.out.ex]
        simp)
      have hpl : (pack (lowB W vs)).length ≤ 600 := by
        rw [pack_len, lowB_len, HN.out]
        have := Nat.mul_le_mul hn1 hW
        omega
      have hll : (lowB W vs).length ≤ 10000000 := by
        rw [lowB_len, HN.out]
        have := Nat.mul_le_mul hn1 hW
        omega
      have HP := Lib.hid (many_any (w := wr.alloc (.cells #[.int .i64 (k : Int), .int .i64 (W : Int), .int .i64 (e : Int)] 3)) (ns := [k, W, e]) (Sees.nil _ _) (block_rowsB [(k : Int), (W : Int), (e : Int)] (block_new _ _) rfl rfl (by show 3 ≤ maxLen; decide)) (by simp) (by simp) (by simp) (by simp; omega))
      obtain ⟨L1, hL1⟩ : ∃ L, [] ++ [k, W, e].flatMap enc = L := ⟨_, rfl⟩
      have hl1 : L1.length ≤ 15 := by
        rw [← hL1]
        have := flat_len (ns := [k, W, e]) (by simp; omega)
        simpa using this
      obtain ⟨L2, hL2⟩ : ∃ L, pack (lowB W vs) = L := ⟨_, rfl⟩
      obtain ⟨L3, hL3⟩ : ∃ L, (xsK W vs k).hi = L := ⟨_, rfl⟩
      have HBY := Lib.hid (fun W2 (hb : Below wr.heap.size wr W2) => bytes_any (hat.stay hb) hll)
      rw [hL1] at HP HE
      rw [hL2] at HE hpl HBY
      rw [hL3] at HE HSH hle
      have hsz1 : (wr.alloc (.cells #[.int .i64 (k : Int), .int .i64 (W : Int), .int .i64 (e : Int)] 3)).heap.size = wr.heap.size + 1 := alloc_sz _ _
      have HS1 := Lib.hid hsz1
      clear hL1 hL2 hL3 hat hap HS hll hsz1
      go_wp2_with fail
      refine HP.out.mono ?_
      rintro er w2 ⟨v2, rfl, ho2, hb2⟩
      have hb2w := below_alloc _ hb2
      have HBY2 := Lib.hid (HBY.out w2 hb2w)
      have HZ2 := Lib.hid (show wr.heap.size + 1 ≤ w2.heap.size by have := hb2.size; rw [HS1.out] at this; exact this)
      have HO2 := Lib.hid ho2
      have HB2 := Lib.hid hb2w
      clear ho2 hb2 hb2w HBY HP
      go_wp2_with fail
      refine HBY2.out.mono ?_
      rintro er w3 ⟨v3, rfl, ho3, hb3⟩
      have HO2' := Lib.hid (own_baseB (b1 := wr.heap.size) (own_below HO2.out fun c ec => hb3.block c (own_low HO2.out c ec).2) (by rw [HS1.out]; omega))
      have HS3 := Lib.hid (sees_own ho3)
      have HB3 := Lib.hid (HB2.out.trans (hb3.mono HB2.out.size))
      clear ho3 hb3 HBY2 HO2 HB2 HZ2 HS1
      go_wp2_with (at_builtin; refine wpList_catB rfl (.tmp 52) (.tmp 54) rfl wr.heap.size v2 L1 rfl HO2'.out v3 _ L2 rfl HS3.out (by omega) HB3.out.size ?_)
      intro v4 w4 HO40 HG4
      have HO4 : Hid (w4.ownsRow wr.heap.size 5 1 v4 (L1 ++ L2).length (byteCells (L1 ++ L2))) := Lib.hid (by rw [List.length_append]; exact HO40.out)
      clear HO40
      have HB4 := Lib.hid (HB3.out.grown HG4.out HB3.out.size (fun c ec => (own_low HO2'.out c ec).1))
      have HS4 := Lib.hid (HSH.out.below HB4.out)
      clear HO2' HS3 HB3 HG4
      go_wp2_with (at_builtin; refine wpList_catB rfl (.tmp 56) (.tmp 57) rfl wr.heap.size v4 (L1 ++ L2) rfl HO4.out hv _ L3 rfl HS4.out (by rw [List.length_append]; omega) HB4.out.size ?_)
      intro v5 w5 HO5 HG5
      have HB5 := Lib.hid (HB4.out.grown HG5.out HB4.out.size (fun c ec => (own_low HO4.out c ec).1))
      have HF : Hid (OwnB w (blkB vs W) (.returned v5) w5) := Lib.hid ⟨v5, rfl, by rw [HE.out]; have h := HO5.out; simp only [List.length_append, List.append_assoc, Nat.add_assoc] at h ⊢; exact own_baseB h HSZ.out, HBL.out.trans (HB5.out.mono HSZ.out)⟩
      clear HO4 HG5 HB4 HS4 HO5 HB5
      go_wp2_with fail
      go_ret
      exact HF.out

/-- What Pack answers. -/
def packB (cs : List Int) : List UInt8 := blkB (natB cs) (wid (natB cs))
def PackVB (w : World) (cs : List Int) (e : Ending) (w' : World) : Prop :=
  (chkB cs ≠ 0 ∧ e = .returned (.tuple #[.slice none 0 0, .int .i64 (chkB cs)]) ∧ Below w.heap.size w w') ∨
  (chkB cs = 0 ∧ ∃ v', e = .returned (.tuple #[v', .int .i64 0]) ∧ w'.ownsRow w.heap.size 5 1 v' (packB cs).length (byteCells (packB cs)) ∧ Below w.heap.size w w')
set_option maxRecDepth 100000 in
set_option maxHeartbeats 4000000 in
theorem packB_any {w : World} {v : Value} {cs : List Int} (hv : Rows 1 EInt w v cs) (hlen : cs.length ≤ maxLen) :
    Calls Tryd.prog 24 #[v] w (PackVB w cs) := by
  have HCK := Lib.hid (checkB_any hv hlen)
  have HWD := Lib.hid (widthB_any hv hlen)
  by_cases hk : chkB cs = 0
  · obtain ⟨hcs, hok⟩ := chk_ok hk
    obtain ⟨r, hr⟩ : ∃ r, chkB cs = r := ⟨_, rfl⟩
    rw [if_pos hk] at HWD
    have HF : Hid (∀ v' w', w'.ownsRow w.heap.size 5 1 v' (packB cs).length (byteCells (packB cs)) → Below w.heap.size w w' → PackVB w cs (.returned (.tuple #[v', .int .i64 0])) w') := Lib.hid (fun v' w' h1 h2 => .inr ⟨hk, v', rfl, h1, h2⟩)
    rw [hr] at hk HCK
    subst hk
    have HEN := Lib.hid (fun W (hb : Below w.heap.size w W) => encodeB_any (w := W) (by rw [hcs]; exact hv.below stays_int hb) hok (wid (natB cs)) (wid_le _))
    clear hv hok hcs hr
    go_enter Tryd.func24, Tryd.ntmps24
    go_wp2_with fail
    refine HCK.out.mono ?_
    rintro e w' ⟨rfl, rfl⟩
    go_wp2_with fail
    refine HWD.out.mono ?_
    rintro e w2 ⟨rfl, hb⟩
    have HE2 := Lib.hid (HEN.out w2 hb)
    have HB := Lib.hid hb
    clear hb HEN
    go_wp2_with fail
    refine HE2.out.mono ?_
    rintro e w3 ⟨v3, rfl, ho3, hb3⟩
    have HG := Lib.hid (HF.out v3 w3 (own_baseB ho3 HB.out.size) (HB.out.trans (hb3.mono HB.out.size)))
    clear ho3 hb3 HE2 HF
    go_wp2_with fail
    go_ret2
    exact HG.out
  · have HF : Hid (PackVB w cs (.returned (.tuple #[.slice none 0 0, .int .i64 (chkB cs)])) w) := Lib.hid (.inl ⟨hk, rfl, Below.refl _ _⟩)
    obtain ⟨r, hr⟩ : ∃ r, chkB cs = r := ⟨_, rfl⟩
    rw [hr] at hk HCK HF
    have hb : (r != 0) = true := by simpa using hk
    clear hv hlen hr HWD
    go_enter Tryd.func24, Tryd.ntmps24
    go_wp2_with fail
    refine HCK.out.mono ?_
    rintro e w' ⟨rfl, rfl⟩
    go_wp2_with fail
    go_ret2
    exact HF.out
end Go.Proofs.YteennnhinfnahaaDoor
namespace Go.Proofs.YteennnhinfnahaaDoor
open Go.RowKit Go.Shelf Go.Lib
set_option linter.unusedVariables false
set_option linter.unusedSimpArgs false

theorem ex_w1 : wid [1, 2, 3] = 2 := by
  refine wid_of (by decide) fun j hj => ?_
  simp only [cst_cstN]
  revert j
  decide +kernel
theorem ex_w2 : wid [0, 0, 0, 0, 0, 0, 0, 0, 1] = 0 := by
  refine wid_of (by decide) fun j hj => ?_
  simp only [cst_cstN]
  revert j
  decide +kernel
theorem ex_n1 : natB [1, 2, 3] = [1, 2, 3] := by decide
theorem ex_n2 : natB [0, 0, 0, 0, 0, 0, 0, 0, 1] = [0, 0, 0, 0, 0, 0, 0, 0, 1] := by decide
theorem ex_x1 : xsK 2 [1, 2, 3] 3 = ⟨0, 0, []⟩ := rfl
theorem ex_x2 : xsK 0 [0, 0, 0, 0, 0, 0, 0, 0, 1] 9 = ⟨1, 9, [] ++ enc 9 ++ enc 1⟩ := rfl
theorem ex_p1 : packB [1, 2, 3] = [3, 2, 0, 108] := by
  unfold packB
  rw [ex_n1, ex_w1]
  unfold blkB
  have h3 : ([1, 2, 3] : List Nat).length = 3 := rfl
  rw [h3, ex_x1, enc_lt (v := 3) (by decide), enc_lt (v := 2) (by decide), enc_lt (v := 0) (by decide)]
  decide +kernel
theorem ex_p2 : packB [0, 0, 0, 0, 0, 0, 0, 0, 1] = [9, 0, 1, 9, 1] := by
  unfold packB
  rw [ex_n2, ex_w2]
  unfold blkB
  have h3 : ([0, 0, 0, 0, 0, 0, 0, 0, 1] : List Nat).length = 9 := rfl
  rw [h3, ex_x2, enc_lt (v := 9) (by decide), enc_lt (v := 0) (by decide), enc_lt (v := 1) (by decide)]
  decide +kernel
theorem ex_c1 : chkB [1, 2, 3] = 0 := by decide
theorem ex_c2 : chkB [0, 0, 0, 0, 0, 0, 0, 0, 1] = 0 := by decide
/-- Pack's answer for a list that is not refused. -/
def PackOk (w : World) (P : List UInt8) (e : Ending) (w' : World) : Prop := ∃ v', e = .returned (.tuple #[v', .int .i64 0]) ∧ Sees w' w'.heap.size v' P ∧ w'.ownsRow w.heap.size 5 1 v' P.length (byteCells P) ∧ Below w.heap.size w w'
theorem pack_ok {w : World} {v : Value} {cs : List Int} (hv : Rows 1 EInt w v cs) (hlen : cs.length ≤ maxLen) (hz : chkB cs = 0) {P : List UInt8} (hp : packB cs = P) :
    Calls Tryd.prog 24 #[v] w (PackOk w P) := by
  refine (packB_any hv hlen).mono ?_
  rintro e w' (⟨h, _⟩ | ⟨_, v', rfl, h1, h2⟩)
  · exact absurd hz h
  · rw [hp] at h1
    exact ⟨v', rfl, sees_own h1, h1, h2⟩
def AwB (w : World) (e : Ending) (w' : World) : Prop := e = .returned (.bool true) ∧ Below w.heap.size w w'
end Go.Proofs.YteennnhinfnahaaDoor
