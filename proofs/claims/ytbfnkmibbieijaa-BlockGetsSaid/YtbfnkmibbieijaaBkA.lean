/-
  WALKS over package block, first part: check, and the reference's Check; the sizes of numbers; the cost of an encoding.
-/
import Derived.Test.YtbfnkmibbieijaaBkM
import Derived.Test.YtbfnkmibbieijaaBiA
import Derived.Test.YtbfnkmibbieijaaDaR
import Derived.BigQuiet
import Derived.Deep.QuietTactic
namespace Go.Proofs.Ytbfnkmibbieijaa
open Go.RowKit Go.Shelf Go.Lib
set_option linter.unusedVariables false
set_option linter.unusedSimpArgs false

def bad31 (c : Int) : Bool := decide (c < 0 ∨ 2147483647 < c)
/-- The error of a list of numbers. -/
def chkB (cs : List Int) : Int := if 128 < cs.length then 2 else if cs.any bad31 then 8 else 0
def natB (cs : List Int) : List Nat := cs.map Int.toNat
def castB (ns : List Nat) : List Int := ns.map fun (j : Nat) => (j : Int)
theorem bad_at {cs : List Int} {k : Nat} {c : Int} (h : cs[k]? = some c) (hb : bad31 c = true) : cs.any bad31 = true := List.any_eq_true.2 ⟨c, List.mem_of_getElem? h, hb⟩
theorem bad_step {cs : List Int} {k : Nat} {c : Int} (h : cs[k]? = some c) (h0 : ∀ x ∈ cs.take k, bad31 x = false) (hb : bad31 c = false) : ∀ x ∈ cs.take (k + 1), bad31 x = false := fun x hx => by
  rw [List.take_add_one, h] at hx
  rcases List.mem_append.1 hx with hx | hx
  · exact h0 x hx
  · have : x = c := by simpa using hx
    rw [this]; exact hb
theorem bad_all {cs : List Int} (h0 : ∀ x ∈ cs.take cs.length, bad31 x = false) : cs.any bad31 = false := by
  rw [List.take_length] at h0
  exact List.any_eq_false.2 fun x hx => by rw [h0 x hx]; simp
theorem castB_len (ns : List Nat) : (castB ns).length = ns.length := by simp [castB]
/-- A list that is not refused is a list of numbers. -/
theorem chk_ok {cs : List Int} (h : chkB cs = 0) : castB (natB cs) = cs ∧ ok31 (natB cs) := by
  unfold chkB at h
  split at h
  · omega
  · rename_i h1
    split at h
    · omega
    · rename_i h2
      have h3 : ∀ c ∈ cs, bad31 c = false := fun c hc => by
        cases hb : bad31 c
        · rfl
        · exact absurd (List.any_eq_true.2 ⟨c, hc, hb⟩) h2
      have h4 : ∀ c ∈ cs, 0 ≤ c ∧ c ≤ 2147483647 := fun c hc => by
        have := h3 c hc
        unfold bad31 at this
        have := of_decide_eq_false this
        omega
      refine ⟨?_, ?_, ?_⟩
      · unfold castB natB
        rw [List.map_map]
        conv => rhs; rw [← List.map_id cs]
        refine List.map_congr_left fun c hc => ?_
        have := h4 c hc
        simp only [Function.comp, id_eq]
        omega
      · unfold natB; rw [List.length_map]; omega
      · intro v hv
        obtain ⟨c, hc, rfl⟩ := List.mem_map.1 hv
        have := h4 c hc
        omega
theorem chk_nat {ns : List Nat} (h : ok31 ns) : chkB (castB ns) = 0 := by
  unfold chkB
  rw [castB_len, if_neg (by have := h.1; omega)]
  have : (castB ns).any bad31 = false := List.any_eq_false.2 fun x hx => by
    obtain ⟨v, hv, rfl⟩ := List.mem_map.1 hx
    have := h.2 v hv
    unfold bad31
    simp only [decide_eq_true_eq]
    omega
  rw [this]; rfl
theorem natB_cast (ns : List Nat) : natB (castB ns) = ns := by
  unfold natB castB
  rw [List.map_map]
  conv => rhs; rw [← List.map_id ns]
  exact List.map_congr_left fun c _ => by simp

set_option maxRecDepth 100000 in
set_option maxHeartbeats 4000000 in
theorem checkB_any {w : World} {v : Value} {cs : List Int} (hv : Rows 1 EInt w v cs) (hlen : cs.length ≤ maxLen) :
    Calls Try.prog 36 #[v] w fun e w' => e = .returned (.int .i64 (chkB cs)) ∧ w' = w := by
  obtain ⟨A, cap, rfl, hc⟩ := hv.form
  have HV := Lib.hid hv
  obtain ⟨n, hn⟩ : ∃ n, cs.length = n := ⟨_, rfl⟩
  rw [hn] at HV hc hlen ⊢
  unfold maxLen at hlen
  have HN := Lib.hid hn
  by_cases hbig : 128 < n
  · have hI : (128 : Int) < (n : Int) := by omega
    have hE : chkB cs = 2 := by unfold chkB; rw [hn, if_pos hbig]
    rw [hE]
    clear hE hv hn hlen hc hbig
    go_enter Try.func36, Try.ntmps36
    go_wp2_with fail
    go_ret
    exact ⟨rfl, rfl⟩
  · have hI : ¬ (128 : Int) < (n : Int) := by omega
    obtain ⟨r, hr⟩ : ∃ r, chkB cs = r := ⟨_, rfl⟩
    have hE0 : r = if cs.any bad31 then 8 else 0 := by rw [← hr]; unfold chkB; rw [hn, if_neg hbig]
    rw [hr]
    have HE0 := Lib.hid hE0
    have HPL := Lib.hid (show n ≤ 128 from by omega)
    clear hE0 hv hn hlen hc hbig hr
    go_enter Try.func36, Try.ntmps36
    go_wp2_with fail
    clear hI
    go_loopw [10] (fun sv wr => wr = w ∧ ∃ k : Nat, k ≤ n ∧ sv = .int .i64 k ∧ Hid (∀ x ∈ cs.take k, bad31 x = false)) (fun sv _ => n - (Go.RowKit.intOf sv).toNat)
    case atStart => exact ⟨rfl, 0, Nat.zero_le _, rfl, fun x hx => by simp at hx⟩
    case round =>
      obtain ⟨rfl, k, hk, rfl, HB⟩ := hrel
      have hn1 := HPL.out
      by_cases hlt : k < n
      · have hlti : (k : Int) < (n : Int) := by omega
        obtain ⟨c, hcx⟩ : ∃ c, cs[k]? = some c := ⟨_, List.getElem?_eq_getElem (by rw [HN.out]; exact hlt)⟩
        obtain ⟨b, o, rfl, -, hj⟩ := at_int HV.out (by rw [HN.out]; omega)
        have u0 := hj k c hcx
        by_cases d1 : c < 0
        · have HE : Hid (r = 8) := by rw [HE0.out, if_pos (bad_at hcx (by unfold bad31; exact decide_eq_true (.inl d1)))]; rfl
          have b1 : decide (c < 0) = true := decide_eq_true d1
          clear hj hcx HB
          go_wp2_with fail
          go_ret
          rw [HE.out]
          exact ⟨rfl, rfl⟩
        · have b1 : decide (c < 0) = false := decide_eq_false d1
          by_cases d2 : 2147483647 < c
          · have HE : Hid (r = 8) := by rw [HE0.out, if_pos (bad_at hcx (by unfold bad31; exact decide_eq_true (.inr d2)))]; rfl
            have b2 : decide (c > 2147483647) = true := decide_eq_true d2
            clear hj hcx HB d1
            go_wp2_with fail
            go_ret
            rw [HE.out]
            exact ⟨rfl, rfl⟩
          · have b2 : decide (c > 2147483647) = false := decide_eq_false d2
            have HB2 := Lib.hid (bad_step hcx HB.out (by unfold bad31; exact decide_eq_false (by omega)))
            clear hj hcx HB d1 d2
            go_wp2_with fail
            exact ⟨⟨trivial, k + 1, by omega, by go_num, HB2⟩, by simp only [Go.RowKit.intOf]; omega⟩
      · obtain rfl : k = n := by omega
        have hlti : ¬ (k : Int) < (k : Int) := by omega
        have HE : Hid (r = 0) := by
          rw [HE0.out, bad_all (by rw [HN.out]; exact HB.out)]; rfl
        clear HB
        go_wp2_with fail
        go_ret
        rw [HE.out]
        exact ⟨rfl, rfl⟩

set_option maxRecDepth 100000 in
set_option maxHeartbeats 4000000 in
theorem refCheckB_any {w : World} {v : Value} {cs : List Int} (hv : Rows 1 EInt w v cs) (hlen : cs.length ≤ maxLen) :
    Calls Try.prog 14 #[v] w fun e w' => e = .returned (.int .i64 (chkB cs)) ∧ w' = w := by
  obtain ⟨A, cap, rfl, hc⟩ := hv.form
  have HV := Lib.hid hv
  obtain ⟨n, hn⟩ : ∃ n, cs.length = n := ⟨_, rfl⟩
  rw [hn] at HV hc hlen ⊢
  unfold maxLen at hlen
  have HN := Lib.hid hn
  by_cases hbig : 128 < n
  · have hI : (128 : Int) < (n : Int) := by omega
    have hE : chkB cs = 2 := by unfold chkB; rw [hn, if_pos hbig]
    rw [hE]
    clear hE hv hn hlen hc hbig
    go_enter Try.func14, Try.ntmps14
    go_wp2_with fail
    go_ret
    exact ⟨rfl, rfl⟩
  · have hI : ¬ (128 : Int) < (n : Int) := by omega
    obtain ⟨r, hr⟩ : ∃ r, chkB cs = r := ⟨_, rfl⟩
    have hE0 : r = if cs.any bad31 then 8 else 0 := by rw [← hr]; unfold chkB; rw [hn, if_neg hbig]
    rw [hr]
    have HE0 := Lib.hid hE0
    have HPL := Lib.hid (show n ≤ 128 from by omega)
    clear hE0 hv hn hlen hc hbig hr
    go_enter Try.func14, Try.ntmps14
    go_wp2_with fail
    clear hI
    go_loopw [10] (fun sv wr => wr = w ∧ ∃ k : Nat, k ≤ n ∧ sv = .int .i64 k ∧ Hid (∀ x ∈ cs.take k, bad31 x = false)) (fun sv _ => n - (Go.RowKit.intOf sv).toNat)
    case atStart => exact ⟨rfl, 0, Nat.zero_le _, rfl, fun x hx => by simp at hx⟩
    case round =>
      obtain ⟨rfl, k, hk, rfl, HB⟩ := hrel
      have hn1 := HPL.out
      by_cases hlt : k < n
      · have hlti : (k : Int) < (n : Int) := by omega
        obtain ⟨c, hcx⟩ : ∃ c, cs[k]? = some c := ⟨_, List.getElem?_eq_getElem (by rw [HN.out]; exact hlt)⟩
        obtain ⟨b, o, rfl, -, hj⟩ := at_int HV.out (by rw [HN.out]; omega)
        have u0 := hj k c hcx
        by_cases d1 : c < 0
        · have HE : Hid (r = 8) := by rw [HE0.out, if_pos (bad_at hcx (by unfold bad31; exact decide_eq_true (.inl d1)))]; rfl
          have b1 : decide (c < 0) = true := decide_eq_true d1
          clear hj hcx HB
          go_wp2_with fail
          go_ret
          rw [HE.out]
          exact ⟨rfl, rfl⟩
        · have b1 : decide (c < 0) = false := decide_eq_false d1
          by_cases d2 : 2147483647 < c
          · have HE : Hid (r = 8) := by rw [HE0.out, if_pos (bad_at hcx (by unfold bad31; exact decide_eq_true (.inr d2)))]; rfl
            have b2 : decide (c > 2147483647) = true := decide_eq_true d2
            clear hj hcx HB d1
            go_wp2_with fail
            go_ret
            rw [HE.out]
            exact ⟨rfl, rfl⟩
          · have b2 : decide (c > 2147483647) = false := decide_eq_false d2
            have HB2 := Lib.hid (bad_step hcx HB.out (by unfold bad31; exact decide_eq_false (by omega)))
            clear hj hcx HB d1 d2
            go_wp2_with fail
            exact ⟨⟨trivial, k + 1, by omega, by go_num, HB2⟩, by simp only [Go.RowKit.intOf]; omega⟩
      · obtain rfl : k = n := by omega
        have hlti : ¬ (k : Int) < (k : Int) := by omega
        have HE : Hid (r = 0) := by
          rw [HE0.out, bad_all (by rw [HN.out]; exact HB.out)]; rfl
        clear HB
        go_wp2_with fail
        go_ret
        rw [HE.out]
        exact ⟨rfl, rfl⟩

set_option maxHeartbeats 1000000 in
theorem bitsLen_any (v : Nat) (hv : v < 18446744073709551616) (w : World) :
    Calls Try.prog 108 #[.int .u64 v] w fun e w' => e = .returned (.int .i64 (bitLen v)) ∧ w' = w := by
  have HL := Lib.hid (len64_any v (by omega) (by omega) w)
  go_enter Try.func108, Try.ntmps108
  go_wp2_with fail
  refine HL.out.mono ?_
  rintro e w' ⟨rfl, rfl⟩
  go_wp2_with fail
  go_ret
  exact ⟨rfl, rfl⟩
set_option maxHeartbeats 1000000 in
theorem uvs_any (v : Nat) (hv : v < 2147483648) (w : World) :
    Calls Try.prog 78 #[.int .i64 v] w fun e w' => e = .returned (.int .i64 (uvs v : Nat)) ∧ w' = w := by
  have HL := Lib.hid (bitsLen_any v (by omega) w)
  have hb : bitLen v ≤ 31 := by
    unfold bitLen
    by_cases h0 : v = 0
    · rw [if_pos h0]; omega
    · rw [if_neg h0]
      have := (Nat.log2_lt h0 (k := 31)).2 (by omega)
      omega
  unfold uvs
  obtain ⟨t, ht⟩ : ∃ t, bitLen v = t := ⟨_, rfl⟩
  rw [ht] at HL hb ⊢
  clear ht
  go_enter Try.func78, Try.ntmps78
  go_wp2_with fail
  refine HL.out.mono ?_
  rintro e w' ⟨rfl, rfl⟩
  go_wp2_with fail
  all_goals go_ret
  all_goals refine ⟨?_, rfl⟩
  all_goals refine congrArg Ending.returned (congrArg (Value.int .i64) ?_)
  all_goals omega
set_option maxHeartbeats 1000000 in
theorem lowSize_any (n k : Nat) (hn : n ≤ 128) (hk : k ≤ 128) (w : World) :
    Calls Try.prog 79 #[.int .i64 n, .int .i64 k] w fun e w' => e = .returned (.int .i64 ((n * k + 7) / 8 : Nat)) ∧ w' = w := by
  have hm : n * k ≤ 128 * 128 := Nat.mul_le_mul hn hk
  have e1 : (n : Int) * (k : Int) = ((n * k : Nat) : Int) := (Int.natCast_mul n k).symm
  obtain ⟨t, ht⟩ : ∃ t, n * k = t := ⟨_, rfl⟩
  rw [ht] at hm e1 ⊢
  clear ht
  go_enter Try.func79, Try.ntmps79
  go_wp2_with fail
  go_ret
  refine ⟨?_, rfl⟩
  refine congrArg Ending.returned (congrArg (Value.int .i64) ?_)
  omega
end Go.Proofs.Ytbfnkmibbieijaa
