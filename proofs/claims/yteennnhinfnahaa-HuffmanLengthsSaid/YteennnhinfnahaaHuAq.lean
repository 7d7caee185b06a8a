/-
  WALKS over package huffman: check, and the reference's Check.
-/
import Derived.Test.YteennnhinfnahaaHuMq
import Derived.Test.YteennnhinfnahaaDaRq
import Derived.BigQuiet
import Derived.Deep.QuietTactic
namespace Go.Proofs.Yteennnhinfnahaa
open Go.RowKit Go.Shelf Go.Lib
set_option linter.unusedVariables false
set_option linter.unusedSimpArgs false

/-- How many symbols are present. -/
def presN (cs : List Int) : Nat := cs.countP fun c => decide (0 < c)
def badC (c : Int) : Bool := decide (c < 0 ∨ 4096 < c)
/-- The error of counts and a limit. -/
def chkH (cs : List Int) (lim : Int) : Int :=
  if lim < 1 ∨ 15 < lim then 1 else if 1024 < cs.length then 2 else if cs.any badC then 8 else if 2 ^ lim.toNat < presN cs then 2 else 0
theorem presN_step {cs : List Int} {k : Nat} {c : Int} (h : cs[k]? = some c) : presN (cs.take (k + 1)) = presN (cs.take k) + (if 0 < c then 1 else 0) := by
  unfold presN
  rw [List.take_add_one, h]
  simp only [Option.toList_some, List.countP_append, List.countP_singleton, decide_eq_true_eq]
theorem presN_le (cs : List Int) : presN cs ≤ cs.length := List.countP_le_length
theorem any_at {cs : List Int} {k : Nat} {c : Int} (h : cs[k]? = some c) (hb : badC c = true) : cs.any badC = true := List.any_eq_true.2 ⟨c, List.mem_of_getElem? h, hb⟩
theorem any_step {cs : List Int} {k : Nat} {c : Int} (h : cs[k]? = some c) (h0 : ∀ x ∈ cs.take k, badC x = false) (hb : badC c = false) : ∀ x ∈ cs.take (k + 1), badC x = false := fun x hx => by
  rw [List.take_add_one, h] at hx
  rcases List.mem_append.1 hx with hx | hx
  · exact h0 x hx
  · have : x = c := by simpa using hx
    rw [this]; exact hb
theorem any_all {cs : List Int} (h0 : ∀ x ∈ cs.take cs.length, badC x = false) : cs.any badC = false := by
  rw [List.take_length] at h0
  exact List.any_eq_false.2 fun x hx => by rw [h0 x hx]; simp
def ErrV (w : World) (z : Int) (e : Ending) (w' : World) : Prop := e = .returned (.int .i64 z) ∧ w' = w
theorem lim_pow {l : Nat} (h1 : 1 ≤ l) (h2 : l ≤ 15) : 2 ≤ 2 ^ l ∧ 2 ^ l ≤ 32768 := by
  refine ⟨?_, ?_⟩
  · have := Nat.pow_le_pow_right (n := 2) (by omega) h1; simpa using this
  · have := Nat.pow_le_pow_right (n := 2) (by omega) h2; simpa using this

set_option maxRecDepth 100000 in
set_option maxHeartbeats 4000000 in
theorem check_any {w : World} {v : Value} {cs : List Int} (hv : Rows 1 EInt w v cs) (hlen : cs.length ≤ maxLen) (lim : Int) (hl0 : -9223372036854775808 ≤ lim) (hl1 : lim ≤ 9223372036854775807) :
    Calls Try.prog 15 #[v, .int .i64 lim] w (ErrV w (chkH cs lim)) := by
  obtain ⟨A, cap, rfl, hc⟩ := hv.form
  have HV := Lib.hid hv
  obtain ⟨n, hn⟩ : ∃ n, cs.length = n := ⟨_, rfl⟩
  rw [hn] at HV hc hlen ⊢
  unfold maxLen at hlen
  have HN := Lib.hid hn
  by_cases c1 : lim < 1
  · have hE : chkH cs lim = 1 := by unfold chkH; rw [if_pos (.inl c1)]
    rw [hE]
    have b1 : decide (lim < 1) = true := decide_eq_true c1
    clear hE hv hn hl0 hl1 hlen hc
    go_enter Try.func15, Try.ntmps15
    go_wp2_with fail
    go_ret
    exact ⟨rfl, rfl⟩
  · by_cases c2 : 15 < lim
    · have hE : chkH cs lim = 1 := by unfold chkH; rw [if_pos (.inr c2)]
      rw [hE]
      have b1 : decide (lim < 1) = false := decide_eq_false c1
      have b2 : decide (lim > 15) = true := decide_eq_true c2
      clear hE hv hn hl0 hl1 hlen hc
      go_enter Try.func15, Try.ntmps15
      go_wp2_with fail
      go_ret
      exact ⟨rfl, rfl⟩
    · obtain ⟨l, rfl⟩ : ∃ l : Nat, lim = l := ⟨lim.toNat, by omega⟩
      have hE0 : chkH cs l = if 1024 < n then 2 else if cs.any badC then 8 else if 2 ^ l < presN cs then 2 else 0 := by
        unfold chkH; rw [if_neg (by omega), hn, Int.toNat_natCast]
      have b1 : decide ((l : Int) < 1) = false := decide_eq_false c1
      have b2 : decide ((l : Int) > 15) = false := decide_eq_false (by omega)
      by_cases hbig : 1024 < n
      · have hI : (1024 : Int) < (n : Int) := by omega
        rw [if_pos hbig] at hE0
        rw [hE0]
        clear hE0 hv hn hl0 hl1 hlen hc hbig
        go_enter Try.func15, Try.ntmps15
        go_wp2_with fail
        go_ret
        exact ⟨rfl, rfl⟩
      · have hI : ¬ (1024 : Int) < (n : Int) := by omega
        rw [if_neg hbig] at hE0
        obtain ⟨r, hr⟩ : ∃ r, chkH cs l = r := ⟨_, rfl⟩
        rw [hr] at hE0 ⊢
        have HE0 := Lib.hid hE0
        have HLO := Lib.hid (show 1 ≤ l ∧ l ≤ 15 from ⟨by omega, by omega⟩)
        have HPL := Lib.hid (show n ≤ 1024 from by omega)
        obtain ⟨P, hP⟩ : ∃ P, 2 ^ l = P := ⟨_, rfl⟩
        have hPb := lim_pow HLO.out.1 HLO.out.2
        rw [hP] at hPb HE0
        have hsh : wrap64 (2 ^ l : Int) = (P : Int) := by
          have : ((2 : Int) ^ l) = (P : Int) := by rw [← hP]; simp
          rw [this]; unfold wrap64; omega
        have HSH := Lib.hid hsh
        have HPB := Lib.hid hPb
        have HPD := Lib.hid hP
        clear hE0 hv hn hl0 hl1 hlen hc hbig hr hsh hPb hP c1 c2
        go_enter Try.func15, Try.ntmps15
        go_wp2_with fail
        clear b1 b2 hI
        go_loopw [5, 19] (fun pv sv wr => wr = w ∧ ∃ k : Nat, k ≤ n ∧ sv = .int .i64 k ∧ pv = .int .i64 (presN (cs.take k) : Nat) ∧ Hid (∀ x ∈ cs.take k, badC x = false)) (fun _ sv _ => n - (Go.RowKit.intOf sv).toNat)
        case atStart => exact ⟨rfl, 0, Nat.zero_le _, rfl, rfl, fun x hx => by simp at hx⟩
        case round =>
          obtain ⟨rfl, k, hk, rfl, rfl, HB⟩ := hrel
          have hn1 := HPL.out
          by_cases hlt : k < n
          · have hlti : (k : Int) < (n : Int) := by omega
            obtain ⟨c, hcx⟩ : ∃ c, cs[k]? = some c := ⟨_, List.getElem?_eq_getElem (by rw [HN.out]; exact hlt)⟩
            obtain ⟨b, o, rfl, -, hj⟩ := at_int HV.out (by rw [HN.out]; omega)
            have u0 := hj k c hcx
            by_cases d1 : c < 0
            · have HE : Hid (r = 8) := by rw [HE0.out, if_pos (any_at hcx (by unfold badC; exact decide_eq_true (.inl d1)))]; rfl
              have b1 : decide (c < 0) = true := decide_eq_true d1
              clear hj hcx HB
              go_wp2_with fail
              go_ret
              rw [HE.out]
              exact ⟨rfl, rfl⟩
            · have b1 : decide (c < 0) = false := decide_eq_false d1
              by_cases d2 : 4096 < c
              · have HE : Hid (r = 8) := by rw [HE0.out, if_pos (any_at hcx (by unfold badC; exact decide_eq_true (.inr d2)))]; rfl
                have b2 : decide (c > 4096) = true := decide_eq_true d2
                clear hj hcx HB d1
                go_wp2_with fail
                go_ret
                rw [HE.out]
                exact ⟨rfl, rfl⟩
              · have b2 : decide (c > 4096) = false := decide_eq_false d2
                have HB2 := Lib.hid (any_step hcx HB.out (by unfold badC; exact decide_eq_false (by omega)))
                have hps := presN_step hcx
                obtain ⟨p, hp⟩ : ∃ p, presN (cs.take k) = p := ⟨_, rfl⟩
                obtain ⟨p', hp'⟩ : ∃ p', presN (cs.take (k + 1)) = p' := ⟨_, rfl⟩
                have hpl : p ≤ 1024 := by
                  rw [← hp]
                  refine Nat.le_trans (presN_le _) ?_
                  rw [List.length_take, HN.out]
                  have := HPL.out
                  omega
                rw [hp, hp'] at hps
                rw [hp]
                by_cases d3 : 0 < c
                · rw [if_pos d3] at hps
                  have b3 : decide (c > 0) = true := decide_eq_true d3
                  have HPS := Lib.hid hps
                  have HPP := Lib.hid hp'
                  clear hj hcx HB d1 d2 hps hp' hp
                  go_wp2_with fail
                  exact ⟨⟨trivial, k + 1, by omega, by go_num, by rw [HPP.out, HPS.out]; go_num, HB2⟩, by simp only [Go.RowKit.intOf]; omega⟩
                · rw [if_neg d3] at hps
                  have b3 : decide (c > 0) = false := decide_eq_false d3
                  have HPS := Lib.hid hps
                  have HPP := Lib.hid hp'
                  clear hj hcx HB d1 d2 hps hp' hp
                  go_wp2_with fail
                  exact ⟨⟨trivial, k + 1, by omega, by go_num, by rw [HPP.out, HPS.out]; rfl, HB2⟩, by simp only [Go.RowKit.intOf]; omega⟩
          · obtain rfl : k = n := by omega
            have hlti : ¬ (k : Int) < (k : Int) := by omega
            have hany : cs.any badC = false := any_all (by rw [HN.out]; exact HB.out)
            have htk : cs.take k = cs := List.take_of_length_le (by rw [HN.out]; exact Nat.le_refl _)
            have he := HE0.out
            rw [hany, if_neg (by simp)] at he
            rw [htk]
            obtain ⟨p, hp⟩ : ∃ p, presN cs = p := ⟨_, rfl⟩
            rw [hp] at he ⊢
            have hlo : (l : Int) ≤ 64 := by have := HLO.out; omega
            have hsh := HSH.out
            have hpp : P ≤ 32768 := HPB.out.2
            have hpp2 : p ≤ 1024 := by rw [← hp]; exact Nat.le_trans (presN_le cs) (by rw [HN.out]; exact hn1)
            by_cases d : P < p
            · rw [if_pos d] at he
              have HE := Lib.hid he
              have hI : (P : Int) < (p : Int) := by omega
              clear he hany htk hp HB HE0
              go_wp2_with fail
              go_ret
              rw [HE.out]
              exact ⟨rfl, rfl⟩
            · rw [if_neg d] at he
              have HE := Lib.hid he
              have hI : ¬ (P : Int) < (p : Int) := by omega
              clear he hany htk hp HB HE0
              go_wp2_with fail
              go_ret
              rw [HE.out]
              exact ⟨rfl, rfl⟩

set_option maxRecDepth 100000 in
set_option maxHeartbeats 4000000 in
theorem refCheck_any {w : World} {v : Value} {cs : List Int} (hv : Rows 1 EInt w v cs) (hlen : cs.length ≤ maxLen) (lim : Int) (hl0 : -9223372036854775808 ≤ lim) (hl1 : lim ≤ 9223372036854775807) :
    Calls Try.prog 19 #[v, .int .i64 lim] w (ErrV w (chkH cs lim)) := by
  obtain ⟨A, cap, rfl, hc⟩ := hv.form
  have HV := Lib.hid hv
  obtain ⟨n, hn⟩ : ∃ n, cs.length = n := ⟨_, rfl⟩
  rw [hn] at HV hc hlen ⊢
  unfold maxLen at hlen
  have HN := Lib.hid hn
  by_cases c1 : lim < 1
  · have hE : chkH cs lim = 1 := by unfold chkH; rw [if_pos (.inl c1)]
    rw [hE]
    have b1 : decide (lim < 1) = true := decide_eq_true c1
    clear hE hv hn hl0 hl1 hlen hc
    go_enter Try.func19, Try.ntmps19
    go_wp2_with fail
    go_ret
    exact ⟨rfl, rfl⟩
  · by_cases c2 : 15 < lim
    · have hE : chkH cs lim = 1 := by unfold chkH; rw [if_pos (.inr c2)]
      rw [hE]
      have b1 : decide (lim < 1) = false := decide_eq_false c1
      have b2 : decide (lim > 15) = true := decide_eq_true c2
      clear hE hv hn hl0 hl1 hlen hc
      go_enter Try.func19, Try.ntmps19
      go_wp2_with fail
      go_ret
      exact ⟨rfl, rfl⟩
    · obtain ⟨l, rfl⟩ : ∃ l : Nat, lim = l := ⟨lim.toNat, by omega⟩
      have hE0 : chkH cs l = if 1024 < n then 2 else if cs.any badC then 8 else if 2 ^ l < presN cs then 2 else 0 := by
        unfold chkH; rw [if_neg (by omega), hn, Int.toNat_natCast]
      have b1 : decide ((l : Int) < 1) = false := decide_eq_false c1
      have b2 : decide ((l : Int) > 15) = false := decide_eq_false (by omega)
      by_cases hbig : 1024 < n
      · have hI : (1024 : Int) < (n : Int) := by omega
        rw [if_pos hbig] at hE0
        rw [hE0]
        clear hE0 hv hn hl0 hl1 hlen hc hbig
        go_enter Try.func19, Try.ntmps19
        go_wp2_with fail
        go_ret
        exact ⟨rfl, rfl⟩
      · have hI : ¬ (1024 : Int) < (n : Int) := by omega
        rw [if_neg hbig] at hE0
        obtain ⟨r, hr⟩ : ∃ r, chkH cs l = r := ⟨_, rfl⟩
        rw [hr] at hE0 ⊢
        have HE0 := Lib.hid hE0
        have HLO := Lib.hid (show 1 ≤ l ∧ l ≤ 15 from ⟨by omega, by omega⟩)
        have HPL := Lib.hid (show n ≤ 1024 from by omega)
        obtain ⟨P, hP⟩ : ∃ P, 2 ^ l = P := ⟨_, rfl⟩
        have hPb := lim_pow HLO.out.1 HLO.out.2
        rw [hP] at hPb HE0
        have hsh : wrap64 (2 ^ l : Int) = (P : Int) := by
          have : ((2 : Int) ^ l) = (P : Int) := by rw [← hP]; simp
          rw [this]; unfold wrap64; omega
        have HSH := Lib.hid hsh
        have HPB := Lib.hid hPb
        have HPD := Lib.hid hP
        clear hE0 hv hn hl0 hl1 hlen hc hbig hr hsh hPb hP c1 c2
        go_enter Try.func19, Try.ntmps19
        go_wp2_with fail
        clear b1 b2 hI
        go_loopw [5, 19] (fun pv sv wr => wr = w ∧ ∃ k : Nat, k ≤ n ∧ sv = .int .i64 k ∧ pv = .int .i64 (presN (cs.take k) : Nat) ∧ Hid (∀ x ∈ cs.take k, badC x = false)) (fun _ sv _ => n - (Go.RowKit.intOf sv).toNat)
        case atStart => exact ⟨rfl, 0, Nat.zero_le _, rfl, rfl, fun x hx => by simp at hx⟩
        case round =>
          obtain ⟨rfl, k, hk, rfl, rfl, HB⟩ := hrel
          have hn1 := HPL.out
          by_cases hlt : k < n
          · have hlti : (k : Int) < (n : Int) := by omega
            obtain ⟨c, hcx⟩ : ∃ c, cs[k]? = some c := ⟨_, List.getElem?_eq_getElem (by rw [HN.out]; exact hlt)⟩
            obtain ⟨b, o, rfl, -, hj⟩ := at_int HV.out (by rw [HN.out]; omega)
            have u0 := hj k c hcx
            by_cases d1 : c < 0
            · have HE : Hid (r = 8) := by rw [HE0.out, if_pos (any_at hcx (by unfold badC; exact decide_eq_true (.inl d1)))]; rfl
              have b1 : decide (c < 0) = true := decide_eq_true d1
              clear hj hcx HB
              go_wp2_with fail
              go_ret
              rw [HE.out]
              exact ⟨rfl, rfl⟩
            · have b1 : decide (c < 0) = false := decide_eq_false d1
              by_cases d2 : 4096 < c
              · have HE : Hid (r = 8) := by rw [HE0.out, if_pos (any_at hcx (by unfold badC; exact decide_eq_true (.inr d2)))]; rfl
                have b2 : decide (c > 4096) = true := decide_eq_true d2
                clear hj hcx HB d1
                go_wp2_with fail
                go_ret
                rw [HE.out]
                exact ⟨rfl, rfl⟩
              · have b2 : decide (c > 4096) = false := decide_eq_false d2
                have HB2 := Lib.hid (any_step hcx HB.out (by unfold badC; exact decide_eq_false (by omega)))
                have hps := presN_step hcx
                obtain ⟨p, hp⟩ : ∃ p, presN (cs.take k) = p := ⟨_, rfl⟩
                obtain ⟨p', hp'⟩ : ∃ p', presN (cs.take (k + 1)) = p' := ⟨_, rfl⟩
                have hpl : p ≤ 1024 := by
                  rw [← hp]
                  refine Nat.le_trans (presN_le _) ?_
                  rw [List.length_take, HN.out]
                  have := HPL.out
                  omega
                rw [hp, hp'] at hps
                rw [hp]
                by_cases d3 : 0 < c
                · rw [if_pos d3] at hps
                  have b3 : decide (c > 0) = true := decide_eq_true d3
                  have HPS := Lib.hid hps
                  have HPP := Lib.hid hp'
                  clear hj hcx HB d1 d2 hps hp' hp
                  go_wp2_with fail
                  exact ⟨⟨trivial, k + 1, by omega, by go_num, by rw [HPP.out, HPS.out]; go_num, HB2⟩, by simp only [Go.RowKit.intOf]; omega⟩
                · rw [if_neg d3] at hps
                  have b3 : decide (c > 0) = false := decide_eq_false d3
                  have HPS := Lib.hid hps
                  have HPP := Lib.hid hp'
                  clear hj hcx HB d1 d2 hps hp' hp
                  go_wp2_with fail
                  exact ⟨⟨trivial, k + 1, by omega, by go_num, by rw [HPP.out, HPS.out]; rfl, HB2⟩, by simp only [Go.RowKit.intOf]; omega⟩
          · obtain rfl : k = n := by omega
            have hlti : ¬ (k : Int) < (k : Int) := by omega
            have hany : cs.any badC = false := any_all (by rw [HN.out]; exact HB.out)
            have htk : cs.take k = cs := List.take_of_length_le (by rw [HN.out]; exact Nat.le_refl _)
            have he := HE0.out
            rw [hany, if_neg (by simp)] at he
            rw [htk]
            obtain ⟨p, hp⟩ : ∃ p, presN cs = p := ⟨_, rfl⟩
            rw [hp] at he ⊢
            have hlo : (l : Int) ≤ 64 := by have := HLO.out; omega
            have hsh := HSH.out
            have hpp : P ≤ 32768 := HPB.out.2
            have hpp2 : p ≤ 1024 := by rw [← hp]; exact Nat.le_trans (presN_le cs) (by rw [HN.out]; exact hn1)
            by_cases d : P < p
            · rw [if_pos d] at he
              have HE := Lib.hid he
              have hI : (P : Int) < (p : Int) := by omega
              clear he hany htk hp HB HE0
              go_wp2_with fail
              go_ret
              rw [HE.out]
              exact ⟨rfl, rfl⟩
            · rw [if_neg d] at he
              have HE := Lib.hid he
              have hI : ¬ (P : Int) < (p : Int) := by omega
              clear he hany htk hp HB HE0
              go_wp2_with fail
              go_ret
              rw [HE.out]
              exact ⟨rfl, rfl⟩
end Go.Proofs.Yteennnhinfnahaa
