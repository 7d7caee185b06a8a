/-
  HuffmanComplete is proved: for every list of numbers and every number the call of the law returns true, and each argument reads afterwards as it read before. It has no condition.
-/
import Derived.Test.YtghfehjkhkjgfaaRows
import Derived.Test.YtghfehjkhkjgfaaHoO
import Derived.Test.YtghfehjkhkjgfaaHuT
import Derived.ProofKit
import Derived.OpenShut
import Derived.Carry
namespace Go.Proofs.Ytghfehjkhkjgfaa.huffmanComplete
open Go.ChangeShapes Go.WideShapes Go.ChangeAt Go.RowKit Go.Shelf Go.Lib
set_option linter.unusedVariables false

set_option maxRecDepth 100000 in
set_option maxHeartbeats 8000000 in
theorem walk {w : World} (v : Value) (cs : List Int) (hv : Rows 1 EInt w v cs) (hm : cs.length ≤ maxLen) (_ : ∀ x ∈ cs, -9223372036854775808 ≤ x ∧ x ≤ 9223372036854775807)
    (lim : Int) (hl0 : -9223372036854775808 ≤ lim) (hl1 : lim ≤ 9223372036854775807) :
    Calls Try.prog 5 #[v, .int .i64 lim] w fun e w1 => e = .returned (.bool true) ∧ Below w.heap.size w w1 := by
  have HLE := Lib.hid (lengths_any hv hm lim hl0 hl1)
  have HCK := Lib.hid (refCheck_any hv hm lim hl0 hl1)
  have HV := Lib.hid (fun W (hb : Below w.heap.size w W) => hv.below stays_int hb)
  have HA := Lib.hid (fun (W : World) => awake_any W)
  obtain ⟨A, cap, rfl, hc⟩ := hv.form
  obtain ⟨n, hn⟩ : ∃ n, cs.length = n := ⟨_, rfl⟩
  rw [hn] at HLE HCK HV hm ⊢
  unfold maxLen at hm
  have HN := Lib.hid hn
  clear hv hc hn
  go_enter Try.func5, Try.ntmps5
  by_cases hbig : 60 < n
  · have hI : (60 : Int) < (n : Int) := by omega
    have b1 : decide ((n : Int) > 60) = true := decide_eq_true hI
    have b2 : decide (60 < n) = true := decide_eq_true hbig
    go_wp2_with fail
    go_ret
    exact ⟨rfl, Below.refl _ _⟩
  · have hI : ¬ (60 : Int) < (n : Int) := by omega
    have b1 : decide ((60 : Int) < (n : Int)) = false := decide_eq_false hI
    have b2 : decide (60 < n) = false := decide_eq_false hbig
    by_cases hz : chkH cs lim = 0
    · obtain ⟨l, rfl, h1, h2, h3, h4, h5⟩ := chk_zero hz
      rw [hz] at HCK
      have HZ := Lib.hid hz
      have hlen : (preS cs 0).length ≤ 2 ^ l := by rw [preS_len]; exact h5
      have HLL := Lib.hid (And.intro h1 (And.intro h2 hlen))
      have H4 := Lib.hid h4
      have HAT := Lib.hid (show ∀ (i x : Nat), cs[i]? = some (x : Int) → ∃ z : Nat, (hufLs cs l)[i]? = some (z : Int) ∧ z ≤ l ∧ (¬ 0 < x → z = 0) ∧ (0 < x → 1 ≤ z ∧ z = hufL (cN cs) (preS cs 0) l i) from fun i x hx => by
        have hi := (List.getElem?_eq_some_iff.1 hx).1
        refine ⟨_, hufLs_at hi, ?_, fun h0 => huf_out (preS_nodup cs 0) h1 hlen (pre_not hx (by omega)), fun h0 => ⟨huf_ge (preS_nodup cs 0) h1 hlen (pre_at hx (by omega)), rfl⟩⟩
        by_cases h0 : 0 < x
        · exact huf_le (preS_nodup cs 0) h1 hlen (pre_at hx (by omega))
        · rw [huf_out (preS_nodup cs 0) h1 hlen (pre_not hx (by omega))]; omega)
      have HMO := Lib.hid (show ∀ (i k x y z zk : Nat), cs[i]? = some (x : Int) → cs[k]? = some (y : Int) → (hufLs cs l)[i]? = some (z : Int) → (hufLs cs l)[k]? = some (zk : Int) → 0 < y → y < x → z ≤ zk from fun i k x y z zk q1 q2 q3 q4 q5 q6 => by
        rw [hufLs_at (List.getElem?_eq_some_iff.1 q1).1] at q3
        rw [hufLs_at (List.getElem?_eq_some_iff.1 q2).1] at q4
        have e3 := Option.some.inj q3
        have e4 := Option.some.inj q4
        have c1 : cN cs i = x := by unfold cN; rw [List.getD_eq_getElem?_getD, q1]; simp
        have c2 : cN cs k = y := by unfold cN; rw [List.getD_eq_getElem?_getD, q2]; simp
        have := huf_mono (c := cN cs) (preS_nodup cs 0) h1 hlen (pre_at q1 (by omega)) (pre_at q2 (by omega)) (by rw [c1, c2]; exact q6)
        omega)
      obtain ⟨K, hK⟩ : ∃ K : Nat → Nat, ∀ i, sumP cs (fun s => 2 ^ (l - hufL (cN cs) (preS cs 0) l s)) i = K i := ⟨_, fun _ => rfl⟩
      obtain ⟨P, hP⟩ : ∃ P : Nat → Nat, ∀ i, sumP cs (fun _ => 1) i = P i := ⟨_, fun _ => rfl⟩
      have hKB : ∀ i, i ≤ 60 → K i ≤ 1966080 := fun i hi => by
        rw [← hK]
        refine Nat.le_trans (sumP_bound (M := 32768) (fun s hs => ?_) i) (Nat.le_trans (Nat.mul_le_mul_right _ hi) (by decide))
        exact (pow_shift (l := l - hufL (cN cs) (preS cs 0) l s) (by omega)).2
      have hPB : ∀ i, i ≤ 60 → P i ≤ 60 := fun i hi => by
        rw [← hP]
        exact Nat.le_trans (sumP_bound (M := 1) (fun s hs => Nat.le_refl _) i) (by omega)
      have hK0 : K 0 = 0 := by rw [← hK, sumP_zero]
      have hP0 : P 0 = 0 := by rw [← hP, sumP_zero]
      have HST := Lib.hid (show ∀ (i x : Nat), cs[i]? = some (x : Int) → (0 < x → K (i + 1) = K i + 2 ^ (l - hufL (cN cs) (preS cs 0) l i) ∧ P (i + 1) = P i + 1) ∧ (¬ 0 < x → K (i + 1) = K i ∧ P (i + 1) = P i) from fun i x hx => by
        have s1 := sumP_step (f := fun s => 2 ^ (l - hufL (cN cs) (preS cs 0) l s)) hx
        have s2 := sumP_step (f := fun _ => 1) hx
        rw [hK, hK] at s1
        rw [hP, hP] at s2
        refine ⟨fun h0 => ?_, fun h0 => ?_⟩
        · rw [if_pos (by omega)] at s1 s2; exact ⟨s1, s2⟩
        · rw [if_neg (by omega), Nat.add_zero] at s1
          rw [if_neg (by omega), Nat.add_zero] at s2
          exact ⟨s1, s2⟩)
      have HEND : Hid (2 ≤ P n → K n = 2 ^ l) := Lib.hid (fun h => by
        rw [← hK, ← HN.out, sumP_all]
        rw [← hP, ← HN.out, sumP_all, sumS_const] at h
        exact huf_kraft (preS_nodup cs 0) h1 hlen (by omega))
      have HKB := Lib.hid hKB
      have HPB := Lib.hid hPB
      clear hz h1 h2 h3 h4 h5 hl0 hl1 hlen hK hP hKB hPB hbig
      go_wp2_with fail
      refine HCK.out.mono ?_
      rintro e w1 ⟨rfl, rfl⟩
      go_wp2_with fail
      refine HLE.out.mono ?_
      rintro e w2 ⟨hb, h⟩
      have hlv : ∃ v3, e = .returned (.tuple #[v3, .int .i64 0]) ∧ Rows 1 EInt w2 v3 (hufLs cs l) := by
        rcases h with ⟨h, _⟩ | ⟨_, v3, h, hr⟩
        · exact absurd HZ.out h
        · exact ⟨v3, h, hr⟩
      obtain ⟨v3, rfl, hr3⟩ := hlv
      obtain ⟨A3, c3, rfl, -⟩ := hr3.form
      rw [hufLs_len, HN.out] at hr3 ⊢
      have HB := Lib.hid hb
      have HR := Lib.hid (fun W (hb2 : Below w2.heap.size w2 W) => And.intro (HV.out W (hb.trans (hb2.mono hb.size))) (hr3.below stays_int hb2))
      have hnn : ((n : Int) != (n : Int)) = false := by simp
      clear hb h hr3 HLE HCK
      go_wp2_with fail
      go_loopw [7, 8, 39] (fun kv pv sv wr => ∃ i : Nat, i ≤ n ∧ sv = .int .i64 i ∧ kv = .int .i64 (K i : Nat) ∧ pv = .int .i64 (P i : Nat) ∧ Hid (Below w2.heap.size w2 wr)) (fun _ _ sv _ => n - (Go.RowKit.intOf sv).toNat)
      case atStart => exact ⟨0, Nat.zero_le _, rfl, by rw [hK0]; rfl, by rw [hP0]; rfl, Lib.hid (Below.refl _ _)⟩
      case round =>
        obtain ⟨i, hi, rfl, rfl, rfl, HS⟩ := hrel
        by_cases hlt : i < n
        · have hlti : (i : Int) < (n : Int) := by omega
          obtain ⟨c, hcx⟩ : ∃ c, cs[i]? = some c := ⟨_, List.getElem?_eq_getElem (by rw [HN.out]; exact hlt)⟩
          have h4 := H4.out c (List.mem_of_getElem? hcx)
          obtain ⟨x, rfl⟩ : ∃ x : Nat, c = x := ⟨c.toNat, by omega⟩
          obtain ⟨z, hzi, hzl, hz0, hz1⟩ := HAT.out i x hcx
          obtain ⟨st1, st2⟩ := HST.out i x hcx
          obtain ⟨r1, r2⟩ := HR.out wr HS.out
          obtain ⟨b3, o3, rfl, -, hj3⟩ := at_int r1 (by rw [HN.out]; omega)
          obtain ⟨b4, o4, rfl, -, hj4⟩ := at_int r2 (by rw [hufLs_len, HN.out]; omega)
          have u1 := hj3 i _ hcx
          have u2 := hj4 i _ hzi
          have HXI := Lib.hid hcx
          have HZI := Lib.hid hzi
          have e2 : decide ((z : Int) < 0) = false := decide_eq_false (by omega)
          have e3 : decide ((z : Int) > (l : Int)) = false := decide_eq_false (by omega)
          have e3' : decide (l < z) = false := decide_eq_false (by omega)
          by_cases d3 : 0 < x
          · obtain ⟨q1, q2⟩ := st1 d3
            obtain ⟨q3, q4⟩ := hz1 d3
            rw [← q4] at q1
            have e4 : decide ((x : Int) > 0) = true := decide_eq_true (by omega)
            have e4' : decide (0 < x) = true := decide_eq_true d3
            have e5 : decide ((z : Int) > 0) = true := decide_eq_true (by omega)
            have e5' : decide (0 < z) = true := decide_eq_true (by omega)
            obtain ⟨d, hd⟩ : ∃ d, l - z = d := ⟨_, rfl⟩
            have h15 := HLL.out.2.1
            have hd15 : d ≤ 15 := by omega
            rw [hd] at q1
            obtain ⟨pw1, pw2⟩ := pow_shift hd15
            obtain ⟨Q, hQ⟩ : ∃ Q : Nat, 2 ^ d = Q := ⟨_, rfl⟩
            rw [hQ] at pw1 pw2 q1
            have n1 : wrap64 ((l : Int) - (z : Int)) = (d : Int) := by unfold wrap64; omega
            have n2 : IntKind.u64.wrap (d : Int) = (d : Int) := by rw [show IntKind.u64.wrap (d : Int) = (d : Int) % 18446744073709551616 from rfl]; omega
            have n3 : (d : Int) ≤ 64 := by omega
            have m3 := wrap_addN q1 (Nat.le_trans (Nat.le_of_eq q1) (Nat.le_trans (Nat.add_le_add (HKB.out i (by omega)) pw2) (by decide)))
            have m4 := wrap_addN q2 (Nat.le_trans (Nat.le_of_eq q2) (Nat.le_trans (Nat.add_le_add (HPB.out i (by omega)) (Nat.le_refl 1)) (by decide)))
            have m4' : wrap64 ((P i : Int) + 1) = ((P (i + 1) : Nat) : Int) := m4
            clear hcx h4 hzi hzl hz0 hz1 st1 st2 r1 r2 hj3 hj4 q1 q2 q3 q4 hd hQ pw2 h15 m4 d3
            have HNX1 := Lib.hid (show Below w2.heap.size w2 wr from HS.out)
            obtain ⟨wo, rfl⟩ : ∃ wo, wo = wr := ⟨_, rfl⟩
            clear HS
            go_wp2_with fail
            go_loopw [83] (fun sv wr => ∃ k : Nat, k ≤ n ∧ sv = .int .i64 k ∧ Hid (Below w2.heap.size w2 wr)) (fun sv _ => n - (Go.RowKit.intOf sv).toNat)
            case atStart => exact ⟨0, Nat.zero_le _, rfl, HNX1⟩
            case round =>
              clear HNX1
              obtain ⟨k, hk, rfl, HT⟩ := hrel
              by_cases hlk : k < n
              · have hlkI : (k : Int) < (n : Int) := by omega
                obtain ⟨d, hdx⟩ : ∃ d, cs[k]? = some d := ⟨_, List.getElem?_eq_getElem (by rw [HN.out]; exact hlk)⟩
                have hd4 := H4.out d (List.mem_of_getElem? hdx)
                obtain ⟨y, rfl⟩ : ∃ y : Nat, d = y := ⟨d.toNat, by omega⟩
                obtain ⟨zk, hzk, hzl, hz0, hz1⟩ := HAT.out k y hdx
                obtain ⟨r1, r2⟩ := HR.out wr HT.out
                obtain ⟨b5, o5, e5, -, hj5⟩ := at_int r1 (by rw [HN.out]; omega)
                cases e5
                obtain ⟨b6, o6, e6, -, hj6⟩ := at_int r2 (by rw [hufLs_len, HN.out]; omega)
                cases e6
                have w0 := hj5 k _ hdx
                have w1' := hj6 k _ hzk
                have w2' := hj6 i _ HZI.out
                have hmono : y < x → 0 < y → z ≤ zk := fun h1 h2 => HMO.out i k x y z zk HXI.out hdx HZI.out hzk h2 h1
                have HT2 := Lib.hid HT.out
                clear hdx hd4 hzk hzl hz0 hz1 r1 r2 hj5 hj6 HT
                by_cases g1 : y < x
                · have f1 : decide ((x : Int) > (y : Int)) = true := decide_eq_true (by omega)
                  have f1' : decide (y < x) = true := decide_eq_true g1
                  by_cases g2 : 0 < y
                  · have f2 : decide ((y : Int) > 0) = true := decide_eq_true (by omega)
                    have f2' : decide (0 < y) = true := decide_eq_true g2
                    have g3 := hmono g1 g2
                    have f3 : decide ((z : Int) > (zk : Int)) = false := decide_eq_false (by omega)
                    have f3' : decide (zk < z) = false := decide_eq_false (by omega)
                    clear hmono g1 g2 g3
                    go_wp2_with fail
                    go_quiet (fail)
                    go_wp2_with fail
                    exact ⟨⟨k + 1, by omega, by go_num, Lib.hid (below_drewN HT2.out _)⟩, by simp only [Go.RowKit.intOf]; omega⟩
                  · have f2 : decide ((y : Int) > 0) = false := decide_eq_false (by omega)
                    have f2' : decide (0 < y) = false := decide_eq_false g2
                    clear hmono g1 g2
                    go_wp2_with fail
                    go_quiet (fail)
                    go_wp2_with fail
                    exact ⟨⟨k + 1, by omega, by go_num, Lib.hid (below_drewN HT2.out _)⟩, by simp only [Go.RowKit.intOf]; omega⟩
                · have f1 : decide ((x : Int) > (y : Int)) = false := decide_eq_false (by omega)
                  have f1' : decide (y < x) = false := decide_eq_false g1
                  clear hmono g1
                  go_wp2_with fail
                  go_quiet (fail)
                  go_wp2_with fail
                  exact ⟨⟨k + 1, by omega, by go_num, Lib.hid (below_drewN HT2.out _)⟩, by simp only [Go.RowKit.intOf]; omega⟩
              · obtain rfl : k = n := by omega
                have hlkI : ¬ (k : Int) < (k : Int) := by omega
                clear HXI HZI
                go_wp2_with fail
                exact ⟨⟨i + 1, by omega, by go_num, (by first | rfl | rw [m3]), (by first | rfl | rw [m4']), HT⟩, by simp only [Go.RowKit.intOf]; omega⟩
          · obtain ⟨q1, q2⟩ := st2 d3
            obtain rfl := hz0 d3
            have e4 : decide ((x : Int) > 0) = false := decide_eq_false (by omega)
            have e4' : decide (0 < x) = false := decide_eq_false d3
            obtain ⟨z, hzz⟩ : ∃ z : Nat, z = 0 := ⟨0, rfl⟩
            rw [← hzz] at u2 HZI e2 e3 e3'
            have e5 : decide ((z : Int) > 0) = false := decide_eq_false (by omega)
            have e5' : decide (0 < z) = false := decide_eq_false (by omega)
            have Q1 := Lib.hid q1
            have Q2 := Lib.hid q2
            clear hcx h4 hzi hzl hz0 hz1 st1 st2 r1 r2 hj3 hj4 q1 q2 hzz d3
            have HNX1 := Lib.hid (show Below w2.heap.size w2 wr from HS.out)
            obtain ⟨wo, rfl⟩ : ∃ wo, wo = wr := ⟨_, rfl⟩
            clear HS
            go_wp2_with fail
            go_loopw [83] (fun sv wr => ∃ k : Nat, k ≤ n ∧ sv = .int .i64 k ∧ Hid (Below w2.heap.size w2 wr)) (fun sv _ => n - (Go.RowKit.intOf sv).toNat)
            case atStart => exact ⟨0, Nat.zero_le _, rfl, HNX1⟩
            case round =>
              clear HNX1
              obtain ⟨k, hk, rfl, HT⟩ := hrel
              by_cases hlk : k < n
              · have hlkI : (k : Int) < (n : Int) := by omega
                obtain ⟨d, hdx⟩ : ∃ d, cs[k]? = some d := ⟨_, List.getElem?_eq_getElem (by rw [HN.out]; exact hlk)⟩
                have hd4 := H4.out d (List.mem_of_getElem? hdx)
                obtain ⟨y, rfl⟩ : ∃ y : Nat, d = y := ⟨d.toNat, by omega⟩
                obtain ⟨zk, hzk, hzl, hz0, hz1⟩ := HAT.out k y hdx
                obtain ⟨r1, r2⟩ := HR.out wr HT.out
                obtain ⟨b5, o5, e5, -, hj5⟩ := at_int r1 (by rw [HN.out]; omega)
                cases e5
                obtain ⟨b6, o6, e6, -, hj6⟩ := at_int r2 (by rw [hufLs_len, HN.out]; omega)
                cases e6
                have w0 := hj5 k _ hdx
                have w1' := hj6 k _ hzk
                have w2' := hj6 i _ HZI.out
                have hmono : y < x → 0 < y → z ≤ zk := fun h1 h2 => HMO.out i k x y z zk HXI.out hdx HZI.out hzk h2 h1
                have HT2 := Lib.hid HT.out
                clear hdx hd4 hzk hzl hz0 hz1 r1 r2 hj5 hj6 HT
                by_cases g1 : y < x
                · have f1 : decide ((x : Int) > (y : Int)) = true := decide_eq_true (by omega)
                  have f1' : decide (y < x) = true := decide_eq_true g1
                  by_cases g2 : 0 < y
                  · have f2 : decide ((y : Int) > 0) = true := decide_eq_true (by omega)
                    have f2' : decide (0 < y) = true := decide_eq_true g2
                    have g3 := hmono g1 g2
                    have f3 : decide ((z : Int) > (zk : Int)) = false := decide_eq_false (by omega)
                    have f3' : decide (zk < z) = false := decide_eq_false (by omega)
                    clear hmono g1 g2 g3
                    go_wp2_with fail
                    go_quiet (fail)
                    go_wp2_with fail
                    exact ⟨⟨k + 1, by omega, by go_num, Lib.hid (below_drewN HT2.out _)⟩, by simp only [Go.RowKit.intOf]; omega⟩
                  · have f2 : decide ((y : Int) > 0) = false := decide_eq_false (by omega)
                    have f2' : decide (0 < y) = false := decide_eq_false g2
                    clear hmono g1 g2
                    go_wp2_with fail
                    go_quiet (fail)
                    go_wp2_with fail
                    exact ⟨⟨k + 1, by omega, by go_num, Lib.hid (below_drewN HT2.out _)⟩, by simp only [Go.RowKit.intOf]; omega⟩
                · have f1 : decide ((x : Int) > (y : Int)) = false := decide_eq_false (by omega)
                  have f1' : decide (y < x) = false := decide_eq_false g1
                  clear hmono g1
                  go_wp2_with fail
                  go_quiet (fail)
                  go_wp2_with fail
                  exact ⟨⟨k + 1, by omega, by go_num, Lib.hid (below_drewN HT2.out _)⟩, by simp only [Go.RowKit.intOf]; omega⟩
              · obtain rfl : k = n := by omega
                have hlkI : ¬ (k : Int) < (k : Int) := by omega
                clear HXI HZI
                go_wp2_with fail
                exact ⟨⟨i + 1, by omega, by go_num, congrArg (fun z : Nat => Value.int .i64 (z : Int)) Q1.out.symm, congrArg (fun z : Nat => Value.int .i64 (z : Int)) Q2.out.symm, HT⟩, by simp only [Go.RowKit.intOf]; omega⟩
        · obtain rfl : i = n := by omega
          have hlti : ¬ (i : Int) < (i : Int) := by omega
          have HAW := Lib.hid (HA.out wr)
          obtain ⟨x, hx⟩ : ∃ x, K i = x := ⟨_, rfl⟩
          obtain ⟨y, hy⟩ : ∃ y, P i = y := ⟨_, rfl⟩
          rw [hx, hy] at HEND
          rw [hx, hy]
          obtain ⟨pw1, pw2⟩ := pow_shift HLL.out.2.1
          obtain ⟨Q, hQ⟩ : ∃ Q : Nat, 2 ^ l = Q := ⟨_, rfl⟩
          rw [hQ] at pw1 pw2 HEND
          have h15 := HLL.out.2.1
          have n2 : IntKind.u64.wrap (l : Int) = (l : Int) := by rw [show IntKind.u64.wrap (l : Int) = (l : Int) % 18446744073709551616 from rfl]; omega
          have n3 : (l : Int) ≤ 64 := by omega
          have HBW : Hid (Below w1.heap.size w1 wr) := Lib.hid (HB.out.trans (HS.out.mono HB.out.size))
          clear hx hy hQ pw2 h15 HS
          by_cases hp : y < 2
          · have g1 : decide ((y : Int) < 2) = true := decide_eq_true (by omega)
            have g2 : decide (y < 2) = true := decide_eq_true hp
            clear HEND hp
            go_wp2_with fail
            refine HAW.out.mono ?_
            rintro e w4 ⟨rfl, hb4⟩
            have HE2 := Lib.hid (HBW.out.trans (hb4.mono HBW.out.size))
            clear hb4
            go_wp2_with fail
            go_ret
            exact ⟨rfl, HE2.out⟩
          · have g1 : decide ((y : Int) < 2) = false := decide_eq_false (by omega)
            have g2 : decide (y < 2) = false := decide_eq_false hp
            obtain rfl : x = Q := HEND.out (by omega)
            have g5 : ((x : Int) == (x : Int)) = true := by simp
            clear HEND hp
            go_wp2_with fail
            refine HAW.out.mono ?_
            rintro e w4 ⟨rfl, hb4⟩
            have HE2 := Lib.hid (HBW.out.trans (hb4.mono HBW.out.size))
            clear hb4
            go_wp2_with fail
            go_ret
            exact ⟨rfl, HE2.out⟩
    · have hne : (chkH cs lim != 0) = true := by simpa using hz
      obtain ⟨r, hr⟩ : ∃ r, chkH cs lim = r := ⟨_, rfl⟩
      rw [hr] at HCK hne
      clear hr hz
      go_wp2_with fail
      refine HCK.out.mono ?_
      rintro e w1 ⟨rfl, rfl⟩
      go_wp2_with fail
      go_ret
      exact ⟨rfl, Below.refl _ _⟩

theorem own : ownKnob Try.prog.godebug = none := by kernel_rfl

set_option maxRecDepth 100000 in
theorem lifted (os : Os) (started : os.Started) (H : Type) (enc : TypeId × Value → H) :
    ReturnsInHanded {} Try.checked os 5 .any (Rows.huffmanCompleteSpec.pre6 enc Try.prog Try.f5 Rows.huffmanCompleteRow.domain false) (Rows.huffmanCompleteSpec.post enc Try.prog Try.f5 false true false false) := by
  refine returnsInHanded_of_change (C := Try.checked) own started (by kernel_rfl) Try.func5
    (ChangeSpec.witness6 (enc := enc) (C := Try.checked) false ⟨#[], #[.slice none 0 0, .int .i64 0], []⟩ 8 (by kernel_rfl) (by kernel_rfl) (by kernel_rfl) (by kernel_rfl)) ?_
  intro W base args ds gs before hval0 hW hcnd _
  have hval : ∀ (j : Nat) t v, Try.f5.params[j]? = some t → args[j]? = some v → Value.okWide Try.prog W .any base t v := hval0
  have hW' := hW
  have hplt : ∀ x ∈ before, x.block < W.heap.size := fun x hx => hW.lt x hx
  obtain ⟨p, q, hA0, hV, rfl, hfz, hnd⟩ := hW
  have hA : DataW.TrodAll enc Try.prog W 0 (fun _ => true) true Try.f5.params.toList args.toList ds p := hA0
  rw [Try.params5] at hA hval
  obtain ⟨v0, vs0, d0, ds0, p0, q0, hargs, rfl, rfl, h0, r0⟩ := trodAll_cons hA
  obtain ⟨v1, vs1, d1, ds1, p1, q1, rfl, rfl, rfl, h1, r1⟩ := trodAll_cons r0
  obtain ⟨rfl, rfl, rfl⟩ := trodAll_nil r1
  obtain rfl : args = #[v0, v1] := by cases args; simp_all
  obtain ⟨rfl, rfl⟩ := trodVars_none hV
  obtain ⟨l0, s0, m0, n0⟩ := open_rowI (hval 0 22 v0 rfl rfl) h0
  obtain ⟨x1, rfl, m1, n1⟩ := open_i64 (hval 1 3 v1 rfl rfl) h1
  clear hA0 hval0
  refine (walk v0 l0 s0 m0 n0 x1 m1 n1).mono fun e W' ⟨he, bel⟩ => ?_
  subst he
  exact ⟨_, rfl, _, _, _, [], _, [], hW', trodAll_mk1 (shut_bool Try.underlying4 _), (trodAll_cons_mk (Below.trod Try.laidOut (by kernel_rfl) (of_decide_eq_true (by kernel_rfl)) h0 bel (fun x hx => hplt x (by simp [hx]))) (trodAll_cons_mk (Below.trod Try.laidOut (by kernel_rfl) (of_decide_eq_true (by kernel_rfl)) h1 bel (fun x hx => hplt x (by simp [hx]))) trodAll_mk0)), rfl, World.keptBut_mono (fun x hx => ⟨hx, Or.inr (by simpa using hx)⟩) (bel.frame (· ∈ _)), fun h => by cases h⟩

theorem over : Rows.huffmanCompleteRow.holds Try.pinned (OpenSpec.ofChange Rows.huffmanCompleteSpec) :=
  OpenClaim.holds_of_wide 5 Try.f5 rfl rfl rfl rfl rfl rfl rfl ⟨rfl, rfl, rfl, rfl, rfl⟩ rfl rfl rfl rfl rfl (by kernel_rfl) Try.func5 (by kernel_rfl)
    (of_decide_eq_true (by kernel_rfl)) (by unfold Func.isWrapper; first | (rw [if_pos (by decide +kernel)]; kernel_rfl) | (rw [if_neg (by decide +kernel)]; exact ⟨rfl, rfl⟩))
    (fun os started H enc _ => lifted os started H enc)

/-- THE STATEMENT. -/
theorem proved : Rows.HuffmanCompleteSaid := over
end Go.Proofs.Ytghfehjkhkjgfaa.huffmanComplete
