/-
  WALKS over package feature: ascending.
-/
import Derived.Test.YtmjmidgfdjcbfaaGreatDoorFmA
import Derived.BigQuiet
import Derived.Deep.QuietTactic
namespace Go.Proofs.YtmjmidgfdjcbfaaGreatDoor
open Go.RowKit Go.Shelf Go.Lib

theorem less_lt : ∀ l m : List UInt8, Op.bytesLess l m = decide (l < m)
  | [], [] => by simp [Op.bytesLess]
  | _ :: _, [] => by simp [Op.bytesLess]
  | [], _ :: _ => by simp [Op.bytesLess]
  | a :: l, b :: m => by
    have ih := less_lt l m
    unfold Op.bytesLess
    rw [ih, Bool.eq_iff_iff]
    simp [List.cons_lt_cons_iff]
theorem asc_step {l : Fs} {j : Nat} {a b : Bs} (h1 : l[j]? = some a) (h2 : l[j + 1]? = some b) (h : decide (a < b) = false) : decide (asc l) = false := by
  rw [decide_eq_false_iff_not] at h ⊢
  exact fun hs => h (asc_iff.1 hs j a b h1 h2)

set_option maxRecDepth 100000 in
set_option maxHeartbeats 2000000 in
theorem ascending_any {w : World} {v : Value} {l : Fs} (hv : RS w v l) (hl : l.length ≤ 1000000) :
    Calls Tryz.prog 110 #[v] w fun e w' => e = .returned (.bool (decide (asc l))) ∧ Below w.heap.size w w' := by
  obtain ⟨A, cap, rfl, hc, hr⟩ := hv.form
  obtain ⟨n, hn⟩ : ∃ n, l.length = n := ⟨_, rfl⟩
  rw [hn] at hc hr hl ⊢
  have HN := Lib.hid hn
  have HV := Lib.hid (fun W (h : Below w.heap.size w W) => hv.below h)
  clear hn hr hv
  go_enter Tryz.func110, Tryz.ntmps110
  go_wp2_with fail
  go_loopw [3] (fun i wr => ∃ k : Nat, k ≤ n ∧ i = .int .i64 ((k : Int) + 1) ∧ (∀ j a b, j < k → l[j]? = some a → l[j + 1]? = some b → a < b) ∧ Below w.heap.size w wr) (fun i _ => n + 1 - (Go.RowKit.intOf i).toNat)
  case atStart => exact ⟨0, Nat.zero_le _, rfl, fun j a b h => absurd h (by omega), Below.refl _ _⟩
  case round =>
    obtain ⟨k, hk, rfl, hs, hb⟩ := hrel
    by_cases hlt : k + 1 < n
    · obtain ⟨a, ha⟩ : ∃ a, l[k]? = some a := ⟨_, List.getElem?_eq_getElem (by rw [HN.out]; omega)⟩
      obtain ⟨b, hb'⟩ : ∃ b, l[k + 1]? = some b := ⟨_, List.getElem?_eq_getElem (by rw [HN.out]; omega)⟩
      obtain ⟨A', cap', he, -, hr⟩ := (HV.out wr hb).form
      cases he
      obtain ⟨bk, off, rfl, -, hj⟩ := hr (by rw [HN.out]; omega)
      have c0 := hj k a ha
      have c1 := hj (k + 1) b hb'
      obtain ⟨P, hP⟩ : ∃ s : ByteArray, (⟨a.toArray⟩ : ByteArray) = s := ⟨_, rfl⟩
      obtain ⟨Q, hQ⟩ : ∃ s : ByteArray, (⟨b.toArray⟩ : ByteArray) = s := ⟨_, rfl⟩
      have ht : Op.bytesLess P.toList Q.toList = decide (a < b) := by rw [← hP, ← hQ, Lib.toList_data, Lib.toList_data, less_lt]
      rw [hP] at c0
      rw [hQ] at c1
      obtain ⟨t, htt⟩ : ∃ t, decide (a < b) = t := ⟨_, rfl⟩
      rw [htt] at ht
      have HB := Lib.hid hb
      have HS := Lib.hid hs
      have HA := Lib.hid ha
      have HBB := Lib.hid hb'
      have HT := Lib.hid htt
      have hlti : (k : Int) + 1 < (n : Int) := by omega
      clear hj hb hs ha hb' htt hP hQ hr
      go_wp2_with fail
      go_quiet (fail)
      cases t with
      | true =>
        clear c0 c1 ht
        go_wp2_with fail
        exact ⟨⟨k + 1, by omega, by go_num, fun j x y hj hx hy => by
          by_cases hjk : j < k
          · exact HS.out j x y hjk hx hy
          · obtain rfl : j = k := by omega
            rw [HA.out] at hx
            rw [HBB.out] at hy
            cases hx; cases hy
            exact of_decide_eq_true HT.out, below_drewN HB.out _⟩, by simp only [Go.RowKit.intOf]; omega⟩
      | false =>
        clear c0 c1 ht
        go_wp2_with fail
        go_ret
        exact ⟨by rw [asc_step HA.out HBB.out HT.out]; rfl, below_drewN HB.out _⟩
    · have hlti : ¬ ((k : Int) + 1 < (n : Int)) := by omega
      have hd : decide (asc l) = true := by
        rw [decide_eq_true_iff]
        exact asc_iff.2 fun j a b ha hb' => hs j a b (by have := (List.getElem?_eq_some_iff.1 hb').1; have := HN.out; omega) ha hb'
      have HB := Lib.hid hb
      have HD := Lib.hid hd
      clear hb hd hs
      go_wp2_with fail
      go_ret
      exact ⟨by rw [HD.out]; rfl, HB.out⟩
end Go.Proofs.YtmjmidgfdjcbfaaGreatDoor
