/-
  WALK over the laws of lexicon: long. (Tried at a scratch seat with a stand-in for package lexicon.) The sum of the lengths may wrap: what is said is only that a list that is not called long has at most 80 elements.
-/
import Derived.Test.YteennnhinfnahaaLxN
import Derived.Test.YteennnhinfnahaaDaR
namespace Go.Proofs.Yteennnhinfnahaa
open Go Go.RowKit Go.Shelf Go.Lib
set_option linter.unusedVariables false
set_option linter.unusedSimpArgs false
def LongV (w : World) (n : Nat) (e : Ending) (w' : World) : Prop := (∃ q : Bool, e = .returned (.bool q) ∧ (q = false → n ≤ 80)) ∧ w' = w
set_option maxRecDepth 100000 in
set_option maxHeartbeats 4000000 in
theorem long_any {w : World} {v : Value} {ws : List Wd} (hv : Rows 1 EStr w v ws) (hl : ws.length ≤ maxLen) : Calls Try.prog 9 #[v] w (LongV w ws.length) := by
  have HV := Lib.hid hv
  obtain ⟨A, cap, rfl, hc⟩ := hv.form
  obtain ⟨n, hn⟩ : ∃ n, ws.length = n := ⟨_, rfl⟩
  rw [hn] at HV hc hl ⊢
  have HN := Lib.hid hn
  unfold maxLen at hl
  clear hv hn
  go_enter Try.func9, Try.ntmps9
  go_wp2_with fail
  go_loopw [3, 8] (fun sv kv wr => ∃ (k : Nat) (s : Int), k ≤ n ∧ kv = .int .i64 k ∧ sv = .int .i64 s ∧ wr = w) (fun _ kv _ => n - (Go.RowKit.intOf kv).toNat)
  case atStart => exact ⟨0, 0, Nat.zero_le _, rfl, rfl, rfl⟩
  case round =>
    obtain ⟨k, s, hk, rfl, rfl, rfl⟩ := hrel
    by_cases hge : n ≤ k
    · obtain rfl : k = n := by omega
      have hlt : ¬ k < k := by omega
      have HE : Hid (LongV wr k (.returned (.bool (decide ((80 : Int) < (k : Int))))) wr) := Lib.hid ⟨⟨_, rfl, fun h => by
        have := of_decide_eq_false h
        omega⟩, rfl⟩
      go_wp2_with fail
      go_ret
      exact HE.out
    · have hlt : k < n := by omega
      obtain ⟨x, hx⟩ : ∃ x, ws[k]? = some x := ⟨_, List.getElem?_eq_getElem (by rw [HN.out]; exact hlt)⟩
      obtain ⟨b1, o1, rfl, -, hj1⟩ := at_str HV.out (by rw [HN.out]; omega)
      have u0 := hj1 k x hx
      obtain ⟨T, hT⟩ : ∃ T : ByteArray, (⟨x.toArray⟩ : ByteArray) = T := ⟨_, rfl⟩
      rw [hT] at u0
      obtain ⟨z, hz⟩ : ∃ z, IntKind.i64.wrap (s + (T.size : Int)) = z := ⟨_, rfl⟩
      have HE : Hid (LongV wr n (.returned (.bool true)) wr) := Lib.hid ⟨⟨_, rfl, fun h => by cases h⟩, rfl⟩
      clear hj1 hx hT
      by_cases hbig : 3000 < z
      · go_wp2_with fail
        go_ret
        exact HE.out
      · go_wp2_with fail
        exact ⟨⟨k + 1, z, by omega, by go_num, rfl, trivial⟩, by simp only [Go.RowKit.intOf]; omega⟩
end Go.Proofs.Yteennnhinfnahaa
