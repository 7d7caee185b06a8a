/-
  WALK over the reference of lexicon: Find. (Tried at a scratch seat with a stand-in for package lexicon: the reference's text is the same.)
-/
import Derived.Test.YteennnhinfnahaaLxN
import Derived.Test.YteennnhinfnahaaDaR
import Derived.Sort.Walk0
import Derived.Deep.DeepCutAuto
import Derived.Deep.RegionHeld3
import Derived.RegionTactic
import Derived.BigQuiet
import Derived.Deep.QuietTactic
namespace Go.Proofs.Yteennnhinfnahaa
open Go Go.RowKit Go.Shelf Go.Lib
set_option linter.unusedVariables false
set_option linter.unusedSimpArgs false
/-- What Find answers: the word's place, and whether it is there. -/
def FindV (w : World) (ws : List Wd) (s : Wd) (e : Ending) (w' : World) : Prop :=
  e = .returned (.tuple #[.int .i64 (fnd ws s : Nat), .bool (decide (ws[fnd ws s]? = some s))]) ∧ Below w.heap.size w w'
set_option maxRecDepth 100000 in
set_option maxHeartbeats 4000000 in
theorem refFind_any {w : World} {vw vc : Value} {ws : List Wd} (hv : Rows 1 EStr w vw ws) (hl : ws.length ≤ maxLen) (s : Wd) :
    Calls Try.prog 31 #[.agg #[vw, vc], .string ⟨s.toArray⟩] w (FindV w ws s) := by
  have hb0 := below_box w (.cells #[vw, vc] 33)
  obtain ⟨X, hX⟩ : ∃ X, w.alloc (.cells #[vw, vc] 33) = X := ⟨_, rfl⟩
  obtain ⟨N, hN⟩ : ∃ N, w.heap.size = N := ⟨_, rfl⟩
  have hbx : X.heap[N]? = some (.cells #[vw, vc] 33 (0, 0)) := by rw [← hX, ← hN]; exact block_new _ _
  rw [hX] at hb0
  have hvX := hv.below stays_str hb0
  obtain ⟨A, cap, rfl, hc⟩ := hv.form
  obtain ⟨n, hn⟩ : ∃ n, ws.length = n := ⟨_, rfl⟩
  rw [hn] at hvX hbx hX hc hl ⊢
  unfold maxLen at hl
  have d0 : X.cell? ⟨N, 0, none⟩ = some (.slice A n cap) := cell_of (i := 0) hbx rfl
  have d0' : X.drew.cell? ⟨N, 0, none⟩ = some (.slice A n cap) := d0
  have HVX := Lib.hid hvX
  have HX := Lib.hid hX
  have HNN := Lib.hid hN
  have HN := Lib.hid hn
  have HB0 : Hid (Below w.heap.size w X) := Lib.hid hb0
  obtain ⟨S, hS⟩ : ∃ S : ByteArray, (⟨s.toArray⟩ : ByteArray) = S := ⟨_, rfl⟩
  have HSl : Hid (S.toList = s) := Lib.hid (by rw [← hS, Lib.toList_data])
  have HEND : Hid (∀ (k : Nat) (b : Bool), fnd ws s = k → decide (ws[k]? = some s) = b → ∀ q : Nat, FindV w ws s (.returned (.tuple #[.int .i64 k, .bool b])) (X.drewN q)) := Lib.hid (fun k b h1 h2 q => ⟨by rw [h1, h2], below_drewN hb0 q⟩)
  rw [hS]
  clear hv hvX hb0 hX hN hbx hn hS
  go_enter Try.func31, Try.ntmps31
  go_upto_region 1 with fail
  rw [HX.out, HNN.out]
  go_wp2_with fail
  go_loopw [6] (fun kv wr => ∃ k : Nat, k ≤ n ∧ kv = .int .i64 k ∧ Hid (∀ i a, i < k → ws[i]? = some a → a < s) ∧ wr = X) (fun kv _ => n - (Go.RowKit.intOf kv).toNat)
  case atStart => exact ⟨0, Nat.zero_le _, rfl, Lib.hid (fun i a h => absurd h (by omega)), rfl⟩
  case round =>
    obtain ⟨k, hk, rfl, HLO, rfl⟩ := hrel
    by_cases hlt : k < n
    · obtain ⟨x, hx⟩ : ∃ x, ws[k]? = some x := ⟨_, List.getElem?_eq_getElem (by rw [HN.out]; exact hlt)⟩
      obtain ⟨b1, o1, rfl, -, hj1⟩ := at_str HVX.out (by rw [HN.out]; omega)
      have u0 := hj1 k x hx
      have u0' : wr.drew.cell? ⟨b1, o1 + k, none⟩ = some (.string ⟨x.toArray⟩) := u0
      obtain ⟨T, hT⟩ : ∃ T : ByteArray, (⟨x.toArray⟩ : ByteArray) = T := ⟨_, rfl⟩
      have HTl : Hid (T.toList = x) := Lib.hid (by rw [← hT, Lib.toList_data])
      rw [hT] at u0 u0'
      have HXX := Lib.hid hx
      obtain ⟨q, hq⟩ : ∃ q, Op.bytesLess T.toList S.toList = q := ⟨_, rfl⟩
      have HQ : Hid (q = decide (x < s)) := Lib.hid (by rw [← hq, bytesLess_eq, HTl.out, HSl.out])
      clear hj1 hx hT
      cases q
      · have hne : fnd ws s = k := fnd_eq (by rw [HN.out]; exact hk) HLO.out (fun a ha => by
          rw [HXX.out, Option.some.injEq] at ha
          rw [← ha]
          exact of_decide_eq_false HQ.out.symm)
        have HNE := Lib.hid hne
        obtain ⟨r, hr⟩ : ∃ r, (T.toList == S.toList) = r := ⟨_, rfl⟩
        have HE := Lib.hid (HEND.out k r hne (by
          rw [HXX.out, ← hr, HTl.out, HSl.out]
          by_cases h : x = s <;> simp [h]))
        clear hne HEND d0' u0'
        go_wp2_with fail
        go_quiet (fail)
        go_wp2_with fail
        go_ret2
        exact HE.out _
      · have HLO2 : Hid (∀ i a, i < k + 1 → ws[i]? = some a → a < s) := Lib.hid (fun i a hi ha => by
          rcases Nat.lt_or_ge i k with h | h
          · exact HLO.out i a h ha
          · have : i = k := by omega
            rw [this, HXX.out, Option.some.injEq] at ha
            rw [← ha]
            exact of_decide_eq_true HQ.out.symm)
        go_wp2_with fail
        exact ⟨⟨k + 1, by omega, by go_num, HLO2, trivial⟩, by simp only [Go.RowKit.intOf]; omega⟩
    · have hkn : k = n := by omega
      have hne : fnd ws s = k := fnd_eq (by rw [HN.out]; exact hk) HLO.out (fun a ha => absurd (List.getElem?_eq_some_iff.1 ha).1 (by rw [HN.out]; omega))
      have HE := Lib.hid (HEND.out k false hne (by rw [List.getElem?_eq_none (by rw [HN.out]; omega)]; rfl))
      have hltI : ¬ (k : Int) < (n : Int) := by omega
      have hltB : decide ((k : Int) < (n : Int)) = false := decide_eq_false hltI
      have hge : n ≤ k := by omega
      have hgeI : (n : Int) ≤ (k : Int) := by omega
      clear hne HEND hkn d0'
      go_wp2_with fail
      go_quiet (fail)
      go_wp2_with fail
      go_ret2
      exact HE.out _
end Go.Proofs.Yteennnhinfnahaa
