/-
  WALKS over the laws of package block: awake; what Cost and Pack answer for lists that are not refused.
-/
import Derived.Test.YtbfnkmibbieijaaBkD
namespace Go.Proofs.Ytbfnkmibbieijaa
open Go.RowKit Go.Shelf Go.Lib
set_option linter.unusedVariables false
set_option linter.unusedSimpArgs false

theorem ex_w1 : wid [1, 2, 3] = 2 := by
  refine wid_of (by decide) fun j hj => ?_
  simp only [cst_cstN]
  revert j
  decide +kernel
theorem ex_w2 : wid [0, 0, 0, 0, 0, 0, 0, 0, 1] = 0 := by
  refine wid_of (by decide) fun j hj => ?_
  simp only [cst_cstN]
  revert j
  decide +kernel
theorem ex_n1 : natB [1, 2, 3] = [1, 2, 3] := by decide
theorem ex_n2 : natB [0, 0, 0, 0, 0, 0, 0, 0, 1] = [0, 0, 0, 0, 0, 0, 0, 0, 1] := by decide
theorem ex_x1 : xsK 2 [1, 2, 3] 3 = ⟨0, 0, []⟩ := rfl
theorem ex_x2 : xsK 0 [0, 0, 0, 0, 0, 0, 0, 0, 1] 9 = ⟨1, 9, [] ++ enc 9 ++ enc 1⟩ := rfl
theorem ex_p1 : packB [1, 2, 3] = [3, 2, 0, 108] := by
  unfold packB
  rw [ex_n1, ex_w1]
  unfold blkB
  have h3 : ([1, 2, 3] : List Nat).length = 3 := rfl
  rw [h3, ex_x1, enc_lt (v := 3) (by decide), enc_lt (v := 2) (by decide), enc_lt (v := 0) (by decide)]
  decide +kernel
theorem ex_p2 : packB [0, 0, 0, 0, 0, 0, 0, 0, 1] = [9, 0, 1, 9, 1] := by
  unfold packB
  rw [ex_n2, ex_w2]
  unfold blkB
  have h3 : ([0, 0, 0, 0, 0, 0, 0, 0, 1] : List Nat).length = 9 := rfl
  rw [h3, ex_x2, enc_lt (v := 9) (by decide), enc_lt (v := 0) (by decide), enc_lt (v := 1) (by decide)]
  decide +kernel
theorem ex_c1 : chkB [1, 2, 3] = 0 := by decide
theorem ex_c2 : chkB [0, 0, 0, 0, 0, 0, 0, 0, 1] = 0 := by decide
/-- Pack's answer for a list that is not refused. -/
def PackOk (w : World) (P : List UInt8) (e : Ending) (w' : World) : Prop := ∃ v', e = .returned (.tuple #[v', .int .i64 0]) ∧ Sees w' w'.heap.size v' P ∧ w'.ownsRow w.heap.size 5 1 v' P.length (byteCells P) ∧ Below w.heap.size w w'
theorem pack_ok {w : World} {v : Value} {cs : List Int} (hv : Rows 1 EInt w v cs) (hlen : cs.length ≤ maxLen) (hz : chkB cs = 0) {P : List UInt8} (hp : packB cs = P) :
    Calls Try.prog 13 #[v] w (PackOk w P) := by
  refine (packB_any hv hlen).mono ?_
  rintro e w' (⟨h, _⟩ | ⟨_, v', rfl, h1, h2⟩)
  · exact absurd hz h
  · rw [hp] at h1
    exact ⟨v', rfl, sees_own h1, h1, h2⟩
theorem cost_ok {w : World} {v : Value} {cs : List Int} (hv : Rows 1 EInt w v cs) (hlen : cs.length ≤ maxLen) (hz : chkB cs = 0) (k : Nat) (hk : k ≤ 31) :
    Calls Try.prog 19 #[v, .int .i64 k] w fun e w' => e = .returned (.tuple #[.int .i64 (cst (natB cs) k : Nat), .int .i64 0]) ∧ w' = w := by
  refine (costB_any hv hlen k (by omega) (by omega)).mono ?_
  rintro e w' ⟨rfl, rfl⟩
  refine ⟨?_, rfl⟩
  unfold costE
  rw [if_neg (not_not_intro hz), if_neg (by omega), Int.toNat_natCast]
def AwB (w : World) (e : Ending) (w' : World) : Prop := e = .returned (.bool true) ∧ Below w.heap.size w w'
set_option maxRecDepth 100000 in
set_option maxHeartbeats 1000000 in
theorem awake_any (w : World) : Calls Try.prog 16 #[] w (AwB w) := by
  have HP1 := Lib.hid (pack_ok (block_rowsB [1, 2, 3] (block_new w (.cells #[.int .i64 1, .int .i64 2, .int .i64 3] 3)) rfl rfl (by show 3 ≤ maxLen; decide)) (by show 3 ≤ maxLen; decide) ex_c1 ex_p1)
  go_enter Try.func16, Try.ntmps16
  go_wp2_with fail
  refine HP1.out.mono ?_
  rintro e w1 ⟨v1, rfl, hs1, -, hb1⟩
  have hbw1 := below_alloc _ hb1
  have HP2 := Lib.hid (pack_ok (block_rowsB [0, 0, 0, 0, 0, 0, 0, 0, 1] (block_new w1 (.cells #[.int .i64 0, .int .i64 0, .int .i64 0, .int .i64 0, .int .i64 0, .int .i64 0, .int .i64 0, .int .i64 0, .int .i64 1] 3)) rfl rfl (by show 9 ≤ maxLen; decide)) (by show 9 ≤ maxLen; decide) ex_c2 ex_p2)
  have HS1 := Lib.hid hs1
  have HB1 := Lib.hid hbw1
  clear hs1 hb1 hbw1 HP1
  go_wp2_with fail
  refine HP2.out.mono ?_
  rintro e w2 ⟨v2, rfl, hs2, -, hb2⟩
  have hbw2 := below_alloc _ hb2
  have c1 : (convert 23 9 v1).run Try.prog w2 = .ok (.string ⟨#[3, 2, 0, 108]⟩) w2 := by
    have := (HS1.out.below hbw2).convert
    simpa using this
  have c2 : (convert 23 9 v2).run Try.prog w2 = .ok (.string ⟨#[9, 0, 1, 9, 1]⟩) w2 := by
    have := hs2.convert
    simpa using this
  have HE : Hid (Below w.heap.size w w2) := Lib.hid (HB1.out.trans (hbw2.mono HB1.out.size))
  clear hs2 hb2 hbw2 HP2
  go_wp2_with fail
  go_ret
  exact ⟨rfl, HE.out⟩
end Go.Proofs.Ytbfnkmibbieijaa
