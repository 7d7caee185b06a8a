/-
  WALKS over package feature: insert.
-/
import Derived.Test.YthagjdhfngdigaaFaM
import Derived.StillTailTactics
import Derived.RegionTactic
namespace Go.Proofs.Ythagjdhfngdigaa
open Go.RowKit Go.Shelf Go.Lib

theorem sliceS_from (A : Option Addr) (n cap k : Nat) (hk : k ≤ n) (w : World) : (Instr.slice 23 (.slice A n cap) (some (.int .i64 (k : Int))) none none).run Try.prog w = .ok (sliced A k n cap 1) w := by
  rw [run_slice_l w 23 _ _ _ (by kernel_rfl) .i64 k (by omega) (by omega)]
  have hz1 : (sizeOf (Try.prog.elem 23)).run Try.prog w = .ok 1 w := by kernel_rfl
  rw [hz1]
  simp [Result.andThen]
theorem splice_ins (C X : List Value) (z f : Value) (n k : Nat) (hX : X.length = n) (hk : k ≤ n) (hC : C.take (n + 1) = X ++ [z]) : ((splice C (k + 1) (X.drop k)).set k f).take (n + 1) = X.take k ++ f :: X.drop k := by
  obtain ⟨R, hR⟩ : ∃ R, C = X ++ z :: R := by
    have := List.take_append_drop (n + 1) C
    rw [hC] at this
    exact ⟨C.drop (n + 1), by rw [← List.append_cons] at this; exact this.symm⟩
  obtain ⟨X1, X2, hx, h1⟩ : ∃ X1 X2, X = X1 ++ X2 ∧ X1.length = k := ⟨X.take k, X.drop k, (List.take_append_drop k X).symm, by rw [List.length_take]; omega⟩
  subst h1 hx hR
  rw [List.take_left, List.drop_left]
  have hn : n = X1.length + X2.length := by rw [← hX, List.length_append]
  subst hn
  clear hC hk hX
  unfold splice
  have e0 : ∀ (y : Value) (r : List Value), (X1 ++ y :: r).take (X1.length + 1) = X1 ++ [y] := fun y r => by
    rw [List.append_cons, List.take_append_of_le_length (by simp), List.take_of_length_le (by simp)]
  have e3 : ∀ (y : Value) (r : List Value), (X1 ++ y :: r).set X1.length f = X1 ++ f :: r := fun y r => by
    rw [List.set_append_right _ _ (Nat.le_refl _), Nat.sub_self]
    rfl
  cases X2 with
  | nil =>
    simp only [List.append_nil, List.length_nil, Nat.add_zero, List.nil_append]
    rw [List.take_append_drop, e3, e0]
  | cons y r =>
    have e1 : (X1 ++ y :: r ++ z :: R).take (X1.length + 1) = X1 ++ [y] := by
      rw [List.append_assoc, List.cons_append, e0]
    have e2 : (X1 ++ y :: r ++ z :: R).drop (X1.length + 1 + (y :: r).length) = R := by
      rw [show X1.length + 1 + (y :: r).length = (X1 ++ y :: r ++ [z]).length by simp; omega, show X1 ++ y :: r ++ z :: R = (X1 ++ y :: r ++ [z]) ++ R by simp, List.drop_left]
    rw [e1, e2, List.append_assoc, List.singleton_append, e3, show X1 ++ f :: (y :: r ++ R) = (X1 ++ f :: y :: r) ++ R by simp, List.take_append_of_le_length (by simp; omega), List.take_of_length_le (by simp; omega)]
theorem set_toArray (L : List Value) (k : Nat) (f : Value) : L.toArray.setIfInBounds k f = (L.set k f).toArray := by simp

set_option maxRecDepth 100000 in
set_option maxHeartbeats 2000000 in
theorem insert_any {w : World} {base : Nat} {v : Value} {n : Nat} {l : Fs} (hown : w.ownsRow base 9 1 v n (strs l)) (hbase : base ≤ w.heap.size) (k : Nat) (hk : k ≤ n) (hn : n ≤ 1000) (f : ByteArray) :
    Calls Try.prog 48 #[v, .int .i64 k, .string f] w fun e w' => (∃ v', e = .returned v' ∧ w'.ownsRow base 9 1 v' (n + 1) (strs (l.take k ++ f.data.toList :: l.drop k))) ∧ Below base w w' := by
  obtain ⟨_, hl⟩ := rs_own hown
  have HL := Lib.hid hl
  obtain ⟨A, c, rfl, hc⟩ := own_form hown
  have HO := Lib.hid hown
  clear hl hown
  go_enter Try.func48, Try.ntmps48
  go_wp2_with (at_builtin; refine wpList_push rfl (.tmp 7) (.tmp 8) rfl base _ n l ⟨#[]⟩ rfl rfl HO.out (by omega) hbase ?_)
  intro v1 w1 h1 h2 _
  have hb1 : Below base w w1 := h2.out base w (Below.refl _ _) (Nat.le_refl _)
  rcases h1.out.2 with ⟨_, h0⟩ | ⟨g, cap, cur, rfl, hbg, hg, hcap, hmax, hcs, htk⟩
  · omega
  obtain ⟨C, rfl⟩ : ∃ C : List Value, cur = C.toArray := ⟨cur.toList, by simp⟩
  rw [Nat.mul_one] at htk
  have htk' : C.take (n + 1) = strs l ++ [.string ⟨#[]⟩] := by
    have e : strs (l ++ [(⟨#[]⟩ : ByteArray).data.toList]) = strs l ++ [.string ⟨#[]⟩] := by simp [strs, strV]
    rw [e] at htk
    simpa using htk
  have hlen : n + 1 ≤ C.length := by
    have := congrArg List.length htk'
    rw [List.length_take, List.length_append, strs_len, HL.out] at this
    simp at this
    omega
  have hs1 : ∀ W : World, (Instr.slice 23 (.slice (some ⟨g, 0, none⟩) (n + 1) cap) (some (.int .i64 ((k : Int) + 1))) none none).run Try.prog W = .ok (sliced (some ⟨g, 0, none⟩) (k + 1) (n + 1) cap 1) W := fun W => by
    have := sliceS_from (some ⟨g, 0, none⟩) (n + 1) cap (k + 1) (by omega) W
    rw [Int.natCast_add] at this
    exact this
  have hs2 : ∀ W : World, (Instr.slice 23 (.slice (some ⟨g, 0, none⟩) (n + 1) cap) (some (.int .i64 (k : Int))) none none).run Try.prog W = .ok (sliced (some ⟨g, 0, none⟩) k (n + 1) cap 1) W := fun W => sliceS_from _ _ _ _ (by omega) W
  have hck : ¬ cap = k := by omega
  have e2 : sliced (some ⟨g, 0, none⟩) k (n + 1) cap 1 = .slice (some ⟨g, k, none⟩) (n + 1 - k) (cap - k) := by
    unfold sliced
    rw [if_neg hck, Option.map_some, add_plain, Nat.mul_one, Nat.zero_add]
  obtain ⟨dp, hdp, hd0⟩ : ∃ dp, sliced (some ⟨g, 0, none⟩) (k + 1) (n + 1) cap 1 = .slice dp (n + 1 - (k + 1)) (cap - (k + 1)) ∧ (k < n → dp = some ⟨g, k + 1, none⟩) := by
    unfold sliced
    refine ⟨_, rfl, fun h => ?_⟩
    rw [if_neg (by omega), Option.map_some, add_plain, Nat.mul_one, Nat.zero_add]
  rw [hdp] at hs1
  rw [e2] at hs2
  have hcell : ∀ (j : Nat) (u : Value), (strs (l.drop k))[j]? = some u → w1.cell? ((⟨g, k, none⟩ : Addr).add j) = some u := by
    intro j u hu
    rw [add_plain]
    refine cell_of hg ?_
    rw [List.getElem?_toArray]
    rw [strs_drop, List.getElem?_drop] at hu
    have hj : k + j < n + 1 := by
      have := (List.getElem?_eq_some_iff.1 hu).1
      rw [strs_len, HL.out] at this
      omega
    have : (C.take (n + 1))[k + j]? = some u := by
      rw [htk', List.getElem?_append_left (by rw [strs_len, HL.out]; have := (List.getElem?_eq_some_iff.1 hu).1; rw [strs_len, HL.out] at this; omega)]
      exact hu
    rw [List.getElem?_take, if_pos hj] at this
    exact this
  have hcl : (strs (l.drop k)).length = n - k := by rw [strs_len, List.length_drop, HL.out]
  have HS1 := Lib.hid hs1
  have HS2 := Lib.hid hs2
  have HG := Lib.hid hg
  have HTK := Lib.hid htk'
  have HC := Lib.hid hcell
  have HCL := Lib.hid hcl
  have HD := Lib.hid hd0
  have HB1 := Lib.hid hb1
  have HLEN := Lib.hid hlen
  have HBG := Lib.hid hbg
  have HCP := Lib.hid (And.intro hcap (And.intro hmax hcs))
  clear htk htk' hg hcell hcl hd0 hb1 hdp e2 hlen h1 h2 hbg hcap hmax hcs hck
  go_wp2_with fail
  have hs1 := HS1.out
  have hs2 := HS2.out
  have hwr : IntKind.i64.wrap ((k : Int) + 1) = (k : Int) + 1 := by rw [IntKind.wrap_i64]; omega
  go_still_tail 7, (by kernel_rfl)
  clear hs1 hs2 hwr
  change wpList _ _ _ _ _ w1.drew
  refine (wpList_copy_splice rfl (.tmp 13) (.tmp 16) 23 23 rfl 9 Try.underlying23 (by kernel_rfl) dp (some ⟨g, k, none⟩) (n - k) (cap - (k + 1)) (n + 1 - k) (cap - k) rfl rfl g (k + 1) C 9 HG.out (strs (l.drop k)) (by rw [HCL.out]; exact (Nat.min_eq_right (by omega)).symm) (fun h => ⟨HD.out (by rw [HCL.out] at h; omega), _, rfl, HC.out⟩) (by rw [HCL.out]; have := HLEN.out; omega) (strs_one _) base w (below_drewN HB1.out 1) HBG.out ?_)
  intro w2 hg2 hb2
  have hcell : w2.cell? ⟨g, k, none⟩ = some (((splice C (k + 1) (strs (l.drop k)))[k]?).getD undef) := by
    have hsl : (splice C (k + 1) (strs (l.drop k))).length = C.length := length_splice _ _ _ (by rw [HCL.out]; have := HLEN.out; omega)
    have hkl : k < (splice C (k + 1) (strs (l.drop k))).length := by rw [hsl]; have := HLEN.out; omega
    refine cell_of hg2.out ?_
    rw [List.getElem?_toArray, List.getElem?_eq_getElem hkl]
    rfl
  have hfz : w2.frozen? ⟨g, k, none⟩ = false := frozen_of hg2.out
  obtain ⟨cv, hcv⟩ : ∃ cv, ((splice C (k + 1) (strs (l.drop k)))[k]?).getD undef = cv := ⟨_, rfl⟩
  rw [hcv] at hcell
  have HG2 := Lib.hid hg2.out
  have HB2 := Lib.hid hb2
  have hki : (k : Int) < ((n + 1 : Nat) : Int) := by omega
  clear hg2 hb2 hcv
  go_wp2_with fail
  go_ret
  have hset := set_of (i := k) HG2.out (.string f)
  rw [set_toArray] at hset
  refine ⟨⟨_, rfl, ?_⟩, HB2.out.setCell HBG.out _⟩
  have hT := splice_ins C (strs l) (.string ⟨#[]⟩) (.string f) n k (by rw [strs_len, HL.out]) hk HTK.out
  rw [← strs_drop] at hT
  have hX : strs (l.take k ++ f.data.toList :: l.drop k) = (strs l).take k ++ .string f :: strs (l.drop k) := by
    rw [strs_app, strs_cons, strs_take]
  have hsl : (splice C (k + 1) (strs (l.drop k))).length = C.length := length_splice _ _ _ (by rw [HCL.out]; have := HLEN.out; omega)
  have hcs := HCP.out.2.2
  refine ⟨?_, .inr ⟨g, cap, _, rfl, HBG.out, hset, HCP.out.1, HCP.out.2.1, ?_, ?_⟩⟩
  · rw [strs_len, List.length_append, List.length_cons, List.length_take, List.length_drop, HL.out]
    omega
  · rw [List.size_toArray, List.length_set, hsl]
    rw [List.size_toArray] at hcs
    exact hcs
  · rw [Nat.mul_one, List.toList_toArray, hT, hX]
end Go.Proofs.Ythagjdhfngdigaa
