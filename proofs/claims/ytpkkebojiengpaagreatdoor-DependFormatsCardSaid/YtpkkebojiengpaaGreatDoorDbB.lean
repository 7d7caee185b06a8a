/-
  WALKS over the library: strings.Lines and its iterator; strings.TrimLeft at the digits.
-/
import Derived.Test.YtpkkebojiengpaaGreatDoorDbA
import Derived.Test.YtpkkebojiengpaaGreatDoorShf
import Derived.Lib.PathFns
import Derived.StillTailTactics
namespace Go.Proofs.YtpkkebojiengpaaGreatDoor
open Go Go.RowKit Go.Shelf Go.Lib
set_option linter.unusedVariables false
attribute [local go_sem] Oper.semAt_some

/-- The lines of a text, each with its line feed. -/
def linF : Nat → Bs → List Bs
  | 0, _ => []
  | f + 1, s => if s = [] then [] else if indexByte s 10 < 0 then [s] else s.take ((indexByte s 10).toNat + 1) :: linF f (s.drop ((indexByte s 10).toNat + 1))
def linesL (s : Bs) : List Bs := linF s.length s
theorem indexByte_lt {s : Bs} {i : Nat} (h : indexByte s 10 = (i : Int)) : i < s.length := by
  obtain ⟨h1, _⟩ := indexByte_some h
  exact (List.getElem?_eq_some_iff.1 h1).1
theorem linF_nil (f : Nat) : linF f [] = [] := by
  cases f with
  | zero => rfl
  | succ f => unfold linF; rw [if_pos rfl]
theorem linF_last {f : Nat} {s : Bs} (hs : s ≠ []) (hi : indexByte s 10 = -1) : linF (f + 1) s = [s] := by
  unfold linF
  rw [if_neg hs, if_pos (by omega)]
theorem linF_next {f : Nat} {s : Bs} {i : Nat} (hs : s ≠ []) (hi : indexByte s 10 = (i : Int)) : linF (f + 1) s = s.take (i + 1) :: linF f (s.drop (i + 1)) := by
  conv => lhs; unfold linF
  rw [if_neg hs, if_neg (by omega), hi, Int.toNat_natCast]
theorem linF_fuel : ∀ (f g : Nat) (s : Bs), s.length ≤ f → s.length ≤ g → linF f s = linF g s
  | 0, g, s, h1, h2 => by
    have : s = [] := List.length_eq_zero_iff.1 (by omega)
    subst this
    rw [linF_nil, linF_nil]
  | f + 1, 0, s, h1, h2 => by
    have : s = [] := List.length_eq_zero_iff.1 (by omega)
    subst this
    rw [linF_nil, linF_nil]
  | f + 1, g + 1, s, h1, h2 => by
    by_cases hs : s = []
    · subst hs; rw [linF_nil, linF_nil]
    · by_cases hi : indexByte s 10 = -1
      · rw [linF_last hs hi, linF_last hs hi]
      · have hge := indexByte_ge s 10
        obtain ⟨i, e⟩ : ∃ i : Nat, indexByte s 10 = (i : Int) := ⟨(indexByte s 10).toNat, by omega⟩
        have hl := indexByte_lt e
        rw [linF_next hs e, linF_next hs e, linF_fuel f g (s.drop (i + 1)) (by rw [List.length_drop]; omega) (by rw [List.length_drop]; omega)]
/-- The length of the string at a place, if one lies there. -/
def strAt (W : World) (B : Nat) : Nat := match W.cell? ⟨B, 0, none⟩ with
  | some (Value.string s) => ByteArray.size s
  | _ => 0
def lineV (x : Bs) : Array Value := #[.string ⟨x.toArray⟩]

set_option maxRecDepth 100000 in
set_option maxHeartbeats 2000000 in
theorem lines_in (n : Nat) (hn : 1 ≤ n) (l Bn : Nat) (s : Bs) (hs : s.length ≤ 4000000) (J Jx : List Bs → World → Prop) (hJ : StaysV Bn J)
    (hY : ∀ pre (x : Bs) W, J pre W → pre.length < (linesL s).length → pre ++ [x] <+: linesL s → YieldAt Fence.wide (n - 1) Tryz.prog l (lineV x) W fun e W' =>
      (e = .returned (.bool true) ∧ J (pre ++ [x]) W' ∧ KeepV Bn W W') ∨ (e = .returned (.bool false) ∧ Jx (pre ++ [x]) W'))
    (W : World) (hBn : W.heap[Bn]? = some (.cells #[.string ⟨s.toArray⟩] 9 (0, 0))) (h0 : J [] W) :
    CallsIn Fence.wide n Tryz.prog 55 #[.func (.yield l) #[] #[], .pointer (some ⟨Bn, 0, none⟩)] W fun e W' => (∃ v, e = .returned v) ∧
      ((∃ ys : List Bs, ys = linesL s ∧ J ys W') ∨ (∃ pre : List Bs, pre <+: linesL s ∧ Jx pre W')) := by
  refine callsIn_of_wp Tryz.func55 rfl trivial ?_ rfl
  simp only [Tryz.ntmps55, List.size_toArray, List.length_cons, List.length_nil, Nat.reduceAdd, Nat.reduceSub, Array.replicate_succ, Array.replicate_zero, List.push_toArray, List.append_toArray, List.nil_append, List.cons_append]
  have HJ := Lib.hid hJ
  have HY := Lib.hid hY
  clear hJ hY
  gi_wp2
  gi_loopw [] (fun wr => ∃ (pre : List Bs) (R : ByteArray), Hid (pre ++ linF R.size R.data.toList = linesL s) ∧ R.size ≤ s.length ∧ wr.heap[Bn]? = some (.cells #[.string R] 9 (0, 0)) ∧ Hid (J pre wr))
    (fun wr => strAt wr Bn)
  case atStart =>
    refine ⟨[], ⟨s.toArray⟩, Lib.hid ?_, by rw [Lib.size_mk]; exact Nat.le_refl _, hBn, Lib.hid h0⟩
    rw [List.nil_append, Lib.size_mk]
    rfl
  case round =>
    obtain ⟨pre, R, HP, hR, hB, HJS⟩ := hrel
    have cB := cell_of (i := 0) (v := .string R) hB rfl
    have fB := frozen_of (i := 0) hB
    have hme : strAt wr Bn = R.size := by unfold strAt; rw [cB]
    have HME := Lib.hid hme
    have HBB := Lib.hid hB
    clear hme hB hBn h0
    by_cases h0 : R.size = 0
    · have hz : ¬ ((0 : Int) < (R.size : Int)) := by omega
      have hfin : pre = linesL s := by
        have := HP.out
        have hnil : R.data.toList = [] := List.length_eq_zero_iff.1 (by rw [← Lib.size_eq]; exact h0)
        rw [hnil, linF_nil, List.append_nil] at this
        exact this
      have HF := Lib.hid hfin
      clear h0 hfin HP
      gi_wp2
      go_end0
      exact ⟨⟨_, rfl⟩, .inl (HF.out ▸ HJS.out)⟩
    · have hz : (0 : Int) < (R.size : Int) := by omega
      have hne : R.data.toList ≠ [] := fun e => by
        have := congrArg List.length e
        rw [← Lib.size_eq] at this
        exact h0 this
      obtain ⟨f, hf⟩ : ∃ f, R.size = f + 1 := ⟨R.size - 1, by omega⟩
      have hix := fun W => Tryz.strings_IndexByte R 10 W
      rw [show ((10 : Int).toNat.toUInt8) = (10 : UInt8) from rfl] at hix
      obtain ⟨z, hzz⟩ : ∃ z, indexByte R.data.toList 10 = z := ⟨_, rfl⟩
      rw [hzz] at hix
      have HIX := Lib.hid hix
      have hge := indexByte_ge R.data.toList 10
      rw [hzz] at hge
      clear hix h0
      by_cases hz0 : z = -1
      · subst hz0
        have hl := linF_last (f := f) hne hzz
        have hP := HP.out
        rw [hf, hl] at hP
        have hlen : pre.length < (linesL s).length := by rw [← hP]; simp
        have hY2 := HY.out pre R.data.toList (wr.setCell ⟨Bn, 0, none⟩ (.string ⟨#[]⟩)) (HJ.out pre wr _ (some Bn) HJS.out ⟨rfl, rfl, rfl, by simp [World.setCell], fun k _ hk => Below.heap_setCell _ _ _ k (fun e => hk (by rw [e]))⟩ (fun r e => by cases e; rfl)) hlen (by rw [hP]; exact List.prefix_refl _)
        obtain ⟨fn, tmps, assign, body, hy, hR2⟩ := hY2
        unfold lineV at hy
        have hRR : (⟨R.data.toList.toArray⟩ : ByteArray) = R := by cases R; simp
        rw [hRR] at hy
        have HPP := Lib.hid hP
        have hb2 : (wr.setCell ⟨Bn, 0, none⟩ (.string ⟨#[]⟩)).heap[Bn]? = some (.cells #[.string ⟨#[]⟩] 9 (0, 0)) := set_of HBB.out _
        have HB2 := Lib.hid hb2
        have hR3 := hR2.mono (R' := fun e W' => ∃ b, e = .returned (.bool b) ∧ Hid ((b = true → J (pre ++ [R.data.toList]) W' ∧ KeepV Bn (wr.setCell ⟨Bn, 0, none⟩ (.string ⟨#[]⟩)) W') ∧ (b = false → Jx (pre ++ [R.data.toList]) W'))) (fun e W' h => by
          rcases h with ⟨h1, h2, h3⟩ | ⟨h1, h2⟩
          · exact ⟨true, h1, Lib.hid ⟨fun _ => ⟨h2, h3⟩, fun h => by cases h⟩⟩
          · exact ⟨false, h1, Lib.hid ⟨(fun h => by cases h), fun _ => h2⟩⟩)
        clear hge hne hzz hl hP hlen hR2 hRR hb2 hf
        gi_wp2_with (refine ⟨trivial, ?_⟩; gi_at_call 56; refine (callsIn_wide.2 (HIX.out _)).mono ?_; rintro e w' ⟨rfl, rfl⟩)
        refine hR3.mono ?_
        rintro e w' ⟨b, rfl, h3⟩
        cases b with
        | false =>
          gi_wp2
          refine bodyPost_ret (results_none rfl _ _ _) rfl ?_
          refine ⟨⟨_, rfl⟩, .inr ⟨_, ?_, (by first | exact h3.out.2 rfl | exact h3.out.2 trivial | exact h3.out.2)⟩⟩
          rw [HPP.out]
          exact List.prefix_refl _
        | true =>
          obtain ⟨hJ3, hk3⟩ : _ ∧ _ := by first | exact h3.out.1 rfl | exact h3.out.1 trivial | exact h3.out.1
          have hb3 := hk3.1.trans HB2.out
          have hfin : strAt w' Bn = 0 := by unfold strAt; rw [cell_of (i := 0) (v := .string ⟨#[]⟩) hb3 rfl]; rfl
          have HB3 := Lib.hid hb3
          have HJ3 := Lib.hid hJ3
          have HFN := Lib.hid hfin
          clear hb3 hJ3 hk3 hfin h3 cB fB hy hR3
          gi_wp2
          refine ⟨⟨_, ⟨#[]⟩, Lib.hid ?_, Nat.zero_le _, HB3.out, HJ3⟩, ?_⟩
          · rw [show linF (ByteArray.size ⟨#[]⟩) (⟨#[]⟩ : ByteArray).data.toList = [] from rfl, List.append_nil]
            exact HPP.out
          · rw [HFN.out, HME.out]
            omega
      · obtain ⟨i, rfl⟩ : ∃ i : Nat, z = (i : Int) := ⟨z.toNat, by omega⟩
        have hil := indexByte_lt hzz
        rw [← Lib.size_eq] at hil
        have hl := linF_next (f := f) hne hzz
        have hP := HP.out
        rw [hf, hl] at hP
        have hlen : pre.length < (linesL s).length := by rw [← hP]; simp
        have e1 : R.extract 0 (i + 1) = ⟨(R.data.toList.take (i + 1)).toArray⟩ := extract_upto R (i + 1)
        have e2 : R.extract (i + 1) R.size = ⟨(R.data.toList.drop (i + 1)).toArray⟩ := extract_from R (i + 1)
        obtain ⟨R2, hR2'⟩ : ∃ R2, R.extract (i + 1) R.size = R2 := ⟨_, rfl⟩
        obtain ⟨L, hL⟩ : ∃ L, R.extract 0 (i + 1) = L := ⟨_, rfl⟩
        have hd2 : R2.data.toList = R.data.toList.drop (i + 1) := by rw [← hR2', e2]
        have hs2 : R2.size = R.size - (i + 1) := by rw [Lib.size_eq, hd2, List.length_drop, ← Lib.size_eq]
        have hY2 := HY.out pre (R.data.toList.take (i + 1)) ((wr.setCell ⟨Bn, 0, none⟩ (.string R2)).drew) (HJ.out pre wr _ (some Bn) HJS.out ⟨rfl, rfl, rfl, by show _ ≤ (wr.setCell _ _).heap.size; simp [World.setCell], fun k _ hk => Below.heap_setCell _ _ _ k (fun e => hk (by rw [e]))⟩ (fun r e => by cases e; rfl)) hlen (by rw [← hP]; exact ⟨_, by rw [List.append_assoc]; rfl⟩)
        obtain ⟨fn, tmps, assign, body, hy, hRR2⟩ := hY2
        unfold lineV at hy
        rw [← e1, hL] at hy
        have hfl : linF R2.size R2.data.toList = linF f (R.data.toList.drop (i + 1)) := by
          rw [hd2]
          exact linF_fuel _ _ _ (by rw [← hd2, ← Lib.size_eq]; omega) (by rw [← hd2, ← Lib.size_eq]; omega)
        have HPP := Lib.hid hP
        have hb2 : ((wr.setCell ⟨Bn, 0, none⟩ (.string R2)).drew).heap[Bn]? = some (.cells #[.string R2] 9 (0, 0)) := set_of (W := wr) HBB.out _
        have HB2 := Lib.hid hb2
        have HFL := Lib.hid hfl
        have HS2 := Lib.hid hs2
        have hR3 := hRR2.mono (R' := fun e W' => ∃ b, e = .returned (.bool b) ∧ Hid ((b = true → J (pre ++ [R.data.toList.take (i + 1)]) W' ∧ KeepV Bn ((wr.setCell ⟨Bn, 0, none⟩ (.string R2)).drew) W') ∧ (b = false → Jx (pre ++ [R.data.toList.take (i + 1)]) W'))) (fun e W' h => by
          rcases h with ⟨h1, h2, h3⟩ | ⟨h1, h2⟩
          · exact ⟨true, h1, Lib.hid ⟨fun _ => ⟨h2, h3⟩, fun h => by cases h⟩⟩
          · exact ⟨false, h1, Lib.hid ⟨(fun h => by cases h), fun _ => h2⟩⟩)
        have hwi : IntKind.i64.wrap ((i : Int) + 1) = (i : Int) + 1 := by rw [IntKind.wrap_i64]; omega
        have hi0 : (0 : Int) ≤ (i : Int) := by omega
        have hi1 : (0 : Int) ≤ (i : Int) + 1 := by omega
        have hi2 : (i : Int) + 1 ≤ (R.size : Int) := by omega
        have hi3 : ((i : Int) + 1).toNat = i + 1 := by omega
        clear hge hne hzz hl hP hlen hRR2 e1 e2 hd2 hs2 hfl hb2 hf hil
        gi_wp2_with (refine ⟨trivial, ?_⟩; gi_at_call 56; refine (callsIn_wide.2 (HIX.out _)).mono ?_; rintro e w' ⟨rfl, rfl⟩)
        refine wpIn_wide.2 ?_
        go_still_tail 9, (by kernel_rfl)
        change wpList _ _ _ _ _ w'.drew
        go_wp2_with fail
        gi_wp2
        refine hR3.mono ?_
        rintro e w2 ⟨b, rfl, h3⟩
        cases b with
        | false =>
          gi_wp2
          refine bodyPost_ret (results_none rfl _ _ _) rfl ?_
          refine ⟨⟨_, rfl⟩, .inr ⟨_, ?_, (by first | exact h3.out.2 rfl | exact h3.out.2 trivial | exact h3.out.2)⟩⟩
          rw [← HPP.out]
          exact ⟨_, by rw [List.append_assoc]; rfl⟩
        | true =>
          obtain ⟨hJ3, hk3⟩ : _ ∧ _ := by first | exact h3.out.1 rfl | exact h3.out.1 trivial | exact h3.out.1
          have hb3 := hk3.1.trans HB2.out
          have hfin : strAt w2 Bn = R2.size := by unfold strAt; rw [cell_of (i := 0) (v := .string R2) hb3 rfl]
          have HB3 := Lib.hid hb3
          have HJ3 := Lib.hid hJ3
          have HFN := Lib.hid hfin
          clear hb3 hJ3 hk3 hfin h3 cB fB hy hR3
          gi_wp2
          refine ⟨⟨_, R2, Lib.hid ?_, by have := HS2.out; omega, HB3.out, HJ3⟩, ?_⟩
          · rw [HFL.out, ← HPP.out, List.append_assoc]
            rfl
          · rw [HFN.out, HME.out, HS2.out]
            omega
end Go.Proofs.YtpkkebojiengpaaGreatDoor
