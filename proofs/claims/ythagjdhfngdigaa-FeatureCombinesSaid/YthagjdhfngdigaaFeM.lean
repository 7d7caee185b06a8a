/-
  WALKS over package feature: slices.BinarySearch at strings, join, text.
-/
import Derived.Test.YthagjdhfngdigaaFbM
import Derived.Test.YthagjdhfngdigaaFdM
import Derived.Test.YthagjdhfngdigaaBdM
namespace Go.Proofs.Ythagjdhfngdigaa
open Go.RowKit Go.Shelf Go.Lib

theorem search_any {w : World} {v : Value} {l : Fs} (hv : RS w v l) (ha : asc l) (hl : l.length ≤ 1000) (f : ByteArray) :
    Calls Try.prog 47 #[v, .string f] w fun e w' => e = .returned (.tuple #[.int .i64 (cntF f.data.toList l : Nat), .bool (decide (l[cntF f.data.toList l]? = some f.data.toList))]) ∧ Below w.heap.size w w' := by
  obtain ⟨A, cap, rfl, hc, hr⟩ := hv.form
  by_cases h0 : l.length = 0
  · have hnil : l = [] := List.length_eq_zero_iff.1 h0
    subst hnil
    exact (Any2.slices_BinarySearch_string_empty Try.laysSearch A cap f w).mono fun e w' h => by
      obtain ⟨rfl, rfl⟩ := h
      exact ⟨rfl, Below.refl _ _⟩
  · obtain ⟨b, off, rfl, hb, hj⟩ := hr (by omega)
    refine (Any2.slices_BinarySearch_string Try.laysSearch b off l.length cap (fun t => ⟨(l.getD t f.data.toList).toArray⟩) f w (by omega) (fun j hjl => by
      rw [hj j l[j] (List.getElem?_eq_getElem hjl), List.getD_eq_getElem?_getD, List.getElem?_eq_getElem hjl]
      rfl)).mono ?_
    have hk : Lib.bsGo (fun t => Op.bytesLess (⟨(l.getD t f.data.toList).toArray⟩ : ByteArray).toList f.toList) l.length 0 l.length = cntF f.data.toList l := by
      refine Lib.bsGo_spec _ _ (fun t ht => ?_) (fun t ht => ?_) _ _ _ (by omega) (Nat.zero_le _) (cntF_le _ _)
      · have hle := cntF_le f.data.toList l
        have htl : t < l.length := by omega
        rw [Lib.toList_data, Lib.toList_data, less_lt, List.getD_eq_getElem?_getD, List.getElem?_eq_getElem htl]
        exact decide_eq_true (cntF_below ht (List.getElem?_eq_getElem htl))
      · rw [Lib.toList_data, Lib.toList_data, less_lt, List.getD_eq_getElem?_getD]
        by_cases htl : t < l.length
        · rw [List.getElem?_eq_getElem htl]
          exact decide_eq_false (cntF_from ha ht (List.getElem?_eq_getElem htl))
        · rw [List.getElem?_eq_none (by omega)]
          exact decide_eq_false (List.lt_irrefl _)
    rw [hk]
    rintro e w' ⟨rfl, q, rfl⟩
    refine ⟨?_, below_drewN (Below.refl _ _) q⟩
    have hd : decide (cntF f.data.toList l < l.length ∧ (⟨(l.getD (cntF f.data.toList l) f.data.toList).toArray⟩ : ByteArray) = f) = decide (l[cntF f.data.toList l]? = some f.data.toList) := by
      rw [Bool.eq_iff_iff, decide_eq_true_iff, decide_eq_true_iff, List.getD_eq_getElem?_getD]
      constructor
      · rintro ⟨h1, h2⟩
        rw [List.getElem?_eq_getElem h1] at h2 ⊢
        have := congrArg (fun x : ByteArray => x.data.toList) h2
        simp only [Option.getD_some] at this
        exact congrArg some this
      · intro h
        refine ⟨(List.getElem?_eq_some_iff.1 h).1, ?_⟩
        rw [h]
        rfl
    rw [hd]

set_option maxRecDepth 100000 in
set_option maxHeartbeats 2000000 in
theorem join_any {w : World} {v : Value} {l : Fs} (hv : RS w v l) (hl : (textL l).length ≤ 1000) :
    Calls Try.prog 49 #[v] w fun e w' => e = .returned (.string ⟨(textL l).toArray⟩) ∧ Below w.heap.size w w' := by
  obtain ⟨A, cap, rfl, hc, -⟩ := hv.form
  obtain ⟨n, hn⟩ : ∃ n, l.length = n := ⟨_, rfl⟩
  have hle := len_textB l
  rw [textL, List.length_cons] at hl
  have HV := Lib.hid (fun W (h : Below w.heap.size w W) => hv.below h)
  have HL := Lib.hid hl
  have hnb : n ≤ 1000 := by omega
  rw [hn] at hc ⊢
  have HN := Lib.hid hn
  have hb0 := Lib.hid (And.intro (bd_new w) ((Below.refl _ w).alloc (Nat.le_refl _) (Obj.cells #[Value.pointer none, Value.slice none 0 0] 77)))
  clear hn hl hle hv
  go_enter Try.func49, Try.ntmps49
  go_wp2_with fail
  refine (write_bd hb0.out.1 [124] (by simp)).mono ?_
  rintro e w1 ⟨rfl, bd1, hb1, -⟩
  have HBD := Lib.hid bd1
  have HB1 : Hid (Below w.heap.size w w1) := Lib.hid (hb0.out.2.trans hb1)
  clear bd1 hb1
  go_wp2_with fail
  go_loopw [9] (fun i wr => ∃ k : Nat, k ≤ n ∧ i = .int .i64 k ∧ Bd w.heap.size (textL (l.take k)) wr ∧ Below w.heap.size w wr) (fun i _ => n - (Go.RowKit.intOf i).toNat)
  case atStart => exact ⟨0, Nat.zero_le _, rfl, HBD.out, HB1.out⟩
  case round =>
    obtain ⟨k, hk, rfl, bd, hb⟩ := hrel
    by_cases hlt : k < n
    · obtain ⟨f, hf⟩ : ∃ f, l[k]? = some f := ⟨_, List.getElem?_eq_getElem (by rw [HN.out]; omega)⟩
      obtain ⟨A', cap', he, -, hr⟩ := (HV.out wr hb).form
      cases he
      obtain ⟨bk, off, rfl, -, hj⟩ := hr (by rw [HN.out]; omega)
      have c0 := hj k f hf
      have hnx : textL (l.take (k + 1)) = textL (l.take k) ++ (f ++ [124]) := by
        rw [List.take_add_one, hf, textL, textL, textB_app]
        simp [textB]
      have hsz : (textL (l.take (k + 1))).length ≤ 1001 := by
        have h1 := textB_app (l.take (k + 1)) (l.drop (k + 1))
        rw [List.take_append_drop] at h1
        have h2 := congrArg List.length h1
        rw [List.length_append] at h2
        rw [textL, List.length_cons]
        have := HL.out
        omega
      obtain ⟨T, hT⟩ : ∃ T, textL (l.take k) = T := ⟨_, rfl⟩
      rw [hT] at hnx bd
      rw [hnx, List.length_append] at hsz
      have hfl : f.length ≤ 1000 := by rw [List.length_append] at hsz; simp at hsz; omega
      obtain ⟨F, hF⟩ : ∃ s : ByteArray, (⟨f.toArray⟩ : ByteArray) = s := ⟨_, rfl⟩
      have hFs : F.size ≤ 1000 := by rw [Lib.size_eq, ← hF]; simpa using hfl
      have happ : F ++ ⟨#[124]⟩ = ⟨(f ++ [124]).toArray⟩ := by
        rw [← hF]
        apply ByteArray.ext
        simp
      rw [hF] at c0
      have hw := write_bd bd (f ++ [124]) (by omega)
      rw [← happ] at hw
      have HW := Lib.hid hw
      have HB := Lib.hid hb
      have HNX := Lib.hid hnx
      have hov : ¬ (9223372036854775807 < F.size + 1) := by omega
      clear hj hb hf hT hF hw hnx hsz hfl happ hr bd
      go_wp2_with fail
      refine HW.out.mono ?_
      rintro e w2 ⟨rfl, bd2, hb2, -⟩
      have HBD2 := Lib.hid bd2
      have HB2 : Hid (Below w.heap.size w w2) := Lib.hid (HB.out.trans hb2)
      clear bd2 hb2
      go_wp2_with fail
      exact ⟨⟨k + 1, by omega, by go_num, by rw [HNX.out]; exact HBD2.out, HB2.out⟩, by simp only [Go.RowKit.intOf]; omega⟩
    · obtain rfl : k = n := by omega
      have hT : l.take k = l := List.take_of_length_le (by rw [HN.out]; exact Nat.le_refl _)
      rw [hT] at bd
      have HS := Lib.hid (string_any w.heap.size w.heap.size (textL l) wr bd hb.size)
      have HB := Lib.hid hb
      clear bd hb hT
      go_wp2_with fail
      refine HS.out.mono ?_
      rintro e w2 ⟨rfl, -, hb2, -⟩
      have HB2 : Hid (Below w.heap.size w w2) := Lib.hid (HB.out.trans hb2)
      clear hb2
      go_wp2_with fail
      go_ret
      exact ⟨rfl, HB2.out⟩
end Go.Proofs.Ythagjdhfngdigaa
