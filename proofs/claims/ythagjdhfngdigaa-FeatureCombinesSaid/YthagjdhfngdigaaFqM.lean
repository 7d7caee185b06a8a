/-
  WALKS over package feature: the document's examples (awake).
-/
import Derived.Test.YthagjdhfngdigaaFiM
namespace Go.Proofs.Ythagjdhfngdigaa
open Go.RowKit Go.Shelf Go.Lib

theorem awake_format : formatL [[98], [97], [98]] = ([124, 97, 124, 98, 124], 0) := by
  have h1 : elE [98] = 0 := by
    unfold elE
    rw [show valE [98] = 0 by decide]
    decide
  have h2 : elE [97] = 0 := by
    unfold elE
    rw [show valE [97] = 0 by decide]
    decide
  have h3 : errS [[98], [97], [98]] = 0 := by
    simp only [errS, h1, h2, if_true]
  have h4 : setS [[98], [97], [98]] = [[97], [98]] := by decide
  unfold formatL textT
  rw [h3, h4]
  decide
theorem awake_empty : parseL [124] = ([], 0) := by
  have := parseL_text (l := []) ⟨.nil, fun f hf => by simp at hf, fun f hf => by simp at hf⟩ (by decide)
  exact this
theorem good_single (c : UInt8) (hc : c ≠ 124) (hv : valE [c] = 0) : goodS [[c]] := by
  refine ⟨List.pairwise_singleton _ _, fun f hf => ?_, fun f hf => ?_⟩
  · rw [List.mem_singleton] at hf
    subst hf
    exact ⟨by simp, by simp [Ne.symm hc]⟩
  · rw [List.mem_singleton] at hf
    subst hf
    exact hv
theorem awake_union : unionL [124, 97, 124] [124, 98, 124] = ([124, 97, 124, 98, 124], 0) := by
  have h1 : parseL [124, 97, 124] = ([[97]], 0) := parseL_text (l := [[97]]) (good_single 97 (by decide) (by decide)) (by decide)
  have h2 : parseL [124, 98, 124] = ([[98]], 0) := parseL_text (l := [[98]]) (good_single 98 (by decide) (by decide)) (by decide)
  have h4 : setS [[97], [98]] = [[97], [98]] := by decide
  unfold unionL err2
  rw [h1, h2]
  simp only [if_true, List.singleton_append]
  unfold textT
  rw [h4]
  decide

theorem rs_three (w : World) (a b c : ByteArray) : RS (w.alloc (.cells #[.string a, .string b, .string c] 9)) (.slice (some ⟨w.heap.size, 0, none⟩) 3 3) [a.data.toList, b.data.toList, c.data.toList] := by
  refine RS.of rfl (Nat.le_refl _) (fun _ => ⟨_, _, rfl, by simp, fun j f hf => ?_⟩) (fun h => by cases h)
  refine cell_of (block_new w _) ?_
  match j with
  | 0 => simp at hf; subst hf; simp only [Lib.mk_data]; rfl
  | 1 => simp at hf; subst hf; simp only [Lib.mk_data]; rfl
  | 2 => simp at hf; subst hf; simp only [Lib.mk_data]; rfl
  | j + 3 => simp at hf

set_option maxRecDepth 100000 in
set_option maxHeartbeats 2000000 in
theorem awake_any (w : World) : Calls Try.prog 15 #[] w fun e w' => e = .returned (.bool true) ∧ Below w.heap.size w w' := by
  have h1 := format_any (rs_three w ⟨#[98]⟩ ⟨#[97]⟩ ⟨#[98]⟩) (by decide) (by decide)
  rw [show formatL [(⟨#[98]⟩ : ByteArray).data.toList, (⟨#[97]⟩ : ByteArray).data.toList, (⟨#[98]⟩ : ByteArray).data.toList] = ([124, 97, 124, 98, 124], 0) from awake_format] at h1
  have h2 := fun W => parse_any ⟨#[124]⟩ (by decide) W
  rw [show parseL (⟨#[124]⟩ : ByteArray).data.toList = ([], 0) from awake_empty] at h2
  have h3 := fun W => union_any ⟨#[124, 97, 124]⟩ ⟨#[124, 98, 124]⟩ (by decide) (by decide) W
  rw [show unionL (⟨#[124, 97, 124]⟩ : ByteArray).data.toList (⟨#[124, 98, 124]⟩ : ByteArray).data.toList = ([124, 97, 124, 98, 124], 0) from awake_union] at h3
  have H1 := Lib.hid h1
  have H2 := Lib.hid h2
  have H3 := Lib.hid h3
  clear h1 h2 h3
  go_enter Try.func15, Try.ntmps15
  go_wp2_with fail
  refine H1.out.mono ?_
  rintro e w1 ⟨rfl, hb1⟩
  have HB1 := Lib.hid (below_new _ hb1)
  clear hb1
  go_wp2_with fail
  refine (H2.out _).mono ?_
  rintro e w2 ⟨⟨v, rfl, hown⟩, hb2⟩
  have HB2 := Lib.hid (HB1.out.trans (hb2.mono HB1.out.size))
  obtain ⟨A, cap, rfl, hc⟩ := own_form hown
  clear hb2 hown hc
  go_wp2_with fail
  refine (H3.out _).mono ?_
  rintro e w3 ⟨rfl, hb3⟩
  have HB3 := Lib.hid (HB2.out.trans (hb3.mono HB2.out.size))
  clear hb3
  go_wp2_with fail
  go_ret
  exact ⟨rfl, HB3.out⟩
end Go.Proofs.Ythagjdhfngdigaa
