/-
  ARGUMENTS, opened: a string, a list of strings.
-/
import Derived.Test.YthagjdhfngdigaaMeO
import Derived.Test.YthagjdhfngdigaaFmA
import Derived.SliceStrings
import Derived.ChangeMaps5
import Derived.ProofKit
namespace Go.Proofs.Ythagjdhfngdigaa
open Go.RowKit Go.Shelf Go.Lib Go.ChangeShapes Go.WideShapes Go.ChangeAt

section
variable {H : Type} {enc : TypeId × Value → H}
theorem open_str {W : World} {r : Reach} {b0 : Nat} {v : Value} {d : DataW H} {p : List MemPlace} (hv : Value.okWide Try.prog W r b0 9 v) (h : DataW.Trod enc Try.prog W 0 (fun _ => true) true 9 v d p) :
    ∃ s : ByteArray, v = .string s ∧ s.size ≤ maxLen := by
  obtain ⟨s, rfl, _, _, hs⟩ := ChangeMaps.open_string Try.underlying9 hv h
  exact ⟨s, rfl, hs⟩
theorem open_strs {W : World} {r : Reach} {b0 : Nat} {v : Value} {d : DataW H} {p : List MemPlace} (hv : Value.okWide Try.prog W r b0 23 v) (h : DataW.Trod enc Try.prog W 0 (fun _ => true) true 23 v d p) :
    ∃ l : Fs, RS W v l ∧ l.length ≤ maxLen ∧ ∀ f ∈ l, f.length ≤ maxLen := by
  obtain ⟨a, len, cap, rfl⟩ := okWide_slice Try.underlying23 hv
  obtain ⟨fuel, hf⟩ := h
  rcases open_strings Try.underlying23 Try.underlying9 (by kernel_rfl) hf with ⟨hn, _⟩ | ⟨ad, len', cap', ss, hcs, _, hl, hm, hzl, _, hcell, hwf⟩
  · simp only [Value.cells, List.cons.injEq, and_true] at hn
    rw [hn]
    exact ⟨[], RS.nil W, Nat.zero_le _, fun f hf => by simp at hf⟩
  · simp only [Value.cells, List.cons.injEq, and_true] at hcs
    simp only [if_true] at hzl
    rw [hcs]
    have hlen : ((ss.take len').map fun s : ByteArray => s.data.toList).length = len' := by
      rw [List.length_map, List.length_take]
      omega
    refine ⟨(ss.take len').map fun s : ByteArray => s.data.toList, .inr ⟨ad, cap', by rw [strs_len, hlen], by rw [strs_len, hlen]; exact hl, fun h => ?_, fun j u hu => ?_⟩, by rw [hlen]; omega, fun f hf => ?_⟩
    · rw [strs_len, hlen] at h
      have h0 := hcell 0 (by omega)
      have h1 : ad.add 0 = ad := by simp [Addr.add]
      rw [h1] at h0
      exact lt_of_cell h0
    · obtain ⟨f, hf, rfl⟩ := strs_back hu
      have hj : j < len' := by
        have := (List.getElem?_eq_some_iff.1 hf).1
        rw [hlen] at this
        exact this
      rw [hcell j (by omega)]
      rw [List.getElem?_map, List.getElem?_take, if_pos hj, List.getElem?_eq_getElem (by omega)] at hf
      simp only [Option.map_some, Option.some.injEq] at hf
      rw [← hf, Lib.mk_data, List.getD_eq_getElem?_getD, List.getElem?_eq_getElem (by omega)]
      rfl
    · obtain ⟨s, hs, rfl⟩ := List.mem_map.1 hf
      have := hwf s (List.mem_of_mem_take hs)
      rw [← Lib.size_eq]
      exact this
end
end Go.Proofs.Ythagjdhfngdigaa
