/-
 WALKS over the reference of corpus: Extract in one form, and the sizes of what it answers.
-/
import Derived.Test.YtebmfkkkhmjkoaaGreatQyC
import Derived.Test.YtebmfkkkhmjkoaaGreatQyZ
import Derived.Test.YtebmfkkkhmjkoaaGreatQmV
namespace Go.Proofs.YtebmfkkkhmjkoaaGreat
open Go.RowKit Go.Shelf Go.Lib
set_option linter.unusedVariables false

def refExtractC (c : Cor) (i : Int) : Cor × Nat :=
 if validC c = false then (Cor.none, 1) else if i < 0 ∨ (c.texts.length : Int) ≤ i then (Cor.none, 8) else
  match c.texts[i.toNat]? with
  | none => (Cor.none, 8)
  | some t => (refDoc c t, 0)
theorem refExtract_any {w : World} (s : Sv) {c : Cor} (i : Int) (hC : CorAt w s c) (hF : Fits c) :
 Calls Tryz.prog 16 #[.agg s.arr, .int .i64 i] w (RxV w (refExtractC c i)) := by
 unfold refExtractC
 by_cases hv : validC c = false
 · rw [if_pos hv]
   exact refExtract_bad s i hC hF hv
 rw [if_neg hv]
 have hv' : validC c = true := by simpa using hv
 by_cases hi : i < 0 ∨ (c.texts.length : Int) ≤ i
 · rw [if_pos hi]
   exact refExtract_range s i hC hF hv' hi
 rw [if_neg hi]
 have hk : i = ((i.toNat : Nat) : Int) := by omega
 obtain ⟨t, ht⟩ : ∃ t, c.texts[i.toNat]? = some t := ⟨_, List.getElem?_eq_getElem (by omega)⟩
 rw [ht]
 have hvv := (valid_iff c).1 hv'
 have hf := text_facts hvv.text ht
 have hb0 := begin_pos hvv.text ht
 have := refExtract_doc s hC hF hvv hv' i.toNat ht t.b.toNat t.e.toNat (by omega) (by have := hf.2.2.2.1; omega) (by have := hf.2.2.2.1; omega) (by have := hf.2.2.2.2.1; omega) (by omega)
 rw [← hk] at this
 exact this
/-- The document of the code is the document of the reference. -/
theorem extractC_ref (c : Cor) (i : Int) : extractC c i = refExtractC c i := by
 unfold extractC refExtractC
 by_cases hv : validC c = false
 · rw [if_pos hv, if_pos hv]
 rw [if_neg hv, if_neg hv]
 by_cases hi : i < 0 ∨ (c.texts.length : Int) ≤ i
 · rw [if_pos hi, if_pos hi]
 rw [if_neg hi, if_neg hi]
 obtain ⟨t, ht⟩ : ∃ t, c.texts[i.toNat]? = some t := ⟨_, List.getElem?_eq_getElem (by omega)⟩
 rw [ht]
 simp only
 rw [docC_ref ((valid_iff c).1 (by simpa using hv)) ht]
theorem lenC_none : LenC Cor.none := ⟨Nat.zero_le _, ⟨Nat.zero_le _, fun t h => by cases h⟩, ⟨Nat.zero_le _, fun t h => by cases h⟩, ⟨Nat.zero_le _, fun t h => by cases h⟩, Nat.zero_le _, Nat.zero_le _⟩
theorem lenC_refDoc {c : Cor} (h : LenC c) (hh : c.heads.length ≤ maxLen) {t : Ex} (ht : t ∈ c.texts) : LenC (refDoc c t) ∧ (refDoc c t).heads.length ≤ maxLen := by
 have hx := h.x.2 t ht
 have hc := fun {α : Type} (a b : Nat) (l : List α) (hl : l.length ≤ maxLen) => Nat.le_trans (cutL_le a b l) hl
 refine ⟨⟨h.a, ⟨hc _ _ _ h.t.1, fun y hy => h.t.2 y (cutL_mem hy)⟩, ⟨by show 1 ≤ maxLen; unfold maxLen; omega, fun y hy => ?_⟩, ⟨?_, fun y hy => ?_⟩, ?_, ?_⟩, ?_⟩
 · have : y = ⟨t.name, 0, t.e - t.b, t.ps⟩ := by simpa [refDoc] using hy
   rw [this]
   exact hx
 · show ((c.regs.filter _).map _).length ≤ maxLen
   rw [List.length_map]
   exact Nat.le_trans (List.length_filter_le _ _) h.r.1
 · obtain ⟨z, hz, rfl⟩ := List.mem_map.1 (show y ∈ (c.regs.filter _).map _ from hy)
   exact h.r.2 z (List.mem_filter.1 hz).1
 · show ((c.nodes.filter _).map _).length ≤ maxLen
   rw [List.length_map]
   exact Nat.le_trans (List.length_filter_le _ _) h.n
 ·
  unfold refDoc
  simp only
  split
  · exact Nat.zero_le _
  exact hc _ _ _ h.l
 unfold refDoc
 simp only
 split
 · exact Nat.zero_le _
 rw [List.length_map]
 exact hc _ _ _ hh
theorem lenC_refExtract {c : Cor} (h : LenC c) (hh : c.heads.length ≤ maxLen) (i : Int) : LenC (refExtractC c i).1 ∧ (refExtractC c i).1.heads.length ≤ maxLen := by
 unfold refExtractC
 split
 · exact ⟨lenC_none, Nat.zero_le _⟩
 split
 · exact ⟨lenC_none, Nat.zero_le _⟩
 split
 · exact ⟨lenC_none, Nat.zero_le _⟩
 rename_i t ht
 exact lenC_refDoc h hh (List.mem_of_getElem? ht)
end Go.Proofs.YtebmfkkkhmjkoaaGreat
