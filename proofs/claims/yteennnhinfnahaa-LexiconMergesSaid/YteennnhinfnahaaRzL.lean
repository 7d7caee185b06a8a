/-
  WALKS over the two small functions that every statement of layer 1 calls: long (is one of some strings longer than 400 bytes) and awake (the document's examples: true).
-/
import Derived.Test.YteennnhinfnahaaCpF
namespace Go.Proofs.Yteennnhinfnahaa.Ru
open Go.RowKit Go.Shelf Go.Lib

theorem aw_reverse (w : World) : Calls Try.prog 83 #[.string ⟨#[97, 195, 169]⟩] w fun e w' => e = .returned (.string ⟨#[195, 169, 97]⟩) ∧ Below w.heap.size w w' := by
  have h : revL ⟨#[97, 195, 169]⟩ = [195, 169, 97] := by decide +kernel
  have k := reverse_any ⟨#[97, 195, 169]⟩ (by decide +kernel) w
  rw [h] at k
  exact k
/-- Is one longer than 400 bytes? -/
def longB (ss : List ByteArray) : Bool := ss.any fun s => decide (400 < s.size)

theorem longB_no (ss : List ByteArray) (k : Nat) (hk : k = ss.length) (h : ∀ j (hj : j < ss.length), j < k → ss[j].size ≤ 400) : longB ss = false := by
  unfold longB
  rw [List.any_eq_false]
  intro s hs
  obtain ⟨j, hj, rfl⟩ := List.getElem_of_mem hs
  have := h j hj (by omega)
  simp
  omega
theorem longB_yes (ss : List ByteArray) (k : Nat) (hk : k < ss.length) (h : 400 < ss[k].size) : longB ss = true := by
  unfold longB
  rw [List.any_eq_true]
  exact ⟨ss[k], List.getElem_mem hk, by simpa using h⟩

theorem longB_iff (ss : List ByteArray) : longB ss = false ↔ ∀ s ∈ ss, s.size ≤ 400 := by
  unfold longB
  rw [List.any_eq_false]
  constructor
  · intro h s hs
    have := h s hs
    simp at this
    exact this
  · intro h s hs
    have := h s hs
    simp
    exact this
end Go.Proofs.Yteennnhinfnahaa.Ru
