/-
  WALKS over package corporaref02: Write, where it appends.
-/
import Derived.Test.YtbfnkmibbieijaaBiL
import Derived.RegionTactic
import Derived.Deep.RegionLaw
import Derived.Deep.RegionHeld3
import Derived.Deep.DrawnRows
namespace Go.Proofs.Ytbfnkmibbieijaa
open Go.RowKit Go.Shelf Go.Lib

attribute [local go_sem ↓] Go.wp_at_zero Go.wp_at_succ

theorem ownsRow_mono {w : World} {base base' : Nat} {e : TypeId} {size : Nat} {v : Value} {n : Nat} {xs : List Value} (h : w.ownsRow base e size v n xs) (hb : base' ≤ base) : w.ownsRow base' e size v n xs := by
  refine ⟨h.1, ?_⟩
  rcases h.2 with h | ⟨g, cap, cur, hv, h0, h1⟩
  · exact .inl h
  · exact .inr ⟨g, cap, cur, hv, Nat.le_trans hb h0, h1⟩
theorem wpost_of {w w4 : World} {G A B : List Bool} {b n : Nat} {v4 : Value} (hG : G = A ++ B) (hown : w4.ownsRow b 4 1 v4 n (boolCells A ++ boolCells B)) (hb : w.heap.size ≤ b) (hn : n = G.length) (hbel : Below w.heap.size w w4) :
    WPost w (some G) (.returned (.tuple #[v4, .bool true])) w4 :=
  ⟨v4, rfl, ownsRow_mono (by
    show w4.ownsRow b _ 1 v4 G.length (boolCells G)
    rw [← hn, hG, boolCells_app]
    exact hown) hb, hbel⟩
theorem own_made (w : World) (n : Nat) (hn : n ≤ 1000000) : (w.alloc (.cells (boolCells (List.replicate n false)).toArray 4)).ownsRow w.heap.size 4 1 (.slice (some ⟨w.heap.size, 0, none⟩) n n) n (boolCells (List.replicate n false)) :=
  ⟨by rw [boolCells_length, List.length_replicate, Nat.mul_one], .inr ⟨w.heap.size, n, _, rfl, Nat.le_refl _, block_new w _, Nat.le_refl _, by unfold maxLen; omega, by rw [List.size_toArray, boolCells_length, List.length_replicate, Nat.mul_one], by
    show (boolCells (List.replicate n false)).take (n * 1) = _
    rw [List.take_of_length_le (by rw [boolCells_length, List.length_replicate]; omega)]⟩⟩

end Go.Proofs.Ytbfnkmibbieijaa
