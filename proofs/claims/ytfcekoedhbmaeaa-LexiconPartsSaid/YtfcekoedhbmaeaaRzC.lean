/-
  WALKS over package corporaref01, third part: Position and Reverse, over every string of at most 400 bytes.
-/
import Derived.Test.YtfcekoedhbmaeaaRzB
import Derived.Test.YtfcekoedhbmaeaaCpF
namespace Go.Proofs.Ytfcekoedhbmaeaa.Ru
open Go.RowKit Go.Shelf Go.Lib

attribute [local go_sem] Oper.semAt_some

theorem cell_alloc_p {W : World} {a : Addr} {v : Value} (o : Obj) (h : W.cell? a = some v) : (W.alloc o).cell? a = some v := cell_kept h (World.grownBy_alloc W o none) (fun r e => by cases e)
theorem takeWhile_congr {α : Type} (f g : α → Bool) : ∀ (l : List α), (∀ x ∈ l, f x = g x) → l.takeWhile f = l.takeWhile g
  | [], _ => rfl
  | a :: l, h => by
    rw [List.takeWhile_cons, List.takeWhile_cons, h a (by simp), takeWhile_congr f g l (fun x hx => h x (by simp [hx]))]

end Go.Proofs.Ytfcekoedhbmaeaa.Ru
