/-
  WALKS over package bitio, fifth part: the laws' 'awake': the document's examples.
-/
import Derived.Test.YtbfnkmibbieijaaBiD
namespace Go.Proofs.Ytbfnkmibbieijaa
open Go.RowKit Go.Shelf Go.Lib

theorem WAt.kept {w w' : World} {B g : Nat} {v : Value} {l : List Bool} (h : WAt w B g v l) (hb : Below w.heap.size w w') : WAt w' B g v l :=
  ⟨h.1, (hb.block g h.lt).trans h.2.1, own_below h.2.2 fun k e => hb.block k (own_low h.2.2 k e).2⟩
theorem enc_300 : enc 300 = [172, 2] := by
  rw [enc_ge (by omega), enc_lt (by omega)]
  rfl
theorem awake_len : ([] ++ gam 5 ++ del 5).length = 10 := by decide +kernel
theorem awake_pack : pack ([] ++ gam 5 ++ del 5) = [43, 64] := by decide +kernel

end Go.Proofs.Ytbfnkmibbieijaa
