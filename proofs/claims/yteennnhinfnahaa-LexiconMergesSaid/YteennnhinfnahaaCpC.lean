/-
  WALKS over package codepoint, third part: Count: the number of a string's units; nothing that lay has turned. At any string.
-/
import Derived.Test.YteennnhinfnahaaCpB
namespace Go.Proofs.Yteennnhinfnahaa
open Go.RowKit Go.Shelf Go.Lib

attribute [local go_sem] Oper.semAt_some

theorem units_le (s : ByteArray) : (units s).length ≤ s.size := by
  rw [Lib.size_eq]; exact unitsA_len _ _

end Go.Proofs.Yteennnhinfnahaa
