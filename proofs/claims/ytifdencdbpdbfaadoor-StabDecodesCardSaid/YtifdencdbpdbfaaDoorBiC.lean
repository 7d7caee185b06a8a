/-
  WALKS over package bitio, third part: byte strings that are seen; Clone, Bytes, Gamma, Delta; the law's 'same' and 'awake' need them.
-/
import Derived.Test.YtifdencdbpdbfaaDoorBiB
import Derived.Laws.BytesArg
import Derived.Laws.AppendOwnNone
import Derived.Lib.SliceRun
namespace Go.Proofs.YtifdencdbpdbfaaDoor
open Go.RowKit Go.Shelf Go.Lib


end Go.Proofs.YtifdencdbpdbfaaDoor
