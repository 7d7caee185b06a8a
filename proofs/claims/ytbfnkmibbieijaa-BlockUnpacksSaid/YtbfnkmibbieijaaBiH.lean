/-
  RUNS over slices that are seen: append of one to a row of the call's own; the beginning of one.
-/
import Derived.Test.YtbfnkmibbieijaaBiD
namespace Go.Proofs.Ytbfnkmibbieijaa
open Go.RowKit Go.Shelf Go.Lib




end Go.Proofs.Ytbfnkmibbieijaa
