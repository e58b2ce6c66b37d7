/-
  The contracts of the doings of a run that reckon with two numbers.
-/
import Derived.Test.YtiofgaadfbjnoaaVc
namespace Go.Proofs.Ytiofgaadfbjnoaa
open Go.RowKit

end Go.Proofs.Ytiofgaadfbjnoaa
