/-
  What is done with an instruction of any kind: the map of the doings, and each of them by its contract.
-/
import Derived.Test.YtiofgaadfbjnoaaVf
import Derived.Test.YtiofgaadfbjnoaaVx
import Derived.Test.YtiofgaadfbjnoaaVy
import Derived.Test.YtiofgaadfbjnoaaVp
import Derived.Test.YtiofgaadfbjnoaaMem
namespace Go.Proofs.Ytiofgaadfbjnoaa
open Go.RowKit

end Go.Proofs.Ytiofgaadfbjnoaa
