/-
  The contracts of the doings of a run that divide, branch, or load a word.
-/
import Derived.Test.YtiofgaadfbjnoaaVc
import Derived.Test.YtiofgaadfbjnoaaWb
namespace Go.Proofs.Ytiofgaadfbjnoaa
open Go.RowKit

end Go.Proofs.Ytiofgaadfbjnoaa

/-
  The contracts of the doings of a run that divide, branch, or load a word.
-/
namespace Go.Proofs.Ytiofgaadfbjnoaa
open Go.RowKit

end Go.Proofs.Ytiofgaadfbjnoaa

/-
  The contracts of the doings of a run that divide, branch, or load a word.
-/
namespace Go.Proofs.Ytiofgaadfbjnoaa
open Go.RowKit

end Go.Proofs.Ytiofgaadfbjnoaa

/-
  The contracts of the doings of a run that divide, branch, or load a word.
-/
namespace Go.Proofs.Ytiofgaadfbjnoaa
open Go.RowKit

end Go.Proofs.Ytiofgaadfbjnoaa
