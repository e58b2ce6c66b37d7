/-
  What a tied card's listed table gives the walk: the powers of ten.
-/
import Derived.Test.YtccklmleaffgiaaGreatDoorQ15
import Derived.Test.YtccklmleaffgiaaGreatDoorRows
import Derived.Test.YtccklmleaffgiaaGreatDoorCards
import Derived.WalkKit
import Derived.ProofKit
import Derived.OpenShut
import Derived.Lay
import Derived.MakeChecks
import Derived.Lib.LaidTab
import Derived.Stop.LaidErr
namespace Go.Proofs.YtccklmleaffgiaaGreatDoor
open Go.RowKit
set_option linter.unusedVariables false
set_option maxRecDepth 100000
theorem pow_datum : (Rows.laid_internal_strconv_uint64pow10 : DataW Unit) = Lib.tabData .u64 Lib.pow10Tab := by kernel_rfl
theorem tab_of_third {x y : String × DataW Unit} {rest : List (String × DataW Unit)} {W : World} (h : laidMet Tryz.prog (x :: y :: ("internal/strconv.uint64pow10", Rows.laid_internal_strconv_uint64pow10) :: rest) W) : TabP W := by
  have h2 := h.tail.tail
  rw [pow_datum] at h2
  obtain ⟨g, hg⟩ := gPow
  have : g = 1 := (Option.some.inj ((show Tryz.prog.globalNamed "internal/strconv.uint64pow10" = some 1 by kernel_rfl).symm.trans hg)).symm
  subst this
  exact Lib.tabIs_of_head (t := 235) (e := 51) (n := 20) hg (by kernel_rfl) Tryz.underlying235 Tryz.underlying51 (by kernel_rfl) (by kernel_rfl) h2

end Go.Proofs.YtccklmleaffgiaaGreatDoor
