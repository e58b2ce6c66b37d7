/-
  No cell of these rows narrows 'for every input' (looked for: loops, veiled, ifaces, maps, wideKeys, modest, calm, conditions, laid).
  DERIVED. THE GIVEN ROWS OF THIS SEAT. 5 by the template 'for every input the law returns true; each argument reads behind the call as it read before'; 0 by the template 'total and deterministic' (their statements: YtiofgaadfbjnoaaTotals.lean).
  GIVEN WITH THE SEED: the statements are not yours to turn. If you find one false, say at which input.
  Laid BY PROGRAM, IN A SANDBOX (cutbox-rows.mjs): the forced cells as the released guide's own fill.sh prints them over the translation 31de495c8bde2890… (all of the seat's roots in one cut). By AI agents, Wed Nov 11 2026. No macro, syntax, notation, axiom, sorry.
-/
import Derived.Test.YtiofgaadfbjnoaaChecked
import GoSem.Claim
import GoSem.ClaimJoined
import GoSem.ClaimMapViews
import Derived.JoinedTies
import Derived.KernelRfl
namespace Go.Proofs.Ytiofgaadfbjnoaa
/- THE CELL 'sum', in the pinned program and in every row, IS THE sha256 OF THE DUMP (.gsa) THAT YtiofgaadfbjnoaaProg.lean LOADS. Nothing in Lean hashes anything: it is a label: what it is worth is what the hold of that sum in a sandbox is worth. -/
noncomputable def Try.pinned : Pinned := { name := "ytiofgaadfbjnoaa", sum := "31de495c8bde28907dc4b90dfc3e4ced8867a5604958c393a9af76e347a4fd45", checked := Try.checked }
namespace Rows
def none {H : Type} : Left H := { results := [], args := [] }

/-- 'strainerlaw21.AsmFar': WHATEVER THE INPUT: true; the input reads as it did. -/
def asmFarSpec : ChangeSpec := { name := "asmFar", fn := fun _ => fun
  | [d] => { results := [.lit (.bool true)], args := [d] }
  | _ => none }
def asmFarRow : OpenClaim := { program := "ytiofgaadfbjnoaa", sum := "31de495c8bde28907dc4b90dfc3e4ced8867a5604958c393a9af76e347a4fd45", func := "strainer/strainerlaw21.AsmFar", spec := "asmFar", unfollowed := true, recurses := true, apart := false }
def AsmFarSaid : Prop := asmFarRow.holds Try.pinned (OpenSpec.ofChange asmFarSpec)

/-- ITS FALSE NEIGHBOUR: 'it returns false'. Refute it at one input. -/
def asmFarWrong : ChangeSpec := { name := "asmFar", fn := fun _ => fun
  | [d] => { results := [.lit (.bool false)], args := [d] }
  | _ => none }
def AsmFarWrongFalsely : Prop := asmFarRow.holds Try.pinned (OpenSpec.ofChange asmFarWrong)

/-- 'strainerlaw21.AsmChains': WHATEVER THE INPUT: true; the input reads as it did. -/
def asmChainsSpec : ChangeSpec := { name := "asmChains", fn := fun _ => fun
  | [d1, d2] => { results := [.lit (.bool true)], args := [d1, d2] }
  | _ => none }
def asmChainsRow : OpenClaim := { program := "ytiofgaadfbjnoaa", sum := "31de495c8bde28907dc4b90dfc3e4ced8867a5604958c393a9af76e347a4fd45", func := "strainer/strainerlaw21.AsmChains", spec := "asmChains", unfollowed := true, recurses := true, apart := false }
def AsmChainsSaid : Prop := asmChainsRow.holds Try.pinned (OpenSpec.ofChange asmChainsSpec)

/-- ITS FALSE NEIGHBOUR: 'it returns false'. Refute it at one input. -/
def asmChainsWrong : ChangeSpec := { name := "asmChains", fn := fun _ => fun
  | [d1, d2] => { results := [.lit (.bool false)], args := [d1, d2] }
  | _ => none }
def AsmChainsWrongFalsely : Prop := asmChainsRow.holds Try.pinned (OpenSpec.ofChange asmChainsWrong)

/-- 'strainerlaw21.AsmPrunes': WHATEVER THE INPUT: true; the input reads as it did. -/
def asmPrunesSpec : ChangeSpec := { name := "asmPrunes", fn := fun _ => fun
  | [d1, d2] => { results := [.lit (.bool true)], args := [d1, d2] }
  | _ => none }
def asmPrunesRow : OpenClaim := { program := "ytiofgaadfbjnoaa", sum := "31de495c8bde28907dc4b90dfc3e4ced8867a5604958c393a9af76e347a4fd45", func := "strainer/strainerlaw21.AsmPrunes", spec := "asmPrunes", unfollowed := true, recurses := true, apart := false }
def AsmPrunesSaid : Prop := asmPrunesRow.holds Try.pinned (OpenSpec.ofChange asmPrunesSpec)

/-- ITS FALSE NEIGHBOUR: 'it returns false'. Refute it at one input. -/
def asmPrunesWrong : ChangeSpec := { name := "asmPrunes", fn := fun _ => fun
  | [d1, d2] => { results := [.lit (.bool false)], args := [d1, d2] }
  | _ => none }
def AsmPrunesWrongFalsely : Prop := asmPrunesRow.holds Try.pinned (OpenSpec.ofChange asmPrunesWrong)

/-- 'strainerlaw21.AsmLong': WHATEVER THE INPUT: true; the input reads as it did. -/
def asmLongSpec : ChangeSpec := { name := "asmLong", fn := fun _ => fun
  | [d] => { results := [.lit (.bool true)], args := [d] }
  | _ => none }
def asmLongRow : OpenClaim := { program := "ytiofgaadfbjnoaa", sum := "31de495c8bde28907dc4b90dfc3e4ced8867a5604958c393a9af76e347a4fd45", func := "strainer/strainerlaw21.AsmLong", spec := "asmLong", unfollowed := true, recurses := true, apart := false }
def AsmLongSaid : Prop := asmLongRow.holds Try.pinned (OpenSpec.ofChange asmLongSpec)

/-- ITS FALSE NEIGHBOUR: 'it returns false'. Refute it at one input. -/
def asmLongWrong : ChangeSpec := { name := "asmLong", fn := fun _ => fun
  | [d] => { results := [.lit (.bool false)], args := [d] }
  | _ => none }
def AsmLongWrongFalsely : Prop := asmLongRow.holds Try.pinned (OpenSpec.ofChange asmLongWrong)

/-- 'strainerlaw21.AsmCounts': WHATEVER THE INPUT: true; the input reads as it did. -/
def asmCountsSpec : ChangeSpec := { name := "asmCounts", fn := fun _ => fun
  | [d] => { results := [.lit (.bool true)], args := [d] }
  | _ => none }
def asmCountsRow : OpenClaim := { program := "ytiofgaadfbjnoaa", sum := "31de495c8bde28907dc4b90dfc3e4ced8867a5604958c393a9af76e347a4fd45", func := "strainer/strainerlaw21.AsmCounts", spec := "asmCounts", unfollowed := true, recurses := true, apart := false }
def AsmCountsSaid : Prop := asmCountsRow.holds Try.pinned (OpenSpec.ofChange asmCountsSpec)

/-- ITS FALSE NEIGHBOUR: 'it returns false'. Refute it at one input. -/
def asmCountsWrong : ChangeSpec := { name := "asmCounts", fn := fun _ => fun
  | [d] => { results := [.lit (.bool false)], args := [d] }
  | _ => none }
def AsmCountsWrongFalsely : Prop := asmCountsRow.holds Try.pinned (OpenSpec.ofChange asmCountsWrong)

/- THE SECOND FORM. 'bulk': how many values and letters a reading holds, each counted each time it is reached (what is shared counts as often as it is met; a slice's spare places count too). A statement '..UptoSaid' is the law's where the arguments, and the package variables that the reading takes, are together of bulk at most 1048576: NARROWER than '..Said'. Prove '..Said' where nothing that the law and all that it calls make is longer than what came in: it says more and counts as full. Else prove '..UptoSaid'. A law counts once. -/
mutual
def uptoBulk {H : Type} : DataW H → Nat
  | .lit (.string bytes) => bytes.length + 1
  | .lit _ => 1
  | .nil => 1
  | .ptr d => uptoBulk d + 1
  | .slice elems spare => uptoBulkAll elems + uptoBulkAll spare + 1
  | .agg parts => uptoBulkAll parts + 1
  | .iface _ d => uptoBulk d + 1
  | .map entries => uptoBulkEntries entries + 1
  | .held _ => 1
def uptoBulkAll {H : Type} : List (DataW H) → Nat
  | [] => 0
  | d :: r => uptoBulk d + uptoBulkAll r
def uptoBulkEntries {H : Type} : List (Lit × DataW H) → Nat
  | [] => 0
  | x :: r => uptoBulkEntry x + uptoBulkEntries r
def uptoBulkEntry {H : Type} : Lit × DataW H → Nat
  | (.string bytes, d) => bytes.length + uptoBulk d + 1
  | (_, d) => uptoBulk d + 1
 end
def uptoSmall : (H : Type) → List (DataW H) → Bool := fun _ ds => decide (uptoBulkAll ds ≤ 1048576)
def OpenSpec.upto (s : _root_.Go.ChangeSpec) : _root_.Go.OpenSpec := { _root_.Go.OpenSpec.ofChange s with cond := some uptoSmall }

/-- 'strainerlaw21.AsmFar', WHERE WHAT IT READS IS OF BULK AT MOST 1048576: true; the input reads as it did. -/
def asmFarUptoRow : OpenClaim := { program := "ytiofgaadfbjnoaa", sum := "31de495c8bde28907dc4b90dfc3e4ced8867a5604958c393a9af76e347a4fd45", func := "strainer/strainerlaw21.AsmFar", spec := "asmFar", unfollowed := true, recurses := true, apart := false, narrowed := true }
def AsmFarUptoSaid : Prop := asmFarUptoRow.holds Try.pinned (OpenSpec.upto asmFarSpec)

/-- 'strainerlaw21.AsmChains', WHERE WHAT IT READS IS OF BULK AT MOST 1048576: true; the input reads as it did. -/
def asmChainsUptoRow : OpenClaim := { program := "ytiofgaadfbjnoaa", sum := "31de495c8bde28907dc4b90dfc3e4ced8867a5604958c393a9af76e347a4fd45", func := "strainer/strainerlaw21.AsmChains", spec := "asmChains", unfollowed := true, recurses := true, apart := false, narrowed := true }
def AsmChainsUptoSaid : Prop := asmChainsUptoRow.holds Try.pinned (OpenSpec.upto asmChainsSpec)

/-- 'strainerlaw21.AsmPrunes', WHERE WHAT IT READS IS OF BULK AT MOST 1048576: true; the input reads as it did. -/
def asmPrunesUptoRow : OpenClaim := { program := "ytiofgaadfbjnoaa", sum := "31de495c8bde28907dc4b90dfc3e4ced8867a5604958c393a9af76e347a4fd45", func := "strainer/strainerlaw21.AsmPrunes", spec := "asmPrunes", unfollowed := true, recurses := true, apart := false, narrowed := true }
def AsmPrunesUptoSaid : Prop := asmPrunesUptoRow.holds Try.pinned (OpenSpec.upto asmPrunesSpec)

/-- 'strainerlaw21.AsmLong', WHERE WHAT IT READS IS OF BULK AT MOST 1048576: true; the input reads as it did. -/
def asmLongUptoRow : OpenClaim := { program := "ytiofgaadfbjnoaa", sum := "31de495c8bde28907dc4b90dfc3e4ced8867a5604958c393a9af76e347a4fd45", func := "strainer/strainerlaw21.AsmLong", spec := "asmLong", unfollowed := true, recurses := true, apart := false, narrowed := true }
def AsmLongUptoSaid : Prop := asmLongUptoRow.holds Try.pinned (OpenSpec.upto asmLongSpec)

/-- 'strainerlaw21.AsmCounts', WHERE WHAT IT READS IS OF BULK AT MOST 1048576: true; the input reads as it did. -/
def asmCountsUptoRow : OpenClaim := { program := "ytiofgaadfbjnoaa", sum := "31de495c8bde28907dc4b90dfc3e4ced8867a5604958c393a9af76e347a4fd45", func := "strainer/strainerlaw21.AsmCounts", spec := "asmCounts", unfollowed := true, recurses := true, apart := false, narrowed := true }
def AsmCountsUptoSaid : Prop := asmCountsUptoRow.holds Try.pinned (OpenSpec.upto asmCountsSpec)

end Rows
end Go.Proofs.Ytiofgaadfbjnoaa
