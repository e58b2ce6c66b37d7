/-
  No cell of these rows narrows 'for every input' (looked for: loops, veiled, ifaces, maps, wideKeys, modest, calm, conditions, laid).
  DERIVED. THE GIVEN ROWS OF THIS SEAT. 4 by the template 'for every input the law returns true; each argument reads behind the call as it read before'; 0 by the template 'total and deterministic' (their statements: YtgndfcjfajnemaaTotals.lean).
  GIVEN WITH THE SEED: the statements are not yours to turn. If you find one false, say at which input.
  Laid BY PROGRAM, IN A SANDBOX (cutbox-rows.mjs): the forced cells as the released guide's own fill.sh prints them over the translation 87d63b85898b35ea… (all of the seat's roots in one cut). By AI agents, Wed Nov 11 2026. No macro, syntax, notation, axiom, sorry.
-/
import Derived.Test.YtgndfcjfajnemaaChecked
import GoSem.Claim
import GoSem.ClaimJoined
import GoSem.ClaimMapViews
import Derived.JoinedTies
import Derived.KernelRfl
namespace Go.Proofs.Ytgndfcjfajnemaa
/- THE CELL 'sum', in the pinned program and in every row, IS THE sha256 OF THE DUMP (.gsa) THAT YtgndfcjfajnemaaProg.lean LOADS. Nothing in Lean hashes anything: it is a label: what it is worth is what the hold of that sum in a sandbox is worth. -/
noncomputable def Try.pinned : Pinned := { name := "ytgndfcjfajnemaa", sum := "87d63b85898b35ea7926161e4eb48f2029cd3bdc7fff47891c9d1dc8d456f712", checked := Try.checked }
namespace Rows
def none {H : Type} : Left H := { results := [], args := [] }

/-- 'strainerlaw27.PathsTell': WHATEVER THE INPUT: true; the input reads as it did. -/
def pathsTellSpec : ChangeSpec := { name := "pathsTell", fn := fun _ => fun
  | [d] => { results := [.lit (.bool true)], args := [d] }
  | _ => none }
def pathsTellRow : OpenClaim := { program := "ytgndfcjfajnemaa", sum := "87d63b85898b35ea7926161e4eb48f2029cd3bdc7fff47891c9d1dc8d456f712", func := "strainer/strainerlaw27.PathsTell", spec := "pathsTell", unfollowed := true, recurses := true, apart := false }
def PathsTellSaid : Prop := pathsTellRow.holds Try.pinned (OpenSpec.ofChange pathsTellSpec)

/-- ITS FALSE NEIGHBOUR: 'it returns false'. Refute it at one input. -/
def pathsTellWrong : ChangeSpec := { name := "pathsTell", fn := fun _ => fun
  | [d] => { results := [.lit (.bool false)], args := [d] }
  | _ => none }
def PathsTellWrongFalsely : Prop := pathsTellRow.holds Try.pinned (OpenSpec.ofChange pathsTellWrong)

/-- 'strainerlaw27.PathsTaken': WHATEVER THE INPUT: true; the input reads as it did. -/
def pathsTakenSpec : ChangeSpec := { name := "pathsTaken", fn := fun _ => fun
  | [d1, d2] => { results := [.lit (.bool true)], args := [d1, d2] }
  | _ => none }
def pathsTakenRow : OpenClaim := { program := "ytgndfcjfajnemaa", sum := "87d63b85898b35ea7926161e4eb48f2029cd3bdc7fff47891c9d1dc8d456f712", func := "strainer/strainerlaw27.PathsTaken", spec := "pathsTaken", unfollowed := true, recurses := true, apart := false }
def PathsTakenSaid : Prop := pathsTakenRow.holds Try.pinned (OpenSpec.ofChange pathsTakenSpec)

/-- ITS FALSE NEIGHBOUR: 'it returns false'. Refute it at one input. -/
def pathsTakenWrong : ChangeSpec := { name := "pathsTaken", fn := fun _ => fun
  | [d1, d2] => { results := [.lit (.bool false)], args := [d1, d2] }
  | _ => none }
def PathsTakenWrongFalsely : Prop := pathsTakenRow.holds Try.pinned (OpenSpec.ofChange pathsTakenWrong)

/-- 'strainerlaw27.PathsOne': WHATEVER THE INPUT: true; the input reads as it did. -/
def pathsOneSpec : ChangeSpec := { name := "pathsOne", fn := fun _ => fun
  | [d1, d2] => { results := [.lit (.bool true)], args := [d1, d2] }
  | _ => none }
def pathsOneRow : OpenClaim := { program := "ytgndfcjfajnemaa", sum := "87d63b85898b35ea7926161e4eb48f2029cd3bdc7fff47891c9d1dc8d456f712", func := "strainer/strainerlaw27.PathsOne", spec := "pathsOne", unfollowed := true, recurses := true, apart := false }
def PathsOneSaid : Prop := pathsOneRow.holds Try.pinned (OpenSpec.ofChange pathsOneSpec)

/-- ITS FALSE NEIGHBOUR: 'it returns false'. Refute it at one input. -/
def pathsOneWrong : ChangeSpec := { name := "pathsOne", fn := fun _ => fun
  | [d1, d2] => { results := [.lit (.bool false)], args := [d1, d2] }
  | _ => none }
def PathsOneWrongFalsely : Prop := pathsOneRow.holds Try.pinned (OpenSpec.ofChange pathsOneWrong)

/-- 'strainerlaw27.PathsMany': WHATEVER THE INPUT: true; the input reads as it did. -/
def pathsManySpec : ChangeSpec := { name := "pathsMany", fn := fun _ => fun
  | [d] => { results := [.lit (.bool true)], args := [d] }
  | _ => none }
def pathsManyRow : OpenClaim := { program := "ytgndfcjfajnemaa", sum := "87d63b85898b35ea7926161e4eb48f2029cd3bdc7fff47891c9d1dc8d456f712", func := "strainer/strainerlaw27.PathsMany", spec := "pathsMany", unfollowed := true, recurses := true, apart := false }
def PathsManySaid : Prop := pathsManyRow.holds Try.pinned (OpenSpec.ofChange pathsManySpec)

/-- ITS FALSE NEIGHBOUR: 'it returns false'. Refute it at one input. -/
def pathsManyWrong : ChangeSpec := { name := "pathsMany", fn := fun _ => fun
  | [d] => { results := [.lit (.bool false)], args := [d] }
  | _ => none }
def PathsManyWrongFalsely : Prop := pathsManyRow.holds Try.pinned (OpenSpec.ofChange pathsManyWrong)

/- THE SECOND FORM. 'bulk': how many values and letters a reading holds, each counted each time it is reached (what is shared counts as often as it is met; a slice's spare places count too). A statement '..UptoSaid' is the law's where the arguments, and the package variables that the reading takes, are together of bulk at most 1048576: NARROWER than '..Said'. Prove '..Said' where nothing that the law and all that it calls make is longer than what came in: it says more and counts as full. Else prove '..UptoSaid'. A law counts once. -/
mutual
def uptoBulk {H : Type} : DataW H → Nat
  | .lit (.string bytes) => bytes.length + 1
  | .lit _ => 1
  | .nil => 1
  | .ptr d => uptoBulk d + 1
  | .slice elems spare => uptoBulkAll elems + uptoBulkAll spare + 1
  | .agg parts => uptoBulkAll parts + 1
  | .iface _ d => uptoBulk d + 1
  | .map entries => uptoBulkEntries entries + 1
  | .held _ => 1
def uptoBulkAll {H : Type} : List (DataW H) → Nat
  | [] => 0
  | d :: r => uptoBulk d + uptoBulkAll r
def uptoBulkEntries {H : Type} : List (Lit × DataW H) → Nat
  | [] => 0
  | x :: r => uptoBulkEntry x + uptoBulkEntries r
def uptoBulkEntry {H : Type} : Lit × DataW H → Nat
  | (.string bytes, d) => bytes.length + uptoBulk d + 1
  | (_, d) => uptoBulk d + 1
 end
def uptoSmall : (H : Type) → List (DataW H) → Bool := fun _ ds => decide (uptoBulkAll ds ≤ 1048576)
def OpenSpec.upto (s : _root_.Go.ChangeSpec) : _root_.Go.OpenSpec := { _root_.Go.OpenSpec.ofChange s with cond := some uptoSmall }

/-- 'strainerlaw27.PathsTell', WHERE WHAT IT READS IS OF BULK AT MOST 1048576: true; the input reads as it did. -/
def pathsTellUptoRow : OpenClaim := { program := "ytgndfcjfajnemaa", sum := "87d63b85898b35ea7926161e4eb48f2029cd3bdc7fff47891c9d1dc8d456f712", func := "strainer/strainerlaw27.PathsTell", spec := "pathsTell", unfollowed := true, recurses := true, apart := false, narrowed := true }
def PathsTellUptoSaid : Prop := pathsTellUptoRow.holds Try.pinned (OpenSpec.upto pathsTellSpec)

/-- 'strainerlaw27.PathsTaken', WHERE WHAT IT READS IS OF BULK AT MOST 1048576: true; the input reads as it did. -/
def pathsTakenUptoRow : OpenClaim := { program := "ytgndfcjfajnemaa", sum := "87d63b85898b35ea7926161e4eb48f2029cd3bdc7fff47891c9d1dc8d456f712", func := "strainer/strainerlaw27.PathsTaken", spec := "pathsTaken", unfollowed := true, recurses := true, apart := false, narrowed := true }
def PathsTakenUptoSaid : Prop := pathsTakenUptoRow.holds Try.pinned (OpenSpec.upto pathsTakenSpec)

/-- 'strainerlaw27.PathsOne', WHERE WHAT IT READS IS OF BULK AT MOST 1048576: true; the input reads as it did. -/
def pathsOneUptoRow : OpenClaim := { program := "ytgndfcjfajnemaa", sum := "87d63b85898b35ea7926161e4eb48f2029cd3bdc7fff47891c9d1dc8d456f712", func := "strainer/strainerlaw27.PathsOne", spec := "pathsOne", unfollowed := true, recurses := true, apart := false, narrowed := true }
def PathsOneUptoSaid : Prop := pathsOneUptoRow.holds Try.pinned (OpenSpec.upto pathsOneSpec)

/-- 'strainerlaw27.PathsMany', WHERE WHAT IT READS IS OF BULK AT MOST 1048576: true; the input reads as it did. -/
def pathsManyUptoRow : OpenClaim := { program := "ytgndfcjfajnemaa", sum := "87d63b85898b35ea7926161e4eb48f2029cd3bdc7fff47891c9d1dc8d456f712", func := "strainer/strainerlaw27.PathsMany", spec := "pathsMany", unfollowed := true, recurses := true, apart := false, narrowed := true }
def PathsManyUptoSaid : Prop := pathsManyUptoRow.holds Try.pinned (OpenSpec.upto pathsManySpec)

end Rows
end Go.Proofs.Ytgndfcjfajnemaa
