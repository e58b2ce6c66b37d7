/-
  No cell of these rows narrows 'for every input' (looked for: loops, veiled, ifaces, maps, wideKeys, modest, calm, conditions, laid).
  DERIVED. THE GIVEN ROWS OF THIS SEAT. 3 by the template 'for every input the law returns true; each argument reads behind the call as it read before'; 0 by the template 'total and deterministic' (their statements: YtmndolojfdekdaaTotals.lean).
  GIVEN WITH THE SEED: the statements are not yours to turn. If you find one false, say at which input.
  Laid BY PROGRAM, IN A SANDBOX (cutbox-rows.mjs): the forced cells as the released guide's own fill.sh prints them over the translation ccecfcee268ad913… (all of the seat's roots in one cut). By AI agents, Wed Nov 11 2026. No macro, syntax, notation, axiom, sorry.
-/
import Derived.Test.YtmndolojfdekdaaChecked
import GoSem.Claim
import GoSem.ClaimJoined
import GoSem.ClaimMapViews
import Derived.JoinedTies
import Derived.KernelRfl
namespace Go.Proofs.Ytmndolojfdekdaa
/- THE CELL 'sum', in the pinned program and in every row, IS THE sha256 OF THE DUMP (.gsa) THAT YtmndolojfdekdaaProg.lean LOADS. Nothing in Lean hashes anything: it is a label: what it is worth is what the hold of that sum in a sandbox is worth. -/
noncomputable def Try.pinned : Pinned := { name := "ytmndolojfdekdaa", sum := "ccecfcee268ad9132b7e4e25020f453ef7924ecd53b7a42445ab9ff07d34e520", checked := Try.checked }
namespace Rows
def none {H : Type} : Left H := { results := [], args := [] }

/-- 'strainerlaw07.FlowTells': WHATEVER THE INPUT: true; the input reads as it did. -/
def flowTellsSpec : ChangeSpec := { name := "flowTells", fn := fun _ => fun
  | [d] => { results := [.lit (.bool true)], args := [d] }
  | _ => none }
def flowTellsRow : OpenClaim := { program := "ytmndolojfdekdaa", sum := "ccecfcee268ad9132b7e4e25020f453ef7924ecd53b7a42445ab9ff07d34e520", func := "strainer/strainerlaw07.FlowTells", spec := "flowTells", unfollowed := true, recurses := true, apart := false }
def FlowTellsSaid : Prop := flowTellsRow.holds Try.pinned (OpenSpec.ofChange flowTellsSpec)

/-- ITS FALSE NEIGHBOUR: 'it returns false'. Refute it at one input. -/
def flowTellsWrong : ChangeSpec := { name := "flowTells", fn := fun _ => fun
  | [d] => { results := [.lit (.bool false)], args := [d] }
  | _ => none }
def FlowTellsWrongFalsely : Prop := flowTellsRow.holds Try.pinned (OpenSpec.ofChange flowTellsWrong)

/-- 'strainerlaw27.PathsTell': WHATEVER THE INPUT: true; the input reads as it did. -/
def pathsTellSpec : ChangeSpec := { name := "pathsTell", fn := fun _ => fun
  | [d] => { results := [.lit (.bool true)], args := [d] }
  | _ => none }
def pathsTellRow : OpenClaim := { program := "ytmndolojfdekdaa", sum := "ccecfcee268ad9132b7e4e25020f453ef7924ecd53b7a42445ab9ff07d34e520", func := "strainer/strainerlaw27.PathsTell", spec := "pathsTell", unfollowed := true, recurses := true, apart := false }
def PathsTellSaid : Prop := pathsTellRow.holds Try.pinned (OpenSpec.ofChange pathsTellSpec)

/-- ITS FALSE NEIGHBOUR: 'it returns false'. Refute it at one input. -/
def pathsTellWrong : ChangeSpec := { name := "pathsTell", fn := fun _ => fun
  | [d] => { results := [.lit (.bool false)], args := [d] }
  | _ => none }
def PathsTellWrongFalsely : Prop := pathsTellRow.holds Try.pinned (OpenSpec.ofChange pathsTellWrong)

/-- 'strainerlaw27.PathsOne': WHATEVER THE INPUT: true; the input reads as it did. -/
def pathsOneSpec : ChangeSpec := { name := "pathsOne", fn := fun _ => fun
  | [d1, d2] => { results := [.lit (.bool true)], args := [d1, d2] }
  | _ => none }
def pathsOneRow : OpenClaim := { program := "ytmndolojfdekdaa", sum := "ccecfcee268ad9132b7e4e25020f453ef7924ecd53b7a42445ab9ff07d34e520", func := "strainer/strainerlaw27.PathsOne", spec := "pathsOne", unfollowed := true, recurses := true, apart := false }
def PathsOneSaid : Prop := pathsOneRow.holds Try.pinned (OpenSpec.ofChange pathsOneSpec)

/-- ITS FALSE NEIGHBOUR: 'it returns false'. Refute it at one input. -/
def pathsOneWrong : ChangeSpec := { name := "pathsOne", fn := fun _ => fun
  | [d1, d2] => { results := [.lit (.bool false)], args := [d1, d2] }
  | _ => none }
def PathsOneWrongFalsely : Prop := pathsOneRow.holds Try.pinned (OpenSpec.ofChange pathsOneWrong)

/- THE SECOND FORM. 'bulk': how many values and letters a reading holds, each counted each time it is reached (what is shared counts as often as it is met; a slice's spare places count too). A statement '..UptoSaid' is the law's where the arguments, and the package variables that the reading takes, are together of bulk at most 1048576: NARROWER than '..Said'. Prove '..Said' where nothing that the law and all that it calls make is longer than what came in: it says more and counts as full. Else prove '..UptoSaid'. A law counts once. -/
mutual
def uptoBulk {H : Type} : DataW H → Nat
  | .lit (.string bytes) => bytes.length + 1
  | .lit _ => 1
  | .nil => 1
  | .ptr d => uptoBulk d + 1
  | .slice elems spare => uptoBulkAll elems + uptoBulkAll spare + 1
  | .agg parts => uptoBulkAll parts + 1
  | .iface _ d => uptoBulk d + 1
  | .map entries => uptoBulkEntries entries + 1
  | .held _ => 1
def uptoBulkAll {H : Type} : List (DataW H) → Nat
  | [] => 0
  | d :: r => uptoBulk d + uptoBulkAll r
def uptoBulkEntries {H : Type} : List (Lit × DataW H) → Nat
  | [] => 0
  | x :: r => uptoBulkEntry x + uptoBulkEntries r
def uptoBulkEntry {H : Type} : Lit × DataW H → Nat
  | (.string bytes, d) => bytes.length + uptoBulk d + 1
  | (_, d) => uptoBulk d + 1
 end
def uptoSmall : (H : Type) → List (DataW H) → Bool := fun _ ds => decide (uptoBulkAll ds ≤ 1048576)
def OpenSpec.upto (s : _root_.Go.ChangeSpec) : _root_.Go.OpenSpec := { _root_.Go.OpenSpec.ofChange s with cond := some uptoSmall }

/-- 'strainerlaw07.FlowTells', WHERE WHAT IT READS IS OF BULK AT MOST 1048576: true; the input reads as it did. -/
def flowTellsUptoRow : OpenClaim := { program := "ytmndolojfdekdaa", sum := "ccecfcee268ad9132b7e4e25020f453ef7924ecd53b7a42445ab9ff07d34e520", func := "strainer/strainerlaw07.FlowTells", spec := "flowTells", unfollowed := true, recurses := true, apart := false, narrowed := true }
def FlowTellsUptoSaid : Prop := flowTellsUptoRow.holds Try.pinned (OpenSpec.upto flowTellsSpec)

/-- 'strainerlaw27.PathsTell', WHERE WHAT IT READS IS OF BULK AT MOST 1048576: true; the input reads as it did. -/
def pathsTellUptoRow : OpenClaim := { program := "ytmndolojfdekdaa", sum := "ccecfcee268ad9132b7e4e25020f453ef7924ecd53b7a42445ab9ff07d34e520", func := "strainer/strainerlaw27.PathsTell", spec := "pathsTell", unfollowed := true, recurses := true, apart := false, narrowed := true }
def PathsTellUptoSaid : Prop := pathsTellUptoRow.holds Try.pinned (OpenSpec.upto pathsTellSpec)

/-- 'strainerlaw27.PathsOne', WHERE WHAT IT READS IS OF BULK AT MOST 1048576: true; the input reads as it did. -/
def pathsOneUptoRow : OpenClaim := { program := "ytmndolojfdekdaa", sum := "ccecfcee268ad9132b7e4e25020f453ef7924ecd53b7a42445ab9ff07d34e520", func := "strainer/strainerlaw27.PathsOne", spec := "pathsOne", unfollowed := true, recurses := true, apart := false, narrowed := true }
def PathsOneUptoSaid : Prop := pathsOneUptoRow.holds Try.pinned (OpenSpec.upto pathsOneSpec)

end Rows
end Go.Proofs.Ytmndolojfdekdaa
