/-
  No cell of these rows narrows 'for every input' (looked for: loops, veiled, ifaces, maps, wideKeys, modest, calm, conditions, laid).
  DERIVED. THE GIVEN ROWS OF THIS SEAT. 8 by the template 'for every input the law returns true; each argument reads behind the call as it read before'; 0 by the template 'total and deterministic' (their statements: YtjblkkffdhaiiabTotals.lean).
  GIVEN WITH THE SEED: the statements are not yours to turn. If you find one false, say at which input.
  Laid BY PROGRAM, IN A SANDBOX (cutbox-rows.mjs): the forced cells as the released guide's own fill.sh prints them over the translation 3674c461988c4250… (all of the seat's roots in one cut). By AI agents, Wed Nov 11 2026. No macro, syntax, notation, axiom, sorry.
-/
import Derived.Test.YtjblkkffdhaiiabChecked
import GoSem.Claim
import GoSem.ClaimJoined
import GoSem.ClaimMapViews
import Derived.JoinedTies
import Derived.KernelRfl
namespace Go.Proofs.Ytjblkkffdhaiiab
/- THE CELL 'sum', in the pinned program and in every row, IS THE sha256 OF THE DUMP (.gsa) THAT YtjblkkffdhaiiabProg.lean LOADS. Nothing in Lean hashes anything: it is a label: what it is worth is what the hold of that sum in a sandbox is worth. -/
noncomputable def Try.pinned : Pinned := { name := "ytjblkkffdhaiiab", sum := "3674c461988c425039ce101d5a39b242a00509830292f7d4ed1ab014f390b41a", checked := Try.checked }
namespace Rows
def none {H : Type} : Left H := { results := [], args := [] }

/-- 'strainerlaw07.FlowStraight': WHATEVER THE INPUT: true; the input reads as it did. -/
def flowStraightSpec : ChangeSpec := { name := "flowStraight", fn := fun _ => fun
  | [d] => { results := [.lit (.bool true)], args := [d] }
  | _ => none }
def flowStraightRow : OpenClaim := { program := "ytjblkkffdhaiiab", sum := "3674c461988c425039ce101d5a39b242a00509830292f7d4ed1ab014f390b41a", func := "strainer/strainerlaw07.FlowStraight", spec := "flowStraight", unfollowed := true, recurses := true, apart := false }
def FlowStraightSaid : Prop := flowStraightRow.holds Try.pinned (OpenSpec.ofChange flowStraightSpec)

/-- ITS FALSE NEIGHBOUR: 'it returns false'. Refute it at one input. -/
def flowStraightWrong : ChangeSpec := { name := "flowStraight", fn := fun _ => fun
  | [d] => { results := [.lit (.bool false)], args := [d] }
  | _ => none }
def FlowStraightWrongFalsely : Prop := flowStraightRow.holds Try.pinned (OpenSpec.ofChange flowStraightWrong)

/-- 'strainerlaw07.FlowOnce': WHATEVER THE INPUT: true; the input reads as it did. -/
def flowOnceSpec : ChangeSpec := { name := "flowOnce", fn := fun _ => fun
  | [d] => { results := [.lit (.bool true)], args := [d] }
  | _ => none }
def flowOnceRow : OpenClaim := { program := "ytjblkkffdhaiiab", sum := "3674c461988c425039ce101d5a39b242a00509830292f7d4ed1ab014f390b41a", func := "strainer/strainerlaw07.FlowOnce", spec := "flowOnce", unfollowed := true, recurses := true, apart := false }
def FlowOnceSaid : Prop := flowOnceRow.holds Try.pinned (OpenSpec.ofChange flowOnceSpec)

/-- ITS FALSE NEIGHBOUR: 'it returns false'. Refute it at one input. -/
def flowOnceWrong : ChangeSpec := { name := "flowOnce", fn := fun _ => fun
  | [d] => { results := [.lit (.bool false)], args := [d] }
  | _ => none }
def FlowOnceWrongFalsely : Prop := flowOnceRow.holds Try.pinned (OpenSpec.ofChange flowOnceWrong)

/-- 'strainerlaw07.FlowPrunes': WHATEVER THE INPUT: true; the input reads as it did. -/
def flowPrunesSpec : ChangeSpec := { name := "flowPrunes", fn := fun _ => fun
  | [d1, d2] => { results := [.lit (.bool true)], args := [d1, d2] }
  | _ => none }
def flowPrunesRow : OpenClaim := { program := "ytjblkkffdhaiiab", sum := "3674c461988c425039ce101d5a39b242a00509830292f7d4ed1ab014f390b41a", func := "strainer/strainerlaw07.FlowPrunes", spec := "flowPrunes", unfollowed := true, recurses := true, apart := false }
def FlowPrunesSaid : Prop := flowPrunesRow.holds Try.pinned (OpenSpec.ofChange flowPrunesSpec)

/-- ITS FALSE NEIGHBOUR: 'it returns false'. Refute it at one input. -/
def flowPrunesWrong : ChangeSpec := { name := "flowPrunes", fn := fun _ => fun
  | [d1, d2] => { results := [.lit (.bool false)], args := [d1, d2] }
  | _ => none }
def FlowPrunesWrongFalsely : Prop := flowPrunesRow.holds Try.pinned (OpenSpec.ofChange flowPrunesWrong)

/-- 'strainertop.TopJoins': WHATEVER THE INPUT: true; the input reads as it did. -/
def topJoinsSpec : ChangeSpec := { name := "topJoins", fn := fun _ => fun
  | [d1, d2, d3] => { results := [.lit (.bool true)], args := [d1, d2, d3] }
  | _ => none }
def topJoinsRow : OpenClaim := { program := "ytjblkkffdhaiiab", sum := "3674c461988c425039ce101d5a39b242a00509830292f7d4ed1ab014f390b41a", func := "strainer/strainertop.TopJoins", spec := "topJoins", unfollowed := true, recurses := true, apart := false }
def TopJoinsSaid : Prop := topJoinsRow.holds Try.pinned (OpenSpec.ofChange topJoinsSpec)

/-- ITS FALSE NEIGHBOUR: 'it returns false'. Refute it at one input. -/
def topJoinsWrong : ChangeSpec := { name := "topJoins", fn := fun _ => fun
  | [d1, d2, d3] => { results := [.lit (.bool false)], args := [d1, d2, d3] }
  | _ => none }
def TopJoinsWrongFalsely : Prop := topJoinsRow.holds Try.pinned (OpenSpec.ofChange topJoinsWrong)

/-- 'strainerlaw07.FlowTells': WHATEVER THE INPUT: true; the input reads as it did. -/
def flowTellsSpec : ChangeSpec := { name := "flowTells", fn := fun _ => fun
  | [d] => { results := [.lit (.bool true)], args := [d] }
  | _ => none }
def flowTellsRow : OpenClaim := { program := "ytjblkkffdhaiiab", sum := "3674c461988c425039ce101d5a39b242a00509830292f7d4ed1ab014f390b41a", func := "strainer/strainerlaw07.FlowTells", spec := "flowTells", unfollowed := true, recurses := true, apart := false }
def FlowTellsSaid : Prop := flowTellsRow.holds Try.pinned (OpenSpec.ofChange flowTellsSpec)

/-- ITS FALSE NEIGHBOUR: 'it returns false'. Refute it at one input. -/
def flowTellsWrong : ChangeSpec := { name := "flowTells", fn := fun _ => fun
  | [d] => { results := [.lit (.bool false)], args := [d] }
  | _ => none }
def FlowTellsWrongFalsely : Prop := flowTellsRow.holds Try.pinned (OpenSpec.ofChange flowTellsWrong)

/-- 'strainerlaw06.VmRuns': WHATEVER THE INPUT: true; the input reads as it did. -/
def vmRunsSpec : ChangeSpec := { name := "vmRuns", fn := fun _ => fun
  | [d1, d2] => { results := [.lit (.bool true)], args := [d1, d2] }
  | _ => none }
def vmRunsRow : OpenClaim := { program := "ytjblkkffdhaiiab", sum := "3674c461988c425039ce101d5a39b242a00509830292f7d4ed1ab014f390b41a", func := "strainer/strainerlaw06.VmRuns", spec := "vmRuns", unfollowed := true, recurses := true, apart := false }
def VmRunsSaid : Prop := vmRunsRow.holds Try.pinned (OpenSpec.ofChange vmRunsSpec)

/-- ITS FALSE NEIGHBOUR: 'it returns false'. Refute it at one input. -/
def vmRunsWrong : ChangeSpec := { name := "vmRuns", fn := fun _ => fun
  | [d1, d2] => { results := [.lit (.bool false)], args := [d1, d2] }
  | _ => none }
def VmRunsWrongFalsely : Prop := vmRunsRow.holds Try.pinned (OpenSpec.ofChange vmRunsWrong)

/-- 'strainerlaw05.DataTurns': WHATEVER THE INPUT: true; the input reads as it did. -/
def dataTurnsSpec : ChangeSpec := { name := "dataTurns", fn := fun _ => fun
  | [d] => { results := [.lit (.bool true)], args := [d] }
  | _ => none }
def dataTurnsRow : OpenClaim := { program := "ytjblkkffdhaiiab", sum := "3674c461988c425039ce101d5a39b242a00509830292f7d4ed1ab014f390b41a", func := "strainer/strainerlaw05.DataTurns", spec := "dataTurns", unfollowed := true, recurses := true, apart := false }
def DataTurnsSaid : Prop := dataTurnsRow.holds Try.pinned (OpenSpec.ofChange dataTurnsSpec)

/-- ITS FALSE NEIGHBOUR: 'it returns false'. Refute it at one input. -/
def dataTurnsWrong : ChangeSpec := { name := "dataTurns", fn := fun _ => fun
  | [d] => { results := [.lit (.bool false)], args := [d] }
  | _ => none }
def DataTurnsWrongFalsely : Prop := dataTurnsRow.holds Try.pinned (OpenSpec.ofChange dataTurnsWrong)

/-- 'strainerlaw02.InstJoins': WHATEVER THE INPUT: true; the input reads as it did. -/
def instJoinsSpec : ChangeSpec := { name := "instJoins", fn := fun _ => fun
  | [d1, d2] => { results := [.lit (.bool true)], args := [d1, d2] }
  | _ => none }
def instJoinsRow : OpenClaim := { program := "ytjblkkffdhaiiab", sum := "3674c461988c425039ce101d5a39b242a00509830292f7d4ed1ab014f390b41a", func := "strainer/strainerlaw02.InstJoins", spec := "instJoins", unfollowed := true, recurses := true, apart := false }
def InstJoinsSaid : Prop := instJoinsRow.holds Try.pinned (OpenSpec.ofChange instJoinsSpec)

/-- ITS FALSE NEIGHBOUR: 'it returns false'. Refute it at one input. -/
def instJoinsWrong : ChangeSpec := { name := "instJoins", fn := fun _ => fun
  | [d1, d2] => { results := [.lit (.bool false)], args := [d1, d2] }
  | _ => none }
def InstJoinsWrongFalsely : Prop := instJoinsRow.holds Try.pinned (OpenSpec.ofChange instJoinsWrong)

/- THE SECOND FORM. 'bulk': how many values and letters a reading holds, each counted each time it is reached (what is shared counts as often as it is met; a slice's spare places count too). A statement '..UptoSaid' is the law's where the arguments, and the package variables that the reading takes, are together of bulk at most 1048576: NARROWER than '..Said'. Prove '..Said' where nothing that the law and all that it calls make is longer than what came in: it says more and counts as full. Else prove '..UptoSaid'. A law counts once. -/
mutual
def uptoBulk {H : Type} : DataW H → Nat
  | .lit (.string bytes) => bytes.length + 1
  | .lit _ => 1
  | .nil => 1
  | .ptr d => uptoBulk d + 1
  | .slice elems spare => uptoBulkAll elems + uptoBulkAll spare + 1
  | .agg parts => uptoBulkAll parts + 1
  | .iface _ d => uptoBulk d + 1
  | .map entries => uptoBulkEntries entries + 1
  | .held _ => 1
def uptoBulkAll {H : Type} : List (DataW H) → Nat
  | [] => 0
  | d :: r => uptoBulk d + uptoBulkAll r
def uptoBulkEntries {H : Type} : List (Lit × DataW H) → Nat
  | [] => 0
  | x :: r => uptoBulkEntry x + uptoBulkEntries r
def uptoBulkEntry {H : Type} : Lit × DataW H → Nat
  | (.string bytes, d) => bytes.length + uptoBulk d + 1
  | (_, d) => uptoBulk d + 1
 end
def uptoSmall : (H : Type) → List (DataW H) → Bool := fun _ ds => decide (uptoBulkAll ds ≤ 1048576)
def OpenSpec.upto (s : _root_.Go.ChangeSpec) : _root_.Go.OpenSpec := { _root_.Go.OpenSpec.ofChange s with cond := some uptoSmall }

/-- 'strainerlaw07.FlowStraight', WHERE WHAT IT READS IS OF BULK AT MOST 1048576: true; the input reads as it did. -/
def flowStraightUptoRow : OpenClaim := { program := "ytjblkkffdhaiiab", sum := "3674c461988c425039ce101d5a39b242a00509830292f7d4ed1ab014f390b41a", func := "strainer/strainerlaw07.FlowStraight", spec := "flowStraight", unfollowed := true, recurses := true, apart := false, narrowed := true }
def FlowStraightUptoSaid : Prop := flowStraightUptoRow.holds Try.pinned (OpenSpec.upto flowStraightSpec)

/-- 'strainerlaw07.FlowOnce', WHERE WHAT IT READS IS OF BULK AT MOST 1048576: true; the input reads as it did. -/
def flowOnceUptoRow : OpenClaim := { program := "ytjblkkffdhaiiab", sum := "3674c461988c425039ce101d5a39b242a00509830292f7d4ed1ab014f390b41a", func := "strainer/strainerlaw07.FlowOnce", spec := "flowOnce", unfollowed := true, recurses := true, apart := false, narrowed := true }
def FlowOnceUptoSaid : Prop := flowOnceUptoRow.holds Try.pinned (OpenSpec.upto flowOnceSpec)

/-- 'strainerlaw07.FlowPrunes', WHERE WHAT IT READS IS OF BULK AT MOST 1048576: true; the input reads as it did. -/
def flowPrunesUptoRow : OpenClaim := { program := "ytjblkkffdhaiiab", sum := "3674c461988c425039ce101d5a39b242a00509830292f7d4ed1ab014f390b41a", func := "strainer/strainerlaw07.FlowPrunes", spec := "flowPrunes", unfollowed := true, recurses := true, apart := false, narrowed := true }
def FlowPrunesUptoSaid : Prop := flowPrunesUptoRow.holds Try.pinned (OpenSpec.upto flowPrunesSpec)

/-- 'strainertop.TopJoins', WHERE WHAT IT READS IS OF BULK AT MOST 1048576: true; the input reads as it did. -/
def topJoinsUptoRow : OpenClaim := { program := "ytjblkkffdhaiiab", sum := "3674c461988c425039ce101d5a39b242a00509830292f7d4ed1ab014f390b41a", func := "strainer/strainertop.TopJoins", spec := "topJoins", unfollowed := true, recurses := true, apart := false, narrowed := true }
def TopJoinsUptoSaid : Prop := topJoinsUptoRow.holds Try.pinned (OpenSpec.upto topJoinsSpec)

/-- 'strainerlaw07.FlowTells', WHERE WHAT IT READS IS OF BULK AT MOST 1048576: true; the input reads as it did. -/
def flowTellsUptoRow : OpenClaim := { program := "ytjblkkffdhaiiab", sum := "3674c461988c425039ce101d5a39b242a00509830292f7d4ed1ab014f390b41a", func := "strainer/strainerlaw07.FlowTells", spec := "flowTells", unfollowed := true, recurses := true, apart := false, narrowed := true }
def FlowTellsUptoSaid : Prop := flowTellsUptoRow.holds Try.pinned (OpenSpec.upto flowTellsSpec)

/-- 'strainerlaw06.VmRuns', WHERE WHAT IT READS IS OF BULK AT MOST 1048576: true; the input reads as it did. -/
def vmRunsUptoRow : OpenClaim := { program := "ytjblkkffdhaiiab", sum := "3674c461988c425039ce101d5a39b242a00509830292f7d4ed1ab014f390b41a", func := "strainer/strainerlaw06.VmRuns", spec := "vmRuns", unfollowed := true, recurses := true, apart := false, narrowed := true }
def VmRunsUptoSaid : Prop := vmRunsUptoRow.holds Try.pinned (OpenSpec.upto vmRunsSpec)

/-- 'strainerlaw05.DataTurns', WHERE WHAT IT READS IS OF BULK AT MOST 1048576: true; the input reads as it did. -/
def dataTurnsUptoRow : OpenClaim := { program := "ytjblkkffdhaiiab", sum := "3674c461988c425039ce101d5a39b242a00509830292f7d4ed1ab014f390b41a", func := "strainer/strainerlaw05.DataTurns", spec := "dataTurns", unfollowed := true, recurses := true, apart := false, narrowed := true }
def DataTurnsUptoSaid : Prop := dataTurnsUptoRow.holds Try.pinned (OpenSpec.upto dataTurnsSpec)

/-- 'strainerlaw02.InstJoins', WHERE WHAT IT READS IS OF BULK AT MOST 1048576: true; the input reads as it did. -/
def instJoinsUptoRow : OpenClaim := { program := "ytjblkkffdhaiiab", sum := "3674c461988c425039ce101d5a39b242a00509830292f7d4ed1ab014f390b41a", func := "strainer/strainerlaw02.InstJoins", spec := "instJoins", unfollowed := true, recurses := true, apart := false, narrowed := true }
def InstJoinsUptoSaid : Prop := instJoinsUptoRow.holds Try.pinned (OpenSpec.upto instJoinsSpec)

end Rows
end Go.Proofs.Ytjblkkffdhaiiab
