/-
  No cell of these rows narrows 'for every input' (looked for: loops, veiled, ifaces, maps, wideKeys, modest, calm, conditions, laid).
  DERIVED. THE GIVEN ROWS OF THIS SEAT. 4 by the template 'for every input the law returns true; each argument reads behind the call as it read before'; 0 by the template 'total and deterministic' (their statements: YtkbfmnpilbhfaaaTotals.lean).
  GIVEN WITH THE SEED: the statements are not yours to turn. If you find one false, say at which input.
  Laid BY PROGRAM, IN A SANDBOX (cutbox-rows.mjs): the forced cells as the released guide's own fill.sh prints them over the translation c26cd6fc0594fe28… (all of the seat's roots in one cut). By AI agents, Wed Nov 11 2026. No macro, syntax, notation, axiom, sorry.
-/
import Derived.Test.YtkbfmnpilbhfaaaChecked
import GoSem.Claim
import GoSem.ClaimJoined
import GoSem.ClaimMapViews
import Derived.JoinedTies
import Derived.KernelRfl
namespace Go.Proofs.Ytkbfmnpilbhfaaa
/- THE CELL 'sum', in the pinned program and in every row, IS THE sha256 OF THE DUMP (.gsa) THAT YtkbfmnpilbhfaaaProg.lean LOADS. Nothing in Lean hashes anything: it is a label: what it is worth is what the hold of that sum in a sandbox is worth. -/
noncomputable def Try.pinned : Pinned := { name := "ytkbfmnpilbhfaaa", sum := "c26cd6fc0594fe28dd4e10d9fa9c41e8b14a093f0f30b15da18c3632a7c2bdbd", checked := Try.checked }
namespace Rows
def none {H : Type} : Left H := { results := [], args := [] }

/-- 'strainerlaw19.TreeFinds': WHATEVER THE INPUT: true; the input reads as it did. -/
def treeFindsSpec : ChangeSpec := { name := "treeFinds", fn := fun _ => fun
  | [d1, d2] => { results := [.lit (.bool true)], args := [d1, d2] }
  | _ => none }
def treeFindsRow : OpenClaim := { program := "ytkbfmnpilbhfaaa", sum := "c26cd6fc0594fe28dd4e10d9fa9c41e8b14a093f0f30b15da18c3632a7c2bdbd", func := "strainer/strainerlaw19.TreeFinds", spec := "treeFinds", unfollowed := true, recurses := true, apart := false }
def TreeFindsSaid : Prop := treeFindsRow.holds Try.pinned (OpenSpec.ofChange treeFindsSpec)

/-- ITS FALSE NEIGHBOUR: 'it returns false'. Refute it at one input. -/
def treeFindsWrong : ChangeSpec := { name := "treeFinds", fn := fun _ => fun
  | [d1, d2] => { results := [.lit (.bool false)], args := [d1, d2] }
  | _ => none }
def TreeFindsWrongFalsely : Prop := treeFindsRow.holds Try.pinned (OpenSpec.ofChange treeFindsWrong)

/-- 'strainerlaw19.TreeFormed': WHATEVER THE INPUT: true; the input reads as it did. -/
def treeFormedSpec : ChangeSpec := { name := "treeFormed", fn := fun _ => fun
  | [d] => { results := [.lit (.bool true)], args := [d] }
  | _ => none }
def treeFormedRow : OpenClaim := { program := "ytkbfmnpilbhfaaa", sum := "c26cd6fc0594fe28dd4e10d9fa9c41e8b14a093f0f30b15da18c3632a7c2bdbd", func := "strainer/strainerlaw19.TreeFormed", spec := "treeFormed", unfollowed := true, recurses := true, apart := false }
def TreeFormedSaid : Prop := treeFormedRow.holds Try.pinned (OpenSpec.ofChange treeFormedSpec)

/-- ITS FALSE NEIGHBOUR: 'it returns false'. Refute it at one input. -/
def treeFormedWrong : ChangeSpec := { name := "treeFormed", fn := fun _ => fun
  | [d] => { results := [.lit (.bool false)], args := [d] }
  | _ => none }
def TreeFormedWrongFalsely : Prop := treeFormedRow.holds Try.pinned (OpenSpec.ofChange treeFormedWrong)

/-- 'strainerlaw19.TreeLong': WHATEVER THE INPUT: true; the input reads as it did. -/
def treeLongSpec : ChangeSpec := { name := "treeLong", fn := fun _ => fun
  | [d] => { results := [.lit (.bool true)], args := [d] }
  | _ => none }
def treeLongRow : OpenClaim := { program := "ytkbfmnpilbhfaaa", sum := "c26cd6fc0594fe28dd4e10d9fa9c41e8b14a093f0f30b15da18c3632a7c2bdbd", func := "strainer/strainerlaw19.TreeLong", spec := "treeLong", unfollowed := true, recurses := true, apart := false }
def TreeLongSaid : Prop := treeLongRow.holds Try.pinned (OpenSpec.ofChange treeLongSpec)

/-- ITS FALSE NEIGHBOUR: 'it returns false'. Refute it at one input. -/
def treeLongWrong : ChangeSpec := { name := "treeLong", fn := fun _ => fun
  | [d] => { results := [.lit (.bool false)], args := [d] }
  | _ => none }
def TreeLongWrongFalsely : Prop := treeLongRow.holds Try.pinned (OpenSpec.ofChange treeLongWrong)

/-- 'strainerlaw19.TreeMoved': WHATEVER THE INPUT: true; the input reads as it did. -/
def treeMovedSpec : ChangeSpec := { name := "treeMoved", fn := fun _ => fun
  | [d1, d2] => { results := [.lit (.bool true)], args := [d1, d2] }
  | _ => none }
def treeMovedRow : OpenClaim := { program := "ytkbfmnpilbhfaaa", sum := "c26cd6fc0594fe28dd4e10d9fa9c41e8b14a093f0f30b15da18c3632a7c2bdbd", func := "strainer/strainerlaw19.TreeMoved", spec := "treeMoved", unfollowed := true, recurses := true, apart := false }
def TreeMovedSaid : Prop := treeMovedRow.holds Try.pinned (OpenSpec.ofChange treeMovedSpec)

/-- ITS FALSE NEIGHBOUR: 'it returns false'. Refute it at one input. -/
def treeMovedWrong : ChangeSpec := { name := "treeMoved", fn := fun _ => fun
  | [d1, d2] => { results := [.lit (.bool false)], args := [d1, d2] }
  | _ => none }
def TreeMovedWrongFalsely : Prop := treeMovedRow.holds Try.pinned (OpenSpec.ofChange treeMovedWrong)

/- THE SECOND FORM. 'bulk': how many values and letters a reading holds, each counted each time it is reached (what is shared counts as often as it is met; a slice's spare places count too). A statement '..UptoSaid' is the law's where the arguments, and the package variables that the reading takes, are together of bulk at most 1048576: NARROWER than '..Said'. Prove '..Said' where nothing that the law and all that it calls make is longer than what came in: it says more and counts as full. Else prove '..UptoSaid'. A law counts once. -/
mutual
def uptoBulk {H : Type} : DataW H → Nat
  | .lit (.string bytes) => bytes.length + 1
  | .lit _ => 1
  | .nil => 1
  | .ptr d => uptoBulk d + 1
  | .slice elems spare => uptoBulkAll elems + uptoBulkAll spare + 1
  | .agg parts => uptoBulkAll parts + 1
  | .iface _ d => uptoBulk d + 1
  | .map entries => uptoBulkEntries entries + 1
  | .held _ => 1
def uptoBulkAll {H : Type} : List (DataW H) → Nat
  | [] => 0
  | d :: r => uptoBulk d + uptoBulkAll r
def uptoBulkEntries {H : Type} : List (Lit × DataW H) → Nat
  | [] => 0
  | x :: r => uptoBulkEntry x + uptoBulkEntries r
def uptoBulkEntry {H : Type} : Lit × DataW H → Nat
  | (.string bytes, d) => bytes.length + uptoBulk d + 1
  | (_, d) => uptoBulk d + 1
 end
def uptoSmall : (H : Type) → List (DataW H) → Bool := fun _ ds => decide (uptoBulkAll ds ≤ 1048576)
def OpenSpec.upto (s : _root_.Go.ChangeSpec) : _root_.Go.OpenSpec := { _root_.Go.OpenSpec.ofChange s with cond := some uptoSmall }

/-- 'strainerlaw19.TreeFinds', WHERE WHAT IT READS IS OF BULK AT MOST 1048576: true; the input reads as it did. -/
def treeFindsUptoRow : OpenClaim := { program := "ytkbfmnpilbhfaaa", sum := "c26cd6fc0594fe28dd4e10d9fa9c41e8b14a093f0f30b15da18c3632a7c2bdbd", func := "strainer/strainerlaw19.TreeFinds", spec := "treeFinds", unfollowed := true, recurses := true, apart := false, narrowed := true }
def TreeFindsUptoSaid : Prop := treeFindsUptoRow.holds Try.pinned (OpenSpec.upto treeFindsSpec)

/-- 'strainerlaw19.TreeFormed', WHERE WHAT IT READS IS OF BULK AT MOST 1048576: true; the input reads as it did. -/
def treeFormedUptoRow : OpenClaim := { program := "ytkbfmnpilbhfaaa", sum := "c26cd6fc0594fe28dd4e10d9fa9c41e8b14a093f0f30b15da18c3632a7c2bdbd", func := "strainer/strainerlaw19.TreeFormed", spec := "treeFormed", unfollowed := true, recurses := true, apart := false, narrowed := true }
def TreeFormedUptoSaid : Prop := treeFormedUptoRow.holds Try.pinned (OpenSpec.upto treeFormedSpec)

/-- 'strainerlaw19.TreeLong', WHERE WHAT IT READS IS OF BULK AT MOST 1048576: true; the input reads as it did. -/
def treeLongUptoRow : OpenClaim := { program := "ytkbfmnpilbhfaaa", sum := "c26cd6fc0594fe28dd4e10d9fa9c41e8b14a093f0f30b15da18c3632a7c2bdbd", func := "strainer/strainerlaw19.TreeLong", spec := "treeLong", unfollowed := true, recurses := true, apart := false, narrowed := true }
def TreeLongUptoSaid : Prop := treeLongUptoRow.holds Try.pinned (OpenSpec.upto treeLongSpec)

/-- 'strainerlaw19.TreeMoved', WHERE WHAT IT READS IS OF BULK AT MOST 1048576: true; the input reads as it did. -/
def treeMovedUptoRow : OpenClaim := { program := "ytkbfmnpilbhfaaa", sum := "c26cd6fc0594fe28dd4e10d9fa9c41e8b14a093f0f30b15da18c3632a7c2bdbd", func := "strainer/strainerlaw19.TreeMoved", spec := "treeMoved", unfollowed := true, recurses := true, apart := false, narrowed := true }
def TreeMovedUptoSaid : Prop := treeMovedUptoRow.holds Try.pinned (OpenSpec.upto treeMovedSpec)

end Rows
end Go.Proofs.Ytkbfmnpilbhfaaa
