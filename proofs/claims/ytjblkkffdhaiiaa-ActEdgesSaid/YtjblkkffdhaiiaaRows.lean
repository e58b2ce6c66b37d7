/-
  No cell of these rows narrows 'for every input' (looked for: loops, veiled, ifaces, maps, wideKeys, modest, calm, conditions, laid).
  DERIVED. THE GIVEN ROWS OF THIS SEAT. 6 by the template 'for every input the law returns true; each argument reads behind the call as it read before'; 0 by the template 'total and deterministic' (their statements: YtjblkkffdhaiiaaTotals.lean).
  GIVEN WITH THE SEED: the statements are not yours to turn. If you find one false, say at which input.
  Laid BY PROGRAM, IN A SANDBOX (cutbox-rows.mjs): the forced cells as the released guide's own fill.sh prints them over the translation a64ce89214f2ca6c… (all of the seat's roots in one cut). By AI agents, Wed Nov 11 2026. No macro, syntax, notation, axiom, sorry.
-/
import Derived.Test.YtjblkkffdhaiiaaChecked
import GoSem.Claim
import GoSem.ClaimJoined
import GoSem.ClaimMapViews
import Derived.JoinedTies
import Derived.KernelRfl
namespace Go.Proofs.Ytjblkkffdhaiiaa
/- THE CELL 'sum', in the pinned program and in every row, IS THE sha256 OF THE DUMP (.gsa) THAT YtjblkkffdhaiiaaProg.lean LOADS. Nothing in Lean hashes anything: it is a label: what it is worth is what the hold of that sum in a sandbox is worth. -/
noncomputable def Try.pinned : Pinned := { name := "ytjblkkffdhaiiaa", sum := "a64ce89214f2ca6cbc8840ab401d848a19bceeea3e98d6543cf75d9d1213a3ce", checked := Try.checked }
namespace Rows
def none {H : Type} : Left H := { results := [], args := [] }

/-- 'strainerlaw08.AbiRows': WHATEVER THE INPUT: true; the input reads as it did. -/
def abiRowsSpec : ChangeSpec := { name := "abiRows", fn := fun _ => fun
  | [d1, d2] => { results := [.lit (.bool true)], args := [d1, d2] }
  | _ => none }
def abiRowsRow : OpenClaim := { program := "ytjblkkffdhaiiaa", sum := "a64ce89214f2ca6cbc8840ab401d848a19bceeea3e98d6543cf75d9d1213a3ce", func := "strainer/strainerlaw08.AbiRows", spec := "abiRows", unfollowed := true, recurses := true, apart := false }
def AbiRowsSaid : Prop := abiRowsRow.holds Try.pinned (OpenSpec.ofChange abiRowsSpec)

/-- ITS FALSE NEIGHBOUR: 'it returns false'. Refute it at one input. -/
def abiRowsWrong : ChangeSpec := { name := "abiRows", fn := fun _ => fun
  | [d1, d2] => { results := [.lit (.bool false)], args := [d1, d2] }
  | _ => none }
def AbiRowsWrongFalsely : Prop := abiRowsRow.holds Try.pinned (OpenSpec.ofChange abiRowsWrong)

/-- 'strainerlaw08.AbiSelects': WHATEVER THE INPUT: true; the input reads as it did. -/
def abiSelectsSpec : ChangeSpec := { name := "abiSelects", fn := fun _ => fun
  | [d1, d2, d3] => { results := [.lit (.bool true)], args := [d1, d2, d3] }
  | _ => none }
def abiSelectsRow : OpenClaim := { program := "ytjblkkffdhaiiaa", sum := "a64ce89214f2ca6cbc8840ab401d848a19bceeea3e98d6543cf75d9d1213a3ce", func := "strainer/strainerlaw08.AbiSelects", spec := "abiSelects", unfollowed := true, recurses := true, apart := false }
def AbiSelectsSaid : Prop := abiSelectsRow.holds Try.pinned (OpenSpec.ofChange abiSelectsSpec)

/-- ITS FALSE NEIGHBOUR: 'it returns false'. Refute it at one input. -/
def abiSelectsWrong : ChangeSpec := { name := "abiSelects", fn := fun _ => fun
  | [d1, d2, d3] => { results := [.lit (.bool false)], args := [d1, d2, d3] }
  | _ => none }
def AbiSelectsWrongFalsely : Prop := abiSelectsRow.holds Try.pinned (OpenSpec.ofChange abiSelectsWrong)

/-- 'strainerlaw08.AbiArgs': WHATEVER THE INPUT: true; the input reads as it did. -/
def abiArgsSpec : ChangeSpec := { name := "abiArgs", fn := fun _ => fun
  | [d1, d2, d3] => { results := [.lit (.bool true)], args := [d1, d2, d3] }
  | _ => none }
def abiArgsRow : OpenClaim := { program := "ytjblkkffdhaiiaa", sum := "a64ce89214f2ca6cbc8840ab401d848a19bceeea3e98d6543cf75d9d1213a3ce", func := "strainer/strainerlaw08.AbiArgs", spec := "abiArgs", unfollowed := true, recurses := true, apart := false }
def AbiArgsSaid : Prop := abiArgsRow.holds Try.pinned (OpenSpec.ofChange abiArgsSpec)

/-- ITS FALSE NEIGHBOUR: 'it returns false'. Refute it at one input. -/
def abiArgsWrong : ChangeSpec := { name := "abiArgs", fn := fun _ => fun
  | [d1, d2, d3] => { results := [.lit (.bool false)], args := [d1, d2, d3] }
  | _ => none }
def AbiArgsWrongFalsely : Prop := abiArgsRow.holds Try.pinned (OpenSpec.ofChange abiArgsWrong)

/-- 'strainerlaw08.AbiBack': WHATEVER THE INPUT: true; the input reads as it did. -/
def abiBackSpec : ChangeSpec := { name := "abiBack", fn := fun _ => fun
  | [d1, d2] => { results := [.lit (.bool true)], args := [d1, d2] }
  | _ => none }
def abiBackRow : OpenClaim := { program := "ytjblkkffdhaiiaa", sum := "a64ce89214f2ca6cbc8840ab401d848a19bceeea3e98d6543cf75d9d1213a3ce", func := "strainer/strainerlaw08.AbiBack", spec := "abiBack", unfollowed := true, recurses := true, apart := false }
def AbiBackSaid : Prop := abiBackRow.holds Try.pinned (OpenSpec.ofChange abiBackSpec)

/-- ITS FALSE NEIGHBOUR: 'it returns false'. Refute it at one input. -/
def abiBackWrong : ChangeSpec := { name := "abiBack", fn := fun _ => fun
  | [d1, d2] => { results := [.lit (.bool false)], args := [d1, d2] }
  | _ => none }
def AbiBackWrongFalsely : Prop := abiBackRow.holds Try.pinned (OpenSpec.ofChange abiBackWrong)

/-- 'strainerlaw08.AbiApart': WHATEVER THE INPUT: true; the input reads as it did. -/
def abiApartSpec : ChangeSpec := { name := "abiApart", fn := fun _ => fun
  | [d] => { results := [.lit (.bool true)], args := [d] }
  | _ => none }
def abiApartRow : OpenClaim := { program := "ytjblkkffdhaiiaa", sum := "a64ce89214f2ca6cbc8840ab401d848a19bceeea3e98d6543cf75d9d1213a3ce", func := "strainer/strainerlaw08.AbiApart", spec := "abiApart", unfollowed := true, recurses := true, apart := false }
def AbiApartSaid : Prop := abiApartRow.holds Try.pinned (OpenSpec.ofChange abiApartSpec)

/-- ITS FALSE NEIGHBOUR: 'it returns false'. Refute it at one input. -/
def abiApartWrong : ChangeSpec := { name := "abiApart", fn := fun _ => fun
  | [d] => { results := [.lit (.bool false)], args := [d] }
  | _ => none }
def AbiApartWrongFalsely : Prop := abiApartRow.holds Try.pinned (OpenSpec.ofChange abiApartWrong)

/-- 'strainerlaw09.ActEdges': WHATEVER THE INPUT: true; the input reads as it did. -/
def actEdgesSpec : ChangeSpec := { name := "actEdges", fn := fun _ => fun
  | [d1, d2] => { results := [.lit (.bool true)], args := [d1, d2] }
  | _ => none }
def actEdgesRow : OpenClaim := { program := "ytjblkkffdhaiiaa", sum := "a64ce89214f2ca6cbc8840ab401d848a19bceeea3e98d6543cf75d9d1213a3ce", func := "strainer/strainerlaw09.ActEdges", spec := "actEdges", unfollowed := true, recurses := true, apart := false }
def ActEdgesSaid : Prop := actEdgesRow.holds Try.pinned (OpenSpec.ofChange actEdgesSpec)

/-- ITS FALSE NEIGHBOUR: 'it returns false'. Refute it at one input. -/
def actEdgesWrong : ChangeSpec := { name := "actEdges", fn := fun _ => fun
  | [d1, d2] => { results := [.lit (.bool false)], args := [d1, d2] }
  | _ => none }
def ActEdgesWrongFalsely : Prop := actEdgesRow.holds Try.pinned (OpenSpec.ofChange actEdgesWrong)

/- THE SECOND FORM. 'bulk': how many values and letters a reading holds, each counted each time it is reached (what is shared counts as often as it is met; a slice's spare places count too). A statement '..UptoSaid' is the law's where the arguments, and the package variables that the reading takes, are together of bulk at most 1048576: NARROWER than '..Said'. Prove '..Said' where nothing that the law and all that it calls make is longer than what came in: it says more and counts as full. Else prove '..UptoSaid'. A law counts once. -/
mutual
def uptoBulk {H : Type} : DataW H → Nat
  | .lit (.string bytes) => bytes.length + 1
  | .lit _ => 1
  | .nil => 1
  | .ptr d => uptoBulk d + 1
  | .slice elems spare => uptoBulkAll elems + uptoBulkAll spare + 1
  | .agg parts => uptoBulkAll parts + 1
  | .iface _ d => uptoBulk d + 1
  | .map entries => uptoBulkEntries entries + 1
  | .held _ => 1
def uptoBulkAll {H : Type} : List (DataW H) → Nat
  | [] => 0
  | d :: r => uptoBulk d + uptoBulkAll r
def uptoBulkEntries {H : Type} : List (Lit × DataW H) → Nat
  | [] => 0
  | x :: r => uptoBulkEntry x + uptoBulkEntries r
def uptoBulkEntry {H : Type} : Lit × DataW H → Nat
  | (.string bytes, d) => bytes.length + uptoBulk d + 1
  | (_, d) => uptoBulk d + 1
 end
def uptoSmall : (H : Type) → List (DataW H) → Bool := fun _ ds => decide (uptoBulkAll ds ≤ 1048576)
def OpenSpec.upto (s : _root_.Go.ChangeSpec) : _root_.Go.OpenSpec := { _root_.Go.OpenSpec.ofChange s with cond := some uptoSmall }

/-- 'strainerlaw08.AbiRows', WHERE WHAT IT READS IS OF BULK AT MOST 1048576: true; the input reads as it did. -/
def abiRowsUptoRow : OpenClaim := { program := "ytjblkkffdhaiiaa", sum := "a64ce89214f2ca6cbc8840ab401d848a19bceeea3e98d6543cf75d9d1213a3ce", func := "strainer/strainerlaw08.AbiRows", spec := "abiRows", unfollowed := true, recurses := true, apart := false, narrowed := true }
def AbiRowsUptoSaid : Prop := abiRowsUptoRow.holds Try.pinned (OpenSpec.upto abiRowsSpec)

/-- 'strainerlaw08.AbiSelects', WHERE WHAT IT READS IS OF BULK AT MOST 1048576: true; the input reads as it did. -/
def abiSelectsUptoRow : OpenClaim := { program := "ytjblkkffdhaiiaa", sum := "a64ce89214f2ca6cbc8840ab401d848a19bceeea3e98d6543cf75d9d1213a3ce", func := "strainer/strainerlaw08.AbiSelects", spec := "abiSelects", unfollowed := true, recurses := true, apart := false, narrowed := true }
def AbiSelectsUptoSaid : Prop := abiSelectsUptoRow.holds Try.pinned (OpenSpec.upto abiSelectsSpec)

/-- 'strainerlaw08.AbiArgs', WHERE WHAT IT READS IS OF BULK AT MOST 1048576: true; the input reads as it did. -/
def abiArgsUptoRow : OpenClaim := { program := "ytjblkkffdhaiiaa", sum := "a64ce89214f2ca6cbc8840ab401d848a19bceeea3e98d6543cf75d9d1213a3ce", func := "strainer/strainerlaw08.AbiArgs", spec := "abiArgs", unfollowed := true, recurses := true, apart := false, narrowed := true }
def AbiArgsUptoSaid : Prop := abiArgsUptoRow.holds Try.pinned (OpenSpec.upto abiArgsSpec)

/-- 'strainerlaw08.AbiBack', WHERE WHAT IT READS IS OF BULK AT MOST 1048576: true; the input reads as it did. -/
def abiBackUptoRow : OpenClaim := { program := "ytjblkkffdhaiiaa", sum := "a64ce89214f2ca6cbc8840ab401d848a19bceeea3e98d6543cf75d9d1213a3ce", func := "strainer/strainerlaw08.AbiBack", spec := "abiBack", unfollowed := true, recurses := true, apart := false, narrowed := true }
def AbiBackUptoSaid : Prop := abiBackUptoRow.holds Try.pinned (OpenSpec.upto abiBackSpec)

/-- 'strainerlaw08.AbiApart', WHERE WHAT IT READS IS OF BULK AT MOST 1048576: true; the input reads as it did. -/
def abiApartUptoRow : OpenClaim := { program := "ytjblkkffdhaiiaa", sum := "a64ce89214f2ca6cbc8840ab401d848a19bceeea3e98d6543cf75d9d1213a3ce", func := "strainer/strainerlaw08.AbiApart", spec := "abiApart", unfollowed := true, recurses := true, apart := false, narrowed := true }
def AbiApartUptoSaid : Prop := abiApartUptoRow.holds Try.pinned (OpenSpec.upto abiApartSpec)

/-- 'strainerlaw09.ActEdges', WHERE WHAT IT READS IS OF BULK AT MOST 1048576: true; the input reads as it did. -/
def actEdgesUptoRow : OpenClaim := { program := "ytjblkkffdhaiiaa", sum := "a64ce89214f2ca6cbc8840ab401d848a19bceeea3e98d6543cf75d9d1213a3ce", func := "strainer/strainerlaw09.ActEdges", spec := "actEdges", unfollowed := true, recurses := true, apart := false, narrowed := true }
def ActEdgesUptoSaid : Prop := actEdgesUptoRow.holds Try.pinned (OpenSpec.upto actEdgesSpec)

end Rows
end Go.Proofs.Ytjblkkffdhaiiaa
