/-
  No cell of these rows narrows 'for every input' (looked for: loops, veiled, ifaces, maps, wideKeys, modest, calm, conditions, laid).
  DERIVED. THE GIVEN ROWS OF THIS SEAT. 5 by the template 'for every input the law returns true; each argument reads behind the call as it read before'; 0 by the template 'total and deterministic' (their statements: YtlninlempefjcaaTotals.lean).
  GIVEN WITH THE SEED: the statements are not yours to turn. If you find one false, say at which input.
  Laid BY PROGRAM, IN A SANDBOX (cutbox-rows.mjs): the forced cells as the released guide's own fill.sh prints them over the translation 9ea23108986e67f4… (all of the seat's roots in one cut). By AI agents, Wed Nov 11 2026. No macro, syntax, notation, axiom, sorry.
-/
import Derived.Test.YtlninlempefjcaaChecked
import GoSem.Claim
import GoSem.ClaimJoined
import GoSem.ClaimMapViews
import Derived.JoinedTies
import Derived.KernelRfl
namespace Go.Proofs.Ytlninlempefjcaa
/- THE CELL 'sum', in the pinned program and in every row, IS THE sha256 OF THE DUMP (.gsa) THAT YtlninlempefjcaaProg.lean LOADS. Nothing in Lean hashes anything: it is a label: what it is worth is what the hold of that sum in a sandbox is worth. -/
noncomputable def Try.pinned : Pinned := { name := "ytlninlempefjcaa", sum := "9ea23108986e67f48b61b7261cd1e1ef7634a75061317a1e5586a8d12a33bdee", checked := Try.checked }
namespace Rows
def none {H : Type} : Left H := { results := [], args := [] }

/-- 'strainerlaw11.SystabFinds': WHATEVER THE INPUT: true; the input reads as it did. -/
def systabFindsSpec : ChangeSpec := { name := "systabFinds", fn := fun _ => fun
  | [d1, d2, d3] => { results := [.lit (.bool true)], args := [d1, d2, d3] }
  | _ => none }
def systabFindsRow : OpenClaim := { program := "ytlninlempefjcaa", sum := "9ea23108986e67f48b61b7261cd1e1ef7634a75061317a1e5586a8d12a33bdee", func := "strainer/strainerlaw11.SystabFinds", spec := "systabFinds", unfollowed := true, recurses := true, apart := false }
def SystabFindsSaid : Prop := systabFindsRow.holds Try.pinned (OpenSpec.ofChange systabFindsSpec)

/-- ITS FALSE NEIGHBOUR: 'it returns false'. Refute it at one input. -/
def systabFindsWrong : ChangeSpec := { name := "systabFinds", fn := fun _ => fun
  | [d1, d2, d3] => { results := [.lit (.bool false)], args := [d1, d2, d3] }
  | _ => none }
def SystabFindsWrongFalsely : Prop := systabFindsRow.holds Try.pinned (OpenSpec.ofChange systabFindsWrong)

/-- 'strainerlaw12.MuxCalls': WHATEVER THE INPUT: true; the input reads as it did. -/
def muxCallsSpec : ChangeSpec := { name := "muxCalls", fn := fun _ => fun
  | [d1, d2] => { results := [.lit (.bool true)], args := [d1, d2] }
  | _ => none }
def muxCallsRow : OpenClaim := { program := "ytlninlempefjcaa", sum := "9ea23108986e67f48b61b7261cd1e1ef7634a75061317a1e5586a8d12a33bdee", func := "strainer/strainerlaw12.MuxCalls", spec := "muxCalls", unfollowed := true, recurses := true, apart := false }
def MuxCallsSaid : Prop := muxCallsRow.holds Try.pinned (OpenSpec.ofChange muxCallsSpec)

/-- ITS FALSE NEIGHBOUR: 'it returns false'. Refute it at one input. -/
def muxCallsWrong : ChangeSpec := { name := "muxCalls", fn := fun _ => fun
  | [d1, d2] => { results := [.lit (.bool false)], args := [d1, d2] }
  | _ => none }
def MuxCallsWrongFalsely : Prop := muxCallsRow.holds Try.pinned (OpenSpec.ofChange muxCallsWrong)

/-- 'strainerlaw12.MuxWays': WHATEVER THE INPUT: true; the input reads as it did. -/
def muxWaysSpec : ChangeSpec := { name := "muxWays", fn := fun _ => fun
  | [d1, d2, d3] => { results := [.lit (.bool true)], args := [d1, d2, d3] }
  | _ => none }
def muxWaysRow : OpenClaim := { program := "ytlninlempefjcaa", sum := "9ea23108986e67f48b61b7261cd1e1ef7634a75061317a1e5586a8d12a33bdee", func := "strainer/strainerlaw12.MuxWays", spec := "muxWays", unfollowed := true, recurses := true, apart := false }
def MuxWaysSaid : Prop := muxWaysRow.holds Try.pinned (OpenSpec.ofChange muxWaysSpec)

/-- ITS FALSE NEIGHBOUR: 'it returns false'. Refute it at one input. -/
def muxWaysWrong : ChangeSpec := { name := "muxWays", fn := fun _ => fun
  | [d1, d2, d3] => { results := [.lit (.bool false)], args := [d1, d2, d3] }
  | _ => none }
def MuxWaysWrongFalsely : Prop := muxWaysRow.holds Try.pinned (OpenSpec.ofChange muxWaysWrong)

/-- 'strainerlaw12.MuxBlind': WHATEVER THE INPUT: true; the input reads as it did. -/
def muxBlindSpec : ChangeSpec := { name := "muxBlind", fn := fun _ => fun
  | [d] => { results := [.lit (.bool true)], args := [d] }
  | _ => none }
def muxBlindRow : OpenClaim := { program := "ytlninlempefjcaa", sum := "9ea23108986e67f48b61b7261cd1e1ef7634a75061317a1e5586a8d12a33bdee", func := "strainer/strainerlaw12.MuxBlind", spec := "muxBlind", unfollowed := true, recurses := true, apart := false }
def MuxBlindSaid : Prop := muxBlindRow.holds Try.pinned (OpenSpec.ofChange muxBlindSpec)

/-- ITS FALSE NEIGHBOUR: 'it returns false'. Refute it at one input. -/
def muxBlindWrong : ChangeSpec := { name := "muxBlind", fn := fun _ => fun
  | [d] => { results := [.lit (.bool false)], args := [d] }
  | _ => none }
def MuxBlindWrongFalsely : Prop := muxBlindRow.holds Try.pinned (OpenSpec.ofChange muxBlindWrong)

/-- 'strainerlaw12.MuxReaches': WHATEVER THE INPUT: true; the input reads as it did. -/
def muxReachesSpec : ChangeSpec := { name := "muxReaches", fn := fun _ => fun
  | [d1, d2, d3] => { results := [.lit (.bool true)], args := [d1, d2, d3] }
  | _ => none }
def muxReachesRow : OpenClaim := { program := "ytlninlempefjcaa", sum := "9ea23108986e67f48b61b7261cd1e1ef7634a75061317a1e5586a8d12a33bdee", func := "strainer/strainerlaw12.MuxReaches", spec := "muxReaches", unfollowed := true, recurses := true, apart := false }
def MuxReachesSaid : Prop := muxReachesRow.holds Try.pinned (OpenSpec.ofChange muxReachesSpec)

/-- ITS FALSE NEIGHBOUR: 'it returns false'. Refute it at one input. -/
def muxReachesWrong : ChangeSpec := { name := "muxReaches", fn := fun _ => fun
  | [d1, d2, d3] => { results := [.lit (.bool false)], args := [d1, d2, d3] }
  | _ => none }
def MuxReachesWrongFalsely : Prop := muxReachesRow.holds Try.pinned (OpenSpec.ofChange muxReachesWrong)

/- THE SECOND FORM. 'bulk': how many values and letters a reading holds, each counted each time it is reached (what is shared counts as often as it is met; a slice's spare places count too). A statement '..UptoSaid' is the law's where the arguments, and the package variables that the reading takes, are together of bulk at most 1048576: NARROWER than '..Said'. Prove '..Said' where nothing that the law and all that it calls make is longer than what came in: it says more and counts as full. Else prove '..UptoSaid'. A law counts once. -/
mutual
def uptoBulk {H : Type} : DataW H → Nat
  | .lit (.string bytes) => bytes.length + 1
  | .lit _ => 1
  | .nil => 1
  | .ptr d => uptoBulk d + 1
  | .slice elems spare => uptoBulkAll elems + uptoBulkAll spare + 1
  | .agg parts => uptoBulkAll parts + 1
  | .iface _ d => uptoBulk d + 1
  | .map entries => uptoBulkEntries entries + 1
  | .held _ => 1
def uptoBulkAll {H : Type} : List (DataW H) → Nat
  | [] => 0
  | d :: r => uptoBulk d + uptoBulkAll r
def uptoBulkEntries {H : Type} : List (Lit × DataW H) → Nat
  | [] => 0
  | x :: r => uptoBulkEntry x + uptoBulkEntries r
def uptoBulkEntry {H : Type} : Lit × DataW H → Nat
  | (.string bytes, d) => bytes.length + uptoBulk d + 1
  | (_, d) => uptoBulk d + 1
 end
def uptoSmall : (H : Type) → List (DataW H) → Bool := fun _ ds => decide (uptoBulkAll ds ≤ 1048576)
def OpenSpec.upto (s : _root_.Go.ChangeSpec) : _root_.Go.OpenSpec := { _root_.Go.OpenSpec.ofChange s with cond := some uptoSmall }

/-- 'strainerlaw11.SystabFinds', WHERE WHAT IT READS IS OF BULK AT MOST 1048576: true; the input reads as it did. -/
def systabFindsUptoRow : OpenClaim := { program := "ytlninlempefjcaa", sum := "9ea23108986e67f48b61b7261cd1e1ef7634a75061317a1e5586a8d12a33bdee", func := "strainer/strainerlaw11.SystabFinds", spec := "systabFinds", unfollowed := true, recurses := true, apart := false, narrowed := true }
def SystabFindsUptoSaid : Prop := systabFindsUptoRow.holds Try.pinned (OpenSpec.upto systabFindsSpec)

/-- 'strainerlaw12.MuxCalls', WHERE WHAT IT READS IS OF BULK AT MOST 1048576: true; the input reads as it did. -/
def muxCallsUptoRow : OpenClaim := { program := "ytlninlempefjcaa", sum := "9ea23108986e67f48b61b7261cd1e1ef7634a75061317a1e5586a8d12a33bdee", func := "strainer/strainerlaw12.MuxCalls", spec := "muxCalls", unfollowed := true, recurses := true, apart := false, narrowed := true }
def MuxCallsUptoSaid : Prop := muxCallsUptoRow.holds Try.pinned (OpenSpec.upto muxCallsSpec)

/-- 'strainerlaw12.MuxWays', WHERE WHAT IT READS IS OF BULK AT MOST 1048576: true; the input reads as it did. -/
def muxWaysUptoRow : OpenClaim := { program := "ytlninlempefjcaa", sum := "9ea23108986e67f48b61b7261cd1e1ef7634a75061317a1e5586a8d12a33bdee", func := "strainer/strainerlaw12.MuxWays", spec := "muxWays", unfollowed := true, recurses := true, apart := false, narrowed := true }
def MuxWaysUptoSaid : Prop := muxWaysUptoRow.holds Try.pinned (OpenSpec.upto muxWaysSpec)

/-- 'strainerlaw12.MuxBlind', WHERE WHAT IT READS IS OF BULK AT MOST 1048576: true; the input reads as it did. -/
def muxBlindUptoRow : OpenClaim := { program := "ytlninlempefjcaa", sum := "9ea23108986e67f48b61b7261cd1e1ef7634a75061317a1e5586a8d12a33bdee", func := "strainer/strainerlaw12.MuxBlind", spec := "muxBlind", unfollowed := true, recurses := true, apart := false, narrowed := true }
def MuxBlindUptoSaid : Prop := muxBlindUptoRow.holds Try.pinned (OpenSpec.upto muxBlindSpec)

/-- 'strainerlaw12.MuxReaches', WHERE WHAT IT READS IS OF BULK AT MOST 1048576: true; the input reads as it did. -/
def muxReachesUptoRow : OpenClaim := { program := "ytlninlempefjcaa", sum := "9ea23108986e67f48b61b7261cd1e1ef7634a75061317a1e5586a8d12a33bdee", func := "strainer/strainerlaw12.MuxReaches", spec := "muxReaches", unfollowed := true, recurses := true, apart := false, narrowed := true }
def MuxReachesUptoSaid : Prop := muxReachesUptoRow.holds Try.pinned (OpenSpec.upto muxReachesSpec)

end Rows
end Go.Proofs.Ytlninlempefjcaa
