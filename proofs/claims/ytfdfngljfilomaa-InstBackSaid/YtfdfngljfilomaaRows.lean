/-
  No cell of these rows narrows 'for every input' (looked for: loops, veiled, ifaces, maps, wideKeys, modest, calm, conditions, laid).
  DERIVED. THE GIVEN ROWS OF THIS SEAT. 12 by the template 'for every input the law returns true; each argument reads behind the call as it read before'; 0 by the template 'total and deterministic' (their statements: YtfdfngljfilomaaTotals.lean).
  GIVEN WITH THE SEED: the statements are not yours to turn. If you find one false, say at which input.
  Laid BY PROGRAM, IN A SANDBOX (cutbox-rows.mjs): the forced cells as the released guide's own fill.sh prints them over the translation 7da260aa8bb6a25c… (all of the seat's roots in one cut). By AI agents, Wed Nov 11 2026. No macro, syntax, notation, axiom, sorry.
-/
import Derived.Test.YtfdfngljfilomaaChecked
import GoSem.Claim
import GoSem.ClaimJoined
import GoSem.ClaimMapViews
import Derived.JoinedTies
import Derived.KernelRfl
namespace Go.Proofs.Ytfdfngljfilomaa
/- THE CELL 'sum', in the pinned program and in every row, IS THE sha256 OF THE DUMP (.gsa) THAT YtfdfngljfilomaaProg.lean LOADS. Nothing in Lean hashes anything: it is a label: what it is worth is what the hold of that sum in a sandbox is worth. -/
noncomputable def Try.pinned : Pinned := { name := "ytfdfngljfilomaa", sum := "7da260aa8bb6a25cc3da5a7784dab72bb80084da54a16955b200cf0b1115e5b4", checked := Try.checked }
namespace Rows
def none {H : Type} : Left H := { results := [], args := [] }

/-- 'strainerlaw01.WordGets': WHATEVER THE INPUT: true; the input reads as it did. -/
def wordGetsSpec : ChangeSpec := { name := "wordGets", fn := fun _ => fun
  | [d1, d2] => { results := [.lit (.bool true)], args := [d1, d2] }
  | _ => none }
def wordGetsRow : OpenClaim := { program := "ytfdfngljfilomaa", sum := "7da260aa8bb6a25cc3da5a7784dab72bb80084da54a16955b200cf0b1115e5b4", func := "strainer/strainerlaw01.WordGets", spec := "wordGets", unfollowed := true, recurses := true, apart := false }
def WordGetsSaid : Prop := wordGetsRow.holds Try.pinned (OpenSpec.ofChange wordGetsSpec)

/-- ITS FALSE NEIGHBOUR: 'it returns false'. Refute it at one input. -/
def wordGetsWrong : ChangeSpec := { name := "wordGets", fn := fun _ => fun
  | [d1, d2] => { results := [.lit (.bool false)], args := [d1, d2] }
  | _ => none }
def WordGetsWrongFalsely : Prop := wordGetsRow.holds Try.pinned (OpenSpec.ofChange wordGetsWrong)

/-- 'strainerlaw01.WordPuts': WHATEVER THE INPUT: true; the input reads as it did. -/
def wordPutsSpec : ChangeSpec := { name := "wordPuts", fn := fun _ => fun
  | [d1, d2, d3] => { results := [.lit (.bool true)], args := [d1, d2, d3] }
  | _ => none }
def wordPutsRow : OpenClaim := { program := "ytfdfngljfilomaa", sum := "7da260aa8bb6a25cc3da5a7784dab72bb80084da54a16955b200cf0b1115e5b4", func := "strainer/strainerlaw01.WordPuts", spec := "wordPuts", unfollowed := true, recurses := true, apart := false }
def WordPutsSaid : Prop := wordPutsRow.holds Try.pinned (OpenSpec.ofChange wordPutsSpec)

/-- ITS FALSE NEIGHBOUR: 'it returns false'. Refute it at one input. -/
def wordPutsWrong : ChangeSpec := { name := "wordPuts", fn := fun _ => fun
  | [d1, d2, d3] => { results := [.lit (.bool false)], args := [d1, d2, d3] }
  | _ => none }
def WordPutsWrongFalsely : Prop := wordPutsRow.holds Try.pinned (OpenSpec.ofChange wordPutsWrong)

/-- 'strainerlaw01.WordHalves': WHATEVER THE INPUT: true; the input reads as it did. -/
def wordHalvesSpec : ChangeSpec := { name := "wordHalves", fn := fun _ => fun
  | [d1, d2, d3] => { results := [.lit (.bool true)], args := [d1, d2, d3] }
  | _ => none }
def wordHalvesRow : OpenClaim := { program := "ytfdfngljfilomaa", sum := "7da260aa8bb6a25cc3da5a7784dab72bb80084da54a16955b200cf0b1115e5b4", func := "strainer/strainerlaw01.WordHalves", spec := "wordHalves", unfollowed := true, recurses := true, apart := false }
def WordHalvesSaid : Prop := wordHalvesRow.holds Try.pinned (OpenSpec.ofChange wordHalvesSpec)

/-- ITS FALSE NEIGHBOUR: 'it returns false'. Refute it at one input. -/
def wordHalvesWrong : ChangeSpec := { name := "wordHalves", fn := fun _ => fun
  | [d1, d2, d3] => { results := [.lit (.bool false)], args := [d1, d2, d3] }
  | _ => none }
def WordHalvesWrongFalsely : Prop := wordHalvesRow.holds Try.pinned (OpenSpec.ofChange wordHalvesWrong)

/-- 'strainerlaw01.WordBack': WHATEVER THE INPUT: true; the input reads as it did. -/
def wordBackSpec : ChangeSpec := { name := "wordBack", fn := fun _ => fun
  | [d1, d2, d3] => { results := [.lit (.bool true)], args := [d1, d2, d3] }
  | _ => none }
def wordBackRow : OpenClaim := { program := "ytfdfngljfilomaa", sum := "7da260aa8bb6a25cc3da5a7784dab72bb80084da54a16955b200cf0b1115e5b4", func := "strainer/strainerlaw01.WordBack", spec := "wordBack", unfollowed := true, recurses := true, apart := false }
def WordBackSaid : Prop := wordBackRow.holds Try.pinned (OpenSpec.ofChange wordBackSpec)

/-- ITS FALSE NEIGHBOUR: 'it returns false'. Refute it at one input. -/
def wordBackWrong : ChangeSpec := { name := "wordBack", fn := fun _ => fun
  | [d1, d2, d3] => { results := [.lit (.bool false)], args := [d1, d2, d3] }
  | _ => none }
def WordBackWrongFalsely : Prop := wordBackRow.holds Try.pinned (OpenSpec.ofChange wordBackWrong)

/-- 'strainerlaw01.WordTurns': WHATEVER THE INPUT: true; the input reads as it did. -/
def wordTurnsSpec : ChangeSpec := { name := "wordTurns", fn := fun _ => fun
  | [d1, d2] => { results := [.lit (.bool true)], args := [d1, d2] }
  | _ => none }
def wordTurnsRow : OpenClaim := { program := "ytfdfngljfilomaa", sum := "7da260aa8bb6a25cc3da5a7784dab72bb80084da54a16955b200cf0b1115e5b4", func := "strainer/strainerlaw01.WordTurns", spec := "wordTurns", unfollowed := true, recurses := true, apart := false }
def WordTurnsSaid : Prop := wordTurnsRow.holds Try.pinned (OpenSpec.ofChange wordTurnsSpec)

/-- ITS FALSE NEIGHBOUR: 'it returns false'. Refute it at one input. -/
def wordTurnsWrong : ChangeSpec := { name := "wordTurns", fn := fun _ => fun
  | [d1, d2] => { results := [.lit (.bool false)], args := [d1, d2] }
  | _ => none }
def WordTurnsWrongFalsely : Prop := wordTurnsRow.holds Try.pinned (OpenSpec.ofChange wordTurnsWrong)

/-- 'strainerlaw01.WordSplits': WHATEVER THE INPUT: true; the input reads as it did. -/
def wordSplitsSpec : ChangeSpec := { name := "wordSplits", fn := fun _ => fun
  | [d1, d2] => { results := [.lit (.bool true)], args := [d1, d2] }
  | _ => none }
def wordSplitsRow : OpenClaim := { program := "ytfdfngljfilomaa", sum := "7da260aa8bb6a25cc3da5a7784dab72bb80084da54a16955b200cf0b1115e5b4", func := "strainer/strainerlaw01.WordSplits", spec := "wordSplits", unfollowed := true, recurses := true, apart := false }
def WordSplitsSaid : Prop := wordSplitsRow.holds Try.pinned (OpenSpec.ofChange wordSplitsSpec)

/-- ITS FALSE NEIGHBOUR: 'it returns false'. Refute it at one input. -/
def wordSplitsWrong : ChangeSpec := { name := "wordSplits", fn := fun _ => fun
  | [d1, d2] => { results := [.lit (.bool false)], args := [d1, d2] }
  | _ => none }
def WordSplitsWrongFalsely : Prop := wordSplitsRow.holds Try.pinned (OpenSpec.ofChange wordSplitsWrong)

/-- 'strainerlaw02.InstCodes': WHATEVER THE INPUT: true; the input reads as it did. -/
def instCodesSpec : ChangeSpec := { name := "instCodes", fn := fun _ => fun
  | [d] => { results := [.lit (.bool true)], args := [d] }
  | _ => none }
def instCodesRow : OpenClaim := { program := "ytfdfngljfilomaa", sum := "7da260aa8bb6a25cc3da5a7784dab72bb80084da54a16955b200cf0b1115e5b4", func := "strainer/strainerlaw02.InstCodes", spec := "instCodes", unfollowed := true, recurses := true, apart := false }
def InstCodesSaid : Prop := instCodesRow.holds Try.pinned (OpenSpec.ofChange instCodesSpec)

/-- ITS FALSE NEIGHBOUR: 'it returns false'. Refute it at one input. -/
def instCodesWrong : ChangeSpec := { name := "instCodes", fn := fun _ => fun
  | [d] => { results := [.lit (.bool false)], args := [d] }
  | _ => none }
def InstCodesWrongFalsely : Prop := instCodesRow.holds Try.pinned (OpenSpec.ofChange instCodesWrong)

/-- 'strainerlaw02.InstWrites': WHATEVER THE INPUT: true; the input reads as it did. -/
def instWritesSpec : ChangeSpec := { name := "instWrites", fn := fun _ => fun
  | [d] => { results := [.lit (.bool true)], args := [d] }
  | _ => none }
def instWritesRow : OpenClaim := { program := "ytfdfngljfilomaa", sum := "7da260aa8bb6a25cc3da5a7784dab72bb80084da54a16955b200cf0b1115e5b4", func := "strainer/strainerlaw02.InstWrites", spec := "instWrites", unfollowed := true, recurses := true, apart := false }
def InstWritesSaid : Prop := instWritesRow.holds Try.pinned (OpenSpec.ofChange instWritesSpec)

/-- ITS FALSE NEIGHBOUR: 'it returns false'. Refute it at one input. -/
def instWritesWrong : ChangeSpec := { name := "instWrites", fn := fun _ => fun
  | [d] => { results := [.lit (.bool false)], args := [d] }
  | _ => none }
def InstWritesWrongFalsely : Prop := instWritesRow.holds Try.pinned (OpenSpec.ofChange instWritesWrong)

/-- 'strainerlaw02.InstReads': WHATEVER THE INPUT: true; the input reads as it did. -/
def instReadsSpec : ChangeSpec := { name := "instReads", fn := fun _ => fun
  | [d] => { results := [.lit (.bool true)], args := [d] }
  | _ => none }
def instReadsRow : OpenClaim := { program := "ytfdfngljfilomaa", sum := "7da260aa8bb6a25cc3da5a7784dab72bb80084da54a16955b200cf0b1115e5b4", func := "strainer/strainerlaw02.InstReads", spec := "instReads", unfollowed := true, recurses := true, apart := false }
def InstReadsSaid : Prop := instReadsRow.holds Try.pinned (OpenSpec.ofChange instReadsSpec)

/-- ITS FALSE NEIGHBOUR: 'it returns false'. Refute it at one input. -/
def instReadsWrong : ChangeSpec := { name := "instReads", fn := fun _ => fun
  | [d] => { results := [.lit (.bool false)], args := [d] }
  | _ => none }
def InstReadsWrongFalsely : Prop := instReadsRow.holds Try.pinned (OpenSpec.ofChange instReadsWrong)

/-- 'strainerlaw02.InstBack': WHATEVER THE INPUT: true; the input reads as it did. -/
def instBackSpec : ChangeSpec := { name := "instBack", fn := fun _ => fun
  | [d1, d2] => { results := [.lit (.bool true)], args := [d1, d2] }
  | _ => none }
def instBackRow : OpenClaim := { program := "ytfdfngljfilomaa", sum := "7da260aa8bb6a25cc3da5a7784dab72bb80084da54a16955b200cf0b1115e5b4", func := "strainer/strainerlaw02.InstBack", spec := "instBack", unfollowed := true, recurses := true, apart := false }
def InstBackSaid : Prop := instBackRow.holds Try.pinned (OpenSpec.ofChange instBackSpec)

/-- ITS FALSE NEIGHBOUR: 'it returns false'. Refute it at one input. -/
def instBackWrong : ChangeSpec := { name := "instBack", fn := fun _ => fun
  | [d1, d2] => { results := [.lit (.bool false)], args := [d1, d2] }
  | _ => none }
def InstBackWrongFalsely : Prop := instBackRow.holds Try.pinned (OpenSpec.ofChange instBackWrong)

/-- 'strainerlaw02.InstLong': WHATEVER THE INPUT: true; the input reads as it did. -/
def instLongSpec : ChangeSpec := { name := "instLong", fn := fun _ => fun
  | [d] => { results := [.lit (.bool true)], args := [d] }
  | _ => none }
def instLongRow : OpenClaim := { program := "ytfdfngljfilomaa", sum := "7da260aa8bb6a25cc3da5a7784dab72bb80084da54a16955b200cf0b1115e5b4", func := "strainer/strainerlaw02.InstLong", spec := "instLong", unfollowed := true, recurses := true, apart := false }
def InstLongSaid : Prop := instLongRow.holds Try.pinned (OpenSpec.ofChange instLongSpec)

/-- ITS FALSE NEIGHBOUR: 'it returns false'. Refute it at one input. -/
def instLongWrong : ChangeSpec := { name := "instLong", fn := fun _ => fun
  | [d] => { results := [.lit (.bool false)], args := [d] }
  | _ => none }
def InstLongWrongFalsely : Prop := instLongRow.holds Try.pinned (OpenSpec.ofChange instLongWrong)

/-- 'strainerlaw02.InstSources': WHATEVER THE INPUT: true; the input reads as it did. -/
def instSourcesSpec : ChangeSpec := { name := "instSources", fn := fun _ => fun
  | [d1, d2] => { results := [.lit (.bool true)], args := [d1, d2] }
  | _ => none }
def instSourcesRow : OpenClaim := { program := "ytfdfngljfilomaa", sum := "7da260aa8bb6a25cc3da5a7784dab72bb80084da54a16955b200cf0b1115e5b4", func := "strainer/strainerlaw02.InstSources", spec := "instSources", unfollowed := true, recurses := true, apart := false }
def InstSourcesSaid : Prop := instSourcesRow.holds Try.pinned (OpenSpec.ofChange instSourcesSpec)

/-- ITS FALSE NEIGHBOUR: 'it returns false'. Refute it at one input. -/
def instSourcesWrong : ChangeSpec := { name := "instSources", fn := fun _ => fun
  | [d1, d2] => { results := [.lit (.bool false)], args := [d1, d2] }
  | _ => none }
def InstSourcesWrongFalsely : Prop := instSourcesRow.holds Try.pinned (OpenSpec.ofChange instSourcesWrong)

/- THE SECOND FORM. 'bulk': how many values and letters a reading holds, each counted each time it is reached (what is shared counts as often as it is met; a slice's spare places count too). A statement '..UptoSaid' is the law's where the arguments, and the package variables that the reading takes, are together of bulk at most 1048576: NARROWER than '..Said'. Prove '..Said' where nothing that the law and all that it calls make is longer than what came in: it says more and counts as full. Else prove '..UptoSaid'. A law counts once. -/
mutual
def uptoBulk {H : Type} : DataW H → Nat
  | .lit (.string bytes) => bytes.length + 1
  | .lit _ => 1
  | .nil => 1
  | .ptr d => uptoBulk d + 1
  | .slice elems spare => uptoBulkAll elems + uptoBulkAll spare + 1
  | .agg parts => uptoBulkAll parts + 1
  | .iface _ d => uptoBulk d + 1
  | .map entries => uptoBulkEntries entries + 1
  | .held _ => 1
def uptoBulkAll {H : Type} : List (DataW H) → Nat
  | [] => 0
  | d :: r => uptoBulk d + uptoBulkAll r
def uptoBulkEntries {H : Type} : List (Lit × DataW H) → Nat
  | [] => 0
  | x :: r => uptoBulkEntry x + uptoBulkEntries r
def uptoBulkEntry {H : Type} : Lit × DataW H → Nat
  | (.string bytes, d) => bytes.length + uptoBulk d + 1
  | (_, d) => uptoBulk d + 1
 end
def uptoSmall : (H : Type) → List (DataW H) → Bool := fun _ ds => decide (uptoBulkAll ds ≤ 1048576)
def OpenSpec.upto (s : _root_.Go.ChangeSpec) : _root_.Go.OpenSpec := { _root_.Go.OpenSpec.ofChange s with cond := some uptoSmall }

/-- 'strainerlaw01.WordGets', WHERE WHAT IT READS IS OF BULK AT MOST 1048576: true; the input reads as it did. -/
def wordGetsUptoRow : OpenClaim := { program := "ytfdfngljfilomaa", sum := "7da260aa8bb6a25cc3da5a7784dab72bb80084da54a16955b200cf0b1115e5b4", func := "strainer/strainerlaw01.WordGets", spec := "wordGets", unfollowed := true, recurses := true, apart := false, narrowed := true }
def WordGetsUptoSaid : Prop := wordGetsUptoRow.holds Try.pinned (OpenSpec.upto wordGetsSpec)

/-- 'strainerlaw01.WordPuts', WHERE WHAT IT READS IS OF BULK AT MOST 1048576: true; the input reads as it did. -/
def wordPutsUptoRow : OpenClaim := { program := "ytfdfngljfilomaa", sum := "7da260aa8bb6a25cc3da5a7784dab72bb80084da54a16955b200cf0b1115e5b4", func := "strainer/strainerlaw01.WordPuts", spec := "wordPuts", unfollowed := true, recurses := true, apart := false, narrowed := true }
def WordPutsUptoSaid : Prop := wordPutsUptoRow.holds Try.pinned (OpenSpec.upto wordPutsSpec)

/-- 'strainerlaw01.WordHalves', WHERE WHAT IT READS IS OF BULK AT MOST 1048576: true; the input reads as it did. -/
def wordHalvesUptoRow : OpenClaim := { program := "ytfdfngljfilomaa", sum := "7da260aa8bb6a25cc3da5a7784dab72bb80084da54a16955b200cf0b1115e5b4", func := "strainer/strainerlaw01.WordHalves", spec := "wordHalves", unfollowed := true, recurses := true, apart := false, narrowed := true }
def WordHalvesUptoSaid : Prop := wordHalvesUptoRow.holds Try.pinned (OpenSpec.upto wordHalvesSpec)

/-- 'strainerlaw01.WordBack', WHERE WHAT IT READS IS OF BULK AT MOST 1048576: true; the input reads as it did. -/
def wordBackUptoRow : OpenClaim := { program := "ytfdfngljfilomaa", sum := "7da260aa8bb6a25cc3da5a7784dab72bb80084da54a16955b200cf0b1115e5b4", func := "strainer/strainerlaw01.WordBack", spec := "wordBack", unfollowed := true, recurses := true, apart := false, narrowed := true }
def WordBackUptoSaid : Prop := wordBackUptoRow.holds Try.pinned (OpenSpec.upto wordBackSpec)

/-- 'strainerlaw01.WordTurns', WHERE WHAT IT READS IS OF BULK AT MOST 1048576: true; the input reads as it did. -/
def wordTurnsUptoRow : OpenClaim := { program := "ytfdfngljfilomaa", sum := "7da260aa8bb6a25cc3da5a7784dab72bb80084da54a16955b200cf0b1115e5b4", func := "strainer/strainerlaw01.WordTurns", spec := "wordTurns", unfollowed := true, recurses := true, apart := false, narrowed := true }
def WordTurnsUptoSaid : Prop := wordTurnsUptoRow.holds Try.pinned (OpenSpec.upto wordTurnsSpec)

/-- 'strainerlaw01.WordSplits', WHERE WHAT IT READS IS OF BULK AT MOST 1048576: true; the input reads as it did. -/
def wordSplitsUptoRow : OpenClaim := { program := "ytfdfngljfilomaa", sum := "7da260aa8bb6a25cc3da5a7784dab72bb80084da54a16955b200cf0b1115e5b4", func := "strainer/strainerlaw01.WordSplits", spec := "wordSplits", unfollowed := true, recurses := true, apart := false, narrowed := true }
def WordSplitsUptoSaid : Prop := wordSplitsUptoRow.holds Try.pinned (OpenSpec.upto wordSplitsSpec)

/-- 'strainerlaw02.InstCodes', WHERE WHAT IT READS IS OF BULK AT MOST 1048576: true; the input reads as it did. -/
def instCodesUptoRow : OpenClaim := { program := "ytfdfngljfilomaa", sum := "7da260aa8bb6a25cc3da5a7784dab72bb80084da54a16955b200cf0b1115e5b4", func := "strainer/strainerlaw02.InstCodes", spec := "instCodes", unfollowed := true, recurses := true, apart := false, narrowed := true }
def InstCodesUptoSaid : Prop := instCodesUptoRow.holds Try.pinned (OpenSpec.upto instCodesSpec)

/-- 'strainerlaw02.InstWrites', WHERE WHAT IT READS IS OF BULK AT MOST 1048576: true; the input reads as it did. -/
def instWritesUptoRow : OpenClaim := { program := "ytfdfngljfilomaa", sum := "7da260aa8bb6a25cc3da5a7784dab72bb80084da54a16955b200cf0b1115e5b4", func := "strainer/strainerlaw02.InstWrites", spec := "instWrites", unfollowed := true, recurses := true, apart := false, narrowed := true }
def InstWritesUptoSaid : Prop := instWritesUptoRow.holds Try.pinned (OpenSpec.upto instWritesSpec)

/-- 'strainerlaw02.InstReads', WHERE WHAT IT READS IS OF BULK AT MOST 1048576: true; the input reads as it did. -/
def instReadsUptoRow : OpenClaim := { program := "ytfdfngljfilomaa", sum := "7da260aa8bb6a25cc3da5a7784dab72bb80084da54a16955b200cf0b1115e5b4", func := "strainer/strainerlaw02.InstReads", spec := "instReads", unfollowed := true, recurses := true, apart := false, narrowed := true }
def InstReadsUptoSaid : Prop := instReadsUptoRow.holds Try.pinned (OpenSpec.upto instReadsSpec)

/-- 'strainerlaw02.InstBack', WHERE WHAT IT READS IS OF BULK AT MOST 1048576: true; the input reads as it did. -/
def instBackUptoRow : OpenClaim := { program := "ytfdfngljfilomaa", sum := "7da260aa8bb6a25cc3da5a7784dab72bb80084da54a16955b200cf0b1115e5b4", func := "strainer/strainerlaw02.InstBack", spec := "instBack", unfollowed := true, recurses := true, apart := false, narrowed := true }
def InstBackUptoSaid : Prop := instBackUptoRow.holds Try.pinned (OpenSpec.upto instBackSpec)

/-- 'strainerlaw02.InstLong', WHERE WHAT IT READS IS OF BULK AT MOST 1048576: true; the input reads as it did. -/
def instLongUptoRow : OpenClaim := { program := "ytfdfngljfilomaa", sum := "7da260aa8bb6a25cc3da5a7784dab72bb80084da54a16955b200cf0b1115e5b4", func := "strainer/strainerlaw02.InstLong", spec := "instLong", unfollowed := true, recurses := true, apart := false, narrowed := true }
def InstLongUptoSaid : Prop := instLongUptoRow.holds Try.pinned (OpenSpec.upto instLongSpec)

/-- 'strainerlaw02.InstSources', WHERE WHAT IT READS IS OF BULK AT MOST 1048576: true; the input reads as it did. -/
def instSourcesUptoRow : OpenClaim := { program := "ytfdfngljfilomaa", sum := "7da260aa8bb6a25cc3da5a7784dab72bb80084da54a16955b200cf0b1115e5b4", func := "strainer/strainerlaw02.InstSources", spec := "instSources", unfollowed := true, recurses := true, apart := false, narrowed := true }
def InstSourcesUptoSaid : Prop := instSourcesUptoRow.holds Try.pinned (OpenSpec.upto instSourcesSpec)

end Rows
end Go.Proofs.Ytfdfngljfilomaa
