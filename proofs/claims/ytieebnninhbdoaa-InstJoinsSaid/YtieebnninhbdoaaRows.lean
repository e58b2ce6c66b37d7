/-
  No cell of these rows narrows 'for every input' (looked for: loops, veiled, ifaces, maps, wideKeys, modest, calm, conditions, laid).
  DERIVED. THE GIVEN ROWS OF THIS SEAT. 7 by the template 'for every input the law returns true; each argument reads behind the call as it read before'; 0 by the template 'total and deterministic' (their statements: YtieebnninhbdoaaTotals.lean).
  GIVEN WITH THE SEED: the statements are not yours to turn. If you find one false, say at which input.
  Laid BY PROGRAM, IN A SANDBOX (cutbox-rows.mjs): the forced cells as the released guide's own fill.sh prints them over the translation 7825c727cd5ca367… (all of the seat's roots in one cut). By AI agents, Wed Nov 11 2026. No macro, syntax, notation, axiom, sorry.
-/
import Derived.Test.YtieebnninhbdoaaChecked
import GoSem.Claim
import GoSem.ClaimJoined
import GoSem.ClaimMapViews
import Derived.JoinedTies
import Derived.KernelRfl
namespace Go.Proofs.Ytieebnninhbdoaa
/- THE CELL 'sum', in the pinned program and in every row, IS THE sha256 OF THE DUMP (.gsa) THAT YtieebnninhbdoaaProg.lean LOADS. Nothing in Lean hashes anything: it is a label: what it is worth is what the hold of that sum in a sandbox is worth. -/
noncomputable def Try.pinned : Pinned := { name := "ytieebnninhbdoaa", sum := "7825c727cd5ca36737797cef2d31380d7e234042fccddc16ef59784fd0cc7268", checked := Try.checked }
namespace Rows
def none {H : Type} : Left H := { results := [], args := [] }

/-- 'strainerlaw13.LexLines': WHATEVER THE INPUT: true; the input reads as it did. -/
def lexLinesSpec : ChangeSpec := { name := "lexLines", fn := fun _ => fun
  | [d] => { results := [.lit (.bool true)], args := [d] }
  | _ => none }
def lexLinesRow : OpenClaim := { program := "ytieebnninhbdoaa", sum := "7825c727cd5ca36737797cef2d31380d7e234042fccddc16ef59784fd0cc7268", func := "strainer/strainerlaw13.LexLines", spec := "lexLines", inPlace := ["internal/bytealg.IndexByteString", "internal/bytealg.IndexString"], unfollowed := true, recurses := true, named := ["internal/bytealg.MaxLen"], apart := false }
def LexLinesSaid : Prop := lexLinesRow.holds Try.pinned (OpenSpec.ofChange lexLinesSpec)

/-- ITS FALSE NEIGHBOUR: 'it returns false'. Refute it at one input. -/
def lexLinesWrong : ChangeSpec := { name := "lexLines", fn := fun _ => fun
  | [d] => { results := [.lit (.bool false)], args := [d] }
  | _ => none }
def LexLinesWrongFalsely : Prop := lexLinesRow.holds Try.pinned (OpenSpec.ofChange lexLinesWrong)

/-- 'strainerlaw13.LexJoins': WHATEVER THE INPUT: true; the input reads as it did. -/
def lexJoinsSpec : ChangeSpec := { name := "lexJoins", fn := fun _ => fun
  | [d] => { results := [.lit (.bool true)], args := [d] }
  | _ => none }
def lexJoinsRow : OpenClaim := { program := "ytieebnninhbdoaa", sum := "7825c727cd5ca36737797cef2d31380d7e234042fccddc16ef59784fd0cc7268", func := "strainer/strainerlaw13.LexJoins", spec := "lexJoins", inPlace := ["internal/bytealg.IndexByteString", "internal/bytealg.IndexString", "internal/abi.NoEscape", "internal/bytealg.MakeNoZero"], unfollowed := true, recurses := true, named := ["internal/bytealg.MaxLen"], apart := false }
def LexJoinsSaid : Prop := lexJoinsRow.holds Try.pinned (OpenSpec.ofChange lexJoinsSpec)

/-- ITS FALSE NEIGHBOUR: 'it returns false'. Refute it at one input. -/
def lexJoinsWrong : ChangeSpec := { name := "lexJoins", fn := fun _ => fun
  | [d] => { results := [.lit (.bool false)], args := [d] }
  | _ => none }
def LexJoinsWrongFalsely : Prop := lexJoinsRow.holds Try.pinned (OpenSpec.ofChange lexJoinsWrong)

/-- 'strainerlaw13.LexNotes': WHATEVER THE INPUT: true; the input reads as it did. -/
def lexNotesSpec : ChangeSpec := { name := "lexNotes", fn := fun _ => fun
  | [d1, d2] => { results := [.lit (.bool true)], args := [d1, d2] }
  | _ => none }
def lexNotesRow : OpenClaim := { program := "ytieebnninhbdoaa", sum := "7825c727cd5ca36737797cef2d31380d7e234042fccddc16ef59784fd0cc7268", func := "strainer/strainerlaw13.LexNotes", spec := "lexNotes", inPlace := ["internal/bytealg.IndexByteString", "internal/bytealg.IndexString", "internal/abi.NoEscape", "internal/bytealg.MakeNoZero"], unfollowed := true, recurses := true, named := ["internal/bytealg.MaxLen"], apart := false }
def LexNotesSaid : Prop := lexNotesRow.holds Try.pinned (OpenSpec.ofChange lexNotesSpec)

/-- ITS FALSE NEIGHBOUR: 'it returns false'. Refute it at one input. -/
def lexNotesWrong : ChangeSpec := { name := "lexNotes", fn := fun _ => fun
  | [d1, d2] => { results := [.lit (.bool false)], args := [d1, d2] }
  | _ => none }
def LexNotesWrongFalsely : Prop := lexNotesRow.holds Try.pinned (OpenSpec.ofChange lexNotesWrong)

/-- 'strainerlaw13.LexLong': WHATEVER THE INPUT: true; the input reads as it did. -/
def lexLongSpec : ChangeSpec := { name := "lexLong", fn := fun _ => fun
  | [d] => { results := [.lit (.bool true)], args := [d] }
  | _ => none }
def lexLongRow : OpenClaim := { program := "ytieebnninhbdoaa", sum := "7825c727cd5ca36737797cef2d31380d7e234042fccddc16ef59784fd0cc7268", func := "strainer/strainerlaw13.LexLong", spec := "lexLong", inPlace := ["internal/bytealg.IndexByteString", "internal/bytealg.IndexString"], unfollowed := true, recurses := true, named := ["internal/bytealg.MaxLen"], apart := false }
def LexLongSaid : Prop := lexLongRow.holds Try.pinned (OpenSpec.ofChange lexLongSpec)

/-- ITS FALSE NEIGHBOUR: 'it returns false'. Refute it at one input. -/
def lexLongWrong : ChangeSpec := { name := "lexLong", fn := fun _ => fun
  | [d] => { results := [.lit (.bool false)], args := [d] }
  | _ => none }
def LexLongWrongFalsely : Prop := lexLongRow.holds Try.pinned (OpenSpec.ofChange lexLongWrong)

/-- 'strainerlaw13.LexMore': WHATEVER THE INPUT: true; the input reads as it did. -/
def lexMoreSpec : ChangeSpec := { name := "lexMore", fn := fun _ => fun
  | [d1, d2] => { results := [.lit (.bool true)], args := [d1, d2] }
  | _ => none }
def lexMoreRow : OpenClaim := { program := "ytieebnninhbdoaa", sum := "7825c727cd5ca36737797cef2d31380d7e234042fccddc16ef59784fd0cc7268", func := "strainer/strainerlaw13.LexMore", spec := "lexMore", inPlace := ["internal/bytealg.IndexByteString", "internal/bytealg.IndexString", "internal/abi.NoEscape", "internal/bytealg.MakeNoZero"], unfollowed := true, recurses := true, named := ["internal/bytealg.MaxLen"], apart := false }
def LexMoreSaid : Prop := lexMoreRow.holds Try.pinned (OpenSpec.ofChange lexMoreSpec)

/-- ITS FALSE NEIGHBOUR: 'it returns false'. Refute it at one input. -/
def lexMoreWrong : ChangeSpec := { name := "lexMore", fn := fun _ => fun
  | [d1, d2] => { results := [.lit (.bool false)], args := [d1, d2] }
  | _ => none }
def LexMoreWrongFalsely : Prop := lexMoreRow.holds Try.pinned (OpenSpec.ofChange lexMoreWrong)

/-- 'strainerlaw02.InstJoins': WHATEVER THE INPUT: true; the input reads as it did. -/
def instJoinsSpec : ChangeSpec := { name := "instJoins", fn := fun _ => fun
  | [d1, d2] => { results := [.lit (.bool true)], args := [d1, d2] }
  | _ => none }
def instJoinsRow : OpenClaim := { program := "ytieebnninhbdoaa", sum := "7825c727cd5ca36737797cef2d31380d7e234042fccddc16ef59784fd0cc7268", func := "strainer/strainerlaw02.InstJoins", spec := "instJoins", unfollowed := true, recurses := true, apart := false }
def InstJoinsSaid : Prop := instJoinsRow.holds Try.pinned (OpenSpec.ofChange instJoinsSpec)

/-- ITS FALSE NEIGHBOUR: 'it returns false'. Refute it at one input. -/
def instJoinsWrong : ChangeSpec := { name := "instJoins", fn := fun _ => fun
  | [d1, d2] => { results := [.lit (.bool false)], args := [d1, d2] }
  | _ => none }
def InstJoinsWrongFalsely : Prop := instJoinsRow.holds Try.pinned (OpenSpec.ofChange instJoinsWrong)

/-- 'strainerlaw05.DataTurns': WHATEVER THE INPUT: true; the input reads as it did. -/
def dataTurnsSpec : ChangeSpec := { name := "dataTurns", fn := fun _ => fun
  | [d] => { results := [.lit (.bool true)], args := [d] }
  | _ => none }
def dataTurnsRow : OpenClaim := { program := "ytieebnninhbdoaa", sum := "7825c727cd5ca36737797cef2d31380d7e234042fccddc16ef59784fd0cc7268", func := "strainer/strainerlaw05.DataTurns", spec := "dataTurns", unfollowed := true, recurses := true, apart := false }
def DataTurnsSaid : Prop := dataTurnsRow.holds Try.pinned (OpenSpec.ofChange dataTurnsSpec)

/-- ITS FALSE NEIGHBOUR: 'it returns false'. Refute it at one input. -/
def dataTurnsWrong : ChangeSpec := { name := "dataTurns", fn := fun _ => fun
  | [d] => { results := [.lit (.bool false)], args := [d] }
  | _ => none }
def DataTurnsWrongFalsely : Prop := dataTurnsRow.holds Try.pinned (OpenSpec.ofChange dataTurnsWrong)

/- THE SECOND FORM. 'bulk': how many values and letters a reading holds, each counted each time it is reached (what is shared counts as often as it is met; a slice's spare places count too). A statement '..UptoSaid' is the law's where the arguments, and the package variables that the reading takes, are together of bulk at most 1048576: NARROWER than '..Said'. Prove '..Said' where nothing that the law and all that it calls make is longer than what came in: it says more and counts as full. Else prove '..UptoSaid'. A law counts once. -/
mutual
def uptoBulk {H : Type} : DataW H → Nat
  | .lit (.string bytes) => bytes.length + 1
  | .lit _ => 1
  | .nil => 1
  | .ptr d => uptoBulk d + 1
  | .slice elems spare => uptoBulkAll elems + uptoBulkAll spare + 1
  | .agg parts => uptoBulkAll parts + 1
  | .iface _ d => uptoBulk d + 1
  | .map entries => uptoBulkEntries entries + 1
  | .held _ => 1
def uptoBulkAll {H : Type} : List (DataW H) → Nat
  | [] => 0
  | d :: r => uptoBulk d + uptoBulkAll r
def uptoBulkEntries {H : Type} : List (Lit × DataW H) → Nat
  | [] => 0
  | x :: r => uptoBulkEntry x + uptoBulkEntries r
def uptoBulkEntry {H : Type} : Lit × DataW H → Nat
  | (.string bytes, d) => bytes.length + uptoBulk d + 1
  | (_, d) => uptoBulk d + 1
 end
def uptoSmall : (H : Type) → List (DataW H) → Bool := fun _ ds => decide (uptoBulkAll ds ≤ 1048576)
def OpenSpec.upto (s : _root_.Go.ChangeSpec) : _root_.Go.OpenSpec := { _root_.Go.OpenSpec.ofChange s with cond := some uptoSmall }

/-- 'strainerlaw13.LexLines', WHERE WHAT IT READS IS OF BULK AT MOST 1048576: true; the input reads as it did. -/
def lexLinesUptoRow : OpenClaim := { program := "ytieebnninhbdoaa", sum := "7825c727cd5ca36737797cef2d31380d7e234042fccddc16ef59784fd0cc7268", func := "strainer/strainerlaw13.LexLines", spec := "lexLines", inPlace := ["internal/bytealg.IndexByteString", "internal/bytealg.IndexString"], unfollowed := true, recurses := true, named := ["internal/bytealg.MaxLen"], apart := false, narrowed := true }
def LexLinesUptoSaid : Prop := lexLinesUptoRow.holds Try.pinned (OpenSpec.upto lexLinesSpec)

/-- 'strainerlaw13.LexJoins', WHERE WHAT IT READS IS OF BULK AT MOST 1048576: true; the input reads as it did. -/
def lexJoinsUptoRow : OpenClaim := { program := "ytieebnninhbdoaa", sum := "7825c727cd5ca36737797cef2d31380d7e234042fccddc16ef59784fd0cc7268", func := "strainer/strainerlaw13.LexJoins", spec := "lexJoins", inPlace := ["internal/bytealg.IndexByteString", "internal/bytealg.IndexString", "internal/abi.NoEscape", "internal/bytealg.MakeNoZero"], unfollowed := true, recurses := true, named := ["internal/bytealg.MaxLen"], apart := false, narrowed := true }
def LexJoinsUptoSaid : Prop := lexJoinsUptoRow.holds Try.pinned (OpenSpec.upto lexJoinsSpec)

/-- 'strainerlaw13.LexNotes', WHERE WHAT IT READS IS OF BULK AT MOST 1048576: true; the input reads as it did. -/
def lexNotesUptoRow : OpenClaim := { program := "ytieebnninhbdoaa", sum := "7825c727cd5ca36737797cef2d31380d7e234042fccddc16ef59784fd0cc7268", func := "strainer/strainerlaw13.LexNotes", spec := "lexNotes", inPlace := ["internal/bytealg.IndexByteString", "internal/bytealg.IndexString", "internal/abi.NoEscape", "internal/bytealg.MakeNoZero"], unfollowed := true, recurses := true, named := ["internal/bytealg.MaxLen"], apart := false, narrowed := true }
def LexNotesUptoSaid : Prop := lexNotesUptoRow.holds Try.pinned (OpenSpec.upto lexNotesSpec)

/-- 'strainerlaw13.LexLong', WHERE WHAT IT READS IS OF BULK AT MOST 1048576: true; the input reads as it did. -/
def lexLongUptoRow : OpenClaim := { program := "ytieebnninhbdoaa", sum := "7825c727cd5ca36737797cef2d31380d7e234042fccddc16ef59784fd0cc7268", func := "strainer/strainerlaw13.LexLong", spec := "lexLong", inPlace := ["internal/bytealg.IndexByteString", "internal/bytealg.IndexString"], unfollowed := true, recurses := true, named := ["internal/bytealg.MaxLen"], apart := false, narrowed := true }
def LexLongUptoSaid : Prop := lexLongUptoRow.holds Try.pinned (OpenSpec.upto lexLongSpec)

/-- 'strainerlaw13.LexMore', WHERE WHAT IT READS IS OF BULK AT MOST 1048576: true; the input reads as it did. -/
def lexMoreUptoRow : OpenClaim := { program := "ytieebnninhbdoaa", sum := "7825c727cd5ca36737797cef2d31380d7e234042fccddc16ef59784fd0cc7268", func := "strainer/strainerlaw13.LexMore", spec := "lexMore", inPlace := ["internal/bytealg.IndexByteString", "internal/bytealg.IndexString", "internal/abi.NoEscape", "internal/bytealg.MakeNoZero"], unfollowed := true, recurses := true, named := ["internal/bytealg.MaxLen"], apart := false, narrowed := true }
def LexMoreUptoSaid : Prop := lexMoreUptoRow.holds Try.pinned (OpenSpec.upto lexMoreSpec)

/-- 'strainerlaw02.InstJoins', WHERE WHAT IT READS IS OF BULK AT MOST 1048576: true; the input reads as it did. -/
def instJoinsUptoRow : OpenClaim := { program := "ytieebnninhbdoaa", sum := "7825c727cd5ca36737797cef2d31380d7e234042fccddc16ef59784fd0cc7268", func := "strainer/strainerlaw02.InstJoins", spec := "instJoins", unfollowed := true, recurses := true, apart := false, narrowed := true }
def InstJoinsUptoSaid : Prop := instJoinsUptoRow.holds Try.pinned (OpenSpec.upto instJoinsSpec)

/-- 'strainerlaw05.DataTurns', WHERE WHAT IT READS IS OF BULK AT MOST 1048576: true; the input reads as it did. -/
def dataTurnsUptoRow : OpenClaim := { program := "ytieebnninhbdoaa", sum := "7825c727cd5ca36737797cef2d31380d7e234042fccddc16ef59784fd0cc7268", func := "strainer/strainerlaw05.DataTurns", spec := "dataTurns", unfollowed := true, recurses := true, apart := false, narrowed := true }
def DataTurnsUptoSaid : Prop := dataTurnsUptoRow.holds Try.pinned (OpenSpec.upto dataTurnsSpec)

end Rows
end Go.Proofs.Ytieebnninhbdoaa
