/-
  No cell of these rows narrows 'for every input' (looked for: loops, veiled, ifaces, maps, wideKeys, modest, calm, conditions, laid).
  DERIVED. THE GIVEN ROWS OF THIS SEAT. 13 by the template 'for every input the law returns true; each argument reads behind the call as it read before'; 0 by the template 'total and deterministic' (their statements: YtpjhcaabjgbkjaaTotals.lean).
  GIVEN WITH THE SEED: the statements are not yours to turn. If you find one false, say at which input.
  Laid BY PROGRAM, IN A SANDBOX (cutbox-rows.mjs): the forced cells as the released guide's own fill.sh prints them over the translation 2fc694a6c7a193c9… (all of the seat's roots in one cut). By AI agents, Wed Nov 11 2026. No macro, syntax, notation, axiom, sorry.
-/
import Derived.Test.YtpjhcaabjgbkjaaChecked
import GoSem.Claim
import GoSem.ClaimJoined
import GoSem.ClaimMapViews
import Derived.JoinedTies
import Derived.KernelRfl
namespace Go.Proofs.Ytpjhcaabjgbkjaa
/- THE CELL 'sum', in the pinned program and in every row, IS THE sha256 OF THE DUMP (.gsa) THAT YtpjhcaabjgbkjaaProg.lean LOADS. Nothing in Lean hashes anything: it is a label: what it is worth is what the hold of that sum in a sandbox is worth. -/
noncomputable def Try.pinned : Pinned := { name := "ytpjhcaabjgbkjaa", sum := "2fc694a6c7a193c937a8189fd33191b955b30476321f456bb61c1dda5e17bc9e", checked := Try.checked }
namespace Rows
def none {H : Type} : Left H := { results := [], args := [] }

/-- 'strainerlaw05.DataWrites': WHATEVER THE INPUT: true; the input reads as it did. -/
def dataWritesSpec : ChangeSpec := { name := "dataWrites", fn := fun _ => fun
  | [d1, d2] => { results := [.lit (.bool true)], args := [d1, d2] }
  | _ => none }
def dataWritesRow : OpenClaim := { program := "ytpjhcaabjgbkjaa", sum := "2fc694a6c7a193c937a8189fd33191b955b30476321f456bb61c1dda5e17bc9e", func := "strainer/strainerlaw05.DataWrites", spec := "dataWrites", unfollowed := true, recurses := true, apart := false }
def DataWritesSaid : Prop := dataWritesRow.holds Try.pinned (OpenSpec.ofChange dataWritesSpec)

/-- ITS FALSE NEIGHBOUR: 'it returns false'. Refute it at one input. -/
def dataWritesWrong : ChangeSpec := { name := "dataWrites", fn := fun _ => fun
  | [d1, d2] => { results := [.lit (.bool false)], args := [d1, d2] }
  | _ => none }
def DataWritesWrongFalsely : Prop := dataWritesRow.holds Try.pinned (OpenSpec.ofChange dataWritesWrong)

/-- 'strainerlaw05.DataReads': WHATEVER THE INPUT: true; the input reads as it did. -/
def dataReadsSpec : ChangeSpec := { name := "dataReads", fn := fun _ => fun
  | [d1, d2] => { results := [.lit (.bool true)], args := [d1, d2] }
  | _ => none }
def dataReadsRow : OpenClaim := { program := "ytpjhcaabjgbkjaa", sum := "2fc694a6c7a193c937a8189fd33191b955b30476321f456bb61c1dda5e17bc9e", func := "strainer/strainerlaw05.DataReads", spec := "dataReads", unfollowed := true, recurses := true, apart := false }
def DataReadsSaid : Prop := dataReadsRow.holds Try.pinned (OpenSpec.ofChange dataReadsSpec)

/-- ITS FALSE NEIGHBOUR: 'it returns false'. Refute it at one input. -/
def dataReadsWrong : ChangeSpec := { name := "dataReads", fn := fun _ => fun
  | [d1, d2] => { results := [.lit (.bool false)], args := [d1, d2] }
  | _ => none }
def DataReadsWrongFalsely : Prop := dataReadsRow.holds Try.pinned (OpenSpec.ofChange dataReadsWrong)

/-- 'strainerlaw05.DataBack': WHATEVER THE INPUT: true; the input reads as it did. -/
def dataBackSpec : ChangeSpec := { name := "dataBack", fn := fun _ => fun
  | [d1, d2] => { results := [.lit (.bool true)], args := [d1, d2] }
  | _ => none }
def dataBackRow : OpenClaim := { program := "ytpjhcaabjgbkjaa", sum := "2fc694a6c7a193c937a8189fd33191b955b30476321f456bb61c1dda5e17bc9e", func := "strainer/strainerlaw05.DataBack", spec := "dataBack", unfollowed := true, recurses := true, apart := false }
def DataBackSaid : Prop := dataBackRow.holds Try.pinned (OpenSpec.ofChange dataBackSpec)

/-- ITS FALSE NEIGHBOUR: 'it returns false'. Refute it at one input. -/
def dataBackWrong : ChangeSpec := { name := "dataBack", fn := fun _ => fun
  | [d1, d2] => { results := [.lit (.bool false)], args := [d1, d2] }
  | _ => none }
def DataBackWrongFalsely : Prop := dataBackRow.holds Try.pinned (OpenSpec.ofChange dataBackWrong)

/-- 'strainerlaw05.DataHalves': WHATEVER THE INPUT: true; the input reads as it did. -/
def dataHalvesSpec : ChangeSpec := { name := "dataHalves", fn := fun _ => fun
  | [d1, d2, d3] => { results := [.lit (.bool true)], args := [d1, d2, d3] }
  | _ => none }
def dataHalvesRow : OpenClaim := { program := "ytpjhcaabjgbkjaa", sum := "2fc694a6c7a193c937a8189fd33191b955b30476321f456bb61c1dda5e17bc9e", func := "strainer/strainerlaw05.DataHalves", spec := "dataHalves", unfollowed := true, recurses := true, apart := false }
def DataHalvesSaid : Prop := dataHalvesRow.holds Try.pinned (OpenSpec.ofChange dataHalvesSpec)

/-- ITS FALSE NEIGHBOUR: 'it returns false'. Refute it at one input. -/
def dataHalvesWrong : ChangeSpec := { name := "dataHalves", fn := fun _ => fun
  | [d1, d2, d3] => { results := [.lit (.bool false)], args := [d1, d2, d3] }
  | _ => none }
def DataHalvesWrongFalsely : Prop := dataHalvesRow.holds Try.pinned (OpenSpec.ofChange dataHalvesWrong)

/-- 'strainerlaw05.DataApart': WHATEVER THE INPUT: true; the input reads as it did. -/
def dataApartSpec : ChangeSpec := { name := "dataApart", fn := fun _ => fun
  | [d1, d2, d3] => { results := [.lit (.bool true)], args := [d1, d2, d3] }
  | _ => none }
def dataApartRow : OpenClaim := { program := "ytpjhcaabjgbkjaa", sum := "2fc694a6c7a193c937a8189fd33191b955b30476321f456bb61c1dda5e17bc9e", func := "strainer/strainerlaw05.DataApart", spec := "dataApart", unfollowed := true, recurses := true, apart := false }
def DataApartSaid : Prop := dataApartRow.holds Try.pinned (OpenSpec.ofChange dataApartSpec)

/-- ITS FALSE NEIGHBOUR: 'it returns false'. Refute it at one input. -/
def dataApartWrong : ChangeSpec := { name := "dataApart", fn := fun _ => fun
  | [d1, d2, d3] => { results := [.lit (.bool false)], args := [d1, d2, d3] }
  | _ => none }
def DataApartWrongFalsely : Prop := dataApartRow.holds Try.pinned (OpenSpec.ofChange dataApartWrong)

/-- 'strainerlaw05.DataTurns': WHATEVER THE INPUT: true; the input reads as it did. -/
def dataTurnsSpec : ChangeSpec := { name := "dataTurns", fn := fun _ => fun
  | [d] => { results := [.lit (.bool true)], args := [d] }
  | _ => none }
def dataTurnsRow : OpenClaim := { program := "ytpjhcaabjgbkjaa", sum := "2fc694a6c7a193c937a8189fd33191b955b30476321f456bb61c1dda5e17bc9e", func := "strainer/strainerlaw05.DataTurns", spec := "dataTurns", unfollowed := true, recurses := true, apart := false }
def DataTurnsSaid : Prop := dataTurnsRow.holds Try.pinned (OpenSpec.ofChange dataTurnsSpec)

/-- ITS FALSE NEIGHBOUR: 'it returns false'. Refute it at one input. -/
def dataTurnsWrong : ChangeSpec := { name := "dataTurns", fn := fun _ => fun
  | [d] => { results := [.lit (.bool false)], args := [d] }
  | _ => none }
def DataTurnsWrongFalsely : Prop := dataTurnsRow.holds Try.pinned (OpenSpec.ofChange dataTurnsWrong)

/-- 'strainerlaw06.VmRuns': WHATEVER THE INPUT: true; the input reads as it did. -/
def vmRunsSpec : ChangeSpec := { name := "vmRuns", fn := fun _ => fun
  | [d1, d2] => { results := [.lit (.bool true)], args := [d1, d2] }
  | _ => none }
def vmRunsRow : OpenClaim := { program := "ytpjhcaabjgbkjaa", sum := "2fc694a6c7a193c937a8189fd33191b955b30476321f456bb61c1dda5e17bc9e", func := "strainer/strainerlaw06.VmRuns", spec := "vmRuns", unfollowed := true, recurses := true, apart := false }
def VmRunsSaid : Prop := vmRunsRow.holds Try.pinned (OpenSpec.ofChange vmRunsSpec)

/-- ITS FALSE NEIGHBOUR: 'it returns false'. Refute it at one input. -/
def vmRunsWrong : ChangeSpec := { name := "vmRuns", fn := fun _ => fun
  | [d1, d2] => { results := [.lit (.bool false)], args := [d1, d2] }
  | _ => none }
def VmRunsWrongFalsely : Prop := vmRunsRow.holds Try.pinned (OpenSpec.ofChange vmRunsWrong)

/-- 'strainerlaw06.VmEnds': WHATEVER THE INPUT: true; the input reads as it did. -/
def vmEndsSpec : ChangeSpec := { name := "vmEnds", fn := fun _ => fun
  | [d1, d2] => { results := [.lit (.bool true)], args := [d1, d2] }
  | _ => none }
def vmEndsRow : OpenClaim := { program := "ytpjhcaabjgbkjaa", sum := "2fc694a6c7a193c937a8189fd33191b955b30476321f456bb61c1dda5e17bc9e", func := "strainer/strainerlaw06.VmEnds", spec := "vmEnds", unfollowed := true, recurses := true, apart := false }
def VmEndsSaid : Prop := vmEndsRow.holds Try.pinned (OpenSpec.ofChange vmEndsSpec)

/-- ITS FALSE NEIGHBOUR: 'it returns false'. Refute it at one input. -/
def vmEndsWrong : ChangeSpec := { name := "vmEnds", fn := fun _ => fun
  | [d1, d2] => { results := [.lit (.bool false)], args := [d1, d2] }
  | _ => none }
def VmEndsWrongFalsely : Prop := vmEndsRow.holds Try.pinned (OpenSpec.ofChange vmEndsWrong)

/-- 'strainerlaw06.VmBlind': WHATEVER THE INPUT: true; the input reads as it did. -/
def vmBlindSpec : ChangeSpec := { name := "vmBlind", fn := fun _ => fun
  | [d1, d2, d3] => { results := [.lit (.bool true)], args := [d1, d2, d3] }
  | _ => none }
def vmBlindRow : OpenClaim := { program := "ytpjhcaabjgbkjaa", sum := "2fc694a6c7a193c937a8189fd33191b955b30476321f456bb61c1dda5e17bc9e", func := "strainer/strainerlaw06.VmBlind", spec := "vmBlind", unfollowed := true, recurses := true, apart := false }
def VmBlindSaid : Prop := vmBlindRow.holds Try.pinned (OpenSpec.ofChange vmBlindSpec)

/-- ITS FALSE NEIGHBOUR: 'it returns false'. Refute it at one input. -/
def vmBlindWrong : ChangeSpec := { name := "vmBlind", fn := fun _ => fun
  | [d1, d2, d3] => { results := [.lit (.bool false)], args := [d1, d2, d3] }
  | _ => none }
def VmBlindWrongFalsely : Prop := vmBlindRow.holds Try.pinned (OpenSpec.ofChange vmBlindWrong)

/-- 'strainerlaw06.VmAgain': WHATEVER THE INPUT: true; the input reads as it did. -/
def vmAgainSpec : ChangeSpec := { name := "vmAgain", fn := fun _ => fun
  | [d1, d2, d3] => { results := [.lit (.bool true)], args := [d1, d2, d3] }
  | _ => none }
def vmAgainRow : OpenClaim := { program := "ytpjhcaabjgbkjaa", sum := "2fc694a6c7a193c937a8189fd33191b955b30476321f456bb61c1dda5e17bc9e", func := "strainer/strainerlaw06.VmAgain", spec := "vmAgain", unfollowed := true, recurses := true, apart := false }
def VmAgainSaid : Prop := vmAgainRow.holds Try.pinned (OpenSpec.ofChange vmAgainSpec)

/-- ITS FALSE NEIGHBOUR: 'it returns false'. Refute it at one input. -/
def vmAgainWrong : ChangeSpec := { name := "vmAgain", fn := fun _ => fun
  | [d1, d2, d3] => { results := [.lit (.bool false)], args := [d1, d2, d3] }
  | _ => none }
def VmAgainWrongFalsely : Prop := vmAgainRow.holds Try.pinned (OpenSpec.ofChange vmAgainWrong)

/-- 'strainerlaw06.VmReckons': WHATEVER THE INPUT: true; the input reads as it did. -/
def vmReckonsSpec : ChangeSpec := { name := "vmReckons", fn := fun _ => fun
  | [d1, d2] => { results := [.lit (.bool true)], args := [d1, d2] }
  | _ => none }
def vmReckonsRow : OpenClaim := { program := "ytpjhcaabjgbkjaa", sum := "2fc694a6c7a193c937a8189fd33191b955b30476321f456bb61c1dda5e17bc9e", func := "strainer/strainerlaw06.VmReckons", spec := "vmReckons", unfollowed := true, recurses := true, apart := false }
def VmReckonsSaid : Prop := vmReckonsRow.holds Try.pinned (OpenSpec.ofChange vmReckonsSpec)

/-- ITS FALSE NEIGHBOUR: 'it returns false'. Refute it at one input. -/
def vmReckonsWrong : ChangeSpec := { name := "vmReckons", fn := fun _ => fun
  | [d1, d2] => { results := [.lit (.bool false)], args := [d1, d2] }
  | _ => none }
def VmReckonsWrongFalsely : Prop := vmReckonsRow.holds Try.pinned (OpenSpec.ofChange vmReckonsWrong)

/-- 'strainerlaw06.VmCells': WHATEVER THE INPUT: true; the input reads as it did. -/
def vmCellsSpec : ChangeSpec := { name := "vmCells", fn := fun _ => fun
  | [d] => { results := [.lit (.bool true)], args := [d] }
  | _ => none }
def vmCellsRow : OpenClaim := { program := "ytpjhcaabjgbkjaa", sum := "2fc694a6c7a193c937a8189fd33191b955b30476321f456bb61c1dda5e17bc9e", func := "strainer/strainerlaw06.VmCells", spec := "vmCells", unfollowed := true, recurses := true, apart := false }
def VmCellsSaid : Prop := vmCellsRow.holds Try.pinned (OpenSpec.ofChange vmCellsSpec)

/-- ITS FALSE NEIGHBOUR: 'it returns false'. Refute it at one input. -/
def vmCellsWrong : ChangeSpec := { name := "vmCells", fn := fun _ => fun
  | [d] => { results := [.lit (.bool false)], args := [d] }
  | _ => none }
def VmCellsWrongFalsely : Prop := vmCellsRow.holds Try.pinned (OpenSpec.ofChange vmCellsWrong)

/-- 'strainerlaw02.InstJoins': WHATEVER THE INPUT: true; the input reads as it did. -/
def instJoinsSpec : ChangeSpec := { name := "instJoins", fn := fun _ => fun
  | [d1, d2] => { results := [.lit (.bool true)], args := [d1, d2] }
  | _ => none }
def instJoinsRow : OpenClaim := { program := "ytpjhcaabjgbkjaa", sum := "2fc694a6c7a193c937a8189fd33191b955b30476321f456bb61c1dda5e17bc9e", func := "strainer/strainerlaw02.InstJoins", spec := "instJoins", unfollowed := true, recurses := true, apart := false }
def InstJoinsSaid : Prop := instJoinsRow.holds Try.pinned (OpenSpec.ofChange instJoinsSpec)

/-- ITS FALSE NEIGHBOUR: 'it returns false'. Refute it at one input. -/
def instJoinsWrong : ChangeSpec := { name := "instJoins", fn := fun _ => fun
  | [d1, d2] => { results := [.lit (.bool false)], args := [d1, d2] }
  | _ => none }
def InstJoinsWrongFalsely : Prop := instJoinsRow.holds Try.pinned (OpenSpec.ofChange instJoinsWrong)

/- THE SECOND FORM. 'bulk': how many values and letters a reading holds, each counted each time it is reached (what is shared counts as often as it is met; a slice's spare places count too). A statement '..UptoSaid' is the law's where the arguments, and the package variables that the reading takes, are together of bulk at most 1048576: NARROWER than '..Said'. Prove '..Said' where nothing that the law and all that it calls make is longer than what came in: it says more and counts as full. Else prove '..UptoSaid'. A law counts once. -/
mutual
def uptoBulk {H : Type} : DataW H → Nat
  | .lit (.string bytes) => bytes.length + 1
  | .lit _ => 1
  | .nil => 1
  | .ptr d => uptoBulk d + 1
  | .slice elems spare => uptoBulkAll elems + uptoBulkAll spare + 1
  | .agg parts => uptoBulkAll parts + 1
  | .iface _ d => uptoBulk d + 1
  | .map entries => uptoBulkEntries entries + 1
  | .held _ => 1
def uptoBulkAll {H : Type} : List (DataW H) → Nat
  | [] => 0
  | d :: r => uptoBulk d + uptoBulkAll r
def uptoBulkEntries {H : Type} : List (Lit × DataW H) → Nat
  | [] => 0
  | x :: r => uptoBulkEntry x + uptoBulkEntries r
def uptoBulkEntry {H : Type} : Lit × DataW H → Nat
  | (.string bytes, d) => bytes.length + uptoBulk d + 1
  | (_, d) => uptoBulk d + 1
 end
def uptoSmall : (H : Type) → List (DataW H) → Bool := fun _ ds => decide (uptoBulkAll ds ≤ 1048576)
def OpenSpec.upto (s : _root_.Go.ChangeSpec) : _root_.Go.OpenSpec := { _root_.Go.OpenSpec.ofChange s with cond := some uptoSmall }

/-- 'strainerlaw05.DataWrites', WHERE WHAT IT READS IS OF BULK AT MOST 1048576: true; the input reads as it did. -/
def dataWritesUptoRow : OpenClaim := { program := "ytpjhcaabjgbkjaa", sum := "2fc694a6c7a193c937a8189fd33191b955b30476321f456bb61c1dda5e17bc9e", func := "strainer/strainerlaw05.DataWrites", spec := "dataWrites", unfollowed := true, recurses := true, apart := false, narrowed := true }
def DataWritesUptoSaid : Prop := dataWritesUptoRow.holds Try.pinned (OpenSpec.upto dataWritesSpec)

/-- 'strainerlaw05.DataReads', WHERE WHAT IT READS IS OF BULK AT MOST 1048576: true; the input reads as it did. -/
def dataReadsUptoRow : OpenClaim := { program := "ytpjhcaabjgbkjaa", sum := "2fc694a6c7a193c937a8189fd33191b955b30476321f456bb61c1dda5e17bc9e", func := "strainer/strainerlaw05.DataReads", spec := "dataReads", unfollowed := true, recurses := true, apart := false, narrowed := true }
def DataReadsUptoSaid : Prop := dataReadsUptoRow.holds Try.pinned (OpenSpec.upto dataReadsSpec)

/-- 'strainerlaw05.DataBack', WHERE WHAT IT READS IS OF BULK AT MOST 1048576: true; the input reads as it did. -/
def dataBackUptoRow : OpenClaim := { program := "ytpjhcaabjgbkjaa", sum := "2fc694a6c7a193c937a8189fd33191b955b30476321f456bb61c1dda5e17bc9e", func := "strainer/strainerlaw05.DataBack", spec := "dataBack", unfollowed := true, recurses := true, apart := false, narrowed := true }
def DataBackUptoSaid : Prop := dataBackUptoRow.holds Try.pinned (OpenSpec.upto dataBackSpec)

/-- 'strainerlaw05.DataHalves', WHERE WHAT IT READS IS OF BULK AT MOST 1048576: true; the input reads as it did. -/
def dataHalvesUptoRow : OpenClaim := { program := "ytpjhcaabjgbkjaa", sum := "2fc694a6c7a193c937a8189fd33191b955b30476321f456bb61c1dda5e17bc9e", func := "strainer/strainerlaw05.DataHalves", spec := "dataHalves", unfollowed := true, recurses := true, apart := false, narrowed := true }
def DataHalvesUptoSaid : Prop := dataHalvesUptoRow.holds Try.pinned (OpenSpec.upto dataHalvesSpec)

/-- 'strainerlaw05.DataApart', WHERE WHAT IT READS IS OF BULK AT MOST 1048576: true; the input reads as it did. -/
def dataApartUptoRow : OpenClaim := { program := "ytpjhcaabjgbkjaa", sum := "2fc694a6c7a193c937a8189fd33191b955b30476321f456bb61c1dda5e17bc9e", func := "strainer/strainerlaw05.DataApart", spec := "dataApart", unfollowed := true, recurses := true, apart := false, narrowed := true }
def DataApartUptoSaid : Prop := dataApartUptoRow.holds Try.pinned (OpenSpec.upto dataApartSpec)

/-- 'strainerlaw05.DataTurns', WHERE WHAT IT READS IS OF BULK AT MOST 1048576: true; the input reads as it did. -/
def dataTurnsUptoRow : OpenClaim := { program := "ytpjhcaabjgbkjaa", sum := "2fc694a6c7a193c937a8189fd33191b955b30476321f456bb61c1dda5e17bc9e", func := "strainer/strainerlaw05.DataTurns", spec := "dataTurns", unfollowed := true, recurses := true, apart := false, narrowed := true }
def DataTurnsUptoSaid : Prop := dataTurnsUptoRow.holds Try.pinned (OpenSpec.upto dataTurnsSpec)

/-- 'strainerlaw06.VmRuns', WHERE WHAT IT READS IS OF BULK AT MOST 1048576: true; the input reads as it did. -/
def vmRunsUptoRow : OpenClaim := { program := "ytpjhcaabjgbkjaa", sum := "2fc694a6c7a193c937a8189fd33191b955b30476321f456bb61c1dda5e17bc9e", func := "strainer/strainerlaw06.VmRuns", spec := "vmRuns", unfollowed := true, recurses := true, apart := false, narrowed := true }
def VmRunsUptoSaid : Prop := vmRunsUptoRow.holds Try.pinned (OpenSpec.upto vmRunsSpec)

/-- 'strainerlaw06.VmEnds', WHERE WHAT IT READS IS OF BULK AT MOST 1048576: true; the input reads as it did. -/
def vmEndsUptoRow : OpenClaim := { program := "ytpjhcaabjgbkjaa", sum := "2fc694a6c7a193c937a8189fd33191b955b30476321f456bb61c1dda5e17bc9e", func := "strainer/strainerlaw06.VmEnds", spec := "vmEnds", unfollowed := true, recurses := true, apart := false, narrowed := true }
def VmEndsUptoSaid : Prop := vmEndsUptoRow.holds Try.pinned (OpenSpec.upto vmEndsSpec)

/-- 'strainerlaw06.VmBlind', WHERE WHAT IT READS IS OF BULK AT MOST 1048576: true; the input reads as it did. -/
def vmBlindUptoRow : OpenClaim := { program := "ytpjhcaabjgbkjaa", sum := "2fc694a6c7a193c937a8189fd33191b955b30476321f456bb61c1dda5e17bc9e", func := "strainer/strainerlaw06.VmBlind", spec := "vmBlind", unfollowed := true, recurses := true, apart := false, narrowed := true }
def VmBlindUptoSaid : Prop := vmBlindUptoRow.holds Try.pinned (OpenSpec.upto vmBlindSpec)

/-- 'strainerlaw06.VmAgain', WHERE WHAT IT READS IS OF BULK AT MOST 1048576: true; the input reads as it did. -/
def vmAgainUptoRow : OpenClaim := { program := "ytpjhcaabjgbkjaa", sum := "2fc694a6c7a193c937a8189fd33191b955b30476321f456bb61c1dda5e17bc9e", func := "strainer/strainerlaw06.VmAgain", spec := "vmAgain", unfollowed := true, recurses := true, apart := false, narrowed := true }
def VmAgainUptoSaid : Prop := vmAgainUptoRow.holds Try.pinned (OpenSpec.upto vmAgainSpec)

/-- 'strainerlaw06.VmReckons', WHERE WHAT IT READS IS OF BULK AT MOST 1048576: true; the input reads as it did. -/
def vmReckonsUptoRow : OpenClaim := { program := "ytpjhcaabjgbkjaa", sum := "2fc694a6c7a193c937a8189fd33191b955b30476321f456bb61c1dda5e17bc9e", func := "strainer/strainerlaw06.VmReckons", spec := "vmReckons", unfollowed := true, recurses := true, apart := false, narrowed := true }
def VmReckonsUptoSaid : Prop := vmReckonsUptoRow.holds Try.pinned (OpenSpec.upto vmReckonsSpec)

/-- 'strainerlaw06.VmCells', WHERE WHAT IT READS IS OF BULK AT MOST 1048576: true; the input reads as it did. -/
def vmCellsUptoRow : OpenClaim := { program := "ytpjhcaabjgbkjaa", sum := "2fc694a6c7a193c937a8189fd33191b955b30476321f456bb61c1dda5e17bc9e", func := "strainer/strainerlaw06.VmCells", spec := "vmCells", unfollowed := true, recurses := true, apart := false, narrowed := true }
def VmCellsUptoSaid : Prop := vmCellsUptoRow.holds Try.pinned (OpenSpec.upto vmCellsSpec)

/-- 'strainerlaw02.InstJoins', WHERE WHAT IT READS IS OF BULK AT MOST 1048576: true; the input reads as it did. -/
def instJoinsUptoRow : OpenClaim := { program := "ytpjhcaabjgbkjaa", sum := "2fc694a6c7a193c937a8189fd33191b955b30476321f456bb61c1dda5e17bc9e", func := "strainer/strainerlaw02.InstJoins", spec := "instJoins", unfollowed := true, recurses := true, apart := false, narrowed := true }
def InstJoinsUptoSaid : Prop := instJoinsUptoRow.holds Try.pinned (OpenSpec.upto instJoinsSpec)

end Rows
end Go.Proofs.Ytpjhcaabjgbkjaa
