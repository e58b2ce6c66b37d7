/-
  NARROWER THAN 'FOR EVERY INPUT', by the rows' own cells (each row's printed sentence says how): SystabRights: laid · SystabBuiltin: laid · SystabBack: laid · SystabLess: laid · SystabOrder: laid · SystabPseudo: laid.
  DERIVED. THE GIVEN ROWS OF THIS SEAT. 6 by the template 'for every input the law returns true; each argument reads behind the call as it read before'; 0 by the template 'total and deterministic' (their statements: YtlninlempefjcaaDoorTotals.lean).
  GIVEN WITH THE SEED: the statements are not yours to turn. If you find one false, say at which input.
  Laid BY PROGRAM, IN A SANDBOX (cutbox-rows.mjs): the forced cells as the released guide's own fill.sh prints them over the translation a199bd94a420e103… (all of the seat's roots in one cut). By AI agents, Wed Nov 11 2026. No macro, syntax, notation, axiom, sorry.
-/
import Derived.Test.YtlninlempefjcaaDoorChecked
import GoSem.PinnedTables
import GoSem.Claim
import GoSem.ClaimJoined
import GoSem.ClaimMapViews
import Derived.JoinedTies
import Derived.KernelRfl
namespace Go.Proofs.YtlninlempefjcaaDoor
/- THE CELL 'sum', in the pinned program and in every row, IS THE sha256 OF THE DUMP (.gsa) THAT YtlninlempefjcaaDoorProg.lean LOADS. Nothing in Lean hashes anything: it is a label: what it is worth is what the hold of that sum in a sandbox is worth. -/
noncomputable def Tryd.pinned : Pinned := { name := "ytlninlempefjcaadoor", sum := "a199bd94a420e1031942ef5b014907ebb45a2eb1ca11aa0f8f24c5daabb22ef9", checked := Tryd.checked }
namespace Rows
def none {H : Type} : Left H := { results := [], args := [] }

/- WHAT THE LISTED PACKAGE-LEVEL VARIABLES READ AS WHEN THE CALL BEGINS. Each datum BY PROGRAM (the guide's laid-datum.mjs) off the statement by which the dump's own 'gosem.cut.vars' lays the variable. In a bare row this is a premise. The card (YtlninlempefjcaaDoorCards.lean) ties it to the program's text. -/
def laid_unicode_utf8_acceptRanges {H : Type} : DataW H := .agg [.agg [.lit (.int .u8 128), .lit (.int .u8 191)], .agg [.lit (.int .u8 160), .lit (.int .u8 191)], .agg [.lit (.int .u8 128), .lit (.int .u8 159)], .agg [.lit (.int .u8 144), .lit (.int .u8 191)], .agg [.lit (.int .u8 128), .lit (.int .u8 143)], .agg [.lit (.int .u8 0), .lit (.int .u8 0)], .agg [.lit (.int .u8 0), .lit (.int .u8 0)], .agg [.lit (.int .u8 0), .lit (.int .u8 0)], .agg [.lit (.int .u8 0), .lit (.int .u8 0)], .agg [.lit (.int .u8 0), .lit (.int .u8 0)], .agg [.lit (.int .u8 0), .lit (.int .u8 0)], .agg [.lit (.int .u8 0), .lit (.int .u8 0)], .agg [.lit (.int .u8 0), .lit (.int .u8 0)], .agg [.lit (.int .u8 0), .lit (.int .u8 0)], .agg [.lit (.int .u8 0), .lit (.int .u8 0)], .agg [.lit (.int .u8 0), .lit (.int .u8 0)]]
/-- One of Go's own tables, pinned by name: the form's constant. -/
def laid_unicode_utf8_first : DataW Unit := Go.Pinned.utf8First

/-- 'strainerlaw11.SystabRights': WHATEVER THE INPUT: true; the input reads as it did. -/
def systabRightsSpec : ChangeSpec := { name := "systabRights", fn := fun _ => fun
  | [d] => { results := [.lit (.bool true)], args := [d] }
  | _ => none }
def systabRightsRow : OpenClaim := { program := "ytlninlempefjcaadoor", sum := "a199bd94a420e1031942ef5b014907ebb45a2eb1ca11aa0f8f24c5daabb22ef9", func := "strainer/strainerlaw11.SystabRights", spec := "systabRights", inPlace := ["internal/bytealg.IndexByteString", "internal/bytealg.IndexString"], unfollowed := true, recurses := true, named := ["internal/bytealg.MaxLen", "unicode/utf8.first", "unicode/utf8.acceptRanges"], plainKeys := false, apart := false, laid := [("unicode/utf8.acceptRanges", laid_unicode_utf8_acceptRanges), ("unicode/utf8.first", laid_unicode_utf8_first)] }
def SystabRightsSaid : Prop := systabRightsRow.holds Tryd.pinned (OpenSpec.ofChange systabRightsSpec)

/-- ITS FALSE NEIGHBOUR: 'it returns false'. Refute it at one input. -/
def systabRightsWrong : ChangeSpec := { name := "systabRights", fn := fun _ => fun
  | [d] => { results := [.lit (.bool false)], args := [d] }
  | _ => none }
def SystabRightsWrongFalsely : Prop := systabRightsRow.holds Tryd.pinned (OpenSpec.ofChange systabRightsWrong)

/-- 'strainerlaw11.SystabBuiltin': WHATEVER THE INPUT: true; the input reads as it did. -/
def systabBuiltinSpec : ChangeSpec := { name := "systabBuiltin", fn := fun _ => fun
  | [d] => { results := [.lit (.bool true)], args := [d] }
  | _ => none }
def systabBuiltinRow : OpenClaim := { program := "ytlninlempefjcaadoor", sum := "a199bd94a420e1031942ef5b014907ebb45a2eb1ca11aa0f8f24c5daabb22ef9", func := "strainer/strainerlaw11.SystabBuiltin", spec := "systabBuiltin", inPlace := ["internal/bytealg.IndexByteString", "internal/bytealg.IndexString"], unfollowed := true, recurses := true, named := ["internal/bytealg.MaxLen", "unicode/utf8.first", "unicode/utf8.acceptRanges"], plainKeys := false, apart := false, laid := [("unicode/utf8.acceptRanges", laid_unicode_utf8_acceptRanges), ("unicode/utf8.first", laid_unicode_utf8_first)] }
def SystabBuiltinSaid : Prop := systabBuiltinRow.holds Tryd.pinned (OpenSpec.ofChange systabBuiltinSpec)

/-- ITS FALSE NEIGHBOUR: 'it returns false'. Refute it at one input. -/
def systabBuiltinWrong : ChangeSpec := { name := "systabBuiltin", fn := fun _ => fun
  | [d] => { results := [.lit (.bool false)], args := [d] }
  | _ => none }
def SystabBuiltinWrongFalsely : Prop := systabBuiltinRow.holds Tryd.pinned (OpenSpec.ofChange systabBuiltinWrong)

/-- 'strainerlaw11.SystabBack': WHATEVER THE INPUT: true; the input reads as it did. -/
def systabBackSpec : ChangeSpec := { name := "systabBack", fn := fun _ => fun
  | [d1, d2] => { results := [.lit (.bool true)], args := [d1, d2] }
  | _ => none }
def systabBackRow : OpenClaim := { program := "ytlninlempefjcaadoor", sum := "a199bd94a420e1031942ef5b014907ebb45a2eb1ca11aa0f8f24c5daabb22ef9", func := "strainer/strainerlaw11.SystabBack", spec := "systabBack", inPlace := ["internal/bytealg.IndexByteString", "internal/bytealg.IndexString"], unfollowed := true, recurses := true, named := ["internal/bytealg.MaxLen", "unicode/utf8.first", "unicode/utf8.acceptRanges"], plainKeys := false, apart := false, laid := [("unicode/utf8.acceptRanges", laid_unicode_utf8_acceptRanges), ("unicode/utf8.first", laid_unicode_utf8_first)] }
def SystabBackSaid : Prop := systabBackRow.holds Tryd.pinned (OpenSpec.ofChange systabBackSpec)

/-- ITS FALSE NEIGHBOUR: 'it returns false'. Refute it at one input. -/
def systabBackWrong : ChangeSpec := { name := "systabBack", fn := fun _ => fun
  | [d1, d2] => { results := [.lit (.bool false)], args := [d1, d2] }
  | _ => none }
def SystabBackWrongFalsely : Prop := systabBackRow.holds Tryd.pinned (OpenSpec.ofChange systabBackWrong)

/-- 'strainerlaw11.SystabLess': WHATEVER THE INPUT: true; the input reads as it did. -/
def systabLessSpec : ChangeSpec := { name := "systabLess", fn := fun _ => fun
  | [d1, d2] => { results := [.lit (.bool true)], args := [d1, d2] }
  | _ => none }
def systabLessRow : OpenClaim := { program := "ytlninlempefjcaadoor", sum := "a199bd94a420e1031942ef5b014907ebb45a2eb1ca11aa0f8f24c5daabb22ef9", func := "strainer/strainerlaw11.SystabLess", spec := "systabLess", inPlace := ["internal/bytealg.IndexByteString", "internal/bytealg.IndexString"], unfollowed := true, recurses := true, named := ["internal/bytealg.MaxLen", "unicode/utf8.first", "unicode/utf8.acceptRanges"], plainKeys := false, apart := false, laid := [("unicode/utf8.acceptRanges", laid_unicode_utf8_acceptRanges), ("unicode/utf8.first", laid_unicode_utf8_first)] }
def SystabLessSaid : Prop := systabLessRow.holds Tryd.pinned (OpenSpec.ofChange systabLessSpec)

/-- ITS FALSE NEIGHBOUR: 'it returns false'. Refute it at one input. -/
def systabLessWrong : ChangeSpec := { name := "systabLess", fn := fun _ => fun
  | [d1, d2] => { results := [.lit (.bool false)], args := [d1, d2] }
  | _ => none }
def SystabLessWrongFalsely : Prop := systabLessRow.holds Tryd.pinned (OpenSpec.ofChange systabLessWrong)

/-- 'strainerlaw11.SystabOrder': WHATEVER THE INPUT: true; the input reads as it did. -/
def systabOrderSpec : ChangeSpec := { name := "systabOrder", fn := fun _ => fun
  | [d] => { results := [.lit (.bool true)], args := [d] }
  | _ => none }
def systabOrderRow : OpenClaim := { program := "ytlninlempefjcaadoor", sum := "a199bd94a420e1031942ef5b014907ebb45a2eb1ca11aa0f8f24c5daabb22ef9", func := "strainer/strainerlaw11.SystabOrder", spec := "systabOrder", inPlace := ["internal/bytealg.IndexByteString", "internal/bytealg.IndexString"], unfollowed := true, recurses := true, named := ["internal/bytealg.MaxLen", "unicode/utf8.first", "unicode/utf8.acceptRanges"], plainKeys := false, apart := false, laid := [("unicode/utf8.acceptRanges", laid_unicode_utf8_acceptRanges), ("unicode/utf8.first", laid_unicode_utf8_first)] }
def SystabOrderSaid : Prop := systabOrderRow.holds Tryd.pinned (OpenSpec.ofChange systabOrderSpec)

/-- ITS FALSE NEIGHBOUR: 'it returns false'. Refute it at one input. -/
def systabOrderWrong : ChangeSpec := { name := "systabOrder", fn := fun _ => fun
  | [d] => { results := [.lit (.bool false)], args := [d] }
  | _ => none }
def SystabOrderWrongFalsely : Prop := systabOrderRow.holds Tryd.pinned (OpenSpec.ofChange systabOrderWrong)

/-- 'strainerlaw11.SystabPseudo': WHATEVER THE INPUT: true; the input reads as it did. -/
def systabPseudoSpec : ChangeSpec := { name := "systabPseudo", fn := fun _ => fun
  | [d1, d2, d3] => { results := [.lit (.bool true)], args := [d1, d2, d3] }
  | _ => none }
def systabPseudoRow : OpenClaim := { program := "ytlninlempefjcaadoor", sum := "a199bd94a420e1031942ef5b014907ebb45a2eb1ca11aa0f8f24c5daabb22ef9", func := "strainer/strainerlaw11.SystabPseudo", spec := "systabPseudo", inPlace := ["internal/bytealg.IndexByteString", "internal/bytealg.IndexString"], unfollowed := true, recurses := true, named := ["internal/bytealg.MaxLen", "unicode/utf8.first", "unicode/utf8.acceptRanges"], plainKeys := false, apart := false, laid := [("unicode/utf8.acceptRanges", laid_unicode_utf8_acceptRanges), ("unicode/utf8.first", laid_unicode_utf8_first)] }
def SystabPseudoSaid : Prop := systabPseudoRow.holds Tryd.pinned (OpenSpec.ofChange systabPseudoSpec)

/-- ITS FALSE NEIGHBOUR: 'it returns false'. Refute it at one input. -/
def systabPseudoWrong : ChangeSpec := { name := "systabPseudo", fn := fun _ => fun
  | [d1, d2, d3] => { results := [.lit (.bool false)], args := [d1, d2, d3] }
  | _ => none }
def SystabPseudoWrongFalsely : Prop := systabPseudoRow.holds Tryd.pinned (OpenSpec.ofChange systabPseudoWrong)

/- THE SECOND FORM. 'bulk': how many values and letters a reading holds, each counted each time it is reached (what is shared counts as often as it is met; a slice's spare places count too). A statement '..UptoSaid' is the law's where the arguments, and the package variables that the reading takes, are together of bulk at most 1048576: NARROWER than '..Said'. Prove '..Said' where nothing that the law and all that it calls make is longer than what came in: it says more and counts as full. Else prove '..UptoSaid'. A law counts once. -/
mutual
def uptoBulk {H : Type} : DataW H → Nat
  | .lit (.string bytes) => bytes.length + 1
  | .lit _ => 1
  | .nil => 1
  | .ptr d => uptoBulk d + 1
  | .slice elems spare => uptoBulkAll elems + uptoBulkAll spare + 1
  | .agg parts => uptoBulkAll parts + 1
  | .iface _ d => uptoBulk d + 1
  | .map entries => uptoBulkEntries entries + 1
  | .held _ => 1
def uptoBulkAll {H : Type} : List (DataW H) → Nat
  | [] => 0
  | d :: r => uptoBulk d + uptoBulkAll r
def uptoBulkEntries {H : Type} : List (Lit × DataW H) → Nat
  | [] => 0
  | x :: r => uptoBulkEntry x + uptoBulkEntries r
def uptoBulkEntry {H : Type} : Lit × DataW H → Nat
  | (.string bytes, d) => bytes.length + uptoBulk d + 1
  | (_, d) => uptoBulk d + 1
 end
def uptoSmall : (H : Type) → List (DataW H) → Bool := fun _ ds => decide (uptoBulkAll ds ≤ 1048576)
def OpenSpec.upto (s : _root_.Go.ChangeSpec) : _root_.Go.OpenSpec := { _root_.Go.OpenSpec.ofChange s with cond := some uptoSmall }

/-- 'strainerlaw11.SystabRights', WHERE WHAT IT READS IS OF BULK AT MOST 1048576: true; the input reads as it did. -/
def systabRightsUptoRow : OpenClaim := { program := "ytlninlempefjcaadoor", sum := "a199bd94a420e1031942ef5b014907ebb45a2eb1ca11aa0f8f24c5daabb22ef9", func := "strainer/strainerlaw11.SystabRights", spec := "systabRights", inPlace := ["internal/bytealg.IndexByteString", "internal/bytealg.IndexString"], unfollowed := true, recurses := true, named := ["internal/bytealg.MaxLen", "unicode/utf8.first", "unicode/utf8.acceptRanges"], plainKeys := false, apart := false, laid := [("unicode/utf8.acceptRanges", laid_unicode_utf8_acceptRanges), ("unicode/utf8.first", laid_unicode_utf8_first)], narrowed := true }
def SystabRightsUptoSaid : Prop := systabRightsUptoRow.holds Tryd.pinned (OpenSpec.upto systabRightsSpec)

/-- 'strainerlaw11.SystabBuiltin', WHERE WHAT IT READS IS OF BULK AT MOST 1048576: true; the input reads as it did. -/
def systabBuiltinUptoRow : OpenClaim := { program := "ytlninlempefjcaadoor", sum := "a199bd94a420e1031942ef5b014907ebb45a2eb1ca11aa0f8f24c5daabb22ef9", func := "strainer/strainerlaw11.SystabBuiltin", spec := "systabBuiltin", inPlace := ["internal/bytealg.IndexByteString", "internal/bytealg.IndexString"], unfollowed := true, recurses := true, named := ["internal/bytealg.MaxLen", "unicode/utf8.first", "unicode/utf8.acceptRanges"], plainKeys := false, apart := false, laid := [("unicode/utf8.acceptRanges", laid_unicode_utf8_acceptRanges), ("unicode/utf8.first", laid_unicode_utf8_first)], narrowed := true }
def SystabBuiltinUptoSaid : Prop := systabBuiltinUptoRow.holds Tryd.pinned (OpenSpec.upto systabBuiltinSpec)

/-- 'strainerlaw11.SystabBack', WHERE WHAT IT READS IS OF BULK AT MOST 1048576: true; the input reads as it did. -/
def systabBackUptoRow : OpenClaim := { program := "ytlninlempefjcaadoor", sum := "a199bd94a420e1031942ef5b014907ebb45a2eb1ca11aa0f8f24c5daabb22ef9", func := "strainer/strainerlaw11.SystabBack", spec := "systabBack", inPlace := ["internal/bytealg.IndexByteString", "internal/bytealg.IndexString"], unfollowed := true, recurses := true, named := ["internal/bytealg.MaxLen", "unicode/utf8.first", "unicode/utf8.acceptRanges"], plainKeys := false, apart := false, laid := [("unicode/utf8.acceptRanges", laid_unicode_utf8_acceptRanges), ("unicode/utf8.first", laid_unicode_utf8_first)], narrowed := true }
def SystabBackUptoSaid : Prop := systabBackUptoRow.holds Tryd.pinned (OpenSpec.upto systabBackSpec)

/-- 'strainerlaw11.SystabLess', WHERE WHAT IT READS IS OF BULK AT MOST 1048576: true; the input reads as it did. -/
def systabLessUptoRow : OpenClaim := { program := "ytlninlempefjcaadoor", sum := "a199bd94a420e1031942ef5b014907ebb45a2eb1ca11aa0f8f24c5daabb22ef9", func := "strainer/strainerlaw11.SystabLess", spec := "systabLess", inPlace := ["internal/bytealg.IndexByteString", "internal/bytealg.IndexString"], unfollowed := true, recurses := true, named := ["internal/bytealg.MaxLen", "unicode/utf8.first", "unicode/utf8.acceptRanges"], plainKeys := false, apart := false, laid := [("unicode/utf8.acceptRanges", laid_unicode_utf8_acceptRanges), ("unicode/utf8.first", laid_unicode_utf8_first)], narrowed := true }
def SystabLessUptoSaid : Prop := systabLessUptoRow.holds Tryd.pinned (OpenSpec.upto systabLessSpec)

/-- 'strainerlaw11.SystabOrder', WHERE WHAT IT READS IS OF BULK AT MOST 1048576: true; the input reads as it did. -/
def systabOrderUptoRow : OpenClaim := { program := "ytlninlempefjcaadoor", sum := "a199bd94a420e1031942ef5b014907ebb45a2eb1ca11aa0f8f24c5daabb22ef9", func := "strainer/strainerlaw11.SystabOrder", spec := "systabOrder", inPlace := ["internal/bytealg.IndexByteString", "internal/bytealg.IndexString"], unfollowed := true, recurses := true, named := ["internal/bytealg.MaxLen", "unicode/utf8.first", "unicode/utf8.acceptRanges"], plainKeys := false, apart := false, laid := [("unicode/utf8.acceptRanges", laid_unicode_utf8_acceptRanges), ("unicode/utf8.first", laid_unicode_utf8_first)], narrowed := true }
def SystabOrderUptoSaid : Prop := systabOrderUptoRow.holds Tryd.pinned (OpenSpec.upto systabOrderSpec)

/-- 'strainerlaw11.SystabPseudo', WHERE WHAT IT READS IS OF BULK AT MOST 1048576: true; the input reads as it did. -/
def systabPseudoUptoRow : OpenClaim := { program := "ytlninlempefjcaadoor", sum := "a199bd94a420e1031942ef5b014907ebb45a2eb1ca11aa0f8f24c5daabb22ef9", func := "strainer/strainerlaw11.SystabPseudo", spec := "systabPseudo", inPlace := ["internal/bytealg.IndexByteString", "internal/bytealg.IndexString"], unfollowed := true, recurses := true, named := ["internal/bytealg.MaxLen", "unicode/utf8.first", "unicode/utf8.acceptRanges"], plainKeys := false, apart := false, laid := [("unicode/utf8.acceptRanges", laid_unicode_utf8_acceptRanges), ("unicode/utf8.first", laid_unicode_utf8_first)], narrowed := true }
def SystabPseudoUptoSaid : Prop := systabPseudoUptoRow.holds Tryd.pinned (OpenSpec.upto systabPseudoSpec)

end Rows
end Go.Proofs.YtlninlempefjcaaDoor
