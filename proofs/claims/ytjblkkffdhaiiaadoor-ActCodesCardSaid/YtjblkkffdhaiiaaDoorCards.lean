/-
  DERIVED. GIVEN WITH THE SEED: THE CARDS: each row of YtjblkkffdhaiiaaDoorRows.lean that lists a variable, with what it lists TIED to the program's text (the seventh form; the later family's looks); each row that meets fmt, with fmt's text TOLD by the authors' own Lean function (tested against real Go, not proved from fmt's source: count such statements apart). THE CARD IS WHAT COUNTS. Prove the row's statement (the work); the ties are given (YtjblkkffdhaiiaaDoorTie.lean); close each card by the builder's one call (the guide's Derived/Test/ToyasCard.lean, 'card_holds'). Laid BY PROGRAM, IN A SANDBOX (cutbox-door.mjs). By AI agents, Wed Nov 11 2026. No macro, syntax, notation, axiom, sorry.
-/
import Derived.Test.YtjblkkffdhaiiaaDoorRows
import GoSem.ClaimSeven
namespace Go.Proofs.YtjblkkffdhaiiaaDoor
namespace Rows

/-- THE TIED CARD OF 'strainerlaw09.ActCodes'. -/
def actCodesCard : Claim7 := { stood := { row := actCodesRow, standIns := [], harness := (true, "3dc8884dfcdca4014915de36ac7f3d2a5e7efb7816e7a2a73b4c003d58c13f8f"), looks := true }, kinds := [], alts := [], laidByText := true, laidKinds := [.data, .data, .data], laidTests := true, laidLooks := .later }
def ActCodesCardSaid : Prop := Claim7.holds Tryd.pinned (.plain (OpenSpec.ofChange actCodesSpec)) actCodesCard

/-- THE TIED CARD OF 'strainerlaw09.ActReads'. -/
def actReadsCard : Claim7 := { stood := { row := actReadsRow, standIns := [], harness := (true, "3dc8884dfcdca4014915de36ac7f3d2a5e7efb7816e7a2a73b4c003d58c13f8f"), looks := true }, kinds := [], alts := [], laidByText := true, laidKinds := [.data, .data, .data, .sentinel, .sentinel], laidTests := true, laidLooks := .later }
def ActReadsCardSaid : Prop := Claim7.holds Tryd.pinned (.plain (OpenSpec.ofChange actReadsSpec)) actReadsCard

/-- THE TIED CARD OF 'strainerlaw09.ActBack'. -/
def actBackCard : Claim7 := { stood := { row := actBackRow, standIns := [], harness := (true, "3dc8884dfcdca4014915de36ac7f3d2a5e7efb7816e7a2a73b4c003d58c13f8f"), looks := true }, kinds := [], alts := [], laidByText := true, laidKinds := [.data, .data, .data], laidTests := true, laidLooks := .later }
def ActBackCardSaid : Prop := Claim7.holds Tryd.pinned (.plain (OpenSpec.ofChange actBackSpec)) actBackCard

/-- THE TIED CARD OF 'strainerlaw09.ActWords'. -/
def actWordsCard : Claim7 := { stood := { row := actWordsRow, standIns := [], harness := (true, "3dc8884dfcdca4014915de36ac7f3d2a5e7efb7816e7a2a73b4c003d58c13f8f"), looks := true }, kinds := [], alts := [], laidByText := true, laidKinds := [.data, .data, .data, .sentinel, .sentinel], laidTests := true, laidLooks := .later }
def ActWordsCardSaid : Prop := Claim7.holds Tryd.pinned (.plain (OpenSpec.ofChange actWordsSpec)) actWordsCard

/-- THE SECOND FORM's CARD OF 'strainerlaw09.ActCodes'. -/
def actCodesUptoCard : Claim7 := { stood := { row := actCodesUptoRow, standIns := [], harness := (true, "3dc8884dfcdca4014915de36ac7f3d2a5e7efb7816e7a2a73b4c003d58c13f8f"), looks := true }, kinds := [], alts := [], laidByText := true, laidKinds := [.data, .data, .data], laidTests := true, laidLooks := .later }
def ActCodesUptoCardSaid : Prop := Claim7.holds Tryd.pinned (.plain (OpenSpec.upto actCodesSpec)) actCodesUptoCard

/-- THE SECOND FORM's CARD OF 'strainerlaw09.ActReads'. -/
def actReadsUptoCard : Claim7 := { stood := { row := actReadsUptoRow, standIns := [], harness := (true, "3dc8884dfcdca4014915de36ac7f3d2a5e7efb7816e7a2a73b4c003d58c13f8f"), looks := true }, kinds := [], alts := [], laidByText := true, laidKinds := [.data, .data, .data, .sentinel, .sentinel], laidTests := true, laidLooks := .later }
def ActReadsUptoCardSaid : Prop := Claim7.holds Tryd.pinned (.plain (OpenSpec.upto actReadsSpec)) actReadsUptoCard

/-- THE SECOND FORM's CARD OF 'strainerlaw09.ActBack'. -/
def actBackUptoCard : Claim7 := { stood := { row := actBackUptoRow, standIns := [], harness := (true, "3dc8884dfcdca4014915de36ac7f3d2a5e7efb7816e7a2a73b4c003d58c13f8f"), looks := true }, kinds := [], alts := [], laidByText := true, laidKinds := [.data, .data, .data], laidTests := true, laidLooks := .later }
def ActBackUptoCardSaid : Prop := Claim7.holds Tryd.pinned (.plain (OpenSpec.upto actBackSpec)) actBackUptoCard

/-- THE SECOND FORM's CARD OF 'strainerlaw09.ActWords'. -/
def actWordsUptoCard : Claim7 := { stood := { row := actWordsUptoRow, standIns := [], harness := (true, "3dc8884dfcdca4014915de36ac7f3d2a5e7efb7816e7a2a73b4c003d58c13f8f"), looks := true }, kinds := [], alts := [], laidByText := true, laidKinds := [.data, .data, .data, .sentinel, .sentinel], laidTests := true, laidLooks := .later }
def ActWordsUptoCardSaid : Prop := Claim7.holds Tryd.pinned (.plain (OpenSpec.upto actWordsSpec)) actWordsUptoCard
end Rows
end Go.Proofs.YtjblkkffdhaiiaaDoor
