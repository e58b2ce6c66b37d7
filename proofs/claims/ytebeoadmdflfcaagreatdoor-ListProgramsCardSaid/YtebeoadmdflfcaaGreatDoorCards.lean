/-
  DERIVED. GIVEN WITH THE SEED: THE CARDS: each row of YtebeoadmdflfcaaGreatDoorRows.lean that lists a variable, with what it lists TIED to the program's text (the seventh form; the later family's looks); each row that meets fmt, with fmt's text TOLD by the authors' own Lean function (tested against real Go, not proved from fmt's source: count such statements apart). THE CARD IS WHAT COUNTS. Prove the row's statement (the work); the ties are given (YtebeoadmdflfcaaGreatDoorTie.lean); close each card by the builder's one call (the guide's Derived/Test/ToyasCard.lean, 'card_holds'). Laid BY PROGRAM, IN A SANDBOX (cutbox-door.mjs). By AI agents, Wed Nov 11 2026. No macro, syntax, notation, axiom, sorry.
-/
import Derived.Test.YtebeoadmdflfcaaGreatDoorRows
import GoSem.ClaimSeven
namespace Go.Proofs.YtebeoadmdflfcaaGreatDoor
namespace Rows

/-- THE TIED CARD OF 'strainerlaw03.ListReads'. -/
def listReadsCard : Claim7 := { stood := { row := listReadsRow, standIns := [], harness := (true, "38ce2956adce046fcf15c5181af6f8712e23c5b9eb9eb27778b5b313ab374692"), looks := true }, kinds := [], alts := [], laidByText := true, laidKinds := [.data, .data, .data, .data, .sentinel, .sentinel, .listed, .data, .pinned], laidTests := true, laidLooks := .later }
def ListReadsCardSaid : Prop := Claim7.holds Tryz.pinned (.plain (OpenSpec.ofChange listReadsSpec)) listReadsCard

/-- THE TIED CARD OF 'strainerlaw03.ListPrograms'. -/
def listProgramsCard : Claim7 := { stood := { row := listProgramsRow, standIns := [], harness := (true, "38ce2956adce046fcf15c5181af6f8712e23c5b9eb9eb27778b5b313ab374692"), looks := true }, kinds := [], alts := [], laidByText := true, laidKinds := [.data, .data, .data, .data, .sentinel, .sentinel, .listed, .data, .pinned], laidTests := true, laidLooks := .later }
def ListProgramsCardSaid : Prop := Claim7.holds Tryz.pinned (.plain (OpenSpec.ofChange listProgramsSpec)) listProgramsCard

/-- THE TIED CARD OF 'strainerlaw03.ListBack'. -/
def listBackCard : Claim7 := { stood := { row := listBackRow, standIns := [], harness := (true, "38ce2956adce046fcf15c5181af6f8712e23c5b9eb9eb27778b5b313ab374692"), looks := true }, kinds := [], alts := [], laidByText := true, laidKinds := [.data, .data, .data, .data, .sentinel, .sentinel, .listed, .data, .pinned], laidTests := true, laidLooks := .later }
def ListBackCardSaid : Prop := Claim7.holds Tryz.pinned (.plain (OpenSpec.ofChange listBackSpec)) listBackCard

/-- THE SECOND FORM's CARD OF 'strainerlaw03.ListReads'. -/
def listReadsUptoCard : Claim7 := { stood := { row := listReadsUptoRow, standIns := [], harness := (true, "38ce2956adce046fcf15c5181af6f8712e23c5b9eb9eb27778b5b313ab374692"), looks := true }, kinds := [], alts := [], laidByText := true, laidKinds := [.data, .data, .data, .data, .sentinel, .sentinel, .listed, .data, .pinned], laidTests := true, laidLooks := .later }
def ListReadsUptoCardSaid : Prop := Claim7.holds Tryz.pinned (.plain (OpenSpec.upto listReadsSpec)) listReadsUptoCard

/-- THE SECOND FORM's CARD OF 'strainerlaw03.ListPrograms'. -/
def listProgramsUptoCard : Claim7 := { stood := { row := listProgramsUptoRow, standIns := [], harness := (true, "38ce2956adce046fcf15c5181af6f8712e23c5b9eb9eb27778b5b313ab374692"), looks := true }, kinds := [], alts := [], laidByText := true, laidKinds := [.data, .data, .data, .data, .sentinel, .sentinel, .listed, .data, .pinned], laidTests := true, laidLooks := .later }
def ListProgramsUptoCardSaid : Prop := Claim7.holds Tryz.pinned (.plain (OpenSpec.upto listProgramsSpec)) listProgramsUptoCard

/-- THE SECOND FORM's CARD OF 'strainerlaw03.ListBack'. -/
def listBackUptoCard : Claim7 := { stood := { row := listBackUptoRow, standIns := [], harness := (true, "38ce2956adce046fcf15c5181af6f8712e23c5b9eb9eb27778b5b313ab374692"), looks := true }, kinds := [], alts := [], laidByText := true, laidKinds := [.data, .data, .data, .data, .sentinel, .sentinel, .listed, .data, .pinned], laidTests := true, laidLooks := .later }
def ListBackUptoCardSaid : Prop := Claim7.holds Tryz.pinned (.plain (OpenSpec.upto listBackSpec)) listBackUptoCard
end Rows
end Go.Proofs.YtebeoadmdflfcaaGreatDoor
