/-
  DERIVED. GIVEN WITH THE SEED: THE CARDS: each row of YtohjdfmffnblcaaDoorRows.lean that lists a variable, with what it lists TIED to the program's text (the seventh form; the later family's looks); each row that meets fmt, with fmt's text TOLD by the authors' own Lean function (tested against real Go, not proved from fmt's source: count such statements apart). THE CARD IS WHAT COUNTS. Prove the row's statement (the work); the ties are given (YtohjdfmffnblcaaDoorTie.lean); close each card by the builder's one call (the guide's Derived/Test/ToyasCard.lean, 'card_holds'). Laid BY PROGRAM, IN A SANDBOX (cutbox-door.mjs). By AI agents, Wed Nov 11 2026. No macro, syntax, notation, axiom, sorry.
-/
import Derived.Test.YtohjdfmffnblcaaDoorRows
import GoSem.ClaimSeven
namespace Go.Proofs.YtohjdfmffnblcaaDoor
namespace Rows

/-- THE TIED CARD OF 'strainerlaw03.ListNotes'. -/
def listNotesCard : Claim7 := { stood := { row := listNotesRow, standIns := [], harness := (true, "11c179ea3a487f9a2a8e552dd9dc0731ab830bdb0770849e48d863f1b2df5f72"), looks := true }, kinds := [], alts := [], laidByText := true, laidKinds := [.data, .data, .data, .data, .sentinel, .sentinel, .listed, .data, .pinned], laidTests := true, laidLooks := .later }
def ListNotesCardSaid : Prop := Claim7.holds Tryd.pinned (.plain (OpenSpec.ofChange listNotesSpec)) listNotesCard

/-- THE SECOND FORM's CARD OF 'strainerlaw03.ListNotes'. -/
def listNotesUptoCard : Claim7 := { stood := { row := listNotesUptoRow, standIns := [], harness := (true, "11c179ea3a487f9a2a8e552dd9dc0731ab830bdb0770849e48d863f1b2df5f72"), looks := true }, kinds := [], alts := [], laidByText := true, laidKinds := [.data, .data, .data, .data, .sentinel, .sentinel, .listed, .data, .pinned], laidTests := true, laidLooks := .later }
def ListNotesUptoCardSaid : Prop := Claim7.holds Tryd.pinned (.plain (OpenSpec.upto listNotesSpec)) listNotesUptoCard
end Rows
end Go.Proofs.YtohjdfmffnblcaaDoor
