/-
  DERIVED. GIVEN WITH THE SEED: THE CARDS: each row of YtccklmleaffgiaaGreatDoorRows.lean that lists a variable, with what it lists TIED to the program's text (the seventh form; the later family's looks); each row that meets fmt, with fmt's text TOLD by the authors' own Lean function (tested against real Go, not proved from fmt's source: count such statements apart). THE CARD IS WHAT COUNTS. Prove the row's statement (the work); the ties are given (YtccklmleaffgiaaGreatDoorTie.lean); close each card by the builder's one call (the guide's Derived/Test/ToyasCard.lean, 'card_holds'). Laid BY PROGRAM, IN A SANDBOX (cutbox-door.mjs). By AI agents, Wed Nov 11 2026. No macro, syntax, notation, axiom, sorry.
-/
import Derived.Test.YtccklmleaffgiaaGreatDoorRows
import GoSem.ClaimSeven
namespace Go.Proofs.YtccklmleaffgiaaGreatDoor
namespace Rows

/-- THE TIED CARD OF 'strainerlaw14.PolicyAgain'. -/
def policyAgainCard : Claim7 := { stood := { row := policyAgainRow, standIns := [], harness := (true, "f6549fd99f5eae8572ae8fa11beb7e2dd28d7b7ef935a09eb6b4f8bcdad288c4"), looks := true }, kinds := [], alts := [], laidByText := true, laidKinds := [.data, .data, .data, .data, .sentinel, .sentinel, .pinned], laidTests := true, laidLooks := .later }
def PolicyAgainCardSaid : Prop := Claim7.holds Tryz.pinned (.plain (OpenSpec.ofChange policyAgainSpec)) policyAgainCard

/-- THE TIED CARD OF 'strainerlaw14.PolicyNotes'. -/
def policyNotesCard : Claim7 := { stood := { row := policyNotesRow, standIns := [], harness := (true, "f6549fd99f5eae8572ae8fa11beb7e2dd28d7b7ef935a09eb6b4f8bcdad288c4"), looks := true }, kinds := [], alts := [], laidByText := true, laidKinds := [.data, .data, .data, .data, .sentinel, .sentinel, .pinned], laidTests := true, laidLooks := .later }
def PolicyNotesCardSaid : Prop := Claim7.holds Tryz.pinned (.plain (OpenSpec.ofChange policyNotesSpec)) policyNotesCard

/-- THE TIED CARD OF 'strainerlaw15.ValidTurned'. -/
def validTurnedCard : Claim7 := { stood := { row := validTurnedRow, standIns := [], harness := (true, "f6549fd99f5eae8572ae8fa11beb7e2dd28d7b7ef935a09eb6b4f8bcdad288c4"), looks := true }, kinds := [], alts := [], laidByText := true, laidKinds := [.data, .pinned], laidTests := true, laidLooks := .later }
def ValidTurnedCardSaid : Prop := Claim7.holds Tryz.pinned (.plain (OpenSpec.ofChange validTurnedSpec)) validTurnedCard

/-- THE SECOND FORM's CARD OF 'strainerlaw14.PolicyAgain'. -/
def policyAgainUptoCard : Claim7 := { stood := { row := policyAgainUptoRow, standIns := [], harness := (true, "f6549fd99f5eae8572ae8fa11beb7e2dd28d7b7ef935a09eb6b4f8bcdad288c4"), looks := true }, kinds := [], alts := [], laidByText := true, laidKinds := [.data, .data, .data, .data, .sentinel, .sentinel, .pinned], laidTests := true, laidLooks := .later }
def PolicyAgainUptoCardSaid : Prop := Claim7.holds Tryz.pinned (.plain (OpenSpec.upto policyAgainSpec)) policyAgainUptoCard

/-- THE SECOND FORM's CARD OF 'strainerlaw14.PolicyNotes'. -/
def policyNotesUptoCard : Claim7 := { stood := { row := policyNotesUptoRow, standIns := [], harness := (true, "f6549fd99f5eae8572ae8fa11beb7e2dd28d7b7ef935a09eb6b4f8bcdad288c4"), looks := true }, kinds := [], alts := [], laidByText := true, laidKinds := [.data, .data, .data, .data, .sentinel, .sentinel, .pinned], laidTests := true, laidLooks := .later }
def PolicyNotesUptoCardSaid : Prop := Claim7.holds Tryz.pinned (.plain (OpenSpec.upto policyNotesSpec)) policyNotesUptoCard

/-- THE SECOND FORM's CARD OF 'strainerlaw15.ValidTurned'. -/
def validTurnedUptoCard : Claim7 := { stood := { row := validTurnedUptoRow, standIns := [], harness := (true, "f6549fd99f5eae8572ae8fa11beb7e2dd28d7b7ef935a09eb6b4f8bcdad288c4"), looks := true }, kinds := [], alts := [], laidByText := true, laidKinds := [.data, .pinned], laidTests := true, laidLooks := .later }
def ValidTurnedUptoCardSaid : Prop := Claim7.holds Tryz.pinned (.plain (OpenSpec.upto validTurnedSpec)) validTurnedUptoCard
end Rows
end Go.Proofs.YtccklmleaffgiaaGreatDoor
