/-
  DERIVED. GIVEN WITH THE SEED: THE CARDS: each row of YtenmhdgmgmcllaaGreatDoorRows.lean that lists a variable, with what it lists TIED to the program's text (the seventh form; the later family's looks); each row that meets fmt, with fmt's text TOLD by the authors' own Lean function (tested against real Go, not proved from fmt's source: count such statements apart). THE CARD IS WHAT COUNTS. Prove the row's statement (the work); the ties are given (YtenmhdgmgmcllaaGreatDoorTie.lean); close each card by the builder's one call (the guide's Derived/Test/ToyasCard.lean, 'card_holds'). Laid BY PROGRAM, IN A SANDBOX (cutbox-door.mjs). By AI agents, Wed Nov 11 2026. No macro, syntax, notation, axiom, sorry.
-/
import Derived.Test.YtenmhdgmgmcllaaGreatDoorRows
import GoSem.ClaimSeven
namespace Go.Proofs.YtenmhdgmgmcllaaGreatDoor
namespace Rows

/-- THE TIED CARD OF 'strainerlaw03.ListLong'. -/
def listLongCard : Claim7 := { stood := { row := listLongRow, standIns := [], harness := (true, "c027eeb196b7daefbab296e6db6377f8e2cb4501a2dce0a84837b79060db4c7d"), looks := true }, kinds := [], alts := [], laidByText := true, laidKinds := [.data, .data, .data, .data, .sentinel, .sentinel, .listed, .data, .pinned], laidTests := true, laidLooks := .later }
def ListLongCardSaid : Prop := Claim7.holds Tryz.pinned (.plain (OpenSpec.ofChange listLongSpec)) listLongCard

/-- THE SECOND FORM's CARD OF 'strainerlaw03.ListLong'. -/
def listLongUptoCard : Claim7 := { stood := { row := listLongUptoRow, standIns := [], harness := (true, "c027eeb196b7daefbab296e6db6377f8e2cb4501a2dce0a84837b79060db4c7d"), looks := true }, kinds := [], alts := [], laidByText := true, laidKinds := [.data, .data, .data, .data, .sentinel, .sentinel, .listed, .data, .pinned], laidTests := true, laidLooks := .later }
def ListLongUptoCardSaid : Prop := Claim7.holds Tryz.pinned (.plain (OpenSpec.upto listLongSpec)) listLongUptoCard
end Rows
end Go.Proofs.YtenmhdgmgmcllaaGreatDoor
