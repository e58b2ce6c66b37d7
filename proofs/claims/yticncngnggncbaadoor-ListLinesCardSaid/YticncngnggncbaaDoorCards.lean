/-
  DERIVED. GIVEN WITH THE SEED: THE CARDS: each row of YticncngnggncbaaDoorRows.lean that lists a variable, with what it lists TIED to the program's text (the seventh form; the later family's looks); each row that meets fmt, with fmt's text TOLD by the authors' own Lean function (tested against real Go, not proved from fmt's source: count such statements apart). THE CARD IS WHAT COUNTS. Prove the row's statement (the work); the ties are given (YticncngnggncbaaDoorTie.lean); close each card by the builder's one call (the guide's Derived/Test/ToyasCard.lean, 'card_holds'). Laid BY PROGRAM, IN A SANDBOX (cutbox-door.mjs). By AI agents, Wed Nov 11 2026. No macro, syntax, notation, axiom, sorry.
-/
import Derived.Test.YticncngnggncbaaDoorRows
import GoSem.ClaimSeven
namespace Go.Proofs.YticncngnggncbaaDoor
namespace Rows

/-- THE TIED CARD OF 'strainerlaw03.ListLines'. -/
def listLinesCard : Claim7 := { stood := { row := listLinesRow, standIns := [], harness := (true, "c2f28a5483282c8bea3f80f558995492f0f22d09e622efb7ef9936e9eb61afda"), looks := false }, kinds := [], alts := [], laidByText := true, laidKinds := [.data, .data, .data, .data, .pinned], laidTests := true, laidLooks := .later }
def ListLinesCardSaid : Prop := Claim7.holds Tryd.pinned (.plain (OpenSpec.ofChange listLinesSpec)) listLinesCard

/-- THE TIED CARD OF 'strainerlaw03.ListApart'. -/
def listApartCard : Claim7 := { stood := { row := listApartRow, standIns := [], harness := (true, "c2f28a5483282c8bea3f80f558995492f0f22d09e622efb7ef9936e9eb61afda"), looks := false }, kinds := [], alts := [], laidByText := true, laidKinds := [.data, .data, .data, .data, .pinned], laidTests := true, laidLooks := .later }
def ListApartCardSaid : Prop := Claim7.holds Tryd.pinned (.plain (OpenSpec.ofChange listApartSpec)) listApartCard

/-- THE SECOND FORM's CARD OF 'strainerlaw03.ListLines'. -/
def listLinesUptoCard : Claim7 := { stood := { row := listLinesUptoRow, standIns := [], harness := (true, "c2f28a5483282c8bea3f80f558995492f0f22d09e622efb7ef9936e9eb61afda"), looks := false }, kinds := [], alts := [], laidByText := true, laidKinds := [.data, .data, .data, .data, .pinned], laidTests := true, laidLooks := .later }
def ListLinesUptoCardSaid : Prop := Claim7.holds Tryd.pinned (.plain (OpenSpec.upto listLinesSpec)) listLinesUptoCard

/-- THE SECOND FORM's CARD OF 'strainerlaw03.ListApart'. -/
def listApartUptoCard : Claim7 := { stood := { row := listApartUptoRow, standIns := [], harness := (true, "c2f28a5483282c8bea3f80f558995492f0f22d09e622efb7ef9936e9eb61afda"), looks := false }, kinds := [], alts := [], laidByText := true, laidKinds := [.data, .data, .data, .data, .pinned], laidTests := true, laidLooks := .later }
def ListApartUptoCardSaid : Prop := Claim7.holds Tryd.pinned (.plain (OpenSpec.upto listApartSpec)) listApartUptoCard
end Rows
end Go.Proofs.YticncngnggncbaaDoor
