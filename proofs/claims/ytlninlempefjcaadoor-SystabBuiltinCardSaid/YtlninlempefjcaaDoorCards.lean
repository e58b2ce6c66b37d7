/-
  DERIVED. GIVEN WITH THE SEED: THE CARDS: each row of YtlninlempefjcaaDoorRows.lean that lists a variable, with what it lists TIED to the program's text (the seventh form; the later family's looks); each row that meets fmt, with fmt's text TOLD by the authors' own Lean function (tested against real Go, not proved from fmt's source: count such statements apart). THE CARD IS WHAT COUNTS. Prove the row's statement (the work); the ties are given (YtlninlempefjcaaDoorTie.lean); close each card by the builder's one call (the guide's Derived/Test/ToyasCard.lean, 'card_holds'). Laid BY PROGRAM, IN A SANDBOX (cutbox-door.mjs). By AI agents, Wed Nov 11 2026. No macro, syntax, notation, axiom, sorry.
-/
import Derived.Test.YtlninlempefjcaaDoorRows
import GoSem.ClaimSeven
namespace Go.Proofs.YtlninlempefjcaaDoor
namespace Rows

/-- THE TIED CARD OF 'strainerlaw11.SystabRights'. -/
def systabRightsCard : Claim7 := { stood := { row := systabRightsRow, standIns := [], harness := (true, "716ac47865ca3f69568a54763451b95a09cdd4409b0637de9569739716bc230f"), looks := false }, kinds := [], alts := [], laidByText := true, laidKinds := [.data, .pinned], laidTests := true, laidLooks := .later }
def SystabRightsCardSaid : Prop := Claim7.holds Tryd.pinned (.plain (OpenSpec.ofChange systabRightsSpec)) systabRightsCard

/-- THE TIED CARD OF 'strainerlaw11.SystabBuiltin'. -/
def systabBuiltinCard : Claim7 := { stood := { row := systabBuiltinRow, standIns := [], harness := (true, "716ac47865ca3f69568a54763451b95a09cdd4409b0637de9569739716bc230f"), looks := false }, kinds := [], alts := [], laidByText := true, laidKinds := [.data, .pinned], laidTests := true, laidLooks := .later }
def SystabBuiltinCardSaid : Prop := Claim7.holds Tryd.pinned (.plain (OpenSpec.ofChange systabBuiltinSpec)) systabBuiltinCard

/-- THE TIED CARD OF 'strainerlaw11.SystabBack'. -/
def systabBackCard : Claim7 := { stood := { row := systabBackRow, standIns := [], harness := (true, "716ac47865ca3f69568a54763451b95a09cdd4409b0637de9569739716bc230f"), looks := false }, kinds := [], alts := [], laidByText := true, laidKinds := [.data, .pinned], laidTests := true, laidLooks := .later }
def SystabBackCardSaid : Prop := Claim7.holds Tryd.pinned (.plain (OpenSpec.ofChange systabBackSpec)) systabBackCard

/-- THE TIED CARD OF 'strainerlaw11.SystabLess'. -/
def systabLessCard : Claim7 := { stood := { row := systabLessRow, standIns := [], harness := (true, "716ac47865ca3f69568a54763451b95a09cdd4409b0637de9569739716bc230f"), looks := false }, kinds := [], alts := [], laidByText := true, laidKinds := [.data, .pinned], laidTests := true, laidLooks := .later }
def SystabLessCardSaid : Prop := Claim7.holds Tryd.pinned (.plain (OpenSpec.ofChange systabLessSpec)) systabLessCard

/-- THE TIED CARD OF 'strainerlaw11.SystabOrder'. -/
def systabOrderCard : Claim7 := { stood := { row := systabOrderRow, standIns := [], harness := (true, "716ac47865ca3f69568a54763451b95a09cdd4409b0637de9569739716bc230f"), looks := false }, kinds := [], alts := [], laidByText := true, laidKinds := [.data, .pinned], laidTests := true, laidLooks := .later }
def SystabOrderCardSaid : Prop := Claim7.holds Tryd.pinned (.plain (OpenSpec.ofChange systabOrderSpec)) systabOrderCard

/-- THE TIED CARD OF 'strainerlaw11.SystabPseudo'. -/
def systabPseudoCard : Claim7 := { stood := { row := systabPseudoRow, standIns := [], harness := (true, "716ac47865ca3f69568a54763451b95a09cdd4409b0637de9569739716bc230f"), looks := false }, kinds := [], alts := [], laidByText := true, laidKinds := [.data, .pinned], laidTests := true, laidLooks := .later }
def SystabPseudoCardSaid : Prop := Claim7.holds Tryd.pinned (.plain (OpenSpec.ofChange systabPseudoSpec)) systabPseudoCard

/-- THE SECOND FORM's CARD OF 'strainerlaw11.SystabRights'. -/
def systabRightsUptoCard : Claim7 := { stood := { row := systabRightsUptoRow, standIns := [], harness := (true, "716ac47865ca3f69568a54763451b95a09cdd4409b0637de9569739716bc230f"), looks := false }, kinds := [], alts := [], laidByText := true, laidKinds := [.data, .pinned], laidTests := true, laidLooks := .later }
def SystabRightsUptoCardSaid : Prop := Claim7.holds Tryd.pinned (.plain (OpenSpec.upto systabRightsSpec)) systabRightsUptoCard

/-- THE SECOND FORM's CARD OF 'strainerlaw11.SystabBuiltin'. -/
def systabBuiltinUptoCard : Claim7 := { stood := { row := systabBuiltinUptoRow, standIns := [], harness := (true, "716ac47865ca3f69568a54763451b95a09cdd4409b0637de9569739716bc230f"), looks := false }, kinds := [], alts := [], laidByText := true, laidKinds := [.data, .pinned], laidTests := true, laidLooks := .later }
def SystabBuiltinUptoCardSaid : Prop := Claim7.holds Tryd.pinned (.plain (OpenSpec.upto systabBuiltinSpec)) systabBuiltinUptoCard

/-- THE SECOND FORM's CARD OF 'strainerlaw11.SystabBack'. -/
def systabBackUptoCard : Claim7 := { stood := { row := systabBackUptoRow, standIns := [], harness := (true, "716ac47865ca3f69568a54763451b95a09cdd4409b0637de9569739716bc230f"), looks := false }, kinds := [], alts := [], laidByText := true, laidKinds := [.data, .pinned], laidTests := true, laidLooks := .later }
def SystabBackUptoCardSaid : Prop := Claim7.holds Tryd.pinned (.plain (OpenSpec.upto systabBackSpec)) systabBackUptoCard

/-- THE SECOND FORM's CARD OF 'strainerlaw11.SystabLess'. -/
def systabLessUptoCard : Claim7 := { stood := { row := systabLessUptoRow, standIns := [], harness := (true, "716ac47865ca3f69568a54763451b95a09cdd4409b0637de9569739716bc230f"), looks := false }, kinds := [], alts := [], laidByText := true, laidKinds := [.data, .pinned], laidTests := true, laidLooks := .later }
def SystabLessUptoCardSaid : Prop := Claim7.holds Tryd.pinned (.plain (OpenSpec.upto systabLessSpec)) systabLessUptoCard

/-- THE SECOND FORM's CARD OF 'strainerlaw11.SystabOrder'. -/
def systabOrderUptoCard : Claim7 := { stood := { row := systabOrderUptoRow, standIns := [], harness := (true, "716ac47865ca3f69568a54763451b95a09cdd4409b0637de9569739716bc230f"), looks := false }, kinds := [], alts := [], laidByText := true, laidKinds := [.data, .pinned], laidTests := true, laidLooks := .later }
def SystabOrderUptoCardSaid : Prop := Claim7.holds Tryd.pinned (.plain (OpenSpec.upto systabOrderSpec)) systabOrderUptoCard

/-- THE SECOND FORM's CARD OF 'strainerlaw11.SystabPseudo'. -/
def systabPseudoUptoCard : Claim7 := { stood := { row := systabPseudoUptoRow, standIns := [], harness := (true, "716ac47865ca3f69568a54763451b95a09cdd4409b0637de9569739716bc230f"), looks := false }, kinds := [], alts := [], laidByText := true, laidKinds := [.data, .pinned], laidTests := true, laidLooks := .later }
def SystabPseudoUptoCardSaid : Prop := Claim7.holds Tryd.pinned (.plain (OpenSpec.upto systabPseudoSpec)) systabPseudoUptoCard
end Rows
end Go.Proofs.YtlninlempefjcaaDoor
