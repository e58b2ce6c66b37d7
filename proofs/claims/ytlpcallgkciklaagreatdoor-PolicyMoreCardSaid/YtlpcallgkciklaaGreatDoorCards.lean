/-
  DERIVED. GIVEN WITH THE SEED: THE CARDS: each row of YtlpcallgkciklaaGreatDoorRows.lean that lists a variable, with what it lists TIED to the program's text (the seventh form; the later family's looks); each row that meets fmt, with fmt's text TOLD by the authors' own Lean function (tested against real Go, not proved from fmt's source: count such statements apart). THE CARD IS WHAT COUNTS. Prove the row's statement (the work); the ties are given (YtlpcallgkciklaaGreatDoorTie.lean); close each card by the builder's one call (the guide's Derived/Test/ToyasCard.lean, 'card_holds'). Laid BY PROGRAM, IN A SANDBOX (cutbox-door.mjs). By AI agents, Wed Nov 11 2026. No macro, syntax, notation, axiom, sorry.
-/
import Derived.Test.YtlpcallgkciklaaGreatDoorRows
import GoSem.ClaimSeven
namespace Go.Proofs.YtlpcallgkciklaaGreatDoor
namespace Rows

/-- THE TIED CARD OF 'strainerlaw14.PolicySame'. -/
def policySameCard : Claim7 := { stood := { row := policySameRow, standIns := [], harness := (true, "071ae0cbb6fcee4abcfbdfa555ac68d2e33f8bdf0815b903a094e28bc1af3d77"), looks := true }, kinds := [], alts := [], laidByText := true, laidKinds := [.data, .data, .data, .data, .sentinel, .sentinel, .pinned], laidTests := true, laidLooks := .later }
def PolicySameCardSaid : Prop := Claim7.holds Tryz.pinned (.plain (OpenSpec.ofChange policySameSpec)) policySameCard

/-- THE TIED CARD OF 'strainerlaw14.PolicyBack'. -/
def policyBackCard : Claim7 := { stood := { row := policyBackRow, standIns := [], harness := (true, "071ae0cbb6fcee4abcfbdfa555ac68d2e33f8bdf0815b903a094e28bc1af3d77"), looks := true }, kinds := [], alts := [], laidByText := true, laidKinds := [.data, .data, .data, .data, .sentinel, .sentinel, .pinned], laidTests := true, laidLooks := .later }
def PolicyBackCardSaid : Prop := Claim7.holds Tryz.pinned (.plain (OpenSpec.ofChange policyBackSpec)) policyBackCard

/-- THE TIED CARD OF 'strainerlaw14.PolicyMore'. -/
def policyMoreCard : Claim7 := { stood := { row := policyMoreRow, standIns := [], harness := (true, "071ae0cbb6fcee4abcfbdfa555ac68d2e33f8bdf0815b903a094e28bc1af3d77"), looks := true }, kinds := [], alts := [], laidByText := true, laidKinds := [.data, .data, .data, .data, .sentinel, .sentinel, .pinned], laidTests := true, laidLooks := .later }
def PolicyMoreCardSaid : Prop := Claim7.holds Tryz.pinned (.plain (OpenSpec.ofChange policyMoreSpec)) policyMoreCard

/-- THE TIED CARD OF 'strainerlaw15.ValidTells'. -/
def validTellsCard : Claim7 := { stood := { row := validTellsRow, standIns := [], harness := (true, "071ae0cbb6fcee4abcfbdfa555ac68d2e33f8bdf0815b903a094e28bc1af3d77"), looks := true }, kinds := [], alts := [], laidByText := true, laidKinds := [.data, .pinned], laidTests := true, laidLooks := .later }
def ValidTellsCardSaid : Prop := Claim7.holds Tryz.pinned (.plain (OpenSpec.ofChange validTellsSpec)) validTellsCard

/-- THE TIED CARD OF 'strainerlaw15.ValidLess'. -/
def validLessCard : Claim7 := { stood := { row := validLessRow, standIns := [], harness := (true, "071ae0cbb6fcee4abcfbdfa555ac68d2e33f8bdf0815b903a094e28bc1af3d77"), looks := true }, kinds := [], alts := [], laidByText := true, laidKinds := [.data, .pinned], laidTests := true, laidLooks := .later }
def ValidLessCardSaid : Prop := Claim7.holds Tryz.pinned (.plain (OpenSpec.ofChange validLessSpec)) validLessCard

/-- THE TIED CARD OF 'strainerlaw15.ValidTurned'. -/
def validTurnedCard : Claim7 := { stood := { row := validTurnedRow, standIns := [], harness := (true, "071ae0cbb6fcee4abcfbdfa555ac68d2e33f8bdf0815b903a094e28bc1af3d77"), looks := true }, kinds := [], alts := [], laidByText := true, laidKinds := [.data, .pinned], laidTests := true, laidLooks := .later }
def ValidTurnedCardSaid : Prop := Claim7.holds Tryz.pinned (.plain (OpenSpec.ofChange validTurnedSpec)) validTurnedCard

/-- THE TIED CARD OF 'strainerlaw15.ValidMore'. -/
def validMoreCard : Claim7 := { stood := { row := validMoreRow, standIns := [], harness := (true, "071ae0cbb6fcee4abcfbdfa555ac68d2e33f8bdf0815b903a094e28bc1af3d77"), looks := true }, kinds := [], alts := [], laidByText := true, laidKinds := [.data, .pinned], laidTests := true, laidLooks := .later }
def ValidMoreCardSaid : Prop := Claim7.holds Tryz.pinned (.plain (OpenSpec.ofChange validMoreSpec)) validMoreCard

/-- THE SECOND FORM's CARD OF 'strainerlaw14.PolicySame'. -/
def policySameUptoCard : Claim7 := { stood := { row := policySameUptoRow, standIns := [], harness := (true, "071ae0cbb6fcee4abcfbdfa555ac68d2e33f8bdf0815b903a094e28bc1af3d77"), looks := true }, kinds := [], alts := [], laidByText := true, laidKinds := [.data, .data, .data, .data, .sentinel, .sentinel, .pinned], laidTests := true, laidLooks := .later }
def PolicySameUptoCardSaid : Prop := Claim7.holds Tryz.pinned (.plain (OpenSpec.upto policySameSpec)) policySameUptoCard

/-- THE SECOND FORM's CARD OF 'strainerlaw14.PolicyBack'. -/
def policyBackUptoCard : Claim7 := { stood := { row := policyBackUptoRow, standIns := [], harness := (true, "071ae0cbb6fcee4abcfbdfa555ac68d2e33f8bdf0815b903a094e28bc1af3d77"), looks := true }, kinds := [], alts := [], laidByText := true, laidKinds := [.data, .data, .data, .data, .sentinel, .sentinel, .pinned], laidTests := true, laidLooks := .later }
def PolicyBackUptoCardSaid : Prop := Claim7.holds Tryz.pinned (.plain (OpenSpec.upto policyBackSpec)) policyBackUptoCard

/-- THE SECOND FORM's CARD OF 'strainerlaw14.PolicyMore'. -/
def policyMoreUptoCard : Claim7 := { stood := { row := policyMoreUptoRow, standIns := [], harness := (true, "071ae0cbb6fcee4abcfbdfa555ac68d2e33f8bdf0815b903a094e28bc1af3d77"), looks := true }, kinds := [], alts := [], laidByText := true, laidKinds := [.data, .data, .data, .data, .sentinel, .sentinel, .pinned], laidTests := true, laidLooks := .later }
def PolicyMoreUptoCardSaid : Prop := Claim7.holds Tryz.pinned (.plain (OpenSpec.upto policyMoreSpec)) policyMoreUptoCard

/-- THE SECOND FORM's CARD OF 'strainerlaw15.ValidTells'. -/
def validTellsUptoCard : Claim7 := { stood := { row := validTellsUptoRow, standIns := [], harness := (true, "071ae0cbb6fcee4abcfbdfa555ac68d2e33f8bdf0815b903a094e28bc1af3d77"), looks := true }, kinds := [], alts := [], laidByText := true, laidKinds := [.data, .pinned], laidTests := true, laidLooks := .later }
def ValidTellsUptoCardSaid : Prop := Claim7.holds Tryz.pinned (.plain (OpenSpec.upto validTellsSpec)) validTellsUptoCard

/-- THE SECOND FORM's CARD OF 'strainerlaw15.ValidLess'. -/
def validLessUptoCard : Claim7 := { stood := { row := validLessUptoRow, standIns := [], harness := (true, "071ae0cbb6fcee4abcfbdfa555ac68d2e33f8bdf0815b903a094e28bc1af3d77"), looks := true }, kinds := [], alts := [], laidByText := true, laidKinds := [.data, .pinned], laidTests := true, laidLooks := .later }
def ValidLessUptoCardSaid : Prop := Claim7.holds Tryz.pinned (.plain (OpenSpec.upto validLessSpec)) validLessUptoCard

/-- THE SECOND FORM's CARD OF 'strainerlaw15.ValidTurned'. -/
def validTurnedUptoCard : Claim7 := { stood := { row := validTurnedUptoRow, standIns := [], harness := (true, "071ae0cbb6fcee4abcfbdfa555ac68d2e33f8bdf0815b903a094e28bc1af3d77"), looks := true }, kinds := [], alts := [], laidByText := true, laidKinds := [.data, .pinned], laidTests := true, laidLooks := .later }
def ValidTurnedUptoCardSaid : Prop := Claim7.holds Tryz.pinned (.plain (OpenSpec.upto validTurnedSpec)) validTurnedUptoCard

/-- THE SECOND FORM's CARD OF 'strainerlaw15.ValidMore'. -/
def validMoreUptoCard : Claim7 := { stood := { row := validMoreUptoRow, standIns := [], harness := (true, "071ae0cbb6fcee4abcfbdfa555ac68d2e33f8bdf0815b903a094e28bc1af3d77"), looks := true }, kinds := [], alts := [], laidByText := true, laidKinds := [.data, .pinned], laidTests := true, laidLooks := .later }
def ValidMoreUptoCardSaid : Prop := Claim7.holds Tryz.pinned (.plain (OpenSpec.upto validMoreSpec)) validMoreUptoCard
end Rows
end Go.Proofs.YtlpcallgkciklaaGreatDoor
