/-
  DERIVED. GIVEN WITH THE SEED: THE CARDS: each row of YtfaaclppkhkmpaaGreatDoorRows.lean that lists a variable, with what it lists TIED to the program's text (the seventh form; the later family's looks); each row that meets fmt, with fmt's text TOLD by the authors' own Lean function (tested against real Go, not proved from fmt's source: count such statements apart). THE CARD IS WHAT COUNTS. Prove the row's statement (the work); the ties are given (YtfaaclppkhkmpaaGreatDoorTie.lean); close each card by the builder's one call (the guide's Derived/Test/ToyasCard.lean, 'card_holds'). Laid BY PROGRAM, IN A SANDBOX (cutbox-door.mjs). By AI agents, Wed Nov 11 2026. No macro, syntax, notation, axiom, sorry.
-/
import Derived.Test.YtfaaclppkhkmpaaGreatDoorRows
import GoSem.ClaimSeven
namespace Go.Proofs.YtfaaclppkhkmpaaGreatDoor
namespace Rows

/-- THE TIED CARD OF 'strainerlaw16.NormPolicies'. -/
def normPoliciesCard : Claim7 := { stood := { row := normPoliciesRow, standIns := [], harness := (true, "719fd8279297bfb484dc503b015718ade5335bb7607536497bb8ade4a003c1a7"), looks := false }, kinds := [], alts := [], laidByText := true, laidKinds := [.data, .pinned], laidTests := true, laidLooks := .later }
def NormPoliciesCardSaid : Prop := Claim7.holds Tryz.pinned (.plain (OpenSpec.ofChange normPoliciesSpec)) normPoliciesCard

/-- THE TIED CARD OF 'strainerlaw16.NormAgain'. -/
def normAgainCard : Claim7 := { stood := { row := normAgainRow, standIns := [], harness := (true, "719fd8279297bfb484dc503b015718ade5335bb7607536497bb8ade4a003c1a7"), looks := false }, kinds := [], alts := [], laidByText := true, laidKinds := [.data, .pinned], laidTests := true, laidLooks := .later }
def NormAgainCardSaid : Prop := Claim7.holds Tryz.pinned (.plain (OpenSpec.ofChange normAgainSpec)) normAgainCard

/-- THE TIED CARD OF 'strainerlaw16.NormOrders'. -/
def normOrdersCard : Claim7 := { stood := { row := normOrdersRow, standIns := [], harness := (true, "719fd8279297bfb484dc503b015718ade5335bb7607536497bb8ade4a003c1a7"), looks := false }, kinds := [], alts := [], laidByText := true, laidKinds := [.data, .pinned], laidTests := true, laidLooks := .later }
def NormOrdersCardSaid : Prop := Claim7.holds Tryz.pinned (.plain (OpenSpec.ofChange normOrdersSpec)) normOrdersCard

/-- THE TIED CARD OF 'strainerlaw16.NormDrops'. -/
def normDropsCard : Claim7 := { stood := { row := normDropsRow, standIns := [], harness := (true, "719fd8279297bfb484dc503b015718ade5335bb7607536497bb8ade4a003c1a7"), looks := false }, kinds := [], alts := [], laidByText := true, laidKinds := [.data, .pinned], laidTests := true, laidLooks := .later }
def NormDropsCardSaid : Prop := Claim7.holds Tryz.pinned (.plain (OpenSpec.ofChange normDropsSpec)) normDropsCard

/-- THE SECOND FORM's CARD OF 'strainerlaw16.NormPolicies'. -/
def normPoliciesUptoCard : Claim7 := { stood := { row := normPoliciesUptoRow, standIns := [], harness := (true, "719fd8279297bfb484dc503b015718ade5335bb7607536497bb8ade4a003c1a7"), looks := false }, kinds := [], alts := [], laidByText := true, laidKinds := [.data, .pinned], laidTests := true, laidLooks := .later }
def NormPoliciesUptoCardSaid : Prop := Claim7.holds Tryz.pinned (.plain (OpenSpec.upto normPoliciesSpec)) normPoliciesUptoCard

/-- THE SECOND FORM's CARD OF 'strainerlaw16.NormAgain'. -/
def normAgainUptoCard : Claim7 := { stood := { row := normAgainUptoRow, standIns := [], harness := (true, "719fd8279297bfb484dc503b015718ade5335bb7607536497bb8ade4a003c1a7"), looks := false }, kinds := [], alts := [], laidByText := true, laidKinds := [.data, .pinned], laidTests := true, laidLooks := .later }
def NormAgainUptoCardSaid : Prop := Claim7.holds Tryz.pinned (.plain (OpenSpec.upto normAgainSpec)) normAgainUptoCard

/-- THE SECOND FORM's CARD OF 'strainerlaw16.NormOrders'. -/
def normOrdersUptoCard : Claim7 := { stood := { row := normOrdersUptoRow, standIns := [], harness := (true, "719fd8279297bfb484dc503b015718ade5335bb7607536497bb8ade4a003c1a7"), looks := false }, kinds := [], alts := [], laidByText := true, laidKinds := [.data, .pinned], laidTests := true, laidLooks := .later }
def NormOrdersUptoCardSaid : Prop := Claim7.holds Tryz.pinned (.plain (OpenSpec.upto normOrdersSpec)) normOrdersUptoCard

/-- THE SECOND FORM's CARD OF 'strainerlaw16.NormDrops'. -/
def normDropsUptoCard : Claim7 := { stood := { row := normDropsUptoRow, standIns := [], harness := (true, "719fd8279297bfb484dc503b015718ade5335bb7607536497bb8ade4a003c1a7"), looks := false }, kinds := [], alts := [], laidByText := true, laidKinds := [.data, .pinned], laidTests := true, laidLooks := .later }
def NormDropsUptoCardSaid : Prop := Claim7.holds Tryz.pinned (.plain (OpenSpec.upto normDropsSpec)) normDropsUptoCard
end Rows
end Go.Proofs.YtfaaclppkhkmpaaGreatDoor
