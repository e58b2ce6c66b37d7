/-
  DERIVED. GIVEN WITH THE SEED: THE CARDS: each row of YtcembcicpmhpkaaGreatDoorRows.lean that lists a variable, with what it lists TIED to the program's text (the seventh form; the later family's looks); each row that meets fmt, with fmt's text TOLD by the authors' own Lean function (tested against real Go, not proved from fmt's source: count such statements apart). THE CARD IS WHAT COUNTS. Prove the row's statement (the work); the ties are given (YtcembcicpmhpkaaGreatDoorTie.lean); close each card by the builder's one call (the guide's Derived/Test/ToyasCard.lean, 'card_holds'). Laid BY PROGRAM, IN A SANDBOX (cutbox-door.mjs). By AI agents, Wed Nov 11 2026. No macro, syntax, notation, axiom, sorry.
-/
import Derived.Test.YtcembcicpmhpkaaGreatDoorRows
import GoSem.ClaimSeven
namespace Go.Proofs.YtcembcicpmhpkaaGreatDoor
namespace Rows

/-- THE TIED CARD OF 'strainerlaw14.PolicySame'. -/
def policySameCard : Claim7 := { stood := { row := policySameRow, standIns := [], harness := (true, "00935eac58df74ddea76b3ca9877a1b5bdd42149979ae3306f01f59661e5241f"), looks := true }, kinds := [], alts := [], laidByText := true, laidKinds := [.data, .data, .data, .data, .sentinel, .sentinel, .pinned], laidTests := true, laidLooks := .later }
def PolicySameCardSaid : Prop := Claim7.holds Tryz.pinned (.plain (OpenSpec.ofChange policySameSpec)) policySameCard

/-- THE TIED CARD OF 'strainerlaw14.PolicyBack'. -/
def policyBackCard : Claim7 := { stood := { row := policyBackRow, standIns := [], harness := (true, "00935eac58df74ddea76b3ca9877a1b5bdd42149979ae3306f01f59661e5241f"), looks := true }, kinds := [], alts := [], laidByText := true, laidKinds := [.data, .data, .data, .data, .sentinel, .sentinel, .pinned], laidTests := true, laidLooks := .later }
def PolicyBackCardSaid : Prop := Claim7.holds Tryz.pinned (.plain (OpenSpec.ofChange policyBackSpec)) policyBackCard

/-- THE TIED CARD OF 'strainerlaw14.PolicyAgain'. -/
def policyAgainCard : Claim7 := { stood := { row := policyAgainRow, standIns := [], harness := (true, "00935eac58df74ddea76b3ca9877a1b5bdd42149979ae3306f01f59661e5241f"), looks := true }, kinds := [], alts := [], laidByText := true, laidKinds := [.data, .data, .data, .data, .sentinel, .sentinel, .pinned], laidTests := true, laidLooks := .later }
def PolicyAgainCardSaid : Prop := Claim7.holds Tryz.pinned (.plain (OpenSpec.ofChange policyAgainSpec)) policyAgainCard

/-- THE TIED CARD OF 'strainerlaw14.PolicyNotes'. -/
def policyNotesCard : Claim7 := { stood := { row := policyNotesRow, standIns := [], harness := (true, "00935eac58df74ddea76b3ca9877a1b5bdd42149979ae3306f01f59661e5241f"), looks := true }, kinds := [], alts := [], laidByText := true, laidKinds := [.data, .data, .data, .data, .sentinel, .sentinel, .pinned], laidTests := true, laidLooks := .later }
def PolicyNotesCardSaid : Prop := Claim7.holds Tryz.pinned (.plain (OpenSpec.ofChange policyNotesSpec)) policyNotesCard

/-- THE TIED CARD OF 'strainerlaw14.PolicyMore'. -/
def policyMoreCard : Claim7 := { stood := { row := policyMoreRow, standIns := [], harness := (true, "00935eac58df74ddea76b3ca9877a1b5bdd42149979ae3306f01f59661e5241f"), looks := true }, kinds := [], alts := [], laidByText := true, laidKinds := [.data, .data, .data, .data, .sentinel, .sentinel, .pinned], laidTests := true, laidLooks := .later }
def PolicyMoreCardSaid : Prop := Claim7.holds Tryz.pinned (.plain (OpenSpec.ofChange policyMoreSpec)) policyMoreCard

/-- THE TIED CARD OF 'strainerlaw16.NormPolicies'. -/
def normPoliciesCard : Claim7 := { stood := { row := normPoliciesRow, standIns := [], harness := (true, "00935eac58df74ddea76b3ca9877a1b5bdd42149979ae3306f01f59661e5241f"), looks := true }, kinds := [], alts := [], laidByText := true, laidKinds := [.data, .pinned], laidTests := true, laidLooks := .later }
def NormPoliciesCardSaid : Prop := Claim7.holds Tryz.pinned (.plain (OpenSpec.ofChange normPoliciesSpec)) normPoliciesCard

/-- THE SECOND FORM's CARD OF 'strainerlaw14.PolicySame'. -/
def policySameUptoCard : Claim7 := { stood := { row := policySameUptoRow, standIns := [], harness := (true, "00935eac58df74ddea76b3ca9877a1b5bdd42149979ae3306f01f59661e5241f"), looks := true }, kinds := [], alts := [], laidByText := true, laidKinds := [.data, .data, .data, .data, .sentinel, .sentinel, .pinned], laidTests := true, laidLooks := .later }
def PolicySameUptoCardSaid : Prop := Claim7.holds Tryz.pinned (.plain (OpenSpec.upto policySameSpec)) policySameUptoCard

/-- THE SECOND FORM's CARD OF 'strainerlaw14.PolicyBack'. -/
def policyBackUptoCard : Claim7 := { stood := { row := policyBackUptoRow, standIns := [], harness := (true, "00935eac58df74ddea76b3ca9877a1b5bdd42149979ae3306f01f59661e5241f"), looks := true }, kinds := [], alts := [], laidByText := true, laidKinds := [.data, .data, .data, .data, .sentinel, .sentinel, .pinned], laidTests := true, laidLooks := .later }
def PolicyBackUptoCardSaid : Prop := Claim7.holds Tryz.pinned (.plain (OpenSpec.upto policyBackSpec)) policyBackUptoCard

/-- THE SECOND FORM's CARD OF 'strainerlaw14.PolicyAgain'. -/
def policyAgainUptoCard : Claim7 := { stood := { row := policyAgainUptoRow, standIns := [], harness := (true, "00935eac58df74ddea76b3ca9877a1b5bdd42149979ae3306f01f59661e5241f"), looks := true }, kinds := [], alts := [], laidByText := true, laidKinds := [.data, .data, .data, .data, .sentinel, .sentinel, .pinned], laidTests := true, laidLooks := .later }
def PolicyAgainUptoCardSaid : Prop := Claim7.holds Tryz.pinned (.plain (OpenSpec.upto policyAgainSpec)) policyAgainUptoCard

/-- THE SECOND FORM's CARD OF 'strainerlaw14.PolicyNotes'. -/
def policyNotesUptoCard : Claim7 := { stood := { row := policyNotesUptoRow, standIns := [], harness := (true, "00935eac58df74ddea76b3ca9877a1b5bdd42149979ae3306f01f59661e5241f"), looks := true }, kinds := [], alts := [], laidByText := true, laidKinds := [.data, .data, .data, .data, .sentinel, .sentinel, .pinned], laidTests := true, laidLooks := .later }
def PolicyNotesUptoCardSaid : Prop := Claim7.holds Tryz.pinned (.plain (OpenSpec.upto policyNotesSpec)) policyNotesUptoCard

/-- THE SECOND FORM's CARD OF 'strainerlaw14.PolicyMore'. -/
def policyMoreUptoCard : Claim7 := { stood := { row := policyMoreUptoRow, standIns := [], harness := (true, "00935eac58df74ddea76b3ca9877a1b5bdd42149979ae3306f01f59661e5241f"), looks := true }, kinds := [], alts := [], laidByText := true, laidKinds := [.data, .data, .data, .data, .sentinel, .sentinel, .pinned], laidTests := true, laidLooks := .later }
def PolicyMoreUptoCardSaid : Prop := Claim7.holds Tryz.pinned (.plain (OpenSpec.upto policyMoreSpec)) policyMoreUptoCard

/-- THE SECOND FORM's CARD OF 'strainerlaw16.NormPolicies'. -/
def normPoliciesUptoCard : Claim7 := { stood := { row := normPoliciesUptoRow, standIns := [], harness := (true, "00935eac58df74ddea76b3ca9877a1b5bdd42149979ae3306f01f59661e5241f"), looks := true }, kinds := [], alts := [], laidByText := true, laidKinds := [.data, .pinned], laidTests := true, laidLooks := .later }
def NormPoliciesUptoCardSaid : Prop := Claim7.holds Tryz.pinned (.plain (OpenSpec.upto normPoliciesSpec)) normPoliciesUptoCard
end Rows
end Go.Proofs.YtcembcicpmhpkaaGreatDoor
