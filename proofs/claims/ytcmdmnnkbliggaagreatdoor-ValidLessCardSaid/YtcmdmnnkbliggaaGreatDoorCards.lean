/-
  DERIVED. GIVEN WITH THE SEED: THE CARDS: each row of YtcmdmnnkbliggaaGreatDoorRows.lean that lists a variable, with what it lists TIED to the program's text (the seventh form; the later family's looks); each row that meets fmt, with fmt's text TOLD by the authors' own Lean function (tested against real Go, not proved from fmt's source: count such statements apart). THE CARD IS WHAT COUNTS. Prove the row's statement (the work); the ties are given (YtcmdmnnkbliggaaGreatDoorTie.lean); close each card by the builder's one call (the guide's Derived/Test/ToyasCard.lean, 'card_holds'). Laid BY PROGRAM, IN A SANDBOX (cutbox-door.mjs). By AI agents, Wed Nov 11 2026. No macro, syntax, notation, axiom, sorry.
-/
import Derived.Test.YtcmdmnnkbliggaaGreatDoorRows
import GoSem.ClaimSeven
namespace Go.Proofs.YtcmdmnnkbliggaaGreatDoor
namespace Rows

/-- THE TIED CARD OF 'strainerlaw14.PolicyAgain'. -/
def policyAgainCard : Claim7 := { stood := { row := policyAgainRow, standIns := [], harness := (true, "2dc01488107ac9f5cc1f9b1e0205a2b29f772faf858fe9ce9bc6b6aa7b388f38"), looks := true }, kinds := [], alts := [], laidByText := true, laidKinds := [.data, .data, .data, .data, .sentinel, .sentinel, .pinned], laidTests := true, laidLooks := .later }
def PolicyAgainCardSaid : Prop := Claim7.holds Tryz.pinned (.plain (OpenSpec.ofChange policyAgainSpec)) policyAgainCard

/-- THE TIED CARD OF 'strainerlaw14.PolicyNotes'. -/
def policyNotesCard : Claim7 := { stood := { row := policyNotesRow, standIns := [], harness := (true, "2dc01488107ac9f5cc1f9b1e0205a2b29f772faf858fe9ce9bc6b6aa7b388f38"), looks := true }, kinds := [], alts := [], laidByText := true, laidKinds := [.data, .data, .data, .data, .sentinel, .sentinel, .pinned], laidTests := true, laidLooks := .later }
def PolicyNotesCardSaid : Prop := Claim7.holds Tryz.pinned (.plain (OpenSpec.ofChange policyNotesSpec)) policyNotesCard

/-- THE TIED CARD OF 'strainerlaw15.ValidTells'. -/
def validTellsCard : Claim7 := { stood := { row := validTellsRow, standIns := [], harness := (true, "2dc01488107ac9f5cc1f9b1e0205a2b29f772faf858fe9ce9bc6b6aa7b388f38"), looks := true }, kinds := [], alts := [], laidByText := true, laidKinds := [.data, .pinned], laidTests := true, laidLooks := .later }
def ValidTellsCardSaid : Prop := Claim7.holds Tryz.pinned (.plain (OpenSpec.ofChange validTellsSpec)) validTellsCard

/-- THE TIED CARD OF 'strainerlaw15.ValidLess'. -/
def validLessCard : Claim7 := { stood := { row := validLessRow, standIns := [], harness := (true, "2dc01488107ac9f5cc1f9b1e0205a2b29f772faf858fe9ce9bc6b6aa7b388f38"), looks := true }, kinds := [], alts := [], laidByText := true, laidKinds := [.data, .pinned], laidTests := true, laidLooks := .later }
def ValidLessCardSaid : Prop := Claim7.holds Tryz.pinned (.plain (OpenSpec.ofChange validLessSpec)) validLessCard

/-- THE TIED CARD OF 'strainerlaw15.ValidTurned'. -/
def validTurnedCard : Claim7 := { stood := { row := validTurnedRow, standIns := [], harness := (true, "2dc01488107ac9f5cc1f9b1e0205a2b29f772faf858fe9ce9bc6b6aa7b388f38"), looks := true }, kinds := [], alts := [], laidByText := true, laidKinds := [.data, .pinned], laidTests := true, laidLooks := .later }
def ValidTurnedCardSaid : Prop := Claim7.holds Tryz.pinned (.plain (OpenSpec.ofChange validTurnedSpec)) validTurnedCard

/-- THE TIED CARD OF 'strainerlaw15.ValidMore'. -/
def validMoreCard : Claim7 := { stood := { row := validMoreRow, standIns := [], harness := (true, "2dc01488107ac9f5cc1f9b1e0205a2b29f772faf858fe9ce9bc6b6aa7b388f38"), looks := true }, kinds := [], alts := [], laidByText := true, laidKinds := [.data, .pinned], laidTests := true, laidLooks := .later }
def ValidMoreCardSaid : Prop := Claim7.holds Tryz.pinned (.plain (OpenSpec.ofChange validMoreSpec)) validMoreCard

/-- THE TIED CARD OF 'strainerlaw17.ModelDecides'. -/
def modelDecidesCard : Claim7 := { stood := { row := modelDecidesRow, standIns := [], harness := (true, "2dc01488107ac9f5cc1f9b1e0205a2b29f772faf858fe9ce9bc6b6aa7b388f38"), looks := true }, kinds := [], alts := [], laidByText := true, laidKinds := [.data, .data, .data, .data, .sentinel, .sentinel, .pinned], laidTests := true, laidLooks := .later }
def ModelDecidesCardSaid : Prop := Claim7.holds Tryz.pinned (.plain (OpenSpec.ofChange modelDecidesSpec)) modelDecidesCard

/-- THE TIED CARD OF 'strainerlaw17.ModelJudges'. -/
def modelJudgesCard : Claim7 := { stood := { row := modelJudgesRow, standIns := [], harness := (true, "2dc01488107ac9f5cc1f9b1e0205a2b29f772faf858fe9ce9bc6b6aa7b388f38"), looks := true }, kinds := [], alts := [], laidByText := true, laidKinds := [.data, .data, .data, .data, .sentinel, .sentinel, .pinned], laidTests := true, laidLooks := .later }
def ModelJudgesCardSaid : Prop := Claim7.holds Tryz.pinned (.plain (OpenSpec.ofChange modelJudgesSpec)) modelJudgesCard

/-- THE TIED CARD OF 'strainerlaw17.ModelNorms'. -/
def modelNormsCard : Claim7 := { stood := { row := modelNormsRow, standIns := [], harness := (true, "2dc01488107ac9f5cc1f9b1e0205a2b29f772faf858fe9ce9bc6b6aa7b388f38"), looks := true }, kinds := [], alts := [], laidByText := true, laidKinds := [.data, .data, .data, .data, .sentinel, .sentinel, .pinned], laidTests := true, laidLooks := .later }
def ModelNormsCardSaid : Prop := Claim7.holds Tryz.pinned (.plain (OpenSpec.ofChange modelNormsSpec)) modelNormsCard

/-- THE TIED CARD OF 'strainerlaw17.ModelBlind'. -/
def modelBlindCard : Claim7 := { stood := { row := modelBlindRow, standIns := [], harness := (true, "2dc01488107ac9f5cc1f9b1e0205a2b29f772faf858fe9ce9bc6b6aa7b388f38"), looks := true }, kinds := [], alts := [], laidByText := true, laidKinds := [.data, .data, .data, .data, .sentinel, .sentinel, .pinned], laidTests := true, laidLooks := .later }
def ModelBlindCardSaid : Prop := Claim7.holds Tryz.pinned (.plain (OpenSpec.ofChange modelBlindSpec)) modelBlindCard

/-- THE TIED CARD OF 'strainerlaw17.ModelOthers'. -/
def modelOthersCard : Claim7 := { stood := { row := modelOthersRow, standIns := [], harness := (true, "2dc01488107ac9f5cc1f9b1e0205a2b29f772faf858fe9ce9bc6b6aa7b388f38"), looks := true }, kinds := [], alts := [], laidByText := true, laidKinds := [.data, .data, .data, .data, .sentinel, .sentinel, .pinned], laidTests := true, laidLooks := .later }
def ModelOthersCardSaid : Prop := Claim7.holds Tryz.pinned (.plain (OpenSpec.ofChange modelOthersSpec)) modelOthersCard

/-- THE SECOND FORM's CARD OF 'strainerlaw14.PolicyAgain'. -/
def policyAgainUptoCard : Claim7 := { stood := { row := policyAgainUptoRow, standIns := [], harness := (true, "2dc01488107ac9f5cc1f9b1e0205a2b29f772faf858fe9ce9bc6b6aa7b388f38"), looks := true }, kinds := [], alts := [], laidByText := true, laidKinds := [.data, .data, .data, .data, .sentinel, .sentinel, .pinned], laidTests := true, laidLooks := .later }
def PolicyAgainUptoCardSaid : Prop := Claim7.holds Tryz.pinned (.plain (OpenSpec.upto policyAgainSpec)) policyAgainUptoCard

/-- THE SECOND FORM's CARD OF 'strainerlaw14.PolicyNotes'. -/
def policyNotesUptoCard : Claim7 := { stood := { row := policyNotesUptoRow, standIns := [], harness := (true, "2dc01488107ac9f5cc1f9b1e0205a2b29f772faf858fe9ce9bc6b6aa7b388f38"), looks := true }, kinds := [], alts := [], laidByText := true, laidKinds := [.data, .data, .data, .data, .sentinel, .sentinel, .pinned], laidTests := true, laidLooks := .later }
def PolicyNotesUptoCardSaid : Prop := Claim7.holds Tryz.pinned (.plain (OpenSpec.upto policyNotesSpec)) policyNotesUptoCard

/-- THE SECOND FORM's CARD OF 'strainerlaw15.ValidTells'. -/
def validTellsUptoCard : Claim7 := { stood := { row := validTellsUptoRow, standIns := [], harness := (true, "2dc01488107ac9f5cc1f9b1e0205a2b29f772faf858fe9ce9bc6b6aa7b388f38"), looks := true }, kinds := [], alts := [], laidByText := true, laidKinds := [.data, .pinned], laidTests := true, laidLooks := .later }
def ValidTellsUptoCardSaid : Prop := Claim7.holds Tryz.pinned (.plain (OpenSpec.upto validTellsSpec)) validTellsUptoCard

/-- THE SECOND FORM's CARD OF 'strainerlaw15.ValidLess'. -/
def validLessUptoCard : Claim7 := { stood := { row := validLessUptoRow, standIns := [], harness := (true, "2dc01488107ac9f5cc1f9b1e0205a2b29f772faf858fe9ce9bc6b6aa7b388f38"), looks := true }, kinds := [], alts := [], laidByText := true, laidKinds := [.data, .pinned], laidTests := true, laidLooks := .later }
def ValidLessUptoCardSaid : Prop := Claim7.holds Tryz.pinned (.plain (OpenSpec.upto validLessSpec)) validLessUptoCard

/-- THE SECOND FORM's CARD OF 'strainerlaw15.ValidTurned'. -/
def validTurnedUptoCard : Claim7 := { stood := { row := validTurnedUptoRow, standIns := [], harness := (true, "2dc01488107ac9f5cc1f9b1e0205a2b29f772faf858fe9ce9bc6b6aa7b388f38"), looks := true }, kinds := [], alts := [], laidByText := true, laidKinds := [.data, .pinned], laidTests := true, laidLooks := .later }
def ValidTurnedUptoCardSaid : Prop := Claim7.holds Tryz.pinned (.plain (OpenSpec.upto validTurnedSpec)) validTurnedUptoCard

/-- THE SECOND FORM's CARD OF 'strainerlaw15.ValidMore'. -/
def validMoreUptoCard : Claim7 := { stood := { row := validMoreUptoRow, standIns := [], harness := (true, "2dc01488107ac9f5cc1f9b1e0205a2b29f772faf858fe9ce9bc6b6aa7b388f38"), looks := true }, kinds := [], alts := [], laidByText := true, laidKinds := [.data, .pinned], laidTests := true, laidLooks := .later }
def ValidMoreUptoCardSaid : Prop := Claim7.holds Tryz.pinned (.plain (OpenSpec.upto validMoreSpec)) validMoreUptoCard

/-- THE SECOND FORM's CARD OF 'strainerlaw17.ModelDecides'. -/
def modelDecidesUptoCard : Claim7 := { stood := { row := modelDecidesUptoRow, standIns := [], harness := (true, "2dc01488107ac9f5cc1f9b1e0205a2b29f772faf858fe9ce9bc6b6aa7b388f38"), looks := true }, kinds := [], alts := [], laidByText := true, laidKinds := [.data, .data, .data, .data, .sentinel, .sentinel, .pinned], laidTests := true, laidLooks := .later }
def ModelDecidesUptoCardSaid : Prop := Claim7.holds Tryz.pinned (.plain (OpenSpec.upto modelDecidesSpec)) modelDecidesUptoCard

/-- THE SECOND FORM's CARD OF 'strainerlaw17.ModelJudges'. -/
def modelJudgesUptoCard : Claim7 := { stood := { row := modelJudgesUptoRow, standIns := [], harness := (true, "2dc01488107ac9f5cc1f9b1e0205a2b29f772faf858fe9ce9bc6b6aa7b388f38"), looks := true }, kinds := [], alts := [], laidByText := true, laidKinds := [.data, .data, .data, .data, .sentinel, .sentinel, .pinned], laidTests := true, laidLooks := .later }
def ModelJudgesUptoCardSaid : Prop := Claim7.holds Tryz.pinned (.plain (OpenSpec.upto modelJudgesSpec)) modelJudgesUptoCard

/-- THE SECOND FORM's CARD OF 'strainerlaw17.ModelNorms'. -/
def modelNormsUptoCard : Claim7 := { stood := { row := modelNormsUptoRow, standIns := [], harness := (true, "2dc01488107ac9f5cc1f9b1e0205a2b29f772faf858fe9ce9bc6b6aa7b388f38"), looks := true }, kinds := [], alts := [], laidByText := true, laidKinds := [.data, .data, .data, .data, .sentinel, .sentinel, .pinned], laidTests := true, laidLooks := .later }
def ModelNormsUptoCardSaid : Prop := Claim7.holds Tryz.pinned (.plain (OpenSpec.upto modelNormsSpec)) modelNormsUptoCard

/-- THE SECOND FORM's CARD OF 'strainerlaw17.ModelBlind'. -/
def modelBlindUptoCard : Claim7 := { stood := { row := modelBlindUptoRow, standIns := [], harness := (true, "2dc01488107ac9f5cc1f9b1e0205a2b29f772faf858fe9ce9bc6b6aa7b388f38"), looks := true }, kinds := [], alts := [], laidByText := true, laidKinds := [.data, .data, .data, .data, .sentinel, .sentinel, .pinned], laidTests := true, laidLooks := .later }
def ModelBlindUptoCardSaid : Prop := Claim7.holds Tryz.pinned (.plain (OpenSpec.upto modelBlindSpec)) modelBlindUptoCard

/-- THE SECOND FORM's CARD OF 'strainerlaw17.ModelOthers'. -/
def modelOthersUptoCard : Claim7 := { stood := { row := modelOthersUptoRow, standIns := [], harness := (true, "2dc01488107ac9f5cc1f9b1e0205a2b29f772faf858fe9ce9bc6b6aa7b388f38"), looks := true }, kinds := [], alts := [], laidByText := true, laidKinds := [.data, .data, .data, .data, .sentinel, .sentinel, .pinned], laidTests := true, laidLooks := .later }
def ModelOthersUptoCardSaid : Prop := Claim7.holds Tryz.pinned (.plain (OpenSpec.upto modelOthersSpec)) modelOthersUptoCard
end Rows
end Go.Proofs.YtcmdmnnkbliggaaGreatDoor
