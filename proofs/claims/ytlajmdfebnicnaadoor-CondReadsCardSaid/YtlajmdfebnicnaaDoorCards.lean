/-
  DERIVED. GIVEN WITH THE SEED: THE CARDS: each row of YtlajmdfebnicnaaDoorRows.lean that lists a variable, with what it lists TIED to the program's text (the seventh form; the later family's looks); each row that meets fmt, with fmt's text TOLD by the authors' own Lean function (tested against real Go, not proved from fmt's source: count such statements apart). THE CARD IS WHAT COUNTS. Prove the row's statement (the work); the ties are given (YtlajmdfebnicnaaDoorTie.lean); close each card by the builder's one call (the guide's Derived/Test/ToyasCard.lean, 'card_holds'). Laid BY PROGRAM, IN A SANDBOX (cutbox-door.mjs). By AI agents, Wed Nov 11 2026. No macro, syntax, notation, axiom, sorry.
-/
import Derived.Test.YtlajmdfebnicnaaDoorRows
import GoSem.ClaimSeven
namespace Go.Proofs.YtlajmdfebnicnaaDoor
namespace Rows

/-- THE TIED CARD OF 'strainerlaw10.CondReads'. -/
def condReadsCard : Claim7 := { stood := { row := condReadsRow, standIns := [], harness := (true, "2180848941b03a44583b95d011a78d8374401858a28b48327e96d0ba4882d754"), looks := true }, kinds := [], alts := [], laidByText := true, laidKinds := [.data, .data, .data, .data, .sentinel, .sentinel, .pinned], laidTests := true, laidLooks := .later }
def CondReadsCardSaid : Prop := Claim7.holds Tryd.pinned (.plain (OpenSpec.ofChange condReadsSpec)) condReadsCard

/-- THE SECOND FORM's CARD OF 'strainerlaw10.CondReads'. -/
def condReadsUptoCard : Claim7 := { stood := { row := condReadsUptoRow, standIns := [], harness := (true, "2180848941b03a44583b95d011a78d8374401858a28b48327e96d0ba4882d754"), looks := true }, kinds := [], alts := [], laidByText := true, laidKinds := [.data, .data, .data, .data, .sentinel, .sentinel, .pinned], laidTests := true, laidLooks := .later }
def CondReadsUptoCardSaid : Prop := Claim7.holds Tryd.pinned (.plain (OpenSpec.upto condReadsSpec)) condReadsUptoCard
end Rows
end Go.Proofs.YtlajmdfebnicnaaDoor
