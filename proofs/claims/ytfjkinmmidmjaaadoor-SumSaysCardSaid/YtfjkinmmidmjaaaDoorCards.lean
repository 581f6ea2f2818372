/-
  DERIVED. GIVEN WITH THE SEED: THE CARDS: each row of YtfjkinmmidmjaaaDoorRows.lean that lists a variable, with what it lists TIED to the program's text (the seventh form; the later family's looks); each row that meets fmt, with fmt's text TOLD by the authors' own Lean function (tested against real Go, not proved from fmt's source: count such statements apart). THE CARD IS WHAT COUNTS. Prove the row's statement (the work); the ties are given (YtfjkinmmidmjaaaDoorTie.lean); close each card by the builder's one call (the guide's Derived/Test/ToyasCard.lean, 'card_holds'). Laid BY PROGRAM, IN A SANDBOX (cutbox-door.mjs). By AI agents, Wed Nov 11 2026. No macro, syntax, notation, axiom, sorry.
-/
import Derived.Test.YtfjkinmmidmjaaaDoorRows
import GoSem.ClaimSeven
namespace Go.Proofs.YtfjkinmmidmjaaaDoor
namespace Rows

/-- THE TIED CARD OF 'introitlaw6.SumSays'. -/
def sumSaysCard : Claim7 := { stood := { row := sumSaysRow, standIns := [], harness := (true, "d62d526ed4952e8e215e9b938e3e56149aba8b4c2beb0a2a14d979c68c313f29"), looks := false }, kinds := [], alts := [], laidByText := true, laidKinds := [.data, .data], laidTests := true, laidLooks := .later }
def SumSaysCardSaid : Prop := Claim7.holds Tryd.pinned (.plain (OpenSpec.ofChange sumSaysSpec)) sumSaysCard

/-- THE TIED CARD OF 'introitlaw6.SumLengths'. -/
def sumLengthsCard : Claim7 := { stood := { row := sumLengthsRow, standIns := [], harness := (true, "d62d526ed4952e8e215e9b938e3e56149aba8b4c2beb0a2a14d979c68c313f29"), looks := false }, kinds := [], alts := [], laidByText := true, laidKinds := [.data, .data], laidTests := true, laidLooks := .later }
def SumLengthsCardSaid : Prop := Claim7.holds Tryd.pinned (.plain (OpenSpec.ofChange sumLengthsSpec)) sumLengthsCard

/-- THE SECOND FORM's CARD OF 'introitlaw6.SumSays'. -/
def sumSaysUptoCard : Claim7 := { stood := { row := sumSaysUptoRow, standIns := [], harness := (true, "d62d526ed4952e8e215e9b938e3e56149aba8b4c2beb0a2a14d979c68c313f29"), looks := false }, kinds := [], alts := [], laidByText := true, laidKinds := [.data, .data], laidTests := true, laidLooks := .later }
def SumSaysUptoCardSaid : Prop := Claim7.holds Tryd.pinned (.plain (OpenSpec.upto sumSaysSpec)) sumSaysUptoCard

/-- THE SECOND FORM's CARD OF 'introitlaw6.SumLengths'. -/
def sumLengthsUptoCard : Claim7 := { stood := { row := sumLengthsUptoRow, standIns := [], harness := (true, "d62d526ed4952e8e215e9b938e3e56149aba8b4c2beb0a2a14d979c68c313f29"), looks := false }, kinds := [], alts := [], laidByText := true, laidKinds := [.data, .data], laidTests := true, laidLooks := .later }
def SumLengthsUptoCardSaid : Prop := Claim7.holds Tryd.pinned (.plain (OpenSpec.upto sumLengthsSpec)) sumLengthsUptoCard
end Rows
end Go.Proofs.YtfjkinmmidmjaaaDoor
