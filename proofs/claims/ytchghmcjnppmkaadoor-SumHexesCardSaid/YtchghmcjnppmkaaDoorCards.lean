/-
  DERIVED. GIVEN WITH THE SEED: THE CARDS: each row of YtchghmcjnppmkaaDoorRows.lean that lists a variable, with what it lists TIED to the program's text (the seventh form; the later family's looks); each row that meets fmt, with fmt's text TOLD by the authors' own Lean function (tested against real Go, not proved from fmt's source: count such statements apart). THE CARD IS WHAT COUNTS. Prove the row's statement (the work); the ties are given (YtchghmcjnppmkaaDoorTie.lean); close each card by the builder's one call (the guide's Derived/Test/ToyasCard.lean, 'card_holds'). Laid BY PROGRAM, IN A SANDBOX (cutbox-door.mjs). By AI agents, Wed Nov 11 2026. No macro, syntax, notation, axiom, sorry.
-/
import Derived.Test.YtchghmcjnppmkaaDoorRows
import GoSem.ClaimSeven
namespace Go.Proofs.YtchghmcjnppmkaaDoor
namespace Rows

/-- THE TIED CARD OF 'introitlaw6.SumKnown'. -/
def sumKnownCard : Claim7 := { stood := { row := sumKnownRow, standIns := [], harness := (true, "c370982dd5e5265781b5a79f61079798889718b885070ed313e6d118549ec442"), looks := false }, kinds := [], alts := [], laidByText := true, laidKinds := [.data, .data], laidTests := true, laidLooks := .later }
def SumKnownCardSaid : Prop := Claim7.holds Tryd.pinned (.plain (OpenSpec.ofChange sumKnownSpec)) sumKnownCard

/-- THE TIED CARD OF 'introitlaw6.SumSays'. -/
def sumSaysCard : Claim7 := { stood := { row := sumSaysRow, standIns := [], harness := (true, "c370982dd5e5265781b5a79f61079798889718b885070ed313e6d118549ec442"), looks := false }, kinds := [], alts := [], laidByText := true, laidKinds := [.data, .data], laidTests := true, laidLooks := .later }
def SumSaysCardSaid : Prop := Claim7.holds Tryd.pinned (.plain (OpenSpec.ofChange sumSaysSpec)) sumSaysCard

/-- THE TIED CARD OF 'introitlaw6.SumLengths'. -/
def sumLengthsCard : Claim7 := { stood := { row := sumLengthsRow, standIns := [], harness := (true, "c370982dd5e5265781b5a79f61079798889718b885070ed313e6d118549ec442"), looks := false }, kinds := [], alts := [], laidByText := true, laidKinds := [.data, .data], laidTests := true, laidLooks := .later }
def SumLengthsCardSaid : Prop := Claim7.holds Tryd.pinned (.plain (OpenSpec.ofChange sumLengthsSpec)) sumLengthsCard

/-- THE TIED CARD OF 'introitlaw6.SumParts'. -/
def sumPartsCard : Claim7 := { stood := { row := sumPartsRow, standIns := [], harness := (true, "c370982dd5e5265781b5a79f61079798889718b885070ed313e6d118549ec442"), looks := false }, kinds := [], alts := [], laidByText := true, laidKinds := [.data, .data], laidTests := true, laidLooks := .later }
def SumPartsCardSaid : Prop := Claim7.holds Tryd.pinned (.plain (OpenSpec.ofChange sumPartsSpec)) sumPartsCard

/-- THE TIED CARD OF 'introitlaw6.SumHexes'. -/
def sumHexesCard : Claim7 := { stood := { row := sumHexesRow, standIns := [], harness := (true, "c370982dd5e5265781b5a79f61079798889718b885070ed313e6d118549ec442"), looks := false }, kinds := [], alts := [], laidByText := true, laidKinds := [.data, .data], laidTests := true, laidLooks := .later }
def SumHexesCardSaid : Prop := Claim7.holds Tryd.pinned (.plain (OpenSpec.ofChange sumHexesSpec)) sumHexesCard

/-- THE SECOND FORM's CARD OF 'introitlaw6.SumKnown'. -/
def sumKnownUptoCard : Claim7 := { stood := { row := sumKnownUptoRow, standIns := [], harness := (true, "c370982dd5e5265781b5a79f61079798889718b885070ed313e6d118549ec442"), looks := false }, kinds := [], alts := [], laidByText := true, laidKinds := [.data, .data], laidTests := true, laidLooks := .later }
def SumKnownUptoCardSaid : Prop := Claim7.holds Tryd.pinned (.plain (OpenSpec.upto sumKnownSpec)) sumKnownUptoCard

/-- THE SECOND FORM's CARD OF 'introitlaw6.SumSays'. -/
def sumSaysUptoCard : Claim7 := { stood := { row := sumSaysUptoRow, standIns := [], harness := (true, "c370982dd5e5265781b5a79f61079798889718b885070ed313e6d118549ec442"), looks := false }, kinds := [], alts := [], laidByText := true, laidKinds := [.data, .data], laidTests := true, laidLooks := .later }
def SumSaysUptoCardSaid : Prop := Claim7.holds Tryd.pinned (.plain (OpenSpec.upto sumSaysSpec)) sumSaysUptoCard

/-- THE SECOND FORM's CARD OF 'introitlaw6.SumLengths'. -/
def sumLengthsUptoCard : Claim7 := { stood := { row := sumLengthsUptoRow, standIns := [], harness := (true, "c370982dd5e5265781b5a79f61079798889718b885070ed313e6d118549ec442"), looks := false }, kinds := [], alts := [], laidByText := true, laidKinds := [.data, .data], laidTests := true, laidLooks := .later }
def SumLengthsUptoCardSaid : Prop := Claim7.holds Tryd.pinned (.plain (OpenSpec.upto sumLengthsSpec)) sumLengthsUptoCard

/-- THE SECOND FORM's CARD OF 'introitlaw6.SumParts'. -/
def sumPartsUptoCard : Claim7 := { stood := { row := sumPartsUptoRow, standIns := [], harness := (true, "c370982dd5e5265781b5a79f61079798889718b885070ed313e6d118549ec442"), looks := false }, kinds := [], alts := [], laidByText := true, laidKinds := [.data, .data], laidTests := true, laidLooks := .later }
def SumPartsUptoCardSaid : Prop := Claim7.holds Tryd.pinned (.plain (OpenSpec.upto sumPartsSpec)) sumPartsUptoCard

/-- THE SECOND FORM's CARD OF 'introitlaw6.SumHexes'. -/
def sumHexesUptoCard : Claim7 := { stood := { row := sumHexesUptoRow, standIns := [], harness := (true, "c370982dd5e5265781b5a79f61079798889718b885070ed313e6d118549ec442"), looks := false }, kinds := [], alts := [], laidByText := true, laidKinds := [.data, .data], laidTests := true, laidLooks := .later }
def SumHexesUptoCardSaid : Prop := Claim7.holds Tryd.pinned (.plain (OpenSpec.upto sumHexesSpec)) sumHexesUptoCard
end Rows
end Go.Proofs.YtchghmcjnppmkaaDoor
