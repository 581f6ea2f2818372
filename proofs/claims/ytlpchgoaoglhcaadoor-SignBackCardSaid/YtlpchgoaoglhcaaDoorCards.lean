/-
  DERIVED. GIVEN WITH THE SEED: THE CARDS: each row of YtlpchgoaoglhcaaDoorRows.lean that lists a variable, with what it lists TIED to the program's text (the seventh form; the later family's looks); each row that meets fmt, with fmt's text TOLD by the authors' own Lean function (tested against real Go, not proved from fmt's source: count such statements apart). THE CARD IS WHAT COUNTS. Prove the row's statement (the work); the ties are given (YtlpchgoaoglhcaaDoorTie.lean); close each card by the builder's one call (the guide's Derived/Test/ToyasCard.lean, 'card_holds'). Laid BY PROGRAM, IN A SANDBOX (cutbox-door.mjs). By AI agents, Wed Nov 11 2026. No macro, syntax, notation, axiom, sorry.
-/
import Derived.Test.YtlpchgoaoglhcaaDoorRows
import GoSem.ClaimSeven
namespace Go.Proofs.YtlpchgoaoglhcaaDoor
namespace Rows

/-- THE TIED CARD OF 'introitlaw6.SumSays'. -/
def sumSaysCard : Claim7 := { stood := { row := sumSaysRow, standIns := [], harness := (true, "17daac34764c9046ef9c439932698a2b9b1fbdac6c7a613a25b9a4f1c6dddb5e"), looks := false }, kinds := [], alts := [], laidByText := true, laidKinds := [.data, .data], laidTests := true, laidLooks := .later }
def SumSaysCardSaid : Prop := Claim7.holds Tryd.pinned (.plain (OpenSpec.ofChange sumSaysSpec)) sumSaysCard

/-- THE TIED CARD OF 'introitlaw10.SignKnown'. -/
def signKnownCard : Claim7 := { stood := { row := signKnownRow, standIns := [], harness := (true, "17daac34764c9046ef9c439932698a2b9b1fbdac6c7a613a25b9a4f1c6dddb5e"), looks := false }, kinds := [], alts := [], laidByText := true, laidKinds := [.data, .data], laidTests := true, laidLooks := .later }
def SignKnownCardSaid : Prop := Claim7.holds Tryd.pinned (.plain (OpenSpec.ofChange signKnownSpec)) signKnownCard

/-- THE TIED CARD OF 'introitlaw10.SignBack'. -/
def signBackCard : Claim7 := { stood := { row := signBackRow, standIns := [], harness := (true, "17daac34764c9046ef9c439932698a2b9b1fbdac6c7a613a25b9a4f1c6dddb5e"), looks := false }, kinds := [], alts := [], laidByText := true, laidKinds := [.data, .data], laidTests := true, laidLooks := .later }
def SignBackCardSaid : Prop := Claim7.holds Tryd.pinned (.plain (OpenSpec.ofChange signBackSpec)) signBackCard

/-- THE SECOND FORM's CARD OF 'introitlaw6.SumSays'. -/
def sumSaysUptoCard : Claim7 := { stood := { row := sumSaysUptoRow, standIns := [], harness := (true, "17daac34764c9046ef9c439932698a2b9b1fbdac6c7a613a25b9a4f1c6dddb5e"), looks := false }, kinds := [], alts := [], laidByText := true, laidKinds := [.data, .data], laidTests := true, laidLooks := .later }
def SumSaysUptoCardSaid : Prop := Claim7.holds Tryd.pinned (.plain (OpenSpec.upto sumSaysSpec)) sumSaysUptoCard

/-- THE SECOND FORM's CARD OF 'introitlaw10.SignKnown'. -/
def signKnownUptoCard : Claim7 := { stood := { row := signKnownUptoRow, standIns := [], harness := (true, "17daac34764c9046ef9c439932698a2b9b1fbdac6c7a613a25b9a4f1c6dddb5e"), looks := false }, kinds := [], alts := [], laidByText := true, laidKinds := [.data, .data], laidTests := true, laidLooks := .later }
def SignKnownUptoCardSaid : Prop := Claim7.holds Tryd.pinned (.plain (OpenSpec.upto signKnownSpec)) signKnownUptoCard

/-- THE SECOND FORM's CARD OF 'introitlaw10.SignBack'. -/
def signBackUptoCard : Claim7 := { stood := { row := signBackUptoRow, standIns := [], harness := (true, "17daac34764c9046ef9c439932698a2b9b1fbdac6c7a613a25b9a4f1c6dddb5e"), looks := false }, kinds := [], alts := [], laidByText := true, laidKinds := [.data, .data], laidTests := true, laidLooks := .later }
def SignBackUptoCardSaid : Prop := Claim7.holds Tryd.pinned (.plain (OpenSpec.upto signBackSpec)) signBackUptoCard
end Rows
end Go.Proofs.YtlpchgoaoglhcaaDoor
