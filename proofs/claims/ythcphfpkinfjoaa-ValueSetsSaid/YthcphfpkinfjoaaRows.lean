/-
  NARROWER THAN 'FOR EVERY INPUT', by the rows' own cells (each row's printed sentence says how): ValueSets: loops · ParseBack: loops.
  DERIVED. THE GIVEN ROWS OF THIS SEAT. 6 by the template 'for every input the law returns true; each argument reads behind the call as it read before'; 0 by the template 'total and deterministic' (their statements: YthcphfpkinfjoaaTotals.lean).
  GIVEN WITH THE SEED: the statements are not yours to turn. If you find one false, say at which input.
  Laid BY PROGRAM, IN A SANDBOX (cutbox-rows.mjs): the forced cells as the released guide's own fill.sh prints them over the translation d7de403cb2a92e0d… (all of the seat's roots in one cut). By AI agents, Wed Nov 11 2026. No macro, syntax, notation, axiom, sorry.
-/
import Derived.Test.YthcphfpkinfjoaaChecked
import GoSem.Claim
import GoSem.ClaimJoined
import GoSem.ClaimMapViews
import Derived.JoinedTies
import Derived.KernelRfl
namespace Go.Proofs.Ythcphfpkinfjoaa
/- THE CELL 'sum', in the pinned program and in every row, IS THE sha256 OF THE DUMP (.gsa) THAT YthcphfpkinfjoaaProg.lean LOADS. Nothing in Lean hashes anything: it is a label: what it is worth is what the hold of that sum in a sandbox is worth. -/
noncomputable def Try.pinned : Pinned := { name := "ythcphfpkinfjoaa", sum := "d7de403cb2a92e0d9b43fcac49e507cac599e21e02d96b996f9e043c9c4f0741", checked := Try.checked }
namespace Rows
def none {H : Type} : Left H := { results := [], args := [] }

/-- 'introitlaw2.ValueKnown': WHATEVER THE INPUT: true; the input reads as it did. -/
def valueKnownSpec : ChangeSpec := { name := "valueKnown", fn := fun _ => fun
  | [] => { results := [.lit (.bool true)], args := [] }
  | _ => none }
def valueKnownRow : OpenClaim := { program := "ythcphfpkinfjoaa", sum := "d7de403cb2a92e0d9b43fcac49e507cac599e21e02d96b996f9e043c9c4f0741", func := "introit/introitlaw2.ValueKnown", spec := "valueKnown", unfollowed := true, recurses := true, apart := false }
def ValueKnownSaid : Prop := valueKnownRow.holds Try.pinned (OpenSpec.ofChange valueKnownSpec)

/-- ITS FALSE NEIGHBOUR: 'it returns false'. Refute it at one input. -/
def valueKnownWrong : ChangeSpec := { name := "valueKnown", fn := fun _ => fun
  | [] => { results := [.lit (.bool false)], args := [] }
  | _ => none }
def ValueKnownWrongFalsely : Prop := valueKnownRow.holds Try.pinned (OpenSpec.ofChange valueKnownWrong)

/-- 'introitlaw2.ValueSets': WHATEVER THE INPUT: true; the input reads as it did. -/
def valueSetsSpec : ChangeSpec := { name := "valueSets", fn := fun _ => fun
  | [d1, d2, d3] => { results := [.lit (.bool true)], args := [d1, d2, d3] }
  | _ => none }
def valueSetsRow : OpenClaim := { program := "ythcphfpkinfjoaa", sum := "d7de403cb2a92e0d9b43fcac49e507cac599e21e02d96b996f9e043c9c4f0741", func := "introit/introitlaw2.ValueSets", spec := "valueSets", unfollowed := true, recurses := true, loops := true, apart := false }
def ValueSetsSaid : Prop := valueSetsRow.holds Try.pinned (OpenSpec.ofChange valueSetsSpec)

/-- ITS FALSE NEIGHBOUR: 'it returns false'. Refute it at one input. -/
def valueSetsWrong : ChangeSpec := { name := "valueSets", fn := fun _ => fun
  | [d1, d2, d3] => { results := [.lit (.bool false)], args := [d1, d2, d3] }
  | _ => none }
def ValueSetsWrongFalsely : Prop := valueSetsRow.holds Try.pinned (OpenSpec.ofChange valueSetsWrong)

/-- 'introitlaw3.ParseSays': WHATEVER THE INPUT: true; the input reads as it did. -/
def parseSaysSpec : ChangeSpec := { name := "parseSays", fn := fun _ => fun
  | [d1, d2] => { results := [.lit (.bool true)], args := [d1, d2] }
  | _ => none }
def parseSaysRow : OpenClaim := { program := "ythcphfpkinfjoaa", sum := "d7de403cb2a92e0d9b43fcac49e507cac599e21e02d96b996f9e043c9c4f0741", func := "introit/introitlaw3.ParseSays", spec := "parseSays", inPlace := ["internal/bytealg.IndexByteString"], unfollowed := true, recurses := true, apart := false }
def ParseSaysSaid : Prop := parseSaysRow.holds Try.pinned (OpenSpec.ofChange parseSaysSpec)

/-- ITS FALSE NEIGHBOUR: 'it returns false'. Refute it at one input. -/
def parseSaysWrong : ChangeSpec := { name := "parseSays", fn := fun _ => fun
  | [d1, d2] => { results := [.lit (.bool false)], args := [d1, d2] }
  | _ => none }
def ParseSaysWrongFalsely : Prop := parseSaysRow.holds Try.pinned (OpenSpec.ofChange parseSaysWrong)

/-- 'introitlaw3.ParseBack': WHATEVER THE INPUT: true; the input reads as it did. -/
def parseBackSpec : ChangeSpec := { name := "parseBack", fn := fun _ => fun
  | [d1, d2, d3] => { results := [.lit (.bool true)], args := [d1, d2, d3] }
  | _ => none }
def parseBackRow : OpenClaim := { program := "ythcphfpkinfjoaa", sum := "d7de403cb2a92e0d9b43fcac49e507cac599e21e02d96b996f9e043c9c4f0741", func := "introit/introitlaw3.ParseBack", spec := "parseBack", inPlace := ["internal/bytealg.IndexByteString"], unfollowed := true, recurses := true, loops := true, apart := false }
def ParseBackSaid : Prop := parseBackRow.holds Try.pinned (OpenSpec.ofChange parseBackSpec)

/-- ITS FALSE NEIGHBOUR: 'it returns false'. Refute it at one input. -/
def parseBackWrong : ChangeSpec := { name := "parseBack", fn := fun _ => fun
  | [d1, d2, d3] => { results := [.lit (.bool false)], args := [d1, d2, d3] }
  | _ => none }
def ParseBackWrongFalsely : Prop := parseBackRow.holds Try.pinned (OpenSpec.ofChange parseBackWrong)

/-- 'introitlaw3.ParseNumbers': WHATEVER THE INPUT: true; the input reads as it did. -/
def parseNumbersSpec : ChangeSpec := { name := "parseNumbers", fn := fun _ => fun
  | [d] => { results := [.lit (.bool true)], args := [d] }
  | _ => none }
def parseNumbersRow : OpenClaim := { program := "ythcphfpkinfjoaa", sum := "d7de403cb2a92e0d9b43fcac49e507cac599e21e02d96b996f9e043c9c4f0741", func := "introit/introitlaw3.ParseNumbers", spec := "parseNumbers", inPlace := ["internal/bytealg.IndexByteString"], unfollowed := true, recurses := true, apart := false }
def ParseNumbersSaid : Prop := parseNumbersRow.holds Try.pinned (OpenSpec.ofChange parseNumbersSpec)

/-- ITS FALSE NEIGHBOUR: 'it returns false'. Refute it at one input. -/
def parseNumbersWrong : ChangeSpec := { name := "parseNumbers", fn := fun _ => fun
  | [d] => { results := [.lit (.bool false)], args := [d] }
  | _ => none }
def ParseNumbersWrongFalsely : Prop := parseNumbersRow.holds Try.pinned (OpenSpec.ofChange parseNumbersWrong)

/-- 'introitlaw3.ParseTwice': WHATEVER THE INPUT: true; the input reads as it did. -/
def parseTwiceSpec : ChangeSpec := { name := "parseTwice", fn := fun _ => fun
  | [d1, d2, d3] => { results := [.lit (.bool true)], args := [d1, d2, d3] }
  | _ => none }
def parseTwiceRow : OpenClaim := { program := "ythcphfpkinfjoaa", sum := "d7de403cb2a92e0d9b43fcac49e507cac599e21e02d96b996f9e043c9c4f0741", func := "introit/introitlaw3.ParseTwice", spec := "parseTwice", inPlace := ["internal/bytealg.IndexByteString"], unfollowed := true, recurses := true, apart := false }
def ParseTwiceSaid : Prop := parseTwiceRow.holds Try.pinned (OpenSpec.ofChange parseTwiceSpec)

/-- ITS FALSE NEIGHBOUR: 'it returns false'. Refute it at one input. -/
def parseTwiceWrong : ChangeSpec := { name := "parseTwice", fn := fun _ => fun
  | [d1, d2, d3] => { results := [.lit (.bool false)], args := [d1, d2, d3] }
  | _ => none }
def ParseTwiceWrongFalsely : Prop := parseTwiceRow.holds Try.pinned (OpenSpec.ofChange parseTwiceWrong)

/- THE SECOND FORM. 'bulk': how many values and letters a reading holds, each counted each time it is reached (what is shared counts as often as it is met; a slice's spare places count too). A statement '..UptoSaid' is the law's where the arguments, and the package variables that the reading takes, are together of bulk at most 1048576: NARROWER than '..Said'. Prove '..Said' where nothing that the law and all that it calls make is longer than what came in: it says more and counts as full. Else prove '..UptoSaid'. A law counts once. -/
mutual
def uptoBulk {H : Type} : DataW H → Nat
  | .lit (.string bytes) => bytes.length + 1
  | .lit _ => 1
  | .nil => 1
  | .ptr d => uptoBulk d + 1
  | .slice elems spare => uptoBulkAll elems + uptoBulkAll spare + 1
  | .agg parts => uptoBulkAll parts + 1
  | .iface _ d => uptoBulk d + 1
  | .map entries => uptoBulkEntries entries + 1
  | .held _ => 1
def uptoBulkAll {H : Type} : List (DataW H) → Nat
  | [] => 0
  | d :: r => uptoBulk d + uptoBulkAll r
def uptoBulkEntries {H : Type} : List (Lit × DataW H) → Nat
  | [] => 0
  | x :: r => uptoBulkEntry x + uptoBulkEntries r
def uptoBulkEntry {H : Type} : Lit × DataW H → Nat
  | (.string bytes, d) => bytes.length + uptoBulk d + 1
  | (_, d) => uptoBulk d + 1
 end
def uptoSmall : (H : Type) → List (DataW H) → Bool := fun _ ds => decide (uptoBulkAll ds ≤ 1048576)
def OpenSpec.upto (s : _root_.Go.ChangeSpec) : _root_.Go.OpenSpec := { _root_.Go.OpenSpec.ofChange s with cond := some uptoSmall }

/-- 'introitlaw2.ValueKnown', WHERE WHAT IT READS IS OF BULK AT MOST 1048576: true; the input reads as it did. -/
def valueKnownUptoRow : OpenClaim := { program := "ythcphfpkinfjoaa", sum := "d7de403cb2a92e0d9b43fcac49e507cac599e21e02d96b996f9e043c9c4f0741", func := "introit/introitlaw2.ValueKnown", spec := "valueKnown", unfollowed := true, recurses := true, apart := false, narrowed := true }
def ValueKnownUptoSaid : Prop := valueKnownUptoRow.holds Try.pinned (OpenSpec.upto valueKnownSpec)

/-- 'introitlaw2.ValueSets', WHERE WHAT IT READS IS OF BULK AT MOST 1048576: true; the input reads as it did. -/
def valueSetsUptoRow : OpenClaim := { program := "ythcphfpkinfjoaa", sum := "d7de403cb2a92e0d9b43fcac49e507cac599e21e02d96b996f9e043c9c4f0741", func := "introit/introitlaw2.ValueSets", spec := "valueSets", unfollowed := true, recurses := true, loops := true, apart := false, narrowed := true }
def ValueSetsUptoSaid : Prop := valueSetsUptoRow.holds Try.pinned (OpenSpec.upto valueSetsSpec)

/-- 'introitlaw3.ParseSays', WHERE WHAT IT READS IS OF BULK AT MOST 1048576: true; the input reads as it did. -/
def parseSaysUptoRow : OpenClaim := { program := "ythcphfpkinfjoaa", sum := "d7de403cb2a92e0d9b43fcac49e507cac599e21e02d96b996f9e043c9c4f0741", func := "introit/introitlaw3.ParseSays", spec := "parseSays", inPlace := ["internal/bytealg.IndexByteString"], unfollowed := true, recurses := true, apart := false, narrowed := true }
def ParseSaysUptoSaid : Prop := parseSaysUptoRow.holds Try.pinned (OpenSpec.upto parseSaysSpec)

/-- 'introitlaw3.ParseBack', WHERE WHAT IT READS IS OF BULK AT MOST 1048576: true; the input reads as it did. -/
def parseBackUptoRow : OpenClaim := { program := "ythcphfpkinfjoaa", sum := "d7de403cb2a92e0d9b43fcac49e507cac599e21e02d96b996f9e043c9c4f0741", func := "introit/introitlaw3.ParseBack", spec := "parseBack", inPlace := ["internal/bytealg.IndexByteString"], unfollowed := true, recurses := true, loops := true, apart := false, narrowed := true }
def ParseBackUptoSaid : Prop := parseBackUptoRow.holds Try.pinned (OpenSpec.upto parseBackSpec)

/-- 'introitlaw3.ParseNumbers', WHERE WHAT IT READS IS OF BULK AT MOST 1048576: true; the input reads as it did. -/
def parseNumbersUptoRow : OpenClaim := { program := "ythcphfpkinfjoaa", sum := "d7de403cb2a92e0d9b43fcac49e507cac599e21e02d96b996f9e043c9c4f0741", func := "introit/introitlaw3.ParseNumbers", spec := "parseNumbers", inPlace := ["internal/bytealg.IndexByteString"], unfollowed := true, recurses := true, apart := false, narrowed := true }
def ParseNumbersUptoSaid : Prop := parseNumbersUptoRow.holds Try.pinned (OpenSpec.upto parseNumbersSpec)

/-- 'introitlaw3.ParseTwice', WHERE WHAT IT READS IS OF BULK AT MOST 1048576: true; the input reads as it did. -/
def parseTwiceUptoRow : OpenClaim := { program := "ythcphfpkinfjoaa", sum := "d7de403cb2a92e0d9b43fcac49e507cac599e21e02d96b996f9e043c9c4f0741", func := "introit/introitlaw3.ParseTwice", spec := "parseTwice", inPlace := ["internal/bytealg.IndexByteString"], unfollowed := true, recurses := true, apart := false, narrowed := true }
def ParseTwiceUptoSaid : Prop := parseTwiceUptoRow.holds Try.pinned (OpenSpec.upto parseTwiceSpec)

end Rows
end Go.Proofs.Ythcphfpkinfjoaa
