/-
  What the listed variables give: the two tables of package sha.
  Conditions: none.
-/
import Derived.Test.YtfjkinmmidmjaaaDoorShW
import Derived.Test.YtfjkinmmidmjaaaDoorTie
import Derived.Test.YtfjkinmmidmjaaaDoorCards
import Derived.ProofKit
import Derived.LaidMore
import Derived.OpenShut
import Derived.Stop.Joined
import Derived.Lib.LaidTab
import Derived.SevenTiedAt
namespace Go.Proofs.YtfjkinmmidmjaaaDoor
open Go.ChangeShapes Go.WideShapes Go.ChangeAt Go.RowKit

def doorSteps : Nat := 400
def laid2 : List (String × DataW Unit) := Rows.sumSaysRow.laid
theorem door_own : ownKnob Tryd.prog.godebug = none := by kernel_rfl
theorem gSq : Tryd.prog.globalNamed "introit/sha.squareRoots" = some 0 := by kernel_rfl
theorem gCu : Tryd.prog.globalNamed "introit/sha.cubeRoots" = some 1 := by kernel_rfl
theorem tSq : (Tryd.prog.globals[0]?).map (·.type) = some 45 := by kernel_rfl
theorem tCu : (Tryd.prog.globals[1]?).map (·.type) = some 52 := by kernel_rfl
theorem sq_tab : (Rows.laid_introit_sha_squareRoots : DataW Unit) = Lib.tabData .u64 (square.map fun n : Nat => (n : Int)) := by kernel_rfl
theorem cu_tab : (Rows.laid_introit_sha_cubeRoots : DataW Unit) = Lib.tabData .u64 (cube.map fun n : Nat => (n : Int)) := by kernel_rfl
/-- The door's own heap meets the condition. -/
theorem door_met (os : Os) (args : Array Value) : laidMetH Tryd.prog laid2 ((World.doorLaid Tryd.prog doorSteps os).forCall (fun _ _ => 0) ⟨#[], args, []⟩).memory :=
  laidMetH_of_parts3 (fuel := 8) (laidMet_of_run' 8 (by kernel_rfl) (by kernel_rfl)) (by kernel_rfl) (by kernel_rfl)
theorem of_laid {W : World} (h : laidMetH Tryd.prog laid2 W) : Gl W := by
  rw [MakeChecks.laidMetH_plain _ _ _ (by kernel_rfl)] at h
  obtain ⟨ps, ⟨g0, t0, cs0, f0, p0, q0, hg0, ht0, hv0, hd0, ⟨g1, t1, cs1, f1, p1, q1, hg1, ht1, hv1, hd1, _, _⟩, _⟩, _, _⟩ := h
  obtain rfl := Option.some.inj (gSq.symm.trans hg0)
  obtain rfl := Option.some.inj (gCu.symm.trans hg1)
  obtain rfl := Option.some.inj (tSq.symm.trans ht0)
  obtain rfl := Option.some.inj (tCu.symm.trans ht1)
  rw [sq_tab] at hd0
  rw [cu_tab] at hd1
  have e0 := Lib.cells_of_tab Tryd.underlying45 Tryd.underlying44 (by kernel_rfl) (by kernel_rfl) hd0
  have e1 := Lib.cells_of_tab Tryd.underlying52 Tryd.underlying44 (by kernel_rfl) (by kernel_rfl) hd1
  refine ⟨fun i hi => ?_, fun i hi => ?_⟩
  · have := World.var?_cell hg0 hv0 i
    rw [this, ← Array.getElem?_toList, e0]
    have hl : i < square.length := hi
    simp [List.getElem?_eq_getElem hl]
  · have := World.var?_cell hg1 hv1 i
    rw [this, ← Array.getElem?_toList, e1]
    have hl : i < cube.length := hi
    simp [List.getElem?_eq_getElem hl]
end Go.Proofs.YtfjkinmmidmjaaaDoor
