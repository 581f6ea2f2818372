/-
  A statement whose order Go leaves open, with calls that make memory, walked once: in every world in which all that lay lies as it lay.
  Conditions: none.
-/
import Derived.Test.YthcphfpkinfjoaaValA
import Derived.Deep.QuietTactic
namespace Go.Proofs.Ythcphfpkinfjoaa
open Go.RowKit

/-- A world in which all that lay in w lies as it lay. -/
structure KidOf (w : World) where
  x : World
  h : Below w.heap.size w x
instance (w : World) : Inhabited (KidOf w) := ⟨⟨w, Below.refl _ _⟩⟩
theorem wp_region_below {P : Program} {id : Nat} {Q : Exit → Act → World → Prop} {a : Act} {w : World} {l : List Oper} (hm : P.follows .mixedOrders = true) (hB : Region.lexB .any l.toArray = true)
    (h : wpQuiet P l.toArray (fun w' => ∃ p : KidOf w, w' = p.x) (fun a' => ∀ w', (∃ p : KidOf w, w' = p.x) → Q .normal a' w') l a) : (Code.region id l.toArray true).wp P Q a w :=
  wp_region_quiet (C := fun w' => ∃ p : KidOf w, w' = p.x) hm hB ⟨⟨w.drew, (Below.refl _ _).drew⟩, rfl⟩ (by simpa using h)
theorem Calls.below_of {P : Program} {f : FuncId} {args : Array Value} {w : World} {p : KidOf w} {v : Value} (h : Calls P f args p.x fun e w' => e = .returned v ∧ Below p.x.heap.size p.x w') :
    Calls P f args p.x fun e w'' => e = .returned v ∧ ∃ q : KidOf w, w'' = q.x := h.mono fun _ w' ⟨he, hb⟩ => ⟨he, ⟨w', p.h.trans (hb.mono p.h.size)⟩, rfl⟩
theorem KidOf.cell {w : World} {b i : Nat} {v : Value} (hb : b < w.heap.size) (h : w.cell? ⟨b, i, none⟩ = some v) (p : KidOf w) : p.x.cell? ⟨b, i, none⟩ = some v := (p.h.cell (p := ⟨b, i, none⟩) hb).trans h
end Go.Proofs.Ythcphfpkinfjoaa
