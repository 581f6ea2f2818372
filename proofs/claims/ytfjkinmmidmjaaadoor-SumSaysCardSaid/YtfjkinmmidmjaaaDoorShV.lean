/-
  Rows of rows of bytes.
  Conditions: none.
-/
import Derived.Test.YtfjkinmmidmjaaaDoorShW
namespace Go.Proofs.YtfjkinmmidmjaaaDoor
open Go.RowKit

/-- A slice of bytes that lies below block B. -/
def BysB (B : Nat) (w : World) (v : Value) (l : List UInt8) : Prop :=
  ∃ ao cap, v = .slice ao l.length cap ∧ (l = [] ∨ ∃ g off, ao = some ⟨g, off, none⟩ ∧ g < B ∧ ∀ i (h : i < l.length), w.cell? ⟨g, off + i, none⟩ = some (.int .u8 (l[i].toNat : Int)))
theorem Bys.b {w : World} {v : Value} {l : List UInt8} {B : Nat} (h : Bys w v l) (hB : w.heap.size ≤ B) : BysB B w v l := by
  obtain ⟨ao, cap, rfl, _, h | ⟨g, off, rfl, hg, h⟩⟩ := h
  · exact ⟨ao, cap, rfl, .inl h⟩
  · exact ⟨_, cap, rfl, .inr ⟨g, off, rfl, by omega, h⟩⟩
theorem BysB.mono {B B' : Nat} {w : World} {v : Value} {l : List UInt8} (h : BysB B w v l) (hB : B ≤ B') : BysB B' w v l := by
  obtain ⟨ao, cap, rfl, h | ⟨g, off, rfl, hg, h⟩⟩ := h
  · exact ⟨ao, cap, rfl, .inl h⟩
  · exact ⟨_, cap, rfl, .inr ⟨g, off, rfl, by omega, h⟩⟩
theorem BysB.keep {B : Nat} {w w' : World} {v : Value} {l : List UInt8} (h : BysB B w v l) (hb : ∀ k, k < B → w'.heap[k]? = w.heap[k]?) : BysB B w' v l := by
  obtain ⟨ao, cap, rfl, h | ⟨g, off, rfl, hg, h⟩⟩ := h
  · exact ⟨ao, cap, rfl, .inl h⟩
  · exact ⟨_, cap, rfl, .inr ⟨g, off, rfl, hg, fun i hi => by rw [World.cell?_of_block (hb g hg)]; exact h i hi⟩⟩
/-- A slice of such slices, below block B. -/
def Bss (B : Nat) (w : World) (v : Value) (ll : List (List UInt8)) : Prop :=
  ∃ ao cap, v = .slice ao ll.length cap ∧ (ll = [] ∨ ∃ g off, ao = some ⟨g, off, none⟩ ∧ g < B ∧ ∀ i (h : i < ll.length), ∃ u, w.cell? ⟨g, off + i, none⟩ = some u ∧ BysB B w u ll[i])
theorem Bss.keep {B : Nat} {w w' : World} {v : Value} {ll : List (List UInt8)} (h : Bss B w v ll) (hb : ∀ k, k < B → w'.heap[k]? = w.heap[k]?) : Bss B w' v ll := by
  obtain ⟨ao, cap, rfl, h | ⟨g, off, rfl, hg, h⟩⟩ := h
  · exact ⟨ao, cap, rfl, .inl h⟩
  · refine ⟨_, cap, rfl, .inr ⟨g, off, rfl, hg, fun i hi => ?_⟩⟩
    obtain ⟨u, h1, h2⟩ := h i hi
    exact ⟨u, by rw [World.cell?_of_block (hb g hg)]; exact h1, h2.keep hb⟩
theorem BelowX.up {b : Nat} {u v w : World} (h : BelowX u.heap.size b u v) (k : BelowX v.heap.size b v w) : BelowX u.heap.size b u w :=
  h.trans ⟨k.os, k.tape, k.output, k.size, fun i hi hn => k.block i (by have := h.size; omega) hn⟩
/-- All bytes of rows. -/
def flat (ll : List (List UInt8)) : List UInt8 := ll.flatten
theorem flat_take (ll : List (List UInt8)) (k : Nat) (h : k < ll.length) : flat (ll.take (k + 1)) = flat (ll.take k) ++ ll[k] := by
  have e : ll.take (k + 1) = ll.take k ++ [ll[k]] := by rw [List.take_add_one, List.getElem?_eq_getElem h]; rfl
  unfold flat
  rw [e, List.flatten_append]
  exact congrArg _ (List.append_nil _)
end Go.Proofs.YtfjkinmmidmjaaaDoor
