/-
  The document's Sum512.
  Conditions: none.
-/
import Derived.Test.YtfjkinmmidmjaaaDoorShK512
import Derived.Test.YtfjkinmmidmjaaaDoorShEq
import Derived.Test.YtfjkinmmidmjaaaDoorShE512
namespace Go.Proofs.YtfjkinmmidmjaaaDoor
open Go.RowKit

/-- What stays as it is while the document takes the blocks: its table, its result's cells, the padded bytes. -/
structure JEnv512 (w wr : World) (n0 nk : Nat) (g : Nat) (p : List UInt8) : Prop where
  table : RW wr nk .u64 52 cube
  out : BT wr n0 26 (zerB 64)
  bytes : ∀ i (h : i < p.length), wr.cell? ⟨g, i, none⟩ = some (.int .u8 (p[i].toNat : Int))
  below : Below n0 w wr
theorem JEnv512.keep {w wr wq : World} {n0 nk g M : Nat} {p : List UInt8} (h : JEnv512 w wr n0 nk g p) (hk : nk < M) (h0 : n0 < M) (hg : g < M) (hb : ∀ k, k < M → k = nk ∨ k = n0 ∨ k = g ∨ k < n0 → wq.heap[k]? = wr.heap[k]?) (ho : wq.os = wr.os) (ht : wq.tape = wr.tape) (hu : wq.output = wr.output) (hs : wr.heap.size ≤ wq.heap.size) : JEnv512 w wq n0 nk g p :=
  ⟨h.table.other (hb nk hk (.inl rfl)), h.out.other (hb n0 h0 (.inr (.inl rfl))), fun i hi => by rw [World.cell?_of_block (hb g hg (.inr (.inr (.inl rfl))))]; exact h.bytes i hi,
    ⟨ho.trans h.below.os, ht.trans h.below.tape, hu.trans h.below.output, Nat.le_trans h.below.size hs, fun k hk2 => (hb k (by omega) (.inr (.inr (.inr hk2)))).trans (h.below.block k hk2)⟩⟩
theorem own_cells {w : World} {B : Nat} {v : Value} {p : List UInt8} (h : Owns w B v p) (hp : 0 < p.length) : ∃ g C, v = .slice (some ⟨g, 0, none⟩) p.length C ∧ B ≤ g ∧ g < w.heap.size ∧ ∀ i (h : i < p.length), w.cell? ⟨g, i, none⟩ = some (.int .u8 (p[i].toNat : Int)) := by
  obtain ⟨h1, h2⟩ := h
  rcases h2 with ⟨rfl, hn⟩ | ⟨g, cap, cur, rfl, hg, hh, hnc, hcm, hcs, htake⟩
  · omega
  · refine ⟨g, cap, rfl, hg, (Array.getElem?_eq_some_iff.1 hh).1, fun i hi => ?_⟩
    have e : (cur.toList.take (p.length * 1))[i]? = (byteVals p)[i]? := by rw [htake]
    rw [List.getElem?_take, if_pos (by omega)] at e
    simp only [World.cell?, hh]
    simp only [Option.isSome_none, Bool.false_eq_true, if_false]
    rw [← Array.getElem?_toList, e]
    simp [byteVals, List.getElem?_map, List.getElem?_eq_getElem hi]
theorem pad512_len (n : Nat) : ∃ N, n + (pad512 n).length = 128 * (N + 1) := by
  refine ⟨(n + (pad512 n).length) / 128 - 1, ?_⟩
  rw [pad512_eq]
  simp only [List.length_append, List.length_cons, List.length_nil, List.length_replicate, List.length_map, List.length_range]
  omega
end Go.Proofs.YtfjkinmmidmjaaaDoor
