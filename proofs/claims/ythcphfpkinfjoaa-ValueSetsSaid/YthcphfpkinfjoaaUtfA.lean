/-
  The cursor over a string (a block of two cells), what a call of its method 'next' does, and the small readers of package utf.
  Conditions: the cursor's block is known whole; the string is no longer than the form's own bound on lengths.
-/
import Derived.Test.YthcphfpkinfjoaaRows
import Derived.WalkKit
import Derived.WalkSpells
import Derived.WalkLawsBesides
import Derived.Deep.QuietTactic
import Derived.BigQuiet
import Derived.Lib.Hide
namespace Go.Proofs.Ythcphfpkinfjoaa
open Go.RowKit

/-- All but block b is as it was; no block has come or gone. -/
structure Only (b : Nat) (w w' : World) : Prop where
  os : w'.os = w.os
  tape : w'.tape = w.tape
  output : w'.output = w.output
  size : w'.heap.size = w.heap.size
  block : ∀ k, k ≠ b → w'.heap[k]? = w.heap[k]?

theorem Only.refl (b : Nat) (w : World) : Only b w w := ⟨rfl, rfl, rfl, rfl, fun _ _ => rfl⟩
theorem Only.trans {b : Nat} {u v w : World} (h : Only b u v) (k : Only b v w) : Only b u w :=
  ⟨k.os.trans h.os, k.tape.trans h.tape, k.output.trans h.output, k.size.trans h.size, fun i hi => (k.block i hi).trans (h.block i hi)⟩
theorem Only.below {b B : Nat} {w w' : World} (h : Only b w w') (hB : B ≤ b) : Below B w w' :=
  ⟨h.os, h.tape, h.output, by rw [h.size]; exact Nat.le_refl _, fun k hk => h.block k (by omega)⟩

/-- Block b is a cursor over s, of whose bytes l is left. -/
def Cur (w : World) (b : Nat) (s : ByteArray) (l : List UInt8) : Prop :=
  l.length ≤ s.size ∧ s.data.toList.drop (s.size - l.length) = l ∧ w.heap[b]? = some (.cells #[.string s, .int .i64 ((s.size - l.length : Nat) : Int)] 140 (0, 0))

theorem Cur.cells {w : World} {b : Nat} {s : ByteArray} {l : List UInt8} (h : Cur w b s l) :
    w.cell? ⟨b, 0, none⟩ = some (.string s) ∧ w.cell? ⟨b, 1, none⟩ = some (.int .i64 ((s.size - l.length : Nat) : Int)) ∧ w.frozen? ⟨b, 1, none⟩ = false := by
  obtain ⟨_, _, h⟩ := h
  refine ⟨?_, ?_, ?_⟩ <;> simp [World.cell?, World.frozen?, h]

set_option maxHeartbeats 400000 in
theorem next_raw (b : Nat) (s : ByteArray) (k : Nat) (w : World) (hs : s.size ≤ maxLen) (hk : k < s.size)
    (h0 : w.cell? ⟨b, 0, none⟩ = some (.string s)) (h1 : w.cell? ⟨b, 1, none⟩ = some (.int .i64 (k : Int))) (h2 : w.frozen? ⟨b, 1, none⟩ = false) :
    Calls Try.prog 118 #[.pointer (some ⟨b, 0, none⟩)] w fun e w' => e = .returned (.tuple #[.int .u8 s[k].toNat, .bool true]) ∧ ∃ n, w' = (w.drewN n).setCell ⟨b, 1, none⟩ (.int .i64 (k + 1)) := by
  unfold maxLen at hs
  go_enter Try.func118, Try.ntmps118
  go_wp2
  have hk' : (k : Int) < (s.size : Int) := by omega
  go_quiet (fail)
  go_wp2
  go_quiet (fail)
  go_wp2
  go_ret2
  exact ⟨rfl, _, rfl⟩

set_option maxHeartbeats 400000 in
theorem next_end (b : Nat) (s : ByteArray) (w : World)
    (h0 : w.cell? ⟨b, 0, none⟩ = some (.string s)) (h1 : w.cell? ⟨b, 1, none⟩ = some (.int .i64 (s.size : Int))) :
    Calls Try.prog 118 #[.pointer (some ⟨b, 0, none⟩)] w fun e w' => e = .returned (.tuple #[.int .u8 0, .bool false]) ∧ ∃ n, w' = w.drewN n := by
  go_enter Try.func118, Try.ntmps118
  go_wp2
  go_quiet (fail)
  go_wp2
  go_ret2
  exact ⟨rfl, _, rfl⟩

theorem Cur.step {w : World} {b : Nat} {s : ByteArray} {c : UInt8} {l : List UInt8} (h : Cur w b s (c :: l)) (n : Nat) :
    Cur ((w.drewN n).setCell ⟨b, 1, none⟩ (.int .i64 ((s.size - (c :: l).length : Nat) + 1 : Int))) b s l ∧ Only b w ((w.drewN n).setCell ⟨b, 1, none⟩ (.int .i64 ((s.size - (c :: l).length : Nat) + 1 : Int))) := by
  obtain ⟨h1, h2, h3⟩ := h
  simp only [List.length_cons] at h1 h2 h3 ⊢
  have hlt := lt_of_block h3
  have h' : w.heap[b] = .cells #[.string s, .int .i64 ((s.size - (l.length + 1) : Nat) : Int)] 140 (0, 0) := by simpa [Array.getElem?_eq_getElem hlt] using h3
  refine ⟨⟨by omega, ?_, ?_⟩, rfl, rfl, rfl, ?_, ?_⟩
  · have e : s.size - l.length = (s.size - (l.length + 1)) + 1 := by omega
    rw [e, ← List.drop_drop, h2]; rfl
  · show (w.heap.modify b _)[b]? = _
    rw [Array.getElem?_eq_getElem (by simpa using hlt), Array.getElem_modify_self, h']
    have e : ((s.size - (l.length + 1) : Nat) : Int) + 1 = ((s.size - l.length : Nat) : Int) := by omega
    rw [e]; rfl
  · show (w.heap.modify b _).size = _
    simp
  · intro k hk
    exact Below.heap_setCell (w.drewN n) ⟨b, 1, none⟩ _ k hk

theorem Cur.byte {w : World} {b : Nat} {s : ByteArray} {c : UInt8} {l : List UInt8} (h : Cur w b s (c :: l)) : ∃ hk : s.size - (c :: l).length < s.size, s[s.size - (c :: l).length] = c := by
  obtain ⟨h1, h2, _⟩ := h
  simp only [List.length_cons] at h1 h2 ⊢
  have hk : s.size - (l.length + 1) < s.size := by omega
  refine ⟨hk, ?_⟩
  have h4 : (s.data.toList.drop (s.size - (l.length + 1)))[0]? = some c := by rw [h2]; rfl
  rw [List.getElem?_drop] at h4
  have h5 : s.data.toList[s.size - (l.length + 1)]? = some (s[s.size - (l.length + 1)]) := by
    rw [List.getElem?_eq_getElem (by simpa using hk)]; rfl
  simpa [h5] using h4

theorem next_some (b : Nat) (s : ByteArray) (c : UInt8) (l : List UInt8) (w : World) (hs : s.size ≤ maxLen) (hc : Cur w b s (c :: l)) :
    Calls Try.prog 118 #[.pointer (some ⟨b, 0, none⟩)] w fun e w' => e = .returned (.tuple #[.int .u8 c.toNat, .bool true]) ∧ Cur w' b s l ∧ Only b w w' := by
  obtain ⟨h0, h1, h2⟩ := hc.cells
  obtain ⟨hk, hb⟩ := hc.byte
  refine (next_raw b s _ w hs hk h0 h1 h2).mono ?_
  rintro e w' ⟨rfl, n, rfl⟩
  rw [hb]
  exact ⟨rfl, hc.step n⟩

theorem next_none (b : Nat) (s : ByteArray) (w : World) (hc : Cur w b s []) :
    Calls Try.prog 118 #[.pointer (some ⟨b, 0, none⟩)] w fun e w' => e = .returned (.tuple #[.int .u8 0, .bool false]) ∧ Cur w' b s [] ∧ Only b w w' := by
  obtain ⟨h0, h1, h2⟩ := hc.cells
  refine (next_end b s w h0 h1).mono ?_
  rintro e w' ⟨rfl, n, rfl⟩
  exact ⟨rfl, hc, rfl, rfl, rfl, rfl, fun _ _ => rfl⟩

end Go.Proofs.Ythcphfpkinfjoaa
