/-
  A row of members that a call owns, sorted in place: the memory's side.
  Conditions: none.
-/
import Derived.Test.YthcphfpkinfjoaaValGet
namespace Go.Proofs.Ythcphfpkinfjoaa
open Go.RowKit

/-- All that lay lies as it lay, but for one block. -/
structure But (g : Nat) (w w' : World) : Prop where
  os : w'.os = w.os
  tape : w'.tape = w.tape
  output : w'.output = w.output
  size : w.heap.size ≤ w'.heap.size
  block : ∀ k, k < w.heap.size → k ≠ g → w'.heap[k]? = w.heap[k]?
theorem But.refl (g : Nat) (w : World) : But g w w := ⟨rfl, rfl, rfl, Nat.le_refl _, fun _ _ _ => rfl⟩
theorem But.trans {g : Nat} {a b c : World} (h : But g a b) (k : But g b c) : But g a c :=
  ⟨k.os.trans h.os, k.tape.trans h.tape, k.output.trans h.output, Nat.le_trans h.size k.size, fun i hi hg => (k.block i (Nat.lt_of_lt_of_le hi h.size) hg).trans (h.block i hi hg)⟩
theorem butOf {g : Nat} {w w' : World} (h : Below w.heap.size w w') : But g w w' := ⟨h.os, h.tape, h.output, h.size, fun k hk _ => h.block k hk⟩
theorem But.set {g i : Nat} {w w' : World} (h : But g w w') (v : Value) : But g w (w'.setCell ⟨g, i, none⟩ v) :=
  h.trans ⟨rfl, rfl, rfl, by simp [World.setCell], fun k _ hk => Below.heap_setCell w' ⟨g, i, none⟩ v k hk⟩
theorem But.drew {g : Nat} {w w' : World} (h : But g w w') : But g w w'.drew := h.trans (butOf ((Below.refl _ w').drew))
theorem But.below {g B : Nat} {w w' : World} (h : But g w w') (hB : B ≤ g) (hB' : B ≤ w.heap.size) : Below B w w' := ⟨h.os, h.tape, h.output, h.size, fun k hk => h.block k (by omega) (by omega)⟩

/-- The row holds the members of these numbers. -/
def RowOwn (W : World) (g cap : Nat) (enc : Nat → Nat → Value) (d : List Nat) : Prop :=
  ∃ cur, W.heap[g]? = some (.cells cur 28 (0, 0)) ∧ cur.size = cap * 6 ∧ d.length ≤ cap ∧ ∀ i (h : i < d.length) j, j < 6 → cur[i * 6 + j]? = some (enc d[i] j)
theorem RowOwn.lt {W : World} {g cap : Nat} {enc : Nat → Nat → Value} {d : List Nat} (h : RowOwn W g cap enc d) : g < W.heap.size := by
  obtain ⟨cur, h1, _⟩ := h; exact lt_of_block h1
theorem RowOwn.keep {W W' : World} {g cap : Nat} {enc : Nat → Nat → Value} {d : List Nat} (h : RowOwn W g cap enc d) (hb : Below W.heap.size W W') : RowOwn W' g cap enc d := by
  have hl := h.lt
  obtain ⟨cur, h1, h2⟩ := h; exact ⟨cur, (hb.block g hl).trans h1, h2⟩
theorem RowOwn.at {W : World} {g cap : Nat} {enc : Nat → Nat → Value} {d : List Nat} (h : RowOwn W g cap enc d) {i : Nat} (hi : i < d.length) :
    W.cell? ⟨g, i * 6, none⟩ = some (enc d[i] 0) ∧ W.cell? ⟨g, i * 6 + 1, none⟩ = some (enc d[i] 1) ∧ W.cell? ⟨g, i * 6 + 2, none⟩ = some (enc d[i] 2) ∧ W.cell? ⟨g, i * 6 + 3, none⟩ = some (enc d[i] 3) ∧ W.cell? ⟨g, i * 6 + 4, none⟩ = some (enc d[i] 4) ∧ W.cell? ⟨g, i * 6 + 5, none⟩ = some (enc d[i] 5) := by
  obtain ⟨cur, h1, h2, h3, h4⟩ := h
  have e := fun j hj => h4 i hi j hj
  simp only [World.cell?, h1]
  simp
  exact ⟨e 0 (by omega), e 1 (by omega), e 2 (by omega), e 3 (by omega), e 4 (by omega), e 5 (by omega)⟩
theorem RowOwn.frozen {W : World} {g cap : Nat} {enc : Nat → Nat → Value} {d : List Nat} (h : RowOwn W g cap enc d) (i : Nat) : W.frozen? ⟨g, i, none⟩ = false := by
  obtain ⟨cur, h1, _⟩ := h
  simp [World.frozen?, h1]
def put6 (W : World) (g o : Nat) (c : Nat → Value) : World :=
  (((((W.setCell ⟨g, o, none⟩ (c 0)).setCell ⟨g, o + 1, none⟩ (c 1)).setCell ⟨g, o + 2, none⟩ (c 2)).setCell ⟨g, o + 3, none⟩ (c 3)).setCell ⟨g, o + 4, none⟩ (c 4)).setCell ⟨g, o + 5, none⟩ (c 5)
theorem put6_but {g o : Nat} {w W : World} {c : Nat → Value} (h : But g w W) : But g w (put6 W g o c) := (((((h.set _).set _).set _).set _).set _).set _
theorem put6_row {W : World} {g cap : Nat} {enc : Nat → Nat → Value} {d : List Nat} (h : RowOwn W g cap enc d) (i x : Nat) (hi : i < d.length) : RowOwn (put6 W g (i * 6) (enc x)) g cap enc (d.set i x) := by
  obtain ⟨cur, h1, h2, h3, h4⟩ := h
  have e := setCell_cells (i := i * 6 + 5) (enc x 5) (setCell_cells (i := i * 6 + 4) (enc x 4) (setCell_cells (i := i * 6 + 3) (enc x 3) (setCell_cells (i := i * 6 + 2) (enc x 2) (setCell_cells (i := i * 6 + 1) (enc x 1) (setCell_cells (i := i * 6) (enc x 0) h1)))))
  refine ⟨_, e, by simp [h2], by simpa using h3, fun p hp j hj => ?_⟩
  simp only [List.length_set] at hp
  have hsz : i * 6 + 5 < cur.size := by rw [h2]; omega
  by_cases hpi : p = i
  · subst hpi
    rcases (show j = 0 ∨ j = 1 ∨ j = 2 ∨ j = 3 ∨ j = 4 ∨ j = 5 by omega) with rfl | rfl | rfl | rfl | rfl | rfl <;>
      simp [Array.getElem?_setIfInBounds] <;> omega
  · have h5 := h4 p hp j hj
    simp only [Array.getElem?_setIfInBounds, Array.size_setIfInBounds]
    rw [if_neg (by omega), if_neg (by omega), if_neg (by omega), if_neg (by omega), if_neg (by omega), if_neg (by omega), h5]
    simp [Ne.symm hpi]
theorem swap_list (A B : List Nat) (x y : Nat) : ((A ++ y :: x :: B).set (A.length + 1) y).set A.length x = A ++ x :: y :: B := by
  induction A with
  | nil => rfl
  | cons z A ih => simp only [List.cons_append, List.length_cons, List.set_cons_succ]; rw [ih]

set_option maxHeartbeats 400000 in
theorem byKey_any (a b : ByteArray) (c1 c2 c3 c4 c5 d1 d2 d3 d4 d5 : Value) (w : World) : Calls Try.prog 37 #[.agg #[.string a, c1, c2, c3, c4, c5], .agg #[.string b, d1, d2, d3, d4, d5]] w fun e w' => e = .returned (.int .i64 (cmpS a b)) ∧ Below w.heap.size w w' := by
  go_enter Try.func37, Try.ntmps37
  go_wp2_with fail
  refine (compare_any _ _ _).mono ?_
  rintro e w' ⟨rfl, rfl⟩
  go_wp2
  go_ret
  exact ⟨rfl, ((Below.refl _ w).alloc (Nat.le_refl _) _).alloc (by simp) _⟩
end Go.Proofs.Ythcphfpkinfjoaa
