/-
  The parser's step for one item of a list, and for all of them.
  The parser's step for one key of a map.
  The parser's step for one member of a map.
  Conditions: none.
-/
import Derived.Test.YthcphfpkinfjoaaPaF
import Derived.Deep.AppendLies
import Derived.Deep.RegionLaw
import Derived.Maps.OwnSet
import Derived.StringKeys
namespace Go.Proofs.Ythcphfpkinfjoaa
open Go.RowKit

def ePtr (b : Nat) : Value := .pointer (some ⟨b, 0, none⟩)
/-- What is gathered of a list: vs so far, l of the text left. -/
def ESt (base b b2 : Nat) (s : ByteArray) (d : Nat) (vs : List VT) (l : List UInt8) (w : World) : Prop :=
  base ≤ w.heap.size ∧ b < base ∧ b2 < base ∧ b ≠ b2 ∧ PCur w b s l d ∧ vs.length + l.length ≤ s.size ∧
  ∃ got xs, w.heap[b2]? = some (.cells #[.pointer (some ⟨b, 0, none⟩), got] 128 (0, 0)) ∧ w.ownsRow base 26 5 got vs.length xs ∧
    VCs (fun x => base ≤ x ∧ x < w.heap.size ∧ got.ownBlock ≠ some x) w vs xs ∧ (vs = [] → got = .slice none 0 0)
theorem c2of {W : World} {b : Nat} {c0 c1 : Value} {t : TypeId} (h : W.heap[b]? = some (.cells #[c0, c1] t (0, 0))) :
    W.cell? ⟨b, 0, none⟩ = some c0 ∧ W.cell? ⟨b, 1, none⟩ = some c1 ∧ W.frozen? ⟨b, 1, none⟩ = false := by simp [World.cell?, World.frozen?, h]
/-- What is left by the step for one item. -/
def ENext (base b b2 : Nat) (s : ByteArray) (d : Nat) (vs : List VT) (l : List UInt8) (w : World) (r : PR VT) (e : Ending) (w' : World) : Prop :=
  Exc (fun x => x = b ∨ x = b2 ∨ base ≤ x) w w' ∧ match r with
    | .error c => e = .returned (.int .i64 (c : Int)) ∧ c ≠ 0 ∧ PLive w' b s d
    | .ok (t, l') => e = .returned (.int .i64 0) ∧ (l'.length < l.length → ESt base b b2 s d (vs ++ [t]) l' w')
theorem ownsRow_same {W W' : World} {base e size n : Nat} {v : Value} {xs : List Value} (h : W.ownsRow base e size v n xs) (hb : ∀ k, v.ownBlock = some k → W'.heap[k]? = W.heap[k]?) : W'.ownsRow base e size v n xs := by
  obtain ⟨h0, h1 | ⟨g, cap, cur, rfl, hg, hh, r⟩⟩ := h
  · exact ⟨h0, .inl h1⟩
  · exact ⟨h0, .inr ⟨g, cap, cur, rfl, hg, (hb g rfl).trans hh, r⟩⟩
theorem ownsRow_lt {W : World} {base e size n : Nat} {v : Value} {xs : List Value} (h : W.ownsRow base e size v n xs) (k : Nat) (hk : v.ownBlock = some k) : base ≤ k ∧ k < W.heap.size := by
  obtain ⟨h0, ⟨rfl, _⟩ | ⟨g, cap, cur, rfl, hg, hh, r⟩⟩ := h
  · cases hk
  · simp only [Value.ownBlock, Option.some.injEq] at hk
    subst hk
    exact ⟨hg, lt_of_block hh⟩
/-- The cells of the last element of a row, and what becomes of them. -/
theorem ownsRow_last5 {W : World} {base e n g cap : Nat} {xs : List Value} {z0 z1 z2 z3 z4 : Value} (h : W.ownsRow base e 5 (.slice (some ⟨g, 0, none⟩) (n + 1) cap) (n + 1) (xs ++ [z0, z1, z2, z3, z4])) :
    (W.cell? ⟨g, n * 5, none⟩ = some z0 ∧ W.cell? ⟨g, n * 5 + 1, none⟩ = some z1 ∧ W.cell? ⟨g, n * 5 + 2, none⟩ = some z2 ∧ W.cell? ⟨g, n * 5 + 3, none⟩ = some z3 ∧ W.cell? ⟨g, n * 5 + 4, none⟩ = some z4) ∧
    (W.frozen? ⟨g, n * 5, none⟩ = false ∧ W.frozen? ⟨g, n * 5 + 1, none⟩ = false ∧ W.frozen? ⟨g, n * 5 + 2, none⟩ = false ∧ W.frozen? ⟨g, n * 5 + 3, none⟩ = false ∧ W.frozen? ⟨g, n * 5 + 4, none⟩ = false) := by
  have hl := h.1
  simp only [List.length_append, List.length_cons, List.length_nil] at hl
  obtain ⟨_, ⟨h1, _⟩ | ⟨g', cap', cur, h1, hg, hh, h2, h3, h4, h5⟩⟩ := h
  · cases h1
  · cases h1
    have key : ∀ j, j < 5 → W.cell? ⟨g, n * 5 + j, none⟩ = [z0, z1, z2, z3, z4][j]? := by
      intro j hj
      rw [cell_of_row W g (n * 5 + j) cur _ (0, 0) hh]
      have : cur[n * 5 + j]? = (cur.toList.take ((n + 1) * 5))[n * 5 + j]? := by rw [List.getElem?_take_of_lt (by omega)]; simp
      rw [this, h5, List.getElem?_append_right (by omega)]
      congr 1; omega
    refine ⟨⟨key 0 (by decide), key 1 (by decide), key 2 (by decide), key 3 (by decide), key 4 (by decide)⟩, ?_⟩
    refine ⟨?_, ?_, ?_, ?_, ?_⟩ <;> simp [World.frozen?, hh]
theorem row_set {W : World} {g : Nat} {cur : Array Value} {t : TypeId} {fr : Nat × Nat} (h : W.heap[g]? = some (.cells cur t fr)) (i : Nat) (u : Value) : (W.setCell ⟨g, i, none⟩ u).heap[g]? = some (.cells (cur.setIfInBounds i u) t fr) := setCell_cells u h
theorem ownsRow_put5 {W : World} {base e n g cap : Nat} {xs : List Value} {z0 z1 z2 z3 z4 : Value} (c0 c1 c2 c3 c4 : Value) (h : W.ownsRow base e 5 (.slice (some ⟨g, 0, none⟩) (n + 1) cap) (n + 1) (xs ++ [z0, z1, z2, z3, z4])) :
    (((((W.setCell ⟨g, n * 5, none⟩ c0).setCell ⟨g, n * 5 + 1, none⟩ c1).setCell ⟨g, n * 5 + 2, none⟩ c2).setCell ⟨g, n * 5 + 3, none⟩ c3).setCell ⟨g, n * 5 + 4, none⟩ c4).ownsRow base e 5 (.slice (some ⟨g, 0, none⟩) (n + 1) cap) (n + 1) (xs ++ [c0, c1, c2, c3, c4]) := by
  have hl := h.1
  simp only [List.length_append, List.length_cons, List.length_nil] at hl
  obtain ⟨_, ⟨h1, _⟩ | ⟨g', cap', cur, h1, hg, hh, h2, h3, h4, h5⟩⟩ := h
  · cases h1
  · cases h1
    have hh5 := row_set (row_set (row_set (row_set (row_set hh (n * 5) c0) (n * 5 + 1) c1) (n * 5 + 2) c2) (n * 5 + 3) c3) (n * 5 + 4) c4
    refine ⟨by simp; omega, .inr ⟨g, cap, _, rfl, hg, hh5, h2, h3, by simp [h4], ?_⟩⟩
    clear hh5
    apply List.ext_getElem?
    intro j
    have hcs : n * 5 + 5 ≤ cur.size := by have := Nat.mul_le_mul_right 5 h2; omega
    by_cases hj : j < (n + 1) * 5
    · rw [List.getElem?_take_of_lt hj]
      have h6 : cur.toList[j]? = (xs ++ [z0, z1, z2, z3, z4])[j]? := by rw [← h5, List.getElem?_take_of_lt hj]
      simp only [Array.getElem?_toList, Array.getElem?_setIfInBounds, Array.size_setIfInBounds] at h6 ⊢
      by_cases hj1 : j < n * 5
      · rw [if_neg (by omega), if_neg (by omega), if_neg (by omega), if_neg (by omega), if_neg (by omega), h6, List.getElem?_append_left (by omega), List.getElem?_append_left (by omega)]
      · rw [List.getElem?_append_right (by omega)]
        rcases (show j = n * 5 ∨ j = n * 5 + 1 ∨ j = n * 5 + 2 ∨ j = n * 5 + 3 ∨ j = n * 5 + 4 by omega) with rfl | rfl | rfl | rfl | rfl
        · rw [if_neg (by omega), if_neg (by omega), if_neg (by omega), if_neg (by omega), if_pos rfl, if_pos (by omega), show n * 5 - xs.length = 0 by omega]; rfl
        · rw [if_neg (by omega), if_neg (by omega), if_neg (by omega), if_pos rfl, if_pos (by omega), show n * 5 + 1 - xs.length = 1 by omega]; rfl
        · rw [if_neg (by omega), if_neg (by omega), if_pos rfl, if_pos (by omega), show n * 5 + 2 - xs.length = 2 by omega]; rfl
        · rw [if_neg (by omega), if_pos rfl, if_pos (by omega), show n * 5 + 3 - xs.length = 3 by omega]; rfl
        · rw [if_pos rfl, if_pos (by omega), show n * 5 + 4 - xs.length = 4 by omega]; rfl
    · rw [List.getElem?_eq_none (by rw [List.length_take]; omega), List.getElem?_eq_none (by simp; omega)]
theorem new5_at (W : World) (T : TypeId) (z0 z1 z2 z3 z4 : Value) : ∀ j u, [z0, z1, z2, z3, z4][j]? = some u → (W.alloc (.cells #[z0, z1, z2, z3, z4] T)).cell? ((⟨W.heap.size, 0, none⟩ : Addr).add j) = some u := by
  intro j u hj
  rw [addr_off, Nat.zero_add, cell_of_row _ W.heap.size j _ T (0, 0) (World.alloc_heap_new W _), ← hj]
  simp
theorem grown_old {W w' : World} {o : Obj} {r : Option Nat} (h : (W.alloc o).drew.grownBy w' r) (k : Nat) (hk : k < W.heap.size) (hr : r ≠ some k) : w'.heap[k]? = W.heap[k]? := by
  rw [h.block k (by show k < (W.alloc o).heap.size; simp; omega) (fun e => hr e.symm)]
  show (W.heap.push _)[k]? = _
  rw [Array.getElem?_push_lt hk, Array.getElem?_eq_getElem hk]
/-- A row's last element and the field that names the row are written, in whichever order. -/
structure Fin5 (base e b2 g n cap : Nat) (T : TypeId) (c : Value) (xs : List Value) (w' W9 : World) : Prop where
  row : W9.ownsRow base e 5 (.slice (some ⟨g, 0, none⟩) (n + 1) cap) (n + 1) xs
  fld : W9.heap[b2]? = some (.cells #[c, .slice (some ⟨g, 0, none⟩) (n + 1) cap] T (0, 0))
  other : ∀ k, k ≠ g → k ≠ b2 → W9.heap[k]? = w'.heap[k]?
  size : W9.heap.size = w'.heap.size
  os : W9.os = w'.os
  tape : W9.tape = w'.tape
  output : W9.output = w'.output
theorem rows5_only {W : World} {g i0 i1 i2 i3 i4 : Nat} (c0 c1 c2 c3 c4 : Value) : Only g W (((((W.setCell ⟨g, i0, none⟩ c0).setCell ⟨g, i1, none⟩ c1).setCell ⟨g, i2, none⟩ c2).setCell ⟨g, i3, none⟩ c3).setCell ⟨g, i4, none⟩ c4) :=
  ((((only_set c0).trans (only_set c1)).trans (only_set c2)).trans (only_set c3)).trans (only_set c4)
theorem fin5A {base e b2 g n cap : Nat} {T : TypeId} {c u : Value} {xs : List Value} {z0 z1 z2 z3 z4 : Value} {w' : World} (c0 c1 c2 c3 c4 : Value) (h : w'.ownsRow base e 5 (.slice (some ⟨g, 0, none⟩) (n + 1) cap) (n + 1) (xs ++ [z0, z1, z2, z3, z4])) (hb : b2 < base) (hf : w'.heap[b2]? = some (.cells #[c, u] T (0, 0))) (hg : g ≠ b2) :
    Fin5 base e b2 g n cap T c (xs ++ [c0, c1, c2, c3, c4]) w' ((((((w'.setCell ⟨g, n * 5, none⟩ c0).setCell ⟨g, n * 5 + 1, none⟩ c1).setCell ⟨g, n * 5 + 2, none⟩ c2).setCell ⟨g, n * 5 + 3, none⟩ c3).setCell ⟨g, n * 5 + 4, none⟩ c4).setCell ⟨b2, 1, none⟩ (.slice (some ⟨g, 0, none⟩) (n + 1) cap)) := by
  have ho := rows5_only (W := w') (g := g) (i0 := n * 5) (i1 := n * 5 + 1) (i2 := n * 5 + 2) (i3 := n * 5 + 3) (i4 := n * 5 + 4) c0 c1 c2 c3 c4
  have h1 := ownsRow_put5 c0 c1 c2 c3 c4 h
  generalize ((((w'.setCell ⟨g, n * 5, none⟩ c0).setCell ⟨g, n * 5 + 1, none⟩ c1).setCell ⟨g, n * 5 + 2, none⟩ c2).setCell ⟨g, n * 5 + 3, none⟩ c3).setCell ⟨g, n * 5 + 4, none⟩ c4 = W at ho h1 ⊢
  have h2 := only_set (w := W) (b := b2) (i := 1) (.slice (some ⟨g, 0, none⟩) (n + 1) cap)
  exact ⟨ownsRow_set h1 hb, by rw [setCell_cells _ ((ho.block b2 (fun e => hg e.symm)).trans hf)]; rfl, fun k h3 h4 => (h2.block k h4).trans (ho.block k h3), h2.size.trans ho.size, h2.os.trans ho.os, h2.tape.trans ho.tape, h2.output.trans ho.output⟩
theorem fin5B {base e b2 g n cap : Nat} {T : TypeId} {c u : Value} {xs : List Value} {z0 z1 z2 z3 z4 : Value} {w' : World} (c0 c1 c2 c3 c4 : Value) (h : w'.ownsRow base e 5 (.slice (some ⟨g, 0, none⟩) (n + 1) cap) (n + 1) (xs ++ [z0, z1, z2, z3, z4])) (hb : b2 < base) (hf : w'.heap[b2]? = some (.cells #[c, u] T (0, 0))) (hg : g ≠ b2) :
    Fin5 base e b2 g n cap T c (xs ++ [c0, c1, c2, c3, c4]) w' ((((((w'.setCell ⟨b2, 1, none⟩ (.slice (some ⟨g, 0, none⟩) (n + 1) cap)).setCell ⟨g, n * 5, none⟩ c0).setCell ⟨g, n * 5 + 1, none⟩ c1).setCell ⟨g, n * 5 + 2, none⟩ c2).setCell ⟨g, n * 5 + 3, none⟩ c3).setCell ⟨g, n * 5 + 4, none⟩ c4) := by
  have h2 := only_set (w := w') (b := b2) (i := 1) (.slice (some ⟨g, 0, none⟩) (n + 1) cap)
  have h1 := ownsRow_set (i := 1) (u := .slice (some ⟨g, 0, none⟩) (n + 1) cap) h hb
  have hf2 := setCell_cells (i := 1) (.slice (some ⟨g, 0, none⟩) (n + 1) cap) hf
  generalize w'.setCell ⟨b2, 1, none⟩ (.slice (some ⟨g, 0, none⟩) (n + 1) cap) = W at h1 h2 hf2 ⊢
  have ho := rows5_only (W := W) (g := g) (i0 := n * 5) (i1 := n * 5 + 1) (i2 := n * 5 + 2) (i3 := n * 5 + 3) (i4 := n * 5 + 4) c0 c1 c2 c3 c4
  have h3 := ownsRow_put5 c0 c1 c2 c3 c4 h1
  exact ⟨h3, (ho.block b2 (fun e => hg e.symm)).trans hf2, fun k h4 h5 => (ho.block k h4).trans (h2.block k h5), ho.size.trans h2.size, ho.os.trans h2.os, ho.tape.trans h2.tape, ho.output.trans h2.output⟩
theorem enext_fin {base b b2 g n cap : Nat} {s : ByteArray} {d : Nat} {vs : List VT} {l l' : List UInt8} {t : VT} {w w1 W2 w' W9 : World} {got : Value} {xs : List Value} {c0 c1 c2 c3 c4 : Value} {o : Obj} (hbase : base ≤ w.heap.size) (hb : b < base) (hb2 : b2 < base) (hne : b ≠ b2) (hn : vs.length = n) (hlen : vs.length + l.length ≤ s.size)
    (hcs : VCs (fun x => base ≤ x ∧ x < w.heap.size ∧ got.ownBlock ≠ some x) w vs xs) (hown : w.ownsRow base 26 5 got n xs) (hx1 : Exc (fun x => x = b) w w1) (h12 : Below w1.heap.size w1 W2) (hy : VIn (fun x => w.heap.size ≤ x ∧ x < w1.heap.size) w1 t (.agg #[c0, c1, c2, c3, c4])) (hp : PCur w1 b s l' d)
    (hgr : (W2.alloc o).drew.grownBy w' got.ownBlock) (hat : got.ownBlock = some g ∨ g = (W2.alloc o).drew.heap.size) (hf : Fin5 base 26 b2 g n cap 128 (.pointer (some ⟨b, 0, none⟩)) (xs ++ [c0, c1, c2, c3, c4]) w' W9) :
    ENext base b b2 s d vs l w (.ok (t, l')) (.returned (.int .i64 0)) W9 := by
  have hHs : (W2.alloc o).drew.heap.size = W2.heap.size + 1 := by show (W2.heap.push _).size = _; simp
  have hsz : W2.heap.size ≤ w'.heap.size := by have := hgr.size; omega
  have hs1 := hx1.size
  have hs2 := h12.size
  have hgo : ∀ k, got.ownBlock = some k → base ≤ k ∧ k < w.heap.size := fun k hk => ownsRow_lt hown k hk
  have hg0 : base ≤ g := by
    rcases hat with h | h
    · exact (hgo g h).1
    · omega
  have h1 : ∀ k, k < w1.heap.size → got.ownBlock ≠ some k → w'.heap[k]? = w1.heap[k]? := fun k hk hko => (grown_old hgr k (by omega) hko).trans (h12.block k hk)
  have h2 : ∀ k, k < w1.heap.size → k ≠ g → k ≠ b2 → got.ownBlock ≠ some k → W9.heap[k]? = w1.heap[k]? := fun k hk hkg hkb hko => (hf.other k hkg hkb).trans (h1 k hk hko)
  refine ⟨⟨?_, ?_, ?_, by rw [hf.size]; omega, fun k hk hs => ?_⟩, rfl, fun hll => ?_⟩
  · rw [hf.os, hgr.os]; exact h12.os.trans hx1.os
  · rw [hf.tape, hgr.tape]; exact h12.tape.trans hx1.tape
  · rw [hf.output, hgr.output]; exact h12.output.trans hx1.output
  · have hkb : k ≠ b := fun e => hs (.inl e)
    have hkb2 : k ≠ b2 := fun e => hs (.inr (.inl e))
    have hkB : ¬ base ≤ k := fun e => hs (.inr (.inr e))
    rw [h2 k (by omega) (by omega) hkb2 (fun e => hkB (hgo k e).1)]
    exact hx1.block k hk hkb
  · refine ⟨by rw [hf.size]; omega, hb, hb2, hne, hp.same (h2 b (by omega) (by omega) hne (fun e => by have := (hgo b e).1; omega)), by simp; omega, _, _, hf.fld, by rw [List.length_append, List.length_singleton, hn]; exact hf.row, ?_, fun h => by simp at h⟩
    refine VCs.append (hcs.keep (fun x hx => ?_) (fun x hx => ?_)) (.cons ((hy.keep (fun x hx => ?_)).mono (fun x hx => ?_)) .nil)
    · rw [h2 x (by omega) (fun e => ?_) (by omega) hx.2.2]
      · exact hx1.block x hx.2.1 (by omega)
      · subst e
        rcases hat with h | h
        · exact hx.2.2 h
        · omega
    · refine ⟨hx.1, by rw [hf.size]; omega, fun e => ?_⟩
      simp only [Value.ownBlock, Option.some.injEq] at e
      subst e
      rcases hat with h | h
      · exact hx.2.2 h
      · omega
    · exact h2 x hx.2 (fun e => by
        subst e
        rcases hat with h | h
        · have := (hgo x h).2; omega
        · omega) (by omega) (fun e => by have := (hgo x e).2; omega)
    · refine ⟨by omega, by rw [hf.size]; omega, fun e => ?_⟩
      simp only [Value.ownBlock, Option.some.injEq] at e
      subst e
      rcases hat with h | h
      · have := (hgo _ h).2; omega
      · omega
set_option maxRecDepth 100000 in
set_option maxHeartbeats 4000000 in
theorem enext_any {base b b2 : Nat} {s : ByteArray} {d : Nat} {vs : List VT} {l : List UInt8} {w : World} (hE : ESt base b b2 s d vs l w) (hs : 4 * s.size + 8 ≤ 1000000) (r : PR VT)
    (hv : ∀ w, PCur w b s l d → Calls Try.prog 49 #[.pointer (some ⟨b, 0, none⟩)] w (PGot b s d w r)) :
    Calls Try.prog 110 #[.pointer (some ⟨b2, 0, none⟩)] w (ENext base b b2 s d vs l w r) := by
  obtain ⟨i0, hi, hz0, hz1, hz2⟩ := info_parts info_v5
  obtain ⟨hbase, hb, hb2, hne, hpc, hlen, got, xs, hel, hown, hcs, hnil⟩ := hE
  have HV := Lib.hid hv
  have HEL := Lib.hid hel
  have HOWN := Lib.hid hown
  have HCS := Lib.hid hcs
  have HPC := Lib.hid hpc
  have HLEN := Lib.hid hlen
  obtain ⟨ga, gc, rfl, _⟩ := ownsRow_slice hown
  obtain ⟨e0, e1, e2⟩ := c2of hel
  clear hv hel hown hcs hpc hnil hlen
  go_enter Try.func110, Try.ntmps110
  go_wp2_with fail
  refine (HV.out w HPC.out).mono ?_
  intro e w1 hgot
  obtain ⟨hx, hgot⟩ := hgot
  have HX := Lib.hid hx
  cases r with
  | error c =>
    obtain ⟨rfl, hc, hlv⟩ := hgot
    have hc' : ((c : Int) != 0) = true := by simp; omega
    unfold vZ
    go_wp2
    go_ret
    exact ⟨(HX.out.mono (fun k _ h => .inl h)).alloc _, rfl, hc, hlv.same (((Below.refl _ w1).alloc (Nat.le_refl _) _).block b hlv.lt)⟩
  | ok p =>
    obtain ⟨t, l'⟩ := p
    obtain ⟨y, rfl, hy, hp'⟩ := hgot
    obtain ⟨yk, yn, ys, ya, yl, yp, yb, ym, yq, rfl⟩ := hy.form
    have HY := Lib.hid hy
    have HP' := Lib.hid hp'
    clear hy hp' hx
    go_wp2_with fail
    generalize hW2 : w1.alloc _ = W2
    have hb12 : Below w1.heap.size w1 W2 := by subst hW2; exact (Below.refl _ w1).alloc (Nat.le_refl _) _
    have hbx : W2.heap[w1.heap.size]? = some (.cells #[.int .i64 yk, .int .i64 yn, .string ys, .slice ya yl yp, .slice yb ym yq] 26 (0, 0)) := by subst hW2; exact World.alloc_heap_new w1 _
    have hz2' : W2.heap.size = w1.heap.size + 1 := by subst hW2; simp
    have hx2 : Exc (fun x => x = b) w W2 := HX.out.trans (Exc.ofAll hb12)
    have hb2w : b2 < w.heap.size := by omega
    have hel2 := (hx2.block b2 hb2w (fun e => hne e.symm)).trans HEL.out
    have HEL2 := Lib.hid hel2
    have HX2 := Lib.hid hx2
    have HBX := Lib.hid hbx
    have hown2 := ownsRow_same HOWN.out (W' := W2) (fun k hk => hx2.block k (ownsRow_lt HOWN.out k hk).2 (fun e => by have := (ownsRow_lt HOWN.out k hk).1; omega))
    have HOWN2 := Lib.hid hown2
    have HZ := Lib.hid hz2'
    have HW1 := Lib.hid (show w.heap.size ≤ w1.heap.size from HX.out.size)
    obtain ⟨n, hn⟩ : ∃ n, vs.length = n := ⟨_, rfl⟩
    rw [hn] at HOWN2
    have HOWNn := Lib.hid HOWN.out
    rw [hn] at HOWNn HCS
    have H12 := Lib.hid hb12
    have HN := Lib.hid hn
    have HNL := Lib.hid (show n + 1 ≤ 1000000 by have := HLEN.out; omega)
    rw [hn] at e1
    obtain ⟨e0, e1, e2⟩ := c2of hel2
    rw [hn] at e1
    obtain ⟨r0, r1, r2, r3, r4⟩ := c5of hbx
    have hB : base ≤ W2.heap.size := by have := HW1.out; omega
    have hix : (n : Int) < ((n + 1 : Nat) : Int) := by omega
    have hix2 : (n : Int) < (n : Int) + 1 := by omega
    obtain ⟨B, hB1⟩ : ∃ B, w1.heap.size = B := ⟨_, rfl⟩
    rw [hB1] at HBX HZ HW1 r0 r1 r2 r3 r4 ⊢
    have HB1 := Lib.hid hB1
    have hob : (Value.slice ga n gc).ownBlock ≠ some b2 := fun e => by have := (ownsRow_lt HOWN2.out b2 e).1; omega
    have hob2 : (Value.slice ga n gc).ownBlock ≠ some B := fun e => by
      have h1 := (ownsRow_lt HOWN.out B (by rw [← e, hn])).2
      have h2 := HW1.out
      omega
    have HOB := Lib.hid hob
    have HOB2 := Lib.hid hob2
    have hlB : B < W2.heap.size := by have := HZ.out; omega
    have hlb2 : b2 < W2.heap.size := by have := HW1.out; omega
    clear hW2 hb12 hbx hx2 hel2 hown2 hz2' hB1 hn hob hob2
    go_region_law ((refine step_append_lies _ (by rfl) _ _ _ (by rfl) base 26 i0 _ 5 80 Try.underlying23 hi hz0 hz1 hz2 rfl (by decide) (.slice ga n gc) n xs (by rfl) (by exact ((HOWN2.out.alloc _).drew)) ⟨W2.heap.size, 0, none⟩ 1 1 [.int .i64 0, .int .i64 0, .string ⟨#[]⟩, .slice none 0 0, .slice none 0 0] (by rfl) (by rfl) (by exact new5_at W2 _ _ _ _ _ _) (by simp [Value.oneCell']) (by decide) (by have := HNL.out; unfold maxLen; omega) (by have := HNL.out; omega) (by simp; omega) _ rfl ?_; intro g cap w' hown' hgrow hat hlg; obtain ⟨⟨k0, k1, k2, k3, k4⟩, q0, q1, q2, q3, q4⟩ := ownsRow_last5 hown'; obtain ⟨p0, p1, p2⟩ := c2of ((grown_old hgrow b2 hlb2 HOB.out).trans HEL2.out); obtain ⟨m0, m1, m2, m3, m4⟩ := c5of ((grown_old hgrow B hlB HOB2.out).trans HBX.out); have hgb := (ownsRow_lt hown' g rfl).1; have hg1 : ¬ g = b2 := (by omega); have hg2 : ¬ b2 = g := (by omega); have HOWN3 := Lib.hid hown'; have HGR := Lib.hid hgrow; have HLG := Lib.hid (And.intro hat hlg); clear hown' hgrow hat hlg))
    all_goals
      have hff := (grown_old HGR.out b2 hlb2 HOB.out).trans HEL2.out
      go_wp2
      go_ret
      refine enext_fin (cap := cap) hbase hb hb2 hne HN.out HLEN.out HCS.out HOWNn.out HX.out H12.out HY.out HP'.out HGR.out HLG.out.1 ?_
      first
        | with_reducible exact fin5A _ _ _ _ _ HOWN3.out hb2 hff hg1
        | with_reducible exact fin5B _ _ _ _ _ HOWN3.out hb2 hff hg1
end Go.Proofs.Ythcphfpkinfjoaa

namespace Go.Proofs.Ythcphfpkinfjoaa
open Go.RowKit Go.Maps

theorem law9' : Keyed Try.prog 9 := string_keyed Try.underlying9
theorem zeroUnit (w : World) : (zeroValue 169).run Try.prog w = .ok (.agg #[]) w := by kernel_rfl
/-- The set of these keys. -/
def kSet (ks : List ByteArray) : DataW Unit := setOf (.agg []) (ks.map fun k => Lit.string k.data.toList)
theorem kSet_snoc (ks : List ByteArray) (k : ByteArray) : kSet (ks ++ [k]) = (kSet ks).put (Lit.string k.data.toList) (.agg []) := by
  unfold kSet; rw [List.map_append, List.map_singleton, setOf_snoc]
theorem key_lit (k : ByteArray) : WideAt.IsKeyLit (Lit.string k.data.toList) := by simp [WideAt.IsKeyLit]
theorem has_kSet (ks : List ByteArray) (k : ByteArray) : Maps.has (kSet ks) (Lit.string k.data.toList) = pHas ks k := by
  unfold kSet pHas
  rw [has_setOf _ _ _ (fun x hx => by obtain ⟨y, _, rfl⟩ := List.mem_map.1 hx; exact key_lit y), List.any_map]
  congr 1
  funext x
  by_cases e : x = k
  · subst e
    simp [WideAt.sameKey_self (key_lit x)]
  · simp only [Function.comp]
    rw [sameKey_ne (fun h => e (by injection h with h; exact Go.WideShapes.bytes_inj h)), decide_eq_false e]
/-- What is gathered of a map: keys so far, members so far, l of the text left. -/
def MSt (base b b2 bm : Nat) (s : ByteArray) (d : Nat) (ks : List ByteArray) (ms : List (ByteArray × VT)) (l : List UInt8) (w : World) : Prop :=
  base ≤ w.heap.size ∧ b < base ∧ b2 < base ∧ bm < base ∧ (b ≠ b2 ∧ bm ≠ b ∧ bm ≠ b2) ∧ PCur w b s l d ∧ (ms.length + l.length ≤ s.size ∧ ks.length + l.length ≤ s.size) ∧ w.ownsMap Try.prog 9 (unitElem (H := Unit)) bm ks.length (kSet ks) ∧
  ∃ got xs, w.heap[b2]? = some (.cells #[.pointer (some ⟨b, 0, none⟩), got, .map (some bm)] 133 (0, 0)) ∧ w.ownsRow base 28 6 got ms.length xs ∧
    MCs (fun x => base ≤ x ∧ x < w.heap.size ∧ got.ownBlock ≠ some x) w ms xs ∧ (ms = [] → got = .slice none 0 0)
theorem c3of {W : World} {b : Nat} {c0 c1 c2 : Value} {t : TypeId} (h : W.heap[b]? = some (.cells #[c0, c1, c2] t (0, 0))) :
    W.cell? ⟨b, 0, none⟩ = some c0 ∧ W.cell? ⟨b, 1, none⟩ = some c1 ∧ W.cell? ⟨b, 2, none⟩ = some c2 ∧ W.frozen? ⟨b, 1, none⟩ = false := by simp [World.cell?, World.frozen?, h]
/-- What is gathered stays while the parser alone goes on, or new memory is made. -/
theorem MSt.go {base b b2 bm : Nat} {s : ByteArray} {d : Nat} {ks : List ByteArray} {ms : List (ByteArray × VT)} {l l' : List UInt8} {w w' : World} (h : MSt base b b2 bm s d ks ms l w) (hx : Exc (fun x => x = b) w w') (hp : PCur w' b s l' d) (hl : l'.length ≤ l.length) : MSt base b b2 bm s d ks ms l' w' := by
  obtain ⟨h0, h1, h2, h3, h4, h5, h6, h7, got, xs, h8, h9, h10, h11⟩ := h
  have hsz := hx.size
  have hlt := h7.lt
  refine ⟨by omega, h1, h2, h3, h4, hp, by omega, ?_, got, xs, (hx.block b2 (by omega) (fun e => h4.1 e.symm)).trans h8, ownsRow_same h9 (fun k hk => hx.block k (ownsRow_lt h9 k hk).2 (fun e => by have := (ownsRow_lt h9 k hk).1; omega)), h10.keep (fun x hx' => hx.block x hx'.2.1 (by omega)) (fun x hx' => ⟨hx'.1, by omega, hx'.2.2⟩), h11⟩
  obtain ⟨es, clock, hb, r⟩ := h7
  exact ⟨es, clock, (hx.block bm hlt h4.2.1).trans hb, r⟩
/-- A key goes into the set. -/
theorem MSt.key {base b b2 bm : Nat} {s : ByteArray} {d : Nat} {ks : List ByteArray} {ms : List (ByteArray × VT)} {l : List UInt8} {w w' : World} {k : ByteArray} {o : Obj} (h : MSt base b b2 bm s d ks ms l w) (hl : ks.length + 1 + l.length ≤ s.size) (hown : w'.ownsMap Try.prog 9 (unitElem (H := Unit)) bm (ks.length + 1) ((kSet ks).put (Lit.string k.data.toList) (.agg []))) (hg : (w.alloc o).grownBy w' (some bm)) : MSt base b b2 bm s d (ks ++ [k]) ms l w' := by
  obtain ⟨h0, h1, h2, h3, h4, h5, h6, h7, got, xs, h8, h9, h10, h11⟩ := h
  have hsz : w.heap.size ≤ w'.heap.size := by have := hg.size; rw [World.size_alloc] at this; omega
  have key : ∀ i, i < w.heap.size → i ≠ bm → w'.heap[i]? = w.heap[i]? := by
    intro i hi hne
    rw [hg.block i (by rw [World.size_alloc]; omega) (fun e => hne (by injection e))]
    show (w.heap.push _)[i]? = _
    rw [Array.getElem?_push_lt hi, Array.getElem?_eq_getElem hi]
  refine ⟨by omega, h1, h2, h3, h4, h5.same (key b (by omega) (fun e => h4.2.1 e.symm)), ⟨h6.1, by simp; omega⟩, by rw [kSet_snoc, List.length_append]; exact hown, got, xs, (key b2 (by omega) (fun e => h4.2.2 e.symm)).trans h8, ownsRow_same h9 (fun i hi => key i (ownsRow_lt h9 i hi).2 (by have := (ownsRow_lt h9 i hi).1; omega)), h10.keep (fun x hx => key x hx.2.1 (by omega)) (fun x hx => ⟨hx.1, by omega, hx.2.2⟩), h11⟩
def MKey (base b b2 bm : Nat) (s : ByteArray) (d : Nat) (ks : List ByteArray) (ms : List (ByteArray × VT)) (l : List UInt8) (w : World) (r : PR ByteArray) (e : Ending) (w' : World) : Prop :=
  Exc (fun x => x = b ∨ x = b2 ∨ x = bm ∨ base ≤ x) w w' ∧ match r with
    | .error c => e = .returned (.tuple #[.string ⟨#[]⟩, .int .i64 (c : Int)]) ∧ c ≠ 0 ∧ PLive w' b s d
    | .ok (k, l') => e = .returned (.tuple #[.string k, .int .i64 0]) ∧ k.size ≤ sMax ∧ l'.length < l.length ∧ MSt base b b2 bm s d (ks ++ [k]) ms l' w'

set_option maxRecDepth 100000 in
set_option maxHeartbeats 4000000 in
theorem key_any {base b b2 bm : Nat} {s : ByteArray} {d : Nat} {ks : List ByteArray} {ms : List (ByteArray × VT)} {l : List UInt8} {w : World} (hM : MSt base b b2 bm s d ks ms l w) (hs : 4 * s.size + 8 ≤ 1000000) :
    Calls Try.prog 132 #[.pointer (some ⟨b2, 0, none⟩)] w (MKey base b b2 bm s d ks ms l w (pKey ks l)) := by
  have HM := Lib.hid hM
  obtain ⟨hbase, hb, hb2, hbm, hne, hpc, hlen, hown, got, xs, hel, hrow, hcs, hnil⟩ := hM
  obtain ⟨ga, gc, rfl, _⟩ := ownsRow_slice hrow
  have HPC := Lib.hid hpc
  have HS := Lib.hid (show s.size ≤ maxLen by unfold maxLen; omega)
  have HS4 := Lib.hid (show 4 * s.size + 8 ≤ 140737488355328 by omega)
  obtain ⟨e0, e1, e2, e3⟩ := c3of hel
  have HEL := Lib.hid hel
  have HNE := Lib.hid hne
  have HLEN := Lib.hid hlen
  clear hpc hown hel hrow hcs hnil hlen
  go_enter Try.func132, Try.ntmps132
  go_wp2_with fail
  clear e0 e1 e2 e3
  obtain ⟨hd, hhd⟩ : ∃ hd, pHead l = hd := ⟨_, rfl⟩
  refine (peek_is b s l d w hd HS.out HPC.out hhd).mono ?_
  rintro e w1 ⟨rfl, hpc1, ho1⟩
  have hx1 := Exc.ofOnly ho1
  have hsl := pSkip_len l
  have HM1 := Lib.hid (HM.out.go hx1 hpc1 hsl)
  have HX1 := Lib.hid hx1
  have HP1 := Lib.hid hpc1
  have HSL := Lib.hid hsl
  clear ho1 hx1 hpc1 hsl
  by_cases h34 : hd ≠ 34
  · have hne1 : ((hd : Int) != 34) = true := by simp; omega
    have HR := Lib.hid (show pKey ks l = .error 2 by
      unfold pKey
      unfold pHead at hhd
      cases hl : pSkip l with
      | nil => rfl
      | cons c t => rw [hl] at hhd; simp only at hhd ⊢; rw [if_neg (by omega)])
    clear hhd h34
    go_wp2
    refine bodyPost_ret (v := .tuple #[.string ⟨#[]⟩, .int .i64 2]) (by simp [results, Try.results132, go_sem]) rfl ?_
    rw [HR.out]
    exact ⟨HX1.out.mono (fun k _ h => .inl h), rfl, by decide, HP1.out.live⟩
  have h34 : hd = 34 := by omega
  have hne1 : ((hd : Int) != 34) = false := by simp; omega
  obtain ⟨c, t, hct, hc34⟩ : ∃ c t, pSkip l = c :: t ∧ c.toNat = 34 := by
    unfold pHead at hhd
    cases hl : pSkip l with
    | nil => rw [hl] at hhd; simp only at hhd; omega
    | cons c t => rw [hl] at hhd; simp only at hhd; exact ⟨c, t, rfl, by omega⟩
  rw [hct] at HP1 HSL
  have HCT := Lib.hid hct
  have HC34 := Lib.hid hc34
  obtain ⟨e0, e1, e2, e3⟩ := c3of (show w1.heap[b2]? = some (.cells #[.pointer (some ⟨b, 0, none⟩), .slice ga ms.length gc, .map (some bm)] 133 (0, 0)) from (HX1.out.block b2 (by omega) (fun e => HNE.out.1 e.symm)).trans HEL.out)
  clear hhd h34 hct hc34
  go_wp2_with fail
  clear e0 e1 e2 e3
  cases hu : uUnq (c :: t) with
  | none =>
    have HR := Lib.hid (show pKey ks l = .error 2 by unfold pKey; rw [HCT.out]; simp only; rw [if_pos HC34.out, hu])
    refine (literal_no b s (c :: t) d w1 HS4.out HP1.out hu).mono ?_
    rintro e w2 ⟨rfl, hx2, hpl⟩
    have HX2 := Lib.hid (HX1.out.trans hx2)
    have HPL := Lib.hid hpl
    clear hx2 hu hpl
    go_wp2
    refine bodyPost_ret (v := .tuple #[.string ⟨#[]⟩, .int .i64 2]) (by simp [results, Try.results132, go_sem]) rfl ?_
    rw [HR.out]
    exact ⟨HX2.out.mono (fun k _ h => .inl h), rfl, by decide, HPL.out.live⟩
  | some p =>
    obtain ⟨x, n⟩ := p
    have hul := uUnq_len hu
    have hpk : pKey ks l = if pHas ks ⟨x.toArray⟩ = true then .error 4 else .ok (⟨x.toArray⟩, (c :: t).drop n) := by unfold pKey; rw [HCT.out]; simp only; rw [if_pos HC34.out, hu]
    have hks : (⟨x.toArray⟩ : ByteArray).size ≤ 1000000 := by
      have h4 : (⟨x.toArray⟩ : ByteArray).size = x.length := List.size_toArray
      have h5 := HP1.out.1
      omega
    refine (literal_yes b s (c :: t) x n d w1 HS4.out HP1.out hu).mono ?_
    rintro e w2 ⟨rfl, hx2, hp2⟩
    obtain ⟨k, hk⟩ : ∃ k, (⟨x.toArray⟩ : ByteArray) = k := ⟨_, rfl⟩
    rw [hk] at hpk hks ⊢
    have HX2 := Lib.hid (HX1.out.trans hx2)
    have HLD := Lib.hid (show ((c :: t).drop n).length < l.length by rw [List.length_drop]; have := HSL.out; omega)
    have HM2 := Lib.hid (HM.out.go HX2.out hp2 (Nat.le_of_lt HLD.out))
    have HPK := Lib.hid hpk
    have HKS := Lib.hid hks
    obtain ⟨_, _, _, _, _, _, _, hown2, _⟩ := HM2.out
    have hkey : keyOf Try.prog 9 (.string k) = some (.string k.data.toList) := Go.WideMaps.keyOf_string_mk Try.underlying9 (by unfold maxLen; omega)
    obtain ⟨e0, e1, e2, e3⟩ := c3of (show w2.heap[b2]? = some (.cells #[.pointer (some ⟨b, 0, none⟩), .slice ga ms.length gc, .map (some bm)] 133 (0, 0)) from (HX2.out.block b2 (by omega) (fun e => HNE.out.1 e.symm)).trans HEL.out)
    have hb2w : b2 < w2.heap.size := by have := HX2.out.size; omega
    have hkl : ks.length < maxLen := by have := HLEN.out; unfold maxLen; omega
    have hhas := has_kSet ks k
    clear hu hul hpk hx2 hp2 hk hks
    cases hin : pHas ks k with
    | true =>
      rw [hin] at hhas
      have HR := Lib.hid (show pKey ks l = .error 4 by rw [HPK.out, if_pos hin])
      clear hin
      go_wp2_with (first
        | (at_lookup; refine wpList_lookup_own_unit _ rfl _ _ 131 rfl 9 169 law9' Try.underlying131 (zeroUnit _) bm ks.length _ rfl hown2 _ _ rfl hkey ?_; rw [hhas])
        | go_in)
      refine bodyPost_ret (v := .tuple #[.string ⟨#[]⟩, .int .i64 4]) (by simp [results, Try.results132, go_sem]) rfl ?_
      rw [HR.out]
      exact ⟨(HX2.out.mono (fun k _ h => .inl h)).alloc _, rfl, by decide, HM2.out.2.2.2.2.2.1.live.same (((Below.refl _ w2).alloc (Nat.le_refl _) _).block b HM2.out.2.2.2.2.2.1.lt)⟩
    | false =>
      rw [hin] at hhas
      have HR := Lib.hid (show pKey ks l = .ok (k, (c :: t).drop n) by rw [HPK.out, if_neg (by rw [hin]; decide)])
      clear hin
      go_wp2_with (first
        | (at_lookup; refine wpList_lookup_own_unit _ rfl _ _ 131 rfl 9 169 law9' Try.underlying131 (zeroUnit _) bm ks.length _ rfl hown2 _ _ rfl hkey ?_; rw [hhas])
        | (at_mapUpdate; refine wpList_mapUpdate_own _ rfl _ _ _ 131 rfl 9 169 law9' Try.underlying131 (unitElem (H := Unit)) bm ks.length _ rfl (hown2.alloc _) hkl _ _ _ rfl rfl hkey _ [] unitElem_mk ?_; intro w3 hown3 hgrow3)
        | go_in)
      refine bodyPost_ret (v := .tuple #[.string k, .int .i64 0]) (by simp [results, Try.results132, go_sem]) rfl ?_
      rw [HR.out]
      refine ⟨((HX2.out.mono (fun k _ h => .inl h)).alloc _).grown hgrow3 (fun k h1 _ => .inr (.inr (.inl (by injection h1 with h1; exact h1.symm)))), rfl, by have : sMax = 140737488355328 := rfl; have := HKS.out; omega, HLD.out, HM2.out.key ?_ hown3 hgrow3⟩
      have h1 := HLD.out
      have h2 := HLEN.out
      omega
end Go.Proofs.Ythcphfpkinfjoaa

namespace Go.Proofs.Ythcphfpkinfjoaa
open Go.RowKit Go.Maps

/-- The cells of the last element of a row, and what becomes of them. -/
theorem ownsRow_last6 {W : World} {base e n g cap : Nat} {xs : List Value} {z0 z1 z2 z3 z4 z5 : Value} (h : W.ownsRow base e 6 (.slice (some ⟨g, 0, none⟩) (n + 1) cap) (n + 1) (xs ++ [z0, z1, z2, z3, z4, z5])) :
    (W.cell? ⟨g, n * 6, none⟩ = some z0 ∧ W.cell? ⟨g, n * 6 + 1, none⟩ = some z1 ∧ W.cell? ⟨g, n * 6 + 2, none⟩ = some z2 ∧ W.cell? ⟨g, n * 6 + 3, none⟩ = some z3 ∧ W.cell? ⟨g, n * 6 + 4, none⟩ = some z4 ∧ W.cell? ⟨g, n * 6 + 5, none⟩ = some z5) ∧
    (W.frozen? ⟨g, n * 6, none⟩ = false ∧ W.frozen? ⟨g, n * 6 + 1, none⟩ = false ∧ W.frozen? ⟨g, n * 6 + 2, none⟩ = false ∧ W.frozen? ⟨g, n * 6 + 3, none⟩ = false ∧ W.frozen? ⟨g, n * 6 + 4, none⟩ = false ∧ W.frozen? ⟨g, n * 6 + 5, none⟩ = false) := by
  have hl := h.1
  simp only [List.length_append, List.length_cons, List.length_nil] at hl
  obtain ⟨_, ⟨h1, _⟩ | ⟨g', cap', cur, h1, hg, hh, h2, h3, h4, h5⟩⟩ := h
  · cases h1
  · cases h1
    have key : ∀ j, j < 6 → W.cell? ⟨g, n * 6 + j, none⟩ = [z0, z1, z2, z3, z4, z5][j]? := by
      intro j hj
      rw [cell_of_row W g (n * 6 + j) cur _ (0, 0) hh]
      have : cur[n * 6 + j]? = (cur.toList.take ((n + 1) * 6))[n * 6 + j]? := by rw [List.getElem?_take_of_lt (by omega)]; simp
      rw [this, h5, List.getElem?_append_right (by omega)]
      congr 1; omega
    refine ⟨⟨key 0 (by decide), key 1 (by decide), key 2 (by decide), key 3 (by decide), key 4 (by decide), key 5 (by decide)⟩, ?_⟩
    refine ⟨?_, ?_, ?_, ?_, ?_, ?_⟩ <;> simp [World.frozen?, hh]
theorem ownsRow_put6 {W : World} {base e n g cap : Nat} {xs : List Value} {z0 z1 z2 z3 z4 z5 : Value} (c0 c1 c2 c3 c4 c5 : Value) (h : W.ownsRow base e 6 (.slice (some ⟨g, 0, none⟩) (n + 1) cap) (n + 1) (xs ++ [z0, z1, z2, z3, z4, z5])) :
    ((((((W.setCell ⟨g, n * 6, none⟩ c0).setCell ⟨g, n * 6 + 1, none⟩ c1).setCell ⟨g, n * 6 + 2, none⟩ c2).setCell ⟨g, n * 6 + 3, none⟩ c3).setCell ⟨g, n * 6 + 4, none⟩ c4).setCell ⟨g, n * 6 + 5, none⟩ c5).ownsRow base e 6 (.slice (some ⟨g, 0, none⟩) (n + 1) cap) (n + 1) (xs ++ [c0, c1, c2, c3, c4, c5]) := by
  have hl := h.1
  simp only [List.length_append, List.length_cons, List.length_nil] at hl
  obtain ⟨_, ⟨h1, _⟩ | ⟨g', cap', cur, h1, hg, hh, h2, h3, h4, h5⟩⟩ := h
  · cases h1
  · cases h1
    have hh5 := row_set (row_set (row_set (row_set (row_set (row_set hh (n * 6) c0) (n * 6 + 1) c1) (n * 6 + 2) c2) (n * 6 + 3) c3) (n * 6 + 4) c4) (n * 6 + 5) c5
    refine ⟨by simp; omega, .inr ⟨g, cap, _, rfl, hg, hh5, h2, h3, by simp [h4], ?_⟩⟩
    clear hh5
    apply List.ext_getElem?
    intro j
    have hcs : n * 6 + 6 ≤ cur.size := by have := Nat.mul_le_mul_right 6 h2; omega
    by_cases hj : j < (n + 1) * 6
    · rw [List.getElem?_take_of_lt hj]
      have h6 : cur.toList[j]? = (xs ++ [z0, z1, z2, z3, z4, z5])[j]? := by rw [← h5, List.getElem?_take_of_lt hj]
      simp only [Array.getElem?_toList, Array.getElem?_setIfInBounds, Array.size_setIfInBounds] at h6 ⊢
      by_cases hj1 : j < n * 6
      · rw [if_neg (by omega), if_neg (by omega), if_neg (by omega), if_neg (by omega), if_neg (by omega), if_neg (by omega), h6, List.getElem?_append_left (by omega), List.getElem?_append_left (by omega)]
      · rw [List.getElem?_append_right (by omega)]
        rcases (show j = n * 6 ∨ j = n * 6 + 1 ∨ j = n * 6 + 2 ∨ j = n * 6 + 3 ∨ j = n * 6 + 4 ∨ j = n * 6 + 5 by omega) with rfl | rfl | rfl | rfl | rfl | rfl
        · rw [if_neg (by omega), if_neg (by omega), if_neg (by omega), if_neg (by omega), if_neg (by omega), if_pos rfl, if_pos (by omega), show n * 6 - xs.length = 0 by omega]; rfl
        · rw [if_neg (by omega), if_neg (by omega), if_neg (by omega), if_neg (by omega), if_pos rfl, if_pos (by omega), show n * 6 + 1 - xs.length = 1 by omega]; rfl
        · rw [if_neg (by omega), if_neg (by omega), if_neg (by omega), if_pos rfl, if_pos (by omega), show n * 6 + 2 - xs.length = 2 by omega]; rfl
        · rw [if_neg (by omega), if_neg (by omega), if_pos rfl, if_pos (by omega), show n * 6 + 3 - xs.length = 3 by omega]; rfl
        · rw [if_neg (by omega), if_pos rfl, if_pos (by omega), show n * 6 + 4 - xs.length = 4 by omega]; rfl
        · rw [if_pos rfl, if_pos (by omega), show n * 6 + 5 - xs.length = 5 by omega]; rfl
    · rw [List.getElem?_eq_none (by rw [List.length_take]; omega), List.getElem?_eq_none (by simp; omega)]
theorem new6_at (W : World) (T : TypeId) (z0 z1 z2 z3 z4 z5 : Value) : ∀ j u, [z0, z1, z2, z3, z4, z5][j]? = some u → (W.alloc (.cells #[z0, z1, z2, z3, z4, z5] T)).cell? ((⟨W.heap.size, 0, none⟩ : Addr).add j) = some u := by
  intro j u hj
  rw [addr_off, Nat.zero_add, cell_of_row _ W.heap.size j _ T (0, 0) (World.alloc_heap_new W _), ← hj]
  simp
/-- A row's last element and the field that names the row are written, in whichever order. -/
structure Fin6 (base e b2 g n cap : Nat) (T : TypeId) (c cm : Value) (xs : List Value) (w' W9 : World) : Prop where
  row : W9.ownsRow base e 6 (.slice (some ⟨g, 0, none⟩) (n + 1) cap) (n + 1) xs
  fld : W9.heap[b2]? = some (.cells #[c, .slice (some ⟨g, 0, none⟩) (n + 1) cap, cm] T (0, 0))
  other : ∀ k, k ≠ g → k ≠ b2 → W9.heap[k]? = w'.heap[k]?
  size : W9.heap.size = w'.heap.size
  os : W9.os = w'.os
  tape : W9.tape = w'.tape
  output : W9.output = w'.output
theorem rows6_only {W : World} {g i0 i1 i2 i3 i4 i5 : Nat} (c0 c1 c2 c3 c4 c5 : Value) : Only g W ((((((W.setCell ⟨g, i0, none⟩ c0).setCell ⟨g, i1, none⟩ c1).setCell ⟨g, i2, none⟩ c2).setCell ⟨g, i3, none⟩ c3).setCell ⟨g, i4, none⟩ c4).setCell ⟨g, i5, none⟩ c5) :=
  (((((only_set c0).trans (only_set c1)).trans (only_set c2)).trans (only_set c3)).trans (only_set c4)).trans (only_set c5)
theorem fin6A {base e b2 g n cap : Nat} {T : TypeId} {c u cm : Value} {xs : List Value} {z0 z1 z2 z3 z4 z5 : Value} {w' : World} (c0 c1 c2 c3 c4 c5 : Value) (h : w'.ownsRow base e 6 (.slice (some ⟨g, 0, none⟩) (n + 1) cap) (n + 1) (xs ++ [z0, z1, z2, z3, z4, z5])) (hb : b2 < base) (hf : w'.heap[b2]? = some (.cells #[c, u, cm] T (0, 0))) (hg : g ≠ b2) :
    Fin6 base e b2 g n cap T c cm (xs ++ [c0, c1, c2, c3, c4, c5]) w' (((((((w'.setCell ⟨g, n * 6, none⟩ c0).setCell ⟨g, n * 6 + 1, none⟩ c1).setCell ⟨g, n * 6 + 2, none⟩ c2).setCell ⟨g, n * 6 + 3, none⟩ c3).setCell ⟨g, n * 6 + 4, none⟩ c4).setCell ⟨g, n * 6 + 5, none⟩ c5).setCell ⟨b2, 1, none⟩ (.slice (some ⟨g, 0, none⟩) (n + 1) cap)) := by
  have ho := rows6_only (W := w') (g := g) (i0 := n * 6) (i1 := n * 6 + 1) (i2 := n * 6 + 2) (i3 := n * 6 + 3) (i4 := n * 6 + 4) (i5 := n * 6 + 5) c0 c1 c2 c3 c4 c5
  have h1 := ownsRow_put6 c0 c1 c2 c3 c4 c5 h
  generalize (((((w'.setCell ⟨g, n * 6, none⟩ c0).setCell ⟨g, n * 6 + 1, none⟩ c1).setCell ⟨g, n * 6 + 2, none⟩ c2).setCell ⟨g, n * 6 + 3, none⟩ c3).setCell ⟨g, n * 6 + 4, none⟩ c4).setCell ⟨g, n * 6 + 5, none⟩ c5 = W at ho h1 ⊢
  have h2 := only_set (w := W) (b := b2) (i := 1) (.slice (some ⟨g, 0, none⟩) (n + 1) cap)
  exact ⟨ownsRow_set h1 hb, by rw [setCell_cells _ ((ho.block b2 (fun e => hg e.symm)).trans hf)]; rfl, fun k h3 h4 => (h2.block k h4).trans (ho.block k h3), h2.size.trans ho.size, h2.os.trans ho.os, h2.tape.trans ho.tape, h2.output.trans ho.output⟩
theorem fin6B {base e b2 g n cap : Nat} {T : TypeId} {c u cm : Value} {xs : List Value} {z0 z1 z2 z3 z4 z5 : Value} {w' : World} (c0 c1 c2 c3 c4 c5 : Value) (h : w'.ownsRow base e 6 (.slice (some ⟨g, 0, none⟩) (n + 1) cap) (n + 1) (xs ++ [z0, z1, z2, z3, z4, z5])) (hb : b2 < base) (hf : w'.heap[b2]? = some (.cells #[c, u, cm] T (0, 0))) (hg : g ≠ b2) :
    Fin6 base e b2 g n cap T c cm (xs ++ [c0, c1, c2, c3, c4, c5]) w' (((((((w'.setCell ⟨b2, 1, none⟩ (.slice (some ⟨g, 0, none⟩) (n + 1) cap)).setCell ⟨g, n * 6, none⟩ c0).setCell ⟨g, n * 6 + 1, none⟩ c1).setCell ⟨g, n * 6 + 2, none⟩ c2).setCell ⟨g, n * 6 + 3, none⟩ c3).setCell ⟨g, n * 6 + 4, none⟩ c4).setCell ⟨g, n * 6 + 5, none⟩ c5) := by
  have h2 := only_set (w := w') (b := b2) (i := 1) (.slice (some ⟨g, 0, none⟩) (n + 1) cap)
  have h1 := ownsRow_set (i := 1) (u := .slice (some ⟨g, 0, none⟩) (n + 1) cap) h hb
  have hf2 := setCell_cells (i := 1) (.slice (some ⟨g, 0, none⟩) (n + 1) cap) hf
  generalize w'.setCell ⟨b2, 1, none⟩ (.slice (some ⟨g, 0, none⟩) (n + 1) cap) = W at h1 h2 hf2 ⊢
  have ho := rows6_only (W := W) (g := g) (i0 := n * 6) (i1 := n * 6 + 1) (i2 := n * 6 + 2) (i3 := n * 6 + 3) (i4 := n * 6 + 4) (i5 := n * 6 + 5) c0 c1 c2 c3 c4 c5
  have h3 := ownsRow_put6 c0 c1 c2 c3 c4 c5 h1
  exact ⟨h3, (ho.block b2 (fun e => hg e.symm)).trans hf2, fun k h4 h5 => (ho.block k h4).trans (h2.block k h5), ho.size.trans h2.size, ho.os.trans h2.os, ho.tape.trans h2.tape, ho.output.trans h2.output⟩
theorem mnext_fin {base b b2 bm g n cap : Nat} {s : ByteArray} {d : Nat} {ks : List ByteArray} {vs : List (ByteArray × VT)} {l l0 l' : List UInt8} {kk : ByteArray} {t : VT} {w w1 W2 w' W9 : World} {got : Value} {xs : List Value} {c1 c2 c3 c4 c5 : Value} {o : Obj} (hbase : base ≤ w.heap.size) (hb : b < base) (hb2 : b2 < base) (hbm : bm < base) (hne : b ≠ b2 ∧ bm ≠ b ∧ bm ≠ b2) (hkk : kk.size ≤ sMax) (hn : vs.length = n) (hlen : vs.length + l.length ≤ s.size) (hlk : ks.length + l0.length ≤ s.size) (hl0 : l0.length < l.length) (hmp : w.ownsMap Try.prog 9 (unitElem (H := Unit)) bm ks.length (kSet ks))
    (hcs : MCs (fun x => base ≤ x ∧ x < w.heap.size ∧ got.ownBlock ≠ some x) w vs xs) (hown : w.ownsRow base 28 6 got n xs) (hx1 : Exc (fun x => x = b) w w1) (h12 : Below w1.heap.size w1 W2) (hy : VIn (fun x => w.heap.size ≤ x ∧ x < w1.heap.size) w1 t (.agg #[c1, c2, c3, c4, c5])) (hp : PCur w1 b s l' d)
    (hgr : (W2.alloc o).drew.grownBy w' got.ownBlock) (hat : got.ownBlock = some g ∨ g = (W2.alloc o).drew.heap.size) (hf : Fin6 base 28 b2 g n cap 133 (.pointer (some ⟨b, 0, none⟩)) (.map (some bm)) (xs ++ [.string kk, c1, c2, c3, c4, c5]) w' W9) :
    Exc (fun x => x = b ∨ x = b2 ∨ x = bm ∨ base ≤ x) w W9 ∧ (l'.length < l0.length → MSt base b b2 bm s d ks (vs ++ [(kk, t)]) l' W9) := by
  have hHs : (W2.alloc o).drew.heap.size = W2.heap.size + 1 := by show (W2.heap.push _).size = _; simp
  have hsz : W2.heap.size ≤ w'.heap.size := by have := hgr.size; omega
  have hs1 := hx1.size
  have hs2 := h12.size
  have hgo : ∀ k, got.ownBlock = some k → base ≤ k ∧ k < w.heap.size := fun k hk => ownsRow_lt hown k hk
  have hg0 : base ≤ g := by
    rcases hat with h | h
    · exact (hgo g h).1
    · omega
  have h1 : ∀ k, k < w1.heap.size → got.ownBlock ≠ some k → w'.heap[k]? = w1.heap[k]? := fun k hk hko => (grown_old hgr k (by omega) hko).trans (h12.block k hk)
  have h2 : ∀ k, k < w1.heap.size → k ≠ g → k ≠ b2 → got.ownBlock ≠ some k → W9.heap[k]? = w1.heap[k]? := fun k hk hkg hkb hko => (hf.other k hkg hkb).trans (h1 k hk hko)
  refine ⟨⟨?_, ?_, ?_, by rw [hf.size]; omega, fun k hk hs => ?_⟩, fun hll => ?_⟩
  · rw [hf.os, hgr.os]; exact h12.os.trans hx1.os
  · rw [hf.tape, hgr.tape]; exact h12.tape.trans hx1.tape
  · rw [hf.output, hgr.output]; exact h12.output.trans hx1.output
  · have hkb : k ≠ b := fun e => hs (.inl e)
    have hkb2 : k ≠ b2 := fun e => hs (.inr (.inl e))
    have hkB : ¬ base ≤ k := fun e => hs (.inr (.inr (.inr e)))
    rw [h2 k (by omega) (by omega) hkb2 (fun e => hkB (hgo k e).1)]
    exact hx1.block k hk hkb
  · have hmb : bm < w.heap.size := by omega
    have hmap : W9.ownsMap Try.prog 9 (unitElem (H := Unit)) bm ks.length (kSet ks) := by
      obtain ⟨es, clock, h, r⟩ := hmp
      exact ⟨es, clock, ((h2 bm (by omega) (by omega) hne.2.2 (fun e => by have := (hgo bm e).1; omega)).trans (hx1.block bm hmb hne.2.1)).trans h, r⟩
    refine ⟨by rw [hf.size]; omega, hb, hb2, hbm, hne, hp.same (h2 b (by omega) (by omega) hne.1 (fun e => by have := (hgo b e).1; omega)), ⟨by simp; omega, by omega⟩, hmap, _, _, hf.fld, by rw [List.length_append, List.length_singleton, hn]; exact hf.row, ?_, fun h => by simp at h⟩
    refine MCs.append (hcs.keep (fun x hx => ?_) (fun x hx => ?_)) (.cons hkk ((hy.keep (fun x hx => ?_)).mono (fun x hx => ?_)) .nil)
    · rw [h2 x (by omega) (fun e => ?_) (by omega) hx.2.2]
      · exact hx1.block x hx.2.1 (by omega)
      · subst e
        rcases hat with h | h
        · exact hx.2.2 h
        · omega
    · refine ⟨hx.1, by rw [hf.size]; omega, fun e => ?_⟩
      simp only [Value.ownBlock, Option.some.injEq] at e
      subst e
      rcases hat with h | h
      · exact hx.2.2 h
      · omega
    · exact h2 x hx.2 (fun e => by
        subst e
        rcases hat with h | h
        · have := (hgo x h).2; omega
        · omega) (by omega) (fun e => by have := (hgo x e).2; omega)
    · refine ⟨by omega, by rw [hf.size]; omega, fun e => ?_⟩
      simp only [Value.ownBlock, Option.some.injEq] at e
      subst e
      rcases hat with h | h
      · have := (hgo _ h).2; omega
      · omega
/-- One member. -/
def pOne (f d : Nat) (ks : List ByteArray) (l : List UInt8) : PR (ByteArray × VT) := match pKey ks l with
  | .error e => .error e
  | .ok (k, r) => match pSkip r with
    | [] => .error 2
    | c :: t => if c.toNat = 58 then (match pVal f d t with
      | .error e => .error e
      | .ok (v, r) => .ok ((k, v), r)) else .error 2
def MNext (base b b2 bm : Nat) (s : ByteArray) (d : Nat) (ks : List ByteArray) (ms : List (ByteArray × VT)) (w : World) (r : PR (ByteArray × VT)) (e : Ending) (w' : World) : Prop :=
  Exc (fun x => x = b ∨ x = b2 ∨ x = bm ∨ base ≤ x) w w' ∧ match r with
    | .error c => e = .returned (.int .i64 (c : Int)) ∧ c ≠ 0 ∧ PLive w' b s d
    | .ok (x, l') => e = .returned (.int .i64 0) ∧ MSt base b b2 bm s d (ks ++ [x.1]) (ms ++ [x]) l' w'
theorem MSt.len1 {base b b2 bm : Nat} {s : ByteArray} {d : Nat} {ks : List ByteArray} {ms : List (ByteArray × VT)} {l : List UInt8} {w : World} (h : MSt base b b2 bm s d ks ms l w) : ms.length + l.length ≤ s.size ∧ ks.length + l.length ≤ s.size := h.2.2.2.2.2.2.1

set_option maxRecDepth 100000 in
set_option maxHeartbeats 4000000 in
theorem mnext_any {base b b2 bm : Nat} {s : ByteArray} {d f : Nat} {ks : List ByteArray} {ms : List (ByteArray × VT)} {l : List UInt8} {w : World} (hM : MSt base b b2 bm s d ks ms l w) (hs : 4 * s.size + 8 ≤ 1000000)
    (hv : ∀ t w, t.length < l.length → PCur w b s t d → Calls Try.prog 49 #[.pointer (some ⟨b, 0, none⟩)] w (PGot b s d w (pVal f d t)))
    (hsh : ∀ t v r, t.length < l.length → pVal f d t = .ok (v, r) → r.length < t.length) :
    Calls Try.prog 111 #[.pointer (some ⟨b2, 0, none⟩)] w (MNext base b b2 bm s d ks ms w (pOne f d ks l)) := by
  obtain ⟨i0, hi, hz0, hz1, hz2⟩ := info_parts info_mem
  have HM := Lib.hid hM
  have HV := Lib.hid hv
  have HSH := Lib.hid hsh
  have HS := Lib.hid hs
  have HSM := Lib.hid (show s.size ≤ maxLen by unfold maxLen; omega)
  clear hM hv hsh
  go_enter Try.func111, Try.ntmps111
  go_wp2_with fail
  refine (key_any HM.out HS.out).mono ?_
  intro e w1 hk
  obtain ⟨hx, hk⟩ := hk
  have HX := Lib.hid hx
  cases hpk : pKey ks l with
  | error c =>
    rw [hpk] at hk
    obtain ⟨rfl, hc, hlv⟩ := hk
    have hc' : ((c : Int) != 0) = true := by simp; omega
    have HR := Lib.hid (show pOne f d ks l = .error c by unfold pOne; rw [hpk])
    go_wp2
    go_ret
    rw [HR.out]
    exact ⟨HX.out, rfl, hc, hlv⟩
  | ok p =>
    obtain ⟨k, l1⟩ := p
    rw [hpk] at hk
    obtain ⟨rfl, hks, hl1, hM1⟩ := hk
    have HPK := Lib.hid hpk
    have HKS := Lib.hid hks
    have HL1 := Lib.hid hl1
    have HM1 := Lib.hid hM1
    obtain ⟨hbase, hb, hb2, hbm, hne, hpc, hlen, hown, got, xs, hel, hrow, hcs, hnil⟩ := hM1
    obtain ⟨ga, gc, rfl, _⟩ := ownsRow_slice hrow
    obtain ⟨e0, e1, e2, e3⟩ := c3of hel
    have HPC := Lib.hid hpc
    have HEL := Lib.hid hel
    have HNE := Lib.hid hne
    clear hpk hks hl1 hx hpc hlen hown hel hrow hcs hnil
    go_wp2_with fail
    clear e0 e1 e2 e3
    by_cases h58 : pHead l1 ≠ 58
    · have HR := Lib.hid (show pOne f d ks l = .error 2 by
        unfold pOne
        rw [HPK.out]
        simp only
        unfold pHead at h58
        cases hl : pSkip l1 with
        | nil => rfl
        | cons c t => rw [hl] at h58; simp only at h58 ⊢; rw [if_neg h58])
      refine (take_no b s l1 d w1 58 58 (by rfl) HSM.out HPC.out h58).mono ?_
      rintro e w2 ⟨rfl, hp2, ho2⟩
      have HX2 := Lib.hid (HX.out.trans ((Exc.ofOnly ho2).mono (fun x _ h => .inl h)))
      have HPL := Lib.hid hp2
      clear h58 hp2 ho2
      go_wp2
      go_ret
      rw [HR.out]
      exact ⟨HX2.out, rfl, by decide, HPL.out.live⟩
    obtain ⟨c, t, hct, hc58⟩ : ∃ c t, pSkip l1 = c :: t ∧ c.toNat = 58 := by
      unfold pHead at h58
      cases hl : pSkip l1 with
      | nil => rw [hl] at h58; simp only at h58; omega
      | cons c t => rw [hl] at h58; simp only at h58; exact ⟨c, t, rfl, by omega⟩
    have HCT := Lib.hid hct
    have HC58 := Lib.hid hc58
    have HTL := Lib.hid (show t.length < l1.length by have := pSkip_len l1; rw [hct] at this; simp only [List.length_cons] at this; omega)
    refine (take_yes b s l1 t c d w1 58 (by rw [hc58]; rfl) HSM.out HPC.out hct).mono ?_
    rintro e w2 ⟨rfl, hp2, ho2⟩
    have hx2 := Exc.ofOnly ho2
    have HM2 := Lib.hid (HM1.out.go hx2 hp2 (Nat.le_of_lt HTL.out))
    have HX2 := Lib.hid (HX.out.trans (hx2.mono (fun x _ h => .inl h)))
    have HP2 := Lib.hid hp2
    obtain ⟨e0, e1, e2, e3⟩ := c3of ((hx2.block b2 (by have := HX.out.size; omega) (fun e => HNE.out.1 e.symm)).trans HEL.out)
    clear h58 hct hc58 hx2 hp2 ho2
    go_wp2_with fail
    clear e0 e1 e2 e3
    refine (HV.out t w2 (by have h1 := HTL.out; have h2 := HL1.out; omega) HP2.out).mono ?_
    intro e w3 hgot
    obtain ⟨hx3, hgot⟩ := hgot
    have HX3 := Lib.hid hx3
    cases hpv : pVal f d t with
    | error c4 =>
      rw [hpv] at hgot
      obtain ⟨rfl, hc, hlv⟩ := hgot
      have hc' : ((c4 : Int) != 0) = true := by simp; omega
      have HR := Lib.hid (show pOne f d ks l = .error c4 by unfold pOne; rw [HPK.out]; simp only; rw [HCT.out]; simp only; rw [if_pos HC58.out, hpv])
      unfold vZ
      go_wp2
      go_ret
      rw [HR.out]
      exact ⟨(HX2.out.trans (HX3.out.mono (fun k _ h => .inl h))).alloc _, rfl, hc, hlv.same (((Below.refl _ w3).alloc (Nat.le_refl _) _).block b hlv.lt)⟩
    | ok p =>
      obtain ⟨tv, l'⟩ := p
      rw [hpv] at hgot
      obtain ⟨y, rfl, hy, hp'⟩ := hgot
      have HR := Lib.hid (show pOne f d ks l = .ok ((k, tv), l') by unfold pOne; rw [HPK.out]; simp only; rw [HCT.out]; simp only; rw [if_pos HC58.out, hpv])
      have HLL := Lib.hid (HSH.out t tv l' (by have h1 := HTL.out; have h2 := HL1.out; omega) hpv)
      obtain ⟨yk, yn, ys, ya, yl, yp, yb, ym, yq, rfl⟩ := hy.form
      have HY := Lib.hid hy
      have HP' := Lib.hid hp'
      clear hy hp' hx3 hpv
      obtain ⟨hbase2, _, _, _, _, _, hlen2, hown2, got2, xs2, hel2, hrow2, hcs2, hnil2⟩ := HM2.out
      obtain ⟨ga2, gc2, rfl, _⟩ := ownsRow_slice hrow2
      have HLEN2 := Lib.hid hlen2
      have HMP2 := Lib.hid hown2
      have HROW2 := Lib.hid hrow2
      have HCS2 := Lib.hid hcs2
      have HBS2 := Lib.hid hbase2
      clear hlen2 hown2 hcs2 hnil2
      go_wp2_with fail
      generalize hW4 : w3.alloc _ = W4
      have hb34 : Below w3.heap.size w3 W4 := by subst hW4; exact (Below.refl _ w3).alloc (Nat.le_refl _) _
      have hbx : W4.heap[w3.heap.size]? = some (.cells #[.int .i64 yk, .int .i64 yn, .string ys, .slice ya yl yp, .slice yb ym yq] 26 (0, 0)) := by subst hW4; exact World.alloc_heap_new w3 _
      have hz4' : W4.heap.size = w3.heap.size + 1 := by subst hW4; simp
      have hx4 : Exc (fun x => x = b) w2 W4 := HX3.out.trans (Exc.ofAll hb34)
      have hb2w : b2 < w2.heap.size := by omega
      have hel4 := (hx4.block b2 hb2w (fun e => HNE.out.1 e.symm)).trans hel2
      have HEL4 := Lib.hid hel4
      have HBX := Lib.hid hbx
      have hown4 := ownsRow_same HROW2.out (W' := W4) (fun k hk => hx4.block k (ownsRow_lt HROW2.out k hk).2 (fun e => by have := (ownsRow_lt HROW2.out k hk).1; omega))
      have HOWN4 := Lib.hid hown4
      have HZ := Lib.hid hz4'
      have HW23 := Lib.hid (show w2.heap.size ≤ w3.heap.size from HX3.out.size)
      obtain ⟨n, hn⟩ : ∃ n, ms.length = n := ⟨_, rfl⟩
      rw [hn] at HOWN4
      have HROWn := Lib.hid HROW2.out
      rw [hn] at HROWn HCS2
      have H34 := Lib.hid hb34
      have HN := Lib.hid hn
      have HNL := Lib.hid (show n + 1 ≤ 1000000 by have := HLEN2.out; have := HTL.out; omega)
      obtain ⟨e0, e1, e2, e3⟩ := c3of hel4
      rw [hn] at e1
      obtain ⟨r0, r1, r2, r3, r4⟩ := c5of hbx
      have hB : base ≤ W4.heap.size := by have := HW23.out; omega
      have hix : (n : Int) < ((n + 1 : Nat) : Int) := by omega
      have hix2 : (n : Int) < (n : Int) + 1 := by omega
      obtain ⟨B, hB1⟩ : ∃ B, w3.heap.size = B := ⟨_, rfl⟩
      rw [hB1] at HBX HZ HW23 r0 r1 r2 r3 r4 ⊢
      have hob : (Value.slice ga2 n gc2).ownBlock ≠ some b2 := fun e => by have := (ownsRow_lt HOWN4.out b2 e).1; omega
      have hob2 : (Value.slice ga2 n gc2).ownBlock ≠ some B := fun e => by
        have h1 := (ownsRow_lt HROWn.out B e).2
        have h2 := HW23.out
        omega
      have HOB := Lib.hid hob
      have HOB2 := Lib.hid hob2
      have hlB : B < W4.heap.size := by have := HZ.out; omega
      have hlb2 : b2 < W4.heap.size := by have := HW23.out; omega
      have hbb2 := hb2
      clear hW4 hb34 hbx hx4 hel4 hown4 hz4' hB1 hn hob hob2 hel2 hrow2 hbase2
      go_region_law ((refine step_append_lies _ (by rfl) _ _ _ (by rfl) base 28 i0 _ 6 96 Try.underlying24 hi hz0 hz1 hz2 rfl (by decide) (.slice ga2 n gc2) n xs2 (by rfl) (by exact ((HOWN4.out.alloc _).drew)) ⟨W4.heap.size, 0, none⟩ 1 1 [.string ⟨#[]⟩, .int .i64 0, .int .i64 0, .string ⟨#[]⟩, .slice none 0 0, .slice none 0 0] (by rfl) (by rfl) (by exact new6_at W4 _ _ _ _ _ _ _) (by simp [Value.oneCell']) (by decide) (by have := HNL.out; unfold maxLen; omega) (by have := HNL.out; omega) (by simp; omega) _ rfl ?_; intro g cap w' hown' hgrow hat hlg; obtain ⟨⟨k0, k1, k2, k3, k4, k5⟩, q0, q1, q2, q3, q4, q5⟩ := ownsRow_last6 hown'; obtain ⟨p0, p1, p2, p3⟩ := c3of ((grown_old hgrow b2 hlb2 HOB.out).trans HEL4.out); obtain ⟨m0, m1, m2, m3, m4⟩ := c5of ((grown_old hgrow B hlB HOB2.out).trans HBX.out); have hgb := (ownsRow_lt hown' g rfl).1; have hg1 : ¬ g = b2 := (by omega); have hg2 : ¬ b2 = g := (by omega); have HOWN5 := Lib.hid hown'; have HGR := Lib.hid hgrow; have HLG := Lib.hid (And.intro hat hlg); clear hown' hgrow hat hlg))
      all_goals
        have hff := (grown_old HGR.out b2 hlb2 HOB.out).trans HEL4.out
        go_wp2
        go_ret
        rw [HR.out]
        refine (fun h => (⟨HX2.out.trans h.1, rfl, h.2 HLL.out⟩ : MNext base b b2 bm s d ks ms w (.ok ((k, tv), l')) _ _)) (mnext_fin (cap := cap) (l := l1) (l0 := t) HBS2.out hb hb2 hbm HNE.out HKS.out HN.out HM1.out.len1.1 HLEN2.out.2 HTL.out HMP2.out HCS2.out HROWn.out HX3.out H34.out HY.out HP'.out HGR.out HLG.out.1 ?_)
        first
          | with_reducible exact fin6A _ _ _ _ _ _ HOWN5.out hb2 hff hg1
          | with_reducible exact fin6B _ _ _ _ _ _ HOWN5.out hb2 hff hg1
end Go.Proofs.Ythcphfpkinfjoaa
