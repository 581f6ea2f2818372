/-
  Rows of bytes: of a call's own, and that came in.
  Conditions: none.
-/
import Derived.Test.YtfmclkmmkceldaaRows
import Derived.WalkKit
import Derived.WalkSpells
import Derived.WalkLawsBesides
import Derived.Deep.QuietTactic
import Derived.BigQuiet
import Derived.Lib.Hide
import Derived.Lib.AppendStr
import Derived.Laws.BytesArg
import Derived.Deep.AppendLies
import Derived.Deep.RegionLaw
import Derived.Laws.MakeOwn
import Derived.ProofKit
import Derived.OpenShut
import Derived.ShutString
import Derived.Deep.RegionHeld3
namespace Go.Proofs.Ytfmclkmmkceldaa
open Go.ChangeShapes Go.WideShapes Go.ChangeAt Go.RowKit

theorem info_u8 : (Try.prog.info? 5).map (fun i => (i.zero, i.size, i.bytes)) = some (some (.int .u8 0), 1, 1) := by kernel_rfl

def byteVals (xs : List UInt8) : List Value := xs.map fun b => Value.int .u8 (b.toNat : Int)
/-- The slice value v owns the bytes xs, among the blocks from B on. -/
def Owns (w : World) (B : Nat) (v : Value) (xs : List UInt8) : Prop := w.ownsRow B 5 1 v xs.length (byteVals xs)

theorem Owns.toStr {w : World} {B : Nat} {v : Value} {xs : List UInt8} (h : Owns w B v xs) : (convert 61 9 v).run Try.prog w = .ok (.string ⟨xs.toArray⟩) w := by
  obtain ⟨h1, h2⟩ := h
  have hm : strOfNums (xs.map fun b => (b.toNat : Int)) = ⟨xs.toArray⟩ := by
    unfold strOfNums
    congr 2
    rw [List.map_map]
    conv => rhs; rw [← List.map_id xs]
    apply List.map_congr_left
    intro a _
    simp
  rcases h2 with ⟨rfl, hn⟩ | ⟨g, cap, cur, rfl, hg, hh, hnc, hcm, hcs, htake⟩
  · have hx : xs = [] := List.eq_nil_of_length_eq_zero hn
    subst hx
    exact run_convert_bytes_nil w 61 5 Try.underlying61 Try.underlying5 0 0 9 Try.underlying9
  · rw [← hm]
    refine run_convert_bytes_arg w 61 5 Try.underlying61 Try.underlying5 g 0 xs.length cap (xs.map fun b => (b.toNat : Int)) (by simp) (fun i hi => ?_) 9 Try.underlying9
    have e : (cur.toList.take (xs.length * 1))[i]? = (byteVals xs)[i]? := by rw [htake]
    rw [List.getElem?_take, if_pos (by omega)] at e
    simp only [World.cell?, hh, Nat.zero_add]
    simp only [Option.isSome_none, Bool.false_eq_true, if_false]
    rw [← Array.getElem?_toList, e]
    simp [byteVals, List.getD, List.getElem?_map, List.getElem?_eq_getElem hi]

theorem news_at (w : World) (ys : List UInt8) (j : Nat) (u : Value) (h : (byteVals ys)[j]? = some u) : (w.alloc (.cells (byteVals ys).toArray 5)).cell? ((⟨w.heap.size, 0, none⟩ : Addr).add j) = some u := by
  have hplain : (⟨w.heap.size, 0, none⟩ : Addr).add j = ⟨w.heap.size, 0 + j, none⟩ := by unfold Addr.add; split <;> simp_all
  rw [hplain, Nat.zero_add]
  have hb : (w.alloc (.cells (byteVals ys).toArray 5)).heap[w.heap.size]? = some (.cells (byteVals ys).toArray 5) := by
    show (w.heap.push _)[w.heap.size]? = _
    simp
  simp only [World.cell?, hb]
  simpa using h
theorem news_one (ys : List UInt8) : ∀ u ∈ byteVals ys, u.oneCell' = true := by
  intro u hu
  simp only [byteVals, List.mem_map] at hu
  obtain ⟨b, _, rfl⟩ := hu
  rfl
theorem Owns.of_append {w : World} {B : Nat} {v : Value} {xs ys zs : List UInt8} {n : Nat} (h : w.ownsRow B 5 1 v (xs.length + n) (byteVals xs ++ byteVals ys)) (hn : ys.length = n) (hz : zs = xs ++ ys) : Owns w B v zs := by
  subst hn hz
  unfold Owns
  rw [List.length_append]
  simpa [byteVals] using h
theorem Below.of_append {w w' : World} {B : Nat} {v : Value} {xs : List UInt8} {o : Obj} (hB : B ≤ w.heap.size) (hown : Owns w B v xs) (hg : (w.alloc o).grownBy w' v.ownBlock) : Below B w w' := by
  refine ((Below.refl B w).alloc hB o).grown hg (by simp; omega) (fun k hk => ?_)
  rcases hown.2 with ⟨rfl, _⟩ | ⟨g, cap, cur, rfl, hg, _⟩
  · simp [Value.ownBlock] at hk
  · simp [Value.ownBlock] at hk; omega

theorem Below.of_append_drew {w w' : World} {B : Nat} {v : Value} {xs : List UInt8} {o : Obj} (hB : B ≤ w.heap.size) (hown : Owns w B v xs) (hg : (w.alloc o).drew.grownBy w' v.ownBlock) : Below B w w' := by
  refine ((Below.refl B w).alloc hB o).drew.grown hg (by simp; omega) (fun k hk => ?_)
  rcases hown.2 with ⟨rfl, _⟩ | ⟨g, cap, cur, rfl, hg, _⟩
  · simp [Value.ownBlock] at hk
  · simp [Value.ownBlock] at hk; omega


theorem grown_old {W w' : World} {o : Obj} {r : Option Nat} (h : (W.alloc o).drew.grownBy w' r) (k : Nat) (hk : k < W.heap.size) (hr : r ≠ some k) : w'.heap[k]? = W.heap[k]? := by
  rw [h.block k (by show k < (W.alloc o).heap.size; simp; omega) (fun e => hr e.symm)]
  show (W.heap.push _)[k]? = _
  rw [Array.getElem?_push_lt hk, Array.getElem?_eq_getElem hk]
theorem ownsRow_lt {W : World} {base e size n : Nat} {v : Value} {xs : List Value} (h : W.ownsRow base e size v n xs) (k : Nat) (hk : v.ownBlock = some k) : base ≤ k ∧ k < W.heap.size := h.lt k hk
theorem c2of {W : World} {b : Nat} {c0 c1 : Value} {t : TypeId} (h : W.heap[b]? = some (.cells #[c0, c1] t (0, 0))) :
    W.cell? ⟨b, 0, none⟩ = some c0 ∧ W.cell? ⟨b, 1, none⟩ = some c1 ∧ W.frozen? ⟨b, 1, none⟩ = false := by simp [World.cell?, World.frozen?, h]
/-- A slice of the bytes l, that came in or was made. -/
def Bys (w : World) (v : Value) (l : List UInt8) : Prop :=
  ∃ ao cap, v = .slice ao l.length cap ∧ (l.length ≤ cap ∧ cap ≤ maxLen ∧ (ao = none → cap = 0)) ∧ (l = [] ∨ ∃ g off, ao = some ⟨g, off, none⟩ ∧ g < w.heap.size ∧ ∀ i (h : i < l.length), w.cell? ⟨g, off + i, none⟩ = some (.int .u8 (l[i].toNat : Int)))
theorem Bys.below {w w' : World} {v : Value} {l : List UInt8} (h : Bys w v l) (hb : Below w.heap.size w w') : Bys w' v l := by
  obtain ⟨ao, cap, rfl, hc, h | ⟨g, off, rfl, hg, h⟩⟩ := h
  · exact ⟨ao, cap, rfl, hc, .inl h⟩
  · refine ⟨_, cap, rfl, hc, .inr ⟨g, off, rfl, Nat.lt_of_lt_of_le hg hb.size, fun i hi => ?_⟩⟩
    rw [World.cell?_of_block (hb.block g hg)]
    exact h i hi
theorem Owns.bys {w : World} {B : Nat} {v : Value} {xs : List UInt8} (h : Owns w B v xs) : Bys w v xs := by
  obtain ⟨h1, h2⟩ := h
  rcases h2 with ⟨rfl, hn⟩ | ⟨g, cap, cur, rfl, hg, hh, hnc, hcm, hcs, htake⟩
  · have hx : xs = [] := List.eq_nil_of_length_eq_zero hn
    subst hx
    exact ⟨none, 0, rfl, ⟨by decide, by decide, fun _ => rfl⟩, .inl rfl⟩
  · refine ⟨_, cap, rfl, ⟨hnc, hcm, fun h => by cases h⟩, .inr ⟨g, 0, rfl, (Array.getElem?_eq_some_iff.1 hh).1, fun i hi => ?_⟩⟩
    have e : (cur.toList.take (xs.length * 1))[i]? = (byteVals xs)[i]? := by rw [htake]
    rw [List.getElem?_take, if_pos (by omega)] at e
    simp only [World.cell?, hh, Nat.zero_add]
    simp only [Option.isSome_none, Bool.false_eq_true, if_false]
    rw [← Array.getElem?_toList, e]
    simp [byteVals, List.getElem?_map, List.getElem?_eq_getElem hi]
theorem Bys.toStr {w : World} {v : Value} {xs : List UInt8} (h : Bys w v xs) : (convert 61 9 v).run Try.prog w = .ok (.string ⟨xs.toArray⟩) w := by
  have hm : strOfNums (xs.map fun b => (b.toNat : Int)) = ⟨xs.toArray⟩ := by
    unfold strOfNums
    congr 2
    rw [List.map_map]
    conv => rhs; rw [← List.map_id xs]
    apply List.map_congr_left
    intro a _
    simp
  obtain ⟨ao, cap, rfl, _, rfl | ⟨g, off, rfl, hg, h⟩⟩ := h
  · show (convert 61 9 (.slice ao 0 cap)).run Try.prog w = _
    rw [run_convert_bytes_string w 61 9 5 ao 0 cap Try.underlying61 Try.underlying5 Try.underlying9]
    cases ao with
    | none => rfl
    | some a =>
      have := run_loadCells_list (P := Try.prog) w a [] (fun j v hj => by simp at hj)
      simp [Conv.bytesToString] at this ⊢
      rw [this]
      rfl
  · rw [← hm]
    refine run_convert_bytes_arg w 61 5 Try.underlying61 Try.underlying5 g off xs.length cap (xs.map fun b => (b.toNat : Int)) (by simp) (fun i hi => ?_) 9 Try.underlying9
    rw [h i hi]
    simp [List.getD, List.getElem?_map, List.getElem?_eq_getElem hi]
/-- All below B but block b is as it was. -/
structure BelowX (B b : Nat) (w w' : World) : Prop where
  os : w'.os = w.os
  tape : w'.tape = w.tape
  output : w'.output = w.output
  size : w.heap.size ≤ w'.heap.size
  block : ∀ k, k < B → k ≠ b → w'.heap[k]? = w.heap[k]?
theorem BelowX.refl (B b : Nat) (w : World) : BelowX B b w w := ⟨rfl, rfl, rfl, Nat.le_refl _, fun _ _ _ => rfl⟩
theorem BelowX.trans {B b : Nat} {u v w : World} (h : BelowX B b u v) (k : BelowX B b v w) : BelowX B b u w :=
  ⟨k.os.trans h.os, k.tape.trans h.tape, k.output.trans h.output, Nat.le_trans h.size k.size, fun i hi hs => (k.block i hi hs).trans (h.block i hi hs)⟩
theorem setCell_other {w : World} {b i k : Nat} (v : Value) (h : k ≠ b) : (w.setCell ⟨b, i, none⟩ v).heap[k]? = w.heap[k]? := by
  show (w.heap.modify b _)[k]? = _
  rw [Array.getElem?_modify]
  split
  · next e => exact absurd e.symm h
  · rfl
theorem setCell_cells {w : World} {b i : Nat} {cs : Array Value} {t : TypeId} {fr : Nat × Nat} (v : Value) (h : w.heap[b]? = some (.cells cs t fr)) : (w.setCell ⟨b, i, none⟩ v).heap[b]? = some (.cells (cs.setIfInBounds i v) t fr) := by
  obtain ⟨hlt, hk⟩ := Array.getElem?_eq_some_iff.1 h
  show (w.heap.modify b _)[b]? = _
  rw [Array.getElem?_eq_getElem (by rw [Array.size_modify]; exact hlt), Array.getElem_modify_self, hk]
  rfl
theorem Bys.low {w : World} {v : Value} {l : List UInt8} (h : Bys w v l) : ∀ g off len cap, 0 < len → v = .slice (some ⟨g, off, none⟩) len cap → g < w.heap.size := by
  obtain ⟨ao, c, rfl, _, rfl | ⟨g, off, rfl, hg, _⟩⟩ := h
  · intro g off len cap h0 e; cases e; simp at h0
  · intro g' off' len cap _ e; cases e; exact hg
/-- Block g holds the bytes O, and nothing more. -/
def BR (w : World) (g : Nat) (O : List UInt8) : Prop := w.heap[g]? = some (.cells (byteVals O).toArray 5 (0, 0))
theorem made_zero (n : Nat) : madeCells (Value.int .u8 0).cells (n * 1) = (byteVals (List.replicate n 0)).toArray := by
  apply Array.ext
  · rw [size_madeCells]; simp [byteVals]
  · intro i h1 h2
    simp [madeCells, byteVals, Value.cells, Nat.mod_one]
theorem make_run (n : Nat) (x : Int) (hx : x = (n : Int)) (hn : n ≤ 1000000) (w : World) : (Instr.makeSlice 61 (.int .i64 x) (.int .i64 x)).run Try.prog w = .ok (.slice (some ⟨w.heap.size, 0, none⟩) n n) (w.alloc (.cells (byteVals (List.replicate n 0)).toArray 5)) := by
  subst hx
  obtain ⟨i0, hi, hz0, hz1, hz2⟩ := info_parts info_u8
  have := run_make (P := Try.prog) w 61 5 i0 _ Try.underlying61 hi hz0 .i64 .i64 (n : Int) (n : Int) (by omega) (Int.le_refl _) (by rw [hz2]; omega) (by omega)
  rw [hz1, Int.toNat_natCast, made_zero] at this
  exact this
theorem BR.set {w : World} {g q : Nat} {O : List UInt8} (h : BR w g O) (z : UInt8) : BR (w.setCell ⟨g, q, none⟩ (.int .u8 (z.toNat : Int))).drew g (O.set q z) := by
  show (w.setCell ⟨g, q, none⟩ _).heap[g]? = _
  rw [setCell_cells _ h]
  congr 2
  apply Array.ext'
  simp [byteVals, List.map_set]
theorem BR.cells {w : World} {g q : Nat} {O : List UInt8} (h : BR w g O) (hq : q < O.length) : w.cell? ⟨g, q, none⟩ = some (.int .u8 ((O.getD q 0).toNat : Int)) ∧ w.frozen? ⟨g, q, none⟩ = false := by
  have h' : w.heap[g]? = _ := h
  refine ⟨?_, ?_⟩
  · simp only [World.cell?, h']
    simp [byteVals, List.getD_eq_getElem?_getD, List.getElem?_map, List.getElem?_eq_getElem hq]
  · simp [World.frozen?, h']
theorem BR.owns {w : World} {g B : Nat} {O : List UInt8} {n : Nat} (h : BR w g O) (hB : B ≤ g) (hn : O.length = n) (hm : n ≤ 1000000) : Owns w B (.slice (some ⟨g, 0, none⟩) n n) O := by
  subst hn
  refine ⟨by simp [byteVals], .inr ⟨g, O.length, (byteVals O).toArray, rfl, hB, h, Nat.le_refl _, by unfold maxLen; omega, by simp [byteVals], ?_⟩⟩
  rw [List.take_of_length_le (by simp [byteVals])]
theorem u8_cells : Try.prog.cellsOf 5 = 1 := by kernel_rfl
set_option maxRecDepth 100000 in
/-- What a slice of bytes that came in gives. -/
theorem open_bys {H : Type} {enc : TypeId × Value → H} {W : World} {base : Nat} {v1 : Value} {d1 : DataW H} {p1 : List MemPlace} (hval : Value.okWide Try.prog W .any base 61 v1) (h1 : DataW.Trod enc Try.prog W 0 (fun _ => true) true 61 v1 d1 p1) :
    ∃ l : List UInt8, Bys W v1 l := by
  obtain ⟨a1, len, cap, rfl⟩ := okWide_slice Try.underlying61 hval
  obtain ⟨fuel, hf⟩ := h1
  rcases open_ints Try.underlying61 Try.underlying5 u8_cells hf with ⟨hcs, hx⟩ | ⟨a, len', cap', zs, hcs, _, hl, hm, hz, hx, hcell, hwz⟩
  · simp [Value.cells] at hcs
    obtain ⟨rfl, rfl, rfl⟩ := hcs
    exact ⟨[], none, 0, rfl, ⟨by decide, by decide, fun _ => rfl⟩, .inl rfl⟩
  · simp [Value.cells] at hcs
    obtain ⟨rfl, rfl, rfl⟩ := hcs
    simp only [if_true] at hz
    have hlen : ((zs.take len).map fun n => UInt8.ofNat n.toNat).length = len := by simp; omega
    refine ⟨(zs.take len).map fun n => UInt8.ofNat n.toNat, some a, cap, by rw [hlen], by rw [hlen]; exact ⟨hl, hm, fun h => by cases h⟩, ?_⟩
    by_cases h0 : len = 0
    · left
      exact List.eq_nil_of_length_eq_zero (by rw [hlen]; exact h0)
    right
    obtain ⟨ab, ao, spot⟩ := a
    have hc0 := hcell 0 (by omega)
    have hspot : spot = none := by simpa [Addr.add] using World.cell?_spot hc0
    subst hspot
    refine ⟨ab, ao, rfl, ?_, fun j hj => ?_⟩
    · rw [Addr.add_lit] at hc0
      simp only [World.cell?] at hc0
      apply Decidable.byContradiction
      intro hn
      rw [Array.getElem?_eq_none (by omega)] at hc0
      simp at hc0
    · rw [hlen] at hj
      have hcj := hcell j (by omega)
      rw [Addr.add_lit] at hcj
      rw [hcj]
      have hb := range_u8 hwz j
      simp only [List.getElem_map, List.getElem_take]
      have e : zs.getD j 0 = zs[j]'(by omega) := by simp [List.getD, List.getElem?_eq_getElem (show j < zs.length by omega)]
      rw [List.getD_eq_getElem?_getD] at e
      rw [e] at hb
      rw [List.getD_eq_getElem?_getD, e]
      congr 2
      simp only [UInt8.toNat_ofNat']
      omega
theorem bchain {w a b : World} (h : Below w.heap.size w a) (k : Below a.heap.size a b) : Below w.heap.size w b := h.trans (k.mono h.size)
/-- Bytes of a call's own, laid as a row. -/
theorem bys_new (w : World) (l : List UInt8) (h : l.length ≤ 100000) : Bys (w.alloc (.cells (byteVals l).toArray 5)) (.slice (some ⟨w.heap.size, 0, none⟩) l.length l.length) l := by
  refine ⟨_, _, rfl, ⟨Nat.le_refl _, by unfold maxLen; omega, fun h => by cases h⟩, .inr ⟨w.heap.size, 0, rfl, by simp, fun i hi => ?_⟩⟩
  have hb : (w.alloc (.cells (byteVals l).toArray 5)).heap[w.heap.size]? = some (.cells (byteVals l).toArray 5) := by
    show (w.heap.push _)[w.heap.size]? = _
    simp
  simp only [World.cell?, hb]
  simp [byteVals, List.getElem?_eq_getElem hi]
/-- Bytes of a constant text, laid as a row that bears the mark of one. -/
theorem bys_newF (w : World) (l : List UInt8) (fr : Nat × Nat) (h : l.length ≤ 100000) : Bys (w.alloc (.cells (byteVals l).toArray 5 fr)) (.slice (some ⟨w.heap.size, 0, none⟩) l.length l.length) l := by
  refine ⟨_, _, rfl, ⟨Nat.le_refl _, by unfold maxLen; omega, fun h => by cases h⟩, .inr ⟨w.heap.size, 0, rfl, by simp, fun i hi => ?_⟩⟩
  have hb : (w.alloc (.cells (byteVals l).toArray 5 fr)).heap[w.heap.size]? = some (.cells (byteVals l).toArray 5 fr) := by
    show (w.heap.push _)[w.heap.size]? = _
    simp
  simp only [World.cell?, hb]
  simp [byteVals, List.getElem?_eq_getElem hi]
end Go.Proofs.Ytfmclkmmkceldaa
