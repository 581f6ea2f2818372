/-
  Rows of bytes: of a call's own, and that came in.
  2^255 - 19 is a prime; powers modulo a prime.
  Numbers of four words, of thirty-two bytes.
  Arrays of words and of bytes as cells; math/bits.Add64, Sub64, Mul64.
  Words of package field: mulAdd.
  Conditions: none.
-/
import Derived.Test.YtlpchgoaoglhcaaDoorRows
import Derived.WalkKit
import Derived.WalkSpells
import Derived.WalkLawsBesides
import Derived.Deep.QuietTactic
import Derived.BigQuiet
import Derived.Lib.Hide
import Derived.Lib.AppendStr
import Derived.Laws.BytesArg
import Derived.Deep.AppendLies
import Derived.Deep.RegionLaw
import Derived.Laws.MakeOwn
import Derived.ProofKit
import Derived.OpenShut
import Derived.ShutString
import Derived.Deep.RegionHeld3
import Derived.Lib.Mul64
import Derived.Laws.Externs
import Derived.Laws.BitsAllLaws
import Derived.Laws.BitsLemmas
import Derived.Deep.WholeRow
import Derived.StillTailTactics
import Derived.Laws.StructEq
import Derived.ChangeKeysEq
namespace Go.Proofs.YtlpchgoaoglhcaaDoor
open Go.ChangeShapes Go.WideShapes Go.ChangeAt Go.RowKit
theorem info_u8 : (Tryd.prog.info? 5).map (fun i => (i.zero, i.size, i.bytes)) = some (some (.int .u8 0), 1, 1) := by kernel_rfl
def byteVals (xs : List UInt8) : List Value := xs.map fun b => Value.int .u8 (b.toNat : Int)
/-- The slice value v owns the bytes xs, among the blocks from B on. -/
def Owns (w : World) (B : Nat) (v : Value) (xs : List UInt8) : Prop := w.ownsRow B 5 1 v xs.length (byteVals xs)
theorem Owns.toStr {w : World} {B : Nat} {v : Value} {xs : List UInt8} (h : Owns w B v xs) : (convert 22 9 v).run Tryd.prog w = .ok (.string ⟨xs.toArray⟩) w := by
  obtain ⟨h1, h2⟩ := h
  have hm : strOfNums (xs.map fun b => (b.toNat : Int)) = ⟨xs.toArray⟩ := by
    unfold strOfNums
    congr 2
    rw [List.map_map]
    conv => rhs; rw [← List.map_id xs]
    apply List.map_congr_left
    intro a _
    simp
  rcases h2 with ⟨rfl, hn⟩ | ⟨g, cap, cur, rfl, hg, hh, hnc, hcm, hcs, htake⟩
  · have hx : xs = [] := List.eq_nil_of_length_eq_zero hn
    subst hx
    exact run_convert_bytes_nil w 22 5 Tryd.underlying22 Tryd.underlying5 0 0 9 Tryd.underlying9
  · rw [← hm]
    refine run_convert_bytes_arg w 22 5 Tryd.underlying22 Tryd.underlying5 g 0 xs.length cap (xs.map fun b => (b.toNat : Int)) (by simp) (fun i hi => ?_) 9 Tryd.underlying9
    have e : (cur.toList.take (xs.length * 1))[i]? = (byteVals xs)[i]? := by rw [htake]
    rw [List.getElem?_take, if_pos (by omega)] at e
    simp only [World.cell?, hh, Nat.zero_add]
    simp only [Option.isSome_none, Bool.false_eq_true, if_false]
    rw [← Array.getElem?_toList, e]
    simp [byteVals, List.getD, List.getElem?_map, List.getElem?_eq_getElem hi]
theorem news_one (ys : List UInt8) : ∀ u ∈ byteVals ys, u.oneCell' = true := by
  intro u hu
  simp only [byteVals, List.mem_map] at hu
  obtain ⟨b, _, rfl⟩ := hu
  rfl
theorem Owns.of_append {w : World} {B : Nat} {v : Value} {xs ys zs : List UInt8} {n : Nat} (h : w.ownsRow B 5 1 v (xs.length + n) (byteVals xs ++ byteVals ys)) (hn : ys.length = n) (hz : zs = xs ++ ys) : Owns w B v zs := by
  subst hn hz
  unfold Owns
  rw [List.length_append]
  simpa [byteVals] using h
theorem Below.of_append {w w' : World} {B : Nat} {v : Value} {xs : List UInt8} {o : Obj} (hB : B ≤ w.heap.size) (hown : Owns w B v xs) (hg : (w.alloc o).grownBy w' v.ownBlock) : Below B w w' := by
  refine ((Below.refl B w).alloc hB o).grown hg (by simp; omega) (fun k hk => ?_)
  rcases hown.2 with ⟨rfl, _⟩ | ⟨g, cap, cur, rfl, hg, _⟩
  · simp [Value.ownBlock] at hk
  · simp [Value.ownBlock] at hk; omega
/-- A slice of the bytes l, that came in or was made. -/
def Bys (w : World) (v : Value) (l : List UInt8) : Prop :=
  ∃ ao cap, v = .slice ao l.length cap ∧ (l.length ≤ cap ∧ cap ≤ maxLen ∧ (ao = none → cap = 0)) ∧ (l = [] ∨ ∃ g off, ao = some ⟨g, off, none⟩ ∧ g < w.heap.size ∧ ∀ i (h : i < l.length), w.cell? ⟨g, off + i, none⟩ = some (.int .u8 (l[i].toNat : Int)))
theorem Bys.below {w w' : World} {v : Value} {l : List UInt8} (h : Bys w v l) (hb : Below w.heap.size w w') : Bys w' v l := by
  obtain ⟨ao, cap, rfl, hc, h | ⟨g, off, rfl, hg, h⟩⟩ := h
  · exact ⟨ao, cap, rfl, hc, .inl h⟩
  · refine ⟨_, cap, rfl, hc, .inr ⟨g, off, rfl, Nat.lt_of_lt_of_le hg hb.size, fun i hi => ?_⟩⟩
    rw [World.cell?_of_block (hb.block g hg)]
    exact h i hi
theorem Owns.bys {w : World} {B : Nat} {v : Value} {xs : List UInt8} (h : Owns w B v xs) : Bys w v xs := by
  obtain ⟨h1, h2⟩ := h
  rcases h2 with ⟨rfl, hn⟩ | ⟨g, cap, cur, rfl, hg, hh, hnc, hcm, hcs, htake⟩
  · have hx : xs = [] := List.eq_nil_of_length_eq_zero hn
    subst hx
    exact ⟨none, 0, rfl, ⟨by decide, by decide, fun _ => rfl⟩, .inl rfl⟩
  · refine ⟨_, cap, rfl, ⟨hnc, hcm, fun h => by cases h⟩, .inr ⟨g, 0, rfl, (Array.getElem?_eq_some_iff.1 hh).1, fun i hi => ?_⟩⟩
    have e : (cur.toList.take (xs.length * 1))[i]? = (byteVals xs)[i]? := by rw [htake]
    rw [List.getElem?_take, if_pos (by omega)] at e
    simp only [World.cell?, hh, Nat.zero_add]
    simp only [Option.isSome_none, Bool.false_eq_true, if_false]
    rw [← Array.getElem?_toList, e]
    simp [byteVals, List.getElem?_map, List.getElem?_eq_getElem hi]
theorem Bys.toStr {w : World} {v : Value} {xs : List UInt8} (h : Bys w v xs) : (convert 22 9 v).run Tryd.prog w = .ok (.string ⟨xs.toArray⟩) w := by
  have hm : strOfNums (xs.map fun b => (b.toNat : Int)) = ⟨xs.toArray⟩ := by
    unfold strOfNums
    congr 2
    rw [List.map_map]
    conv => rhs; rw [← List.map_id xs]
    apply List.map_congr_left
    intro a _
    simp
  obtain ⟨ao, cap, rfl, _, rfl | ⟨g, off, rfl, hg, h⟩⟩ := h
  · show (convert 22 9 (.slice ao 0 cap)).run Tryd.prog w = _
    rw [run_convert_bytes_string w 22 9 5 ao 0 cap Tryd.underlying22 Tryd.underlying5 Tryd.underlying9]
    cases ao with
    | none => rfl
    | some a =>
      have := run_loadCells_list (P := Tryd.prog) w a [] (fun j v hj => by simp at hj)
      simp [Conv.bytesToString] at this ⊢
      rw [this]
      rfl
  · rw [← hm]
    refine run_convert_bytes_arg w 22 5 Tryd.underlying22 Tryd.underlying5 g off xs.length cap (xs.map fun b => (b.toNat : Int)) (by simp) (fun i hi => ?_) 9 Tryd.underlying9
    rw [h i hi]
    simp [List.getD, List.getElem?_map, List.getElem?_eq_getElem hi]
/-- All below B but block b is as it was. -/
structure BelowX (B b : Nat) (w w' : World) : Prop where
  os : w'.os = w.os
  tape : w'.tape = w.tape
  output : w'.output = w.output
  size : w.heap.size ≤ w'.heap.size
  block : ∀ k, k < B → k ≠ b → w'.heap[k]? = w.heap[k]?
theorem BelowX.refl (B b : Nat) (w : World) : BelowX B b w w := ⟨rfl, rfl, rfl, Nat.le_refl _, fun _ _ _ => rfl⟩
theorem BelowX.trans {B b : Nat} {u v w : World} (h : BelowX B b u v) (k : BelowX B b v w) : BelowX B b u w :=
  ⟨k.os.trans h.os, k.tape.trans h.tape, k.output.trans h.output, Nat.le_trans h.size k.size, fun i hi hs => (k.block i hi hs).trans (h.block i hi hs)⟩
theorem setCell_other {w : World} {b i k : Nat} (v : Value) (h : k ≠ b) : (w.setCell ⟨b, i, none⟩ v).heap[k]? = w.heap[k]? := by
  show (w.heap.modify b _)[k]? = _
  rw [Array.getElem?_modify]
  split
  · next e => exact absurd e.symm h
  · rfl
theorem setCell_cells {w : World} {b i : Nat} {cs : Array Value} {t : TypeId} {fr : Nat × Nat} (v : Value) (h : w.heap[b]? = some (.cells cs t fr)) : (w.setCell ⟨b, i, none⟩ v).heap[b]? = some (.cells (cs.setIfInBounds i v) t fr) := by
  obtain ⟨hlt, hk⟩ := Array.getElem?_eq_some_iff.1 h
  show (w.heap.modify b _)[b]? = _
  rw [Array.getElem?_eq_getElem (by rw [Array.size_modify]; exact hlt), Array.getElem_modify_self, hk]
  rfl
/-- Block g holds the bytes O, and nothing more. -/
def BR (w : World) (g : Nat) (O : List UInt8) : Prop := w.heap[g]? = some (.cells (byteVals O).toArray 5 (0, 0))
theorem made_zero (n : Nat) : madeCells (Value.int .u8 0).cells (n * 1) = (byteVals (List.replicate n 0)).toArray := by
  apply Array.ext
  · rw [size_madeCells]; simp [byteVals]
  · intro i h1 h2
    simp [madeCells, byteVals, Value.cells, Nat.mod_one]
theorem make_run (n : Nat) (x : Int) (hx : x = (n : Int)) (hn : n ≤ 1000000) (w : World) : (Instr.makeSlice 22 (.int .i64 x) (.int .i64 x)).run Tryd.prog w = .ok (.slice (some ⟨w.heap.size, 0, none⟩) n n) (w.alloc (.cells (byteVals (List.replicate n 0)).toArray 5)) := by
  subst hx
  obtain ⟨i0, hi, hz0, hz1, hz2⟩ := info_parts info_u8
  have := run_make (P := Tryd.prog) w 22 5 i0 _ Tryd.underlying22 hi hz0 .i64 .i64 (n : Int) (n : Int) (by omega) (Int.le_refl _) (by rw [hz2]; omega) (by omega)
  rw [hz1, Int.toNat_natCast, made_zero] at this
  exact this
theorem BR.set {w : World} {g q : Nat} {O : List UInt8} (h : BR w g O) (z : UInt8) : BR (w.setCell ⟨g, q, none⟩ (.int .u8 (z.toNat : Int))).drew g (O.set q z) := by
  show (w.setCell ⟨g, q, none⟩ _).heap[g]? = _
  rw [setCell_cells _ h]
  congr 2
  apply Array.ext'
  simp [byteVals, List.map_set]
theorem BR.cells {w : World} {g q : Nat} {O : List UInt8} (h : BR w g O) (hq : q < O.length) : w.cell? ⟨g, q, none⟩ = some (.int .u8 ((O.getD q 0).toNat : Int)) ∧ w.frozen? ⟨g, q, none⟩ = false := by
  have h' : w.heap[g]? = _ := h
  refine ⟨?_, ?_⟩
  · simp only [World.cell?, h']
    simp [byteVals, List.getD_eq_getElem?_getD, List.getElem?_map, List.getElem?_eq_getElem hq]
  · simp [World.frozen?, h']
theorem BR.owns {w : World} {g B : Nat} {O : List UInt8} {n : Nat} (h : BR w g O) (hB : B ≤ g) (hn : O.length = n) (hm : n ≤ 1000000) : Owns w B (.slice (some ⟨g, 0, none⟩) n n) O := by
  subst hn
  refine ⟨by simp [byteVals], .inr ⟨g, O.length, (byteVals O).toArray, rfl, hB, h, Nat.le_refl _, by unfold maxLen; omega, by simp [byteVals], ?_⟩⟩
  rw [List.take_of_length_le (by simp [byteVals])]
theorem u8_cells : Tryd.prog.cellsOf 5 = 1 := by kernel_rfl
set_option maxRecDepth 100000 in
/-- What a slice of bytes that came in gives. -/
theorem open_bys {H : Type} {enc : TypeId × Value → H} {W : World} {base : Nat} {v1 : Value} {d1 : DataW H} {p1 : List MemPlace} (hval : Value.okWide Tryd.prog W .any base 22 v1) (h1 : DataW.Trod enc Tryd.prog W 0 (fun _ => true) true 22 v1 d1 p1) :
    ∃ l : List UInt8, Bys W v1 l := by
  obtain ⟨a1, len, cap, rfl⟩ := okWide_slice Tryd.underlying22 hval
  obtain ⟨fuel, hf⟩ := h1
  rcases open_ints Tryd.underlying22 Tryd.underlying5 u8_cells hf with ⟨hcs, hx⟩ | ⟨a, len', cap', zs, hcs, _, hl, hm, hz, hx, hcell, hwz⟩
  · simp [Value.cells] at hcs
    obtain ⟨rfl, rfl, rfl⟩ := hcs
    exact ⟨[], none, 0, rfl, ⟨by decide, by decide, fun _ => rfl⟩, .inl rfl⟩
  · simp [Value.cells] at hcs
    obtain ⟨rfl, rfl, rfl⟩ := hcs
    simp only [if_true] at hz
    have hlen : ((zs.take len).map fun n => UInt8.ofNat n.toNat).length = len := by simp; omega
    refine ⟨(zs.take len).map fun n => UInt8.ofNat n.toNat, some a, cap, by rw [hlen], by rw [hlen]; exact ⟨hl, hm, fun h => by cases h⟩, ?_⟩
    by_cases h0 : len = 0
    · left
      exact List.eq_nil_of_length_eq_zero (by rw [hlen]; exact h0)
    right
    obtain ⟨ab, ao, spot⟩ := a
    have hc0 := hcell 0 (by omega)
    have hspot : spot = none := by simpa [Addr.add] using World.cell?_spot hc0
    subst hspot
    refine ⟨ab, ao, rfl, ?_, fun j hj => ?_⟩
    · rw [Addr.add_lit] at hc0
      simp only [World.cell?] at hc0
      apply Decidable.byContradiction
      intro hn
      rw [Array.getElem?_eq_none (by omega)] at hc0
      simp at hc0
    · rw [hlen] at hj
      have hcj := hcell j (by omega)
      rw [Addr.add_lit] at hcj
      rw [hcj]
      have hb := range_u8 hwz j
      simp only [List.getElem_map, List.getElem_take]
      have e : zs.getD j 0 = zs[j]'(by omega) := by simp [List.getD, List.getElem?_eq_getElem (show j < zs.length by omega)]
      rw [List.getD_eq_getElem?_getD] at e
      rw [e] at hb
      rw [List.getD_eq_getElem?_getD, e]
      congr 2
      simp only [UInt8.toNat_ofNat']
      omega
theorem bchain {w a b : World} (h : Below w.heap.size w a) (k : Below a.heap.size a b) : Below w.heap.size w b := h.trans (k.mono h.size)
/-- Bytes of a call's own, laid as a row. -/
theorem bys_new (w : World) (l : List UInt8) (h : l.length ≤ 100000) : Bys (w.alloc (.cells (byteVals l).toArray 5)) (.slice (some ⟨w.heap.size, 0, none⟩) l.length l.length) l := by
  refine ⟨_, _, rfl, ⟨Nat.le_refl _, by unfold maxLen; omega, fun h => by cases h⟩, .inr ⟨w.heap.size, 0, rfl, by simp, fun i hi => ?_⟩⟩
  have hb : (w.alloc (.cells (byteVals l).toArray 5)).heap[w.heap.size]? = some (.cells (byteVals l).toArray 5) := by
    show (w.heap.push _)[w.heap.size]? = _
    simp
  simp only [World.cell?, hb]
  simp [byteVals, List.getElem?_eq_getElem hi]
/-- Bytes of a constant text, laid as a row that bears the mark of one. -/
theorem bys_newF (w : World) (l : List UInt8) (fr : Nat × Nat) (h : l.length ≤ 100000) : Bys (w.alloc (.cells (byteVals l).toArray 5 fr)) (.slice (some ⟨w.heap.size, 0, none⟩) l.length l.length) l := by
  refine ⟨_, _, rfl, ⟨Nat.le_refl _, by unfold maxLen; omega, fun h => by cases h⟩, .inr ⟨w.heap.size, 0, rfl, by simp, fun i hi => ?_⟩⟩
  have hb : (w.alloc (.cells (byteVals l).toArray 5 fr)).heap[w.heap.size]? = some (.cells (byteVals l).toArray 5 fr) := by
    show (w.heap.push _)[w.heap.size]? = _
    simp
  simp only [World.cell?, hb]
  simp [byteVals, List.getElem?_eq_getElem hi]
end Go.Proofs.YtlpchgoaoglhcaaDoor
namespace Go.Proofs.YtlpchgoaoglhcaaDoor
/-- Binomial numbers. -/
def ch : Nat → Nat → Nat
  | _, 0 => 1
  | 0, _ + 1 => 0
  | n + 1, k + 1 => ch n k + ch n (k + 1)
theorem ch_zero (n : Nat) : ch n 0 = 1 := by cases n <;> rfl
theorem ch_succ (n k : Nat) : ch (n + 1) (k + 1) = ch n k + ch n (k + 1) := rfl
theorem ch_none (k : Nat) : ch 0 (k + 1) = 0 := rfl
theorem ch_mul : ∀ n k : Nat, (k + 1) * ch (n + 1) (k + 1) = (n + 1) * ch n k
  | 0, 0 => rfl
  | 0, k + 1 => by simp [ch_succ, ch_none]
  | n + 1, 0 => by
    have h := ch_mul n 0
    rw [ch_zero] at h ⊢
    rw [ch_succ, ch_zero]
    omega
  | n + 1, k + 1 => by
    have h1 := ch_mul n k
    have h2 := ch_mul n (k + 1)
    rw [ch_succ (n + 1) (k + 1)]
    have h3 := ch_succ n k
    grind
theorem ch_over : ∀ n j : Nat, ch n (n + 1 + j) = 0
  | 0, j => by rw [show 0 + 1 + j = j + 1 by omega]; rfl
  | n + 1, j => by
    rw [show n + 1 + 1 + j = (n + 1 + j) + 1 by omega, ch_succ, ch_over n j, show n + 1 + j + 1 = n + 1 + (j + 1) by omega, ch_over n (j + 1)]
theorem ch_self : ∀ n : Nat, ch n n = 1
  | 0 => rfl
  | n + 1 => by rw [ch_succ, ch_self n, show n + 1 = n + 1 + 0 by omega, ch_over n 0]
/-- The first so many terms of the sum. -/
def bsum (n a : Nat) : Nat → Nat
  | 0 => 0
  | k + 1 => bsum n a k + ch n k * a ^ k
theorem bsum_step (n a : Nat) : ∀ k : Nat, bsum (n + 1) a (k + 1) = bsum n a (k + 1) + a * bsum n a k
  | 0 => by simp [bsum, ch_zero]
  | k + 1 => by
    have h := bsum_step n a k
    rw [show bsum (n + 1) a (k + 1 + 1) = bsum (n + 1) a (k + 1) + ch (n + 1) (k + 1) * a ^ (k + 1) from rfl, h, ch_succ]
    rw [show bsum n a (k + 1 + 1) = bsum n a (k + 1) + ch n (k + 1) * a ^ (k + 1) from rfl]
    rw [show bsum n a (k + 1) = bsum n a k + ch n k * a ^ k from rfl, Nat.pow_succ]
    generalize bsum n a k = x
    generalize a ^ k = y
    generalize ch n k = u
    generalize ch n (k + 1) = v
    grind
theorem binom (a : Nat) : ∀ n : Nat, (a + 1) ^ n = bsum n a (n + 1)
  | 0 => by simp [bsum, ch_zero]
  | n + 1 => by
    rw [bsum_step, show bsum n a (n + 1 + 1) = bsum n a (n + 1) + ch n (n + 1) * a ^ (n + 1) from rfl, show n + 1 = n + 1 + 0 by omega, ch_over n 0, Nat.add_zero, ← binom a n, Nat.pow_succ]
    grind
/-- A prime. -/
def Pri (p : Nat) : Prop := 2 ≤ p ∧ ∀ d, d ∣ p → d = 1 ∨ d = p
theorem Pri.cop {p a : Nat} (h : Pri p) (ha : ¬ p ∣ a) : Nat.Coprime p a := by
  have hd : Nat.gcd p a ∣ p := Nat.gcd_dvd_left p a
  rcases h.2 _ hd with h1 | h1
  · exact h1
  · exact absurd (h1 ▸ Nat.gcd_dvd_right p a) ha
theorem Pri.euclid {p a b : Nat} (h : Pri p) (hd : p ∣ a * b) : p ∣ a ∨ p ∣ b := by
  by_cases ha : p ∣ a
  · exact .inl ha
  · exact .inr ((h.cop ha).dvd_of_dvd_mul_left hd)
theorem Pri.ch {p k : Nat} (h : Pri p) (h0 : 0 < k) (hk : k < p) : p ∣ ch p k := by
  obtain ⟨n, rfl⟩ : ∃ n, p = n + 1 := ⟨p - 1, by omega⟩
  obtain ⟨j, rfl⟩ : ∃ j, k = j + 1 := ⟨k - 1, by omega⟩
  rcases h.euclid (show (n + 1) ∣ (j + 1) * Go.Proofs.YtlpchgoaoglhcaaDoor.ch (n + 1) (j + 1) by rw [ch_mul]; exact Nat.dvd_mul_right _ _) with h1 | h1
  · exact absurd (Nat.le_of_dvd (by omega) h1) (by omega)
  · exact h1
theorem Pri.bsum {p : Nat} (h : Pri p) (a : Nat) : ∀ k, k < p → bsum p a (k + 1) % p = 1 % p
  | 0, _ => by simp [Go.Proofs.YtlpchgoaoglhcaaDoor.bsum, ch_zero]
  | k + 1, hk => by
    rw [show Go.Proofs.YtlpchgoaoglhcaaDoor.bsum p a (k + 1 + 1) = Go.Proofs.YtlpchgoaoglhcaaDoor.bsum p a (k + 1) + Go.Proofs.YtlpchgoaoglhcaaDoor.ch p (k + 1) * a ^ (k + 1) from rfl, Nat.add_mod, h.bsum a k (by omega)]
    obtain ⟨c, hc⟩ := h.ch (k := k + 1) (by omega) hk
    rw [hc, Nat.mul_assoc, Nat.mul_mod_right, Nat.add_zero, Nat.mod_mod]
/-- a to the p is a. -/
theorem Pri.frob {p : Nat} (h : Pri p) : ∀ a : Nat, a ^ p % p = a % p
  | 0 => by rw [Nat.zero_pow (by have := h.1; omega)]
  | a + 1 => by
    rw [binom, show Go.Proofs.YtlpchgoaoglhcaaDoor.bsum p a (p + 1) = Go.Proofs.YtlpchgoaoglhcaaDoor.bsum p a p + Go.Proofs.YtlpchgoaoglhcaaDoor.ch p p * a ^ p from rfl, ch_self, Nat.one_mul, Nat.add_mod, h.frob a]
    obtain ⟨n, hn⟩ : ∃ n, p = n + 1 := ⟨p - 1, by have := h.1; omega⟩
    have hb := h.bsum a n (by omega)
    rw [← hn] at hb
    rw [hb, ← Nat.add_mod, Nat.add_comm]
/-- What times a number that is no multiple is a multiple is one. -/
theorem Pri.cancel {p a x y : Nat} (h : Pri p) (ha : ¬ p ∣ a) (he : a * x % p = a * y % p) : x % p = y % p := by
  have key : ∀ u v : Nat, u ≤ v → a * u % p = a * v % p → u % p = v % p := by
    intro u v huv he
    have h1 : p ∣ a * v - a * u := Nat.dvd_of_mod_eq_zero (Nat.sub_mod_eq_zero_of_mod_eq he.symm)
    rw [← Nat.mul_sub] at h1
    rcases h.euclid h1 with h2 | h2
    · exact absurd h2 ha
    · obtain ⟨c, hc⟩ := h2
      rw [show v = u + p * c by omega, Nat.add_mul_mod_self_left]
  rcases Nat.le_total x y with hxy | hxy
  · exact key x y hxy he
  · exact (key y x hxy he.symm).symm
/-- a to the p - 1 is 1. -/
theorem Pri.fermat {p a : Nat} (h : Pri p) (ha : ¬ p ∣ a) : a ^ (p - 1) % p = 1 := by
  have h2 := h.1
  have h1 : a * a ^ (p - 1) % p = a * 1 % p := by
    rw [Nat.mul_comm a (a ^ (p - 1)), ← Nat.pow_succ, show (p - 1).succ = p by omega, h.frob a, Nat.mul_one]
  have h3 := h.cancel ha h1
  rw [h3, Nat.mod_eq_of_lt (by omega)]
theorem one_pow_mod (d e b : Nat) (h : b % d = 1) : b ^ e % d = 1 := by
  rw [Nat.pow_mod, h, Nat.one_pow]
  have : 1 < d ∨ d = 0 ∨ d = 1 := by omega
  rcases this with h1 | h1 | h1
  · exact Nat.mod_eq_of_lt h1
  · subst h1; rfl
  · subst h1; omega
theorem pow_gcd (d b : Nat) : ∀ m n : Nat, b ^ m % d = 1 → b ^ n % d = 1 → b ^ (Nat.gcd m n) % d = 1 := by
  intro m n
  induction m, n using Nat.gcd.induction with
  | H0 n => intro _ h; rw [Nat.gcd_zero_left]; exact h
  | H1 m n hm ih =>
    intro h1 h2
    rw [Nat.gcd_rec]
    refine ih ?_ h1
    have e : b ^ n = (b ^ m) ^ (n / m) * b ^ (n % m) := by rw [← Nat.pow_mul, ← Nat.pow_add, Nat.div_add_mod]
    rw [e, Nat.mul_mod, one_pow_mod d (n / m) _ h1, Nat.one_mul, Nat.mod_mod] at h2
    exact h2
/-- Each number from 2 on has a prime divisor. -/
theorem pri_div : ∀ n : Nat, 2 ≤ n → ∃ d, Pri d ∧ d ∣ n := by
  intro n
  induction n using Nat.strongRecOn with
  | ind n ih =>
    intro hn
    by_cases hp : Pri n
    · exact ⟨n, hp, Nat.dvd_refl n⟩
    · have : ∃ d, d ∣ n ∧ d ≠ 1 ∧ d ≠ n := by
        apply Classical.byContradiction
        intro hno
        exact hp ⟨hn, fun d hd => by
          apply Classical.byContradiction
          intro h
          exact hno ⟨d, hd, fun h1 => h (.inl h1), fun h1 => h (.inr h1)⟩⟩
      obtain ⟨d, hd, h1, h2⟩ := this
      have hle := Nat.le_of_dvd (by omega) hd
      have h0 : d ≠ 0 := fun h => by subst h; have := Nat.eq_zero_of_zero_dvd hd; omega
      obtain ⟨q, hq, hqd⟩ := ih d (by omega) (by omega)
      exact ⟨q, hq, Nat.dvd_trans hqd hd⟩
/-- A number that is no prime has a prime divisor that is not above its root. -/
theorem pri_low {n : Nat} (hn : 2 ≤ n) (hp : ¬ Pri n) : ∃ d, Pri d ∧ d ∣ n ∧ d * d ≤ n := by
  have : ∃ d, d ∣ n ∧ d ≠ 1 ∧ d ≠ n := by
    apply Classical.byContradiction
    intro hno
    exact hp ⟨hn, fun d hd => by
      apply Classical.byContradiction
      intro h
      exact hno ⟨d, hd, fun h1 => h (.inl h1), fun h1 => h (.inr h1)⟩⟩
  obtain ⟨x, ⟨y, hxy⟩, h1, h2⟩ := this
  have hx0 : x ≠ 0 := fun h => by subst h; simp at hxy; omega
  have hy0 : y ≠ 0 := fun h => by subst h; simp at hxy; omega
  have hy1 : y ≠ 1 := fun h => by subst h; simp at hxy; omega
  have low : ∀ u v : Nat, 2 ≤ u → u ≤ v → n = u * v → ∃ d, Pri d ∧ d ∣ n ∧ d * d ≤ n := by
    intro u v hu huv he
    obtain ⟨d, hd, hdu⟩ := pri_div u hu
    have hle := Nat.le_of_dvd (by omega) hdu
    exact ⟨d, hd, Nat.dvd_trans hdu ⟨v, he⟩, by rw [he]; exact Nat.mul_le_mul hle (Nat.le_trans hle huv)⟩
  rcases Nat.le_total x y with h | h
  · exact low x y (by omega) h hxy
  · exact low y x (by omega) h (by rw [hxy, Nat.mul_comm])
/-- a to the e modulo m, bit by bit. -/
def pm : Nat → Nat → Nat → Nat → Nat
  | 0, _, _, m => 1 % m
  | f + 1, a, e, m => if e % 2 = 1 then pm f a (e / 2) m * pm f a (e / 2) m % m * a % m else pm f a (e / 2) m * pm f a (e / 2) m % m
theorem pm_eq (a m : Nat) : ∀ f e : Nat, e < 2 ^ f → pm f a e m = a ^ e % m
  | 0, e, h => by
    obtain rfl : e = 0 := by simpa using h
    rfl
  | f + 1, e, h => by
    have ih := pm_eq a m f (e / 2) (by rw [Nat.pow_succ] at h; omega)
    unfold pm
    rw [ih, ← Nat.mul_mod, ← Nat.pow_add]
    split
    · rename_i ho
      rw [Nat.mod_mul_mod, ← Nat.pow_succ]
      congr 2
      omega
    · congr 2
      omega
theorem pow_at (a e m r f : Nat) (he : e < 2 ^ f) (h : pm f a e m = r) : a ^ e % m = r := by rw [← pm_eq a m f e he, h]
/-- A part of the criterion: a prime divisor of n is 1 above a multiple of q. -/
theorem pock1 {n a q d : Nat} (hn : 2 ≤ n) (hq : Pri q) (hqn : q ∣ n - 1) (h1 : a ^ (n - 1) % n = 1) (hg : Nat.gcd (a ^ ((n - 1) / q) % n + (n - 1)) n = 1) (hd : Pri d) (hdn : d ∣ n) : q ∣ d - 1 := by
  apply Classical.byContradiction
  intro hno
  obtain ⟨b, hb⟩ : ∃ b, a ^ ((n - 1) / q) = b := ⟨_, rfl⟩
  have hbq : b ^ q % d = 1 := by
    rw [← hb, ← Nat.pow_mul, Nat.div_mul_cancel hqn]
    have := congrArg (· % d) h1
    simp only [Nat.mod_mod_of_dvd _ hdn] at this
    rw [this, Nat.mod_eq_of_lt (by have := hd.1; omega)]
  have hda : ¬ d ∣ b := fun h => by
    have h2 := Nat.mod_eq_zero_of_dvd (Nat.dvd_trans h (Nat.dvd_mul_right b (b ^ (q - 1))))
    have h3 : b * b ^ (q - 1) = b ^ q := by rw [Nat.mul_comm, ← Nat.pow_succ]; congr 1; have := hq.1; omega
    rw [h3, hbq] at h2
    omega
  have hb1 := pow_gcd d b q (d - 1) hbq (hd.fermat hda)
  rw [hq.cop hno, Nat.pow_one] at hb1
  have hdd : d ∣ a ^ ((n - 1) / q) % n + (n - 1) := by
    rw [hb]
    apply Nat.dvd_of_mod_eq_zero
    rw [Nat.add_mod, Nat.mod_mod_of_dvd _ hdn, hb1]
    have hnd : n % d = 0 := Nat.mod_eq_zero_of_dvd hdn
    obtain ⟨c, hc⟩ := hdn
    have hd2 := hd.1
    have hc0 : c ≠ 0 := fun h => by subst h; simp at hc; omega
    obtain ⟨c', rfl⟩ : ∃ c', c = c' + 1 := ⟨c - 1, by omega⟩
    have e1 : n - 1 = d * c' + (d - 1) := by rw [hc, Nat.mul_add]; omega
    rw [e1, Nat.mul_add_mod, Nat.mod_eq_of_lt (show d - 1 < d by omega), show 1 + (d - 1) = d by omega, Nat.mod_self]
  have h4 := Nat.dvd_gcd hdd hdn
  rw [hg] at h4
  have := Nat.le_of_dvd (by decide) h4
  have := hd.1
  omega
/-- A number is a prime if two primes that divide what lies ahead of it are enough to say so. -/
theorem pock {n a q r : Nat} (hn : 2 ≤ n) (hq : Pri q) (hr : Pri r) (hqr : ¬ q ∣ r) (hqn : q ∣ n - 1) (hrn : r ∣ n - 1) (hF : n < (q * r) * (q * r)) (h1 : a ^ (n - 1) % n = 1)
    (hg : Nat.gcd (a ^ ((n - 1) / q) % n + (n - 1)) n = 1) (hg2 : Nat.gcd (a ^ ((n - 1) / r) % n + (n - 1)) n = 1) : Pri n := by
  apply Classical.byContradiction
  intro hno
  obtain ⟨d, hd, hdn, hdd⟩ := pri_low hn hno
  have e1 := pock1 hn hq hqn h1 hg hd hdn
  have e2 := pock1 hn hr hrn h1 hg2 hd hdn
  have e3 := Nat.Coprime.mul_dvd_of_dvd_of_dvd (hq.cop hqr) e1 e2
  have hd2 := hd.1
  have e4 := Nat.le_of_dvd (by omega) e3
  have e5 : (q * r) * (q * r) ≤ d * d := Nat.mul_le_mul (by omega) (by omega)
  omega
theorem pockc (n a q r f N eq er vq vr : Nat) (hq : Pri q) (hr : Pri r) (hn : 2 ≤ n) (hN : n - 1 = N) (hf : N < 2 ^ f) (hqr : ¬ q ∣ r) (hqn : q ∣ N) (hrn : r ∣ N) (hF : n < (q * r) * (q * r)) (heq : N / q = eq) (her : N / r = er)
    (h1 : pm f a N n = 1) (hvq : pm f a eq n = vq) (hvr : pm f a er n = vr) (hgq : Nat.gcd (vq + N) n = 1) (hgr : Nat.gcd (vr + N) n = 1) : Pri n := by
  subst hN heq her
  have e1 : (n - 1) / q < 2 ^ f := Nat.lt_of_le_of_lt (Nat.div_le_self _ _) hf
  have e2 : (n - 1) / r < 2 ^ f := Nat.lt_of_le_of_lt (Nat.div_le_self _ _) hf
  refine pock hn hq hr hqr hqn hrn hF (pow_at a _ n 1 f hf h1) ?_ ?_
  · rw [pow_at a _ n vq f e1 hvq]; exact hgq
  · rw [pow_at a _ n vr f e2 hvr]; exact hgr
/-- No divisor among so many. -/
def nodiv (n : Nat) : Nat → Bool
  | 0 => true
  | k + 1 => nodiv n k && (n % (k + 2) != 0)
theorem nodiv_spec (n : Nat) : ∀ k, nodiv n k = true → ∀ d, 2 ≤ d → d ≤ k + 1 → ¬ d ∣ n
  | 0, _ => fun d h1 h2 => by omega
  | k + 1, h => fun d h1 h2 hd => by
    simp only [nodiv, Bool.and_eq_true, bne_iff_ne] at h
    by_cases he : d = k + 2
    · subst he; exact h.2 (Nat.mod_eq_zero_of_dvd hd)
    · exact nodiv_spec n k h.1 d h1 (by omega) hd
theorem pri_try (n k : Nat) (hn : 2 ≤ n) (hk : n < (k + 2) * (k + 2)) (h : nodiv n k = true) : Pri n := by
  apply Classical.byContradiction
  intro hno
  obtain ⟨d, hd, hdn, hdd⟩ := pri_low hn hno
  have : d ≤ k + 1 := by
    apply Classical.byContradiction
    intro hlt
    have := Nat.mul_le_mul (show k + 2 ≤ d by omega) (show k + 2 ≤ d by omega)
    omega
  exact nodiv_spec n k h d hd.1 this hdn
theorem pri_127 : Pri 127 := pri_try 127 10 (by decide) (by decide) (by decide +kernel)
theorem pri_3 : Pri 3 := pri_try 3 0 (by decide) (by decide) (by decide +kernel)
theorem pri_75707 : Pri 75707 := pri_try 75707 275 (by decide) (by decide) (by decide +kernel)
theorem pri_1923133 : Pri 1923133 := pri_try 1923133 1387 (by decide) (by decide) (by decide +kernel)
theorem pri_8574133 : Pri 8574133 := pri_try 8574133 2929 (by decide) (by decide) (by decide +kernel)
theorem pri_q3 : Pri 1919519569386763 :=
  pockc 1919519569386763 2 8574133 127 51 1919519569386762 223873314 15114327318006 1059928654987441 576774792492622 pri_8574133 pri_127 (by decide +kernel) (by decide +kernel) (by decide +kernel) (by decide +kernel) (by decide +kernel) (by decide +kernel) (by decide +kernel) (by decide +kernel) (by decide +kernel) (by decide +kernel) (by decide +kernel) (by decide +kernel) (by decide +kernel) (by decide +kernel)
theorem pri_q2 : Pri 75445702479781427272750846543864801 :=
  pockc 75445702479781427272750846543864801 2 1919519569386763 75707 116 75445702479781427272750846543864800 39304471641247389600 996548568557483816196003626400 56747016255153332959347766392083459 58781699294900834553279248901967638 pri_q3 pri_75707 (by decide +kernel) (by decide +kernel) (by decide +kernel) (by decide +kernel) (by decide +kernel) (by decide +kernel) (by decide +kernel) (by decide +kernel) (by decide +kernel) (by decide +kernel) (by decide +kernel) (by decide +kernel) (by decide +kernel) (by decide +kernel)
theorem pri_q1 : Pri 74058212732561358302231226437062788676166966415465897661863160754340907 :=
  pockc 74058212732561358302231226437062788676166966415465897661863160754340907 2 75445702479781427272750846543864801 1923133 236 74058212732561358302231226437062788676166966415465897661863160754340906 981609426360740691344999861639072106 38509147694185143878364744631319200843710219946028640589009268082 69490809710348678725736597923071784769591275419387514694139338586948360 52266576830164329332527201090776533817489900267135412990654516667243924 pri_q2 pri_1923133 (by decide +kernel) (by decide +kernel) (by decide +kernel) (by decide +kernel) (by decide +kernel) (by decide +kernel) (by decide +kernel) (by decide +kernel) (by decide +kernel) (by decide +kernel) (by decide +kernel) (by decide +kernel) (by decide +kernel) (by decide +kernel)
theorem pri_P : Pri 57896044618658097711785492504343953926634992332820282019728792003956564819949 :=
  pockc 57896044618658097711785492504343953926634992332820282019728792003956564819949 2 74058212732561358302231226437062788676166966415465897661863160754340907 3 255 57896044618658097711785492504343953926634992332820282019728792003956564819948 781764 19298681539552699237261830834781317975544997444273427339909597334652188273316 427094198651976259540344842774561673889945192655078505504941250475370961481 25380276437079137597092236364571181010632177832931468165172742469126098314552 pri_q1 pri_3 (by decide +kernel) (by decide +kernel) (by decide +kernel) (by decide +kernel) (by decide +kernel) (by decide +kernel) (by decide +kernel) (by decide +kernel) (by decide +kernel) (by decide +kernel) (by decide +kernel) (by decide +kernel) (by decide +kernel) (by decide +kernel)
end Go.Proofs.YtlpchgoaoglhcaaDoor
namespace Go.Proofs.YtlpchgoaoglhcaaDoor
/-- The number of words, the lowest first. -/
def nv : List Nat → Nat
  | [] => 0
  | x :: l => x + 18446744073709551616 * nv l
/-- The four words of a number. -/
def w4 (n : Nat) : List Nat := [n % 18446744073709551616, n / 18446744073709551616 % 18446744073709551616, n / 340282366920938463463374607431768211456 % 18446744073709551616, n / 6277101735386680763835789423207666416102355444464034512896 % 18446744073709551616]
theorem w4_len (n : Nat) : (w4 n).length = 4 := rfl
theorem nv_w4 (n : Nat) (h : n < 115792089237316195423570985008687907853269984665640564039457584007913129639936) : nv (w4 n) = n := by
  simp only [nv, w4]; omega
theorem nv4 (a b c d : Nat) : nv [a, b, c, d] = a + 18446744073709551616 * b + 340282366920938463463374607431768211456 * c + 6277101735386680763835789423207666416102355444464034512896 * d := by
  simp only [nv]; omega
theorem w4_of (a b c d n : Nat) (ha : a < 18446744073709551616) (hb : b < 18446744073709551616) (hc : c < 18446744073709551616) (hd : d < 18446744073709551616) (h : n = a + 18446744073709551616 * b + 340282366920938463463374607431768211456 * c + 6277101735386680763835789423207666416102355444464034512896 * d) : w4 n = [a, b, c, d] := by
  subst h
  unfold w4
  congr 1
  · omega
  congr 1
  · omega
  congr 1
  · omega
  congr 1
  · omega
theorem w4_parts (n : Nat) (h : n < 115792089237316195423570985008687907853269984665640564039457584007913129639936) : ∃ a b c d, a < 18446744073709551616 ∧ b < 18446744073709551616 ∧ c < 18446744073709551616 ∧ d < 18446744073709551616 ∧ n = a + 18446744073709551616 * b + 340282366920938463463374607431768211456 * c + 6277101735386680763835789423207666416102355444464034512896 * d ∧ w4 n = [a, b, c, d] :=
  ⟨n % 18446744073709551616, n / 18446744073709551616 % 18446744073709551616, n / 340282366920938463463374607431768211456 % 18446744073709551616, n / 6277101735386680763835789423207666416102355444464034512896 % 18446744073709551616, by omega, by omega, by omega, by omega, by omega, rfl⟩
theorem w4_lt (n i : Nat) : (w4 n).getD i 0 < 18446744073709551616 := by
  match i with
  | 0 => exact Nat.mod_lt _ (by decide)
  | 1 => exact Nat.mod_lt _ (by decide)
  | 2 => exact Nat.mod_lt _ (by decide)
  | 3 => exact Nat.mod_lt _ (by decide)
  | _ + 4 => show 0 < _; decide
theorem w4_inj {a b : Nat} (ha : a < 115792089237316195423570985008687907853269984665640564039457584007913129639936) (hb : b < 115792089237316195423570985008687907853269984665640564039457584007913129639936) (h : w4 a = w4 b) : a = b := by rw [← nv_w4 a ha, ← nv_w4 b hb, h]
/-- A word is set. -/
theorem nv_set : ∀ (l : List Nat) (k x : Nat), k < l.length → nv (l.set k x) + 18446744073709551616 ^ k * l.getD k 0 = nv l + 18446744073709551616 ^ k * x
  | [], k, x, h => by simp at h
  | y :: l, 0, x, _ => by simp only [List.set_cons_zero, nv, List.getD_cons_zero, Nat.pow_zero]; omega
  | y :: l, k + 1, x, h => by
    have ih := nv_set l k x (by simpa using h)
    simp only [List.set_cons_succ, nv, List.getD_cons_succ, Nat.pow_succ]
    generalize nv (l.set k x) = A at ih ⊢
    generalize nv l = B at ih ⊢
    generalize l.getD k 0 = C at ih ⊢
    generalize 18446744073709551616 ^ k = K at ih ⊢
    have e1 : K * 18446744073709551616 * C = 18446744073709551616 * (K * C) := by rw [Nat.mul_comm K, Nat.mul_assoc]
    have e2 : K * 18446744073709551616 * x = 18446744073709551616 * (K * x) := by rw [Nat.mul_comm K, Nat.mul_assoc]
    rw [e1, e2]
    generalize K * C = U at ih ⊢
    generalize K * x = V at ih ⊢
    omega
/-- The number of bytes, the lowest first. -/
def le : List UInt8 → Nat
  | [] => 0
  | x :: l => x.toNat + 256 * le l
/-- So many bytes of a number. -/
def bn : Nat → Nat → List UInt8
  | 0, _ => []
  | k + 1, n => UInt8.ofNat (n % 256) :: bn k (n / 256)
theorem bn_len : ∀ k n, (bn k n).length = k
  | 0, _ => rfl
  | k + 1, n => by rw [bn, List.length_cons, bn_len k]
theorem le_bn : ∀ k n, le (bn k n) = n % 256 ^ k
  | 0, n => by rw [Nat.pow_zero, Nat.mod_one]; rfl
  | k + 1, n => by
    rw [bn, le, le_bn k, UInt8.toNat_ofNat', Nat.mod_eq_of_lt (Nat.mod_lt _ (by decide)), Nat.pow_succ, Nat.mul_comm (256 ^ k) 256, Nat.mod_mul]
theorem bn_le : ∀ l : List UInt8, bn l.length (le l) = l
  | [] => rfl
  | x :: l => by
    have hx := x.toNat_lt
    rw [List.length_cons, bn, le]
    have e1 : (x.toNat + 256 * le l) % 256 = x.toNat := by omega
    have e2 : (x.toNat + 256 * le l) / 256 = le l := by omega
    rw [e1, e2, bn_le l]
    simp
theorem le_lt : ∀ l : List UInt8, le l < 256 ^ l.length
  | [] => by decide
  | x :: l => by
    have hx := x.toNat_lt
    have := le_lt l
    rw [List.length_cons, le, Nat.pow_succ]
    omega
theorem bn_get : ∀ k n i : Nat, i < k → (bn k n).getD i 0 = UInt8.ofNat (n / 256 ^ i % 256)
  | 0, _, _, h => absurd h (Nat.not_lt_zero _)
  | k + 1, n, 0, _ => by rw [bn, List.getD_cons_zero, Nat.pow_zero, Nat.div_one]
  | k + 1, n, i + 1, h => by rw [bn, List.getD_cons_succ, bn_get k _ i (by omega), Nat.div_div_eq_div_mul, Nat.pow_succ, Nat.mul_comm 256]
theorem le_get : ∀ (l : List UInt8) (i : Nat), le l / 256 ^ i % 256 = (l.getD i 0).toNat
  | [], i => by simp [le]
  | x :: l, 0 => by have hx := x.toNat_lt; rw [Nat.pow_zero, Nat.div_one, le, List.getD_cons_zero]; omega
  | x :: l, i + 1 => by
    have hx := x.toNat_lt
    rw [List.getD_cons_succ, ← le_get l i, le, Nat.pow_succ, Nat.mul_comm (256 ^ i), ← Nat.div_div_eq_div_mul]
    congr 2
    omega
/-- Thirty-two bytes of a number. -/
def b32 (n : Nat) : List UInt8 := bn 32 n
theorem b32_len (n : Nat) : (b32 n).length = 32 := bn_len 32 n
theorem le_b32 (n : Nat) (h : n < 115792089237316195423570985008687907853269984665640564039457584007913129639936) : le (b32 n) = n := by
  unfold b32; rw [le_bn]; exact Nat.mod_eq_of_lt h
theorem b32_le (l : List UInt8) (h : l.length = 32) : b32 (le l) = l := by
  unfold b32; rw [← h]; exact bn_le l
theorem le_32 (l : List UInt8) (h : l.length = 32) : le l < 115792089237316195423570985008687907853269984665640564039457584007913129639936 := by
  have := le_lt l; rw [h] at this; exact this
theorem b32_inj {a b : Nat} (ha : a < 115792089237316195423570985008687907853269984665640564039457584007913129639936) (hb : b < 115792089237316195423570985008687907853269984665640564039457584007913129639936) (h : b32 a = b32 b) : a = b := by rw [← le_b32 a ha, ← le_b32 b hb, h]
theorem b32_get (n i : Nat) (h : i < 32) : (b32 n).getD i 0 = UInt8.ofNat (n / 256 ^ i % 256) := bn_get 32 n i h
/-- A word of a number, and its eight bytes. -/
def wd (n i : Nat) : Nat := n / 18446744073709551616 ^ i % 18446744073709551616
theorem w4_wd (n : Nat) : w4 n = (List.range 4).map (wd n) := by
  unfold w4 wd
  simp only [List.range, List.range.loop, List.map, Nat.pow_zero, Nat.div_one, Nat.pow_one]
theorem w4_get (n i : Nat) (h : i < 4) : (w4 n).getD i 0 = wd n i := by
  rw [w4_wd]
  simp [List.getD_eq_getElem?_getD, h]
theorem wd_byte (n i j : Nat) (h : j < 8) : wd n i / 2 ^ (8 * j) % 256 = n / 256 ^ (8 * i + j) % 256 := by
  unfold wd
  have e1 : 18446744073709551616 = 256 ^ 8 := by decide
  have e2 : (2 : Nat) ^ (8 * j) = 256 ^ j := by rw [Nat.pow_mul]
  rw [e2, e1, ← Nat.pow_mul]
  generalize hm : n / 256 ^ (8 * i) = m
  rw [Nat.pow_add, ← Nat.div_div_eq_div_mul, hm, show (256 : Nat) ^ 8 = 256 ^ j * 256 ^ (8 - j) by rw [← Nat.pow_add]; congr 1; omega, Nat.mod_mul_right_div_self]
  have e3 : (256 : Nat) ^ (8 - j) = 256 * 256 ^ (7 - j) := by rw [Nat.mul_comm, ← Nat.pow_succ]; congr 1; omega
  rw [e3, Nat.mod_mul_right_mod]
theorem by8 (m m1 m2 m3 m4 m5 m6 m7 m8 r0 r1 r2 r3 r4 r5 r6 r7 : Nat) (e0 : m = r0 + 256 * m1) (e1 : m1 = r1 + 256 * m2) (e2 : m2 = r2 + 256 * m3) (e3 : m3 = r3 + 256 * m4) (e4 : m4 = r4 + 256 * m5) (e5 : m5 = r5 + 256 * m6) (e6 : m6 = r6 + 256 * m7) (e7 : m7 = r7 + 256 * m8)
    (h0 : r0 < 256) (h1 : r1 < 256) (h2 : r2 < 256) (h3 : r3 < 256) (h4 : r4 < 256) (h5 : r5 < 256) (h6 : r6 < 256) (h7 : r7 < 256) :
    m % 18446744073709551616 = r0 + 256 * r1 + 65536 * r2 + 16777216 * r3 + 4294967296 * r4 + 1099511627776 * r5 + 281474976710656 * r6 + 72057594037927936 * r7 := by
  have e : m = (r0 + 256 * r1 + 65536 * r2 + 16777216 * r3 + 4294967296 * r4 + 1099511627776 * r5 + 281474976710656 * r6 + 72057594037927936 * r7) + 18446744073709551616 * m8 := by omega
  have hl : r0 + 256 * r1 + 65536 * r2 + 16777216 * r3 + 4294967296 * r4 + 1099511627776 * r5 + 281474976710656 * r6 + 72057594037927936 * r7 < 18446744073709551616 := by omega
  rw [e, Nat.add_mul_mod_self_left, Nat.mod_eq_of_lt hl]
theorem le_next (l : List UInt8) (i : Nat) : le l / 256 ^ i = (l.getD i 0).toNat + 256 * (le l / 256 ^ (i + 1)) := by
  rw [← le_get l i, Nat.pow_succ, ← Nat.div_div_eq_div_mul]
  omega
/-- A word out of eight bytes. -/
theorem wd_of (l : List UInt8) (i : Nat) : wd (le l) i = (l.getD (8 * i) 0).toNat + 256 * (l.getD (8 * i + 1) 0).toNat + 65536 * (l.getD (8 * i + 2) 0).toNat + 16777216 * (l.getD (8 * i + 3) 0).toNat + 4294967296 * (l.getD (8 * i + 4) 0).toNat + 1099511627776 * (l.getD (8 * i + 5) 0).toNat + 281474976710656 * (l.getD (8 * i + 6) 0).toNat + 72057594037927936 * (l.getD (8 * i + 7) 0).toNat := by
  unfold wd
  rw [show 18446744073709551616 ^ i = 256 ^ (8 * i) by rw [Nat.pow_mul]]
  exact by8 _ _ _ _ _ _ _ _ _ _ _ _ _ _ _ _ _ (le_next l (8 * i)) (le_next l (8 * i + 1)) (le_next l (8 * i + 2)) (le_next l (8 * i + 3)) (le_next l (8 * i + 4)) (le_next l (8 * i + 5)) (le_next l (8 * i + 6)) (le_next l (8 * i + 7)) (UInt8.toNat_lt _) (UInt8.toNat_lt _) (UInt8.toNat_lt _) (UInt8.toNat_lt _) (UInt8.toNat_lt _) (UInt8.toNat_lt _) (UInt8.toNat_lt _) (UInt8.toNat_lt _)
end Go.Proofs.YtlpchgoaoglhcaaDoor
namespace Go.Proofs.YtlpchgoaoglhcaaDoor
open Go.RowKit
theorem Calls.quiet_eq2 {P : Program} {f : FuncId} {args : Array Value} {w : World} {m n : Nat} {v : Value} (h : Calls P f args (w.drewN (m + n)) fun e w' => e = .returned v ∧ w' = w.drewN (m + n)) :
    Calls P f args (w.drewN (m + n)) fun e w'' => e = .returned v ∧ ∃ k, w'' = w.drewN (m + k) := h.mono fun _ _ ⟨he, hm⟩ => ⟨he, n, hm⟩
theorem wraps_u64 (n : Int) (h₀ : 0 ≤ n) (h₁ : n < 2 ^ 64) : IntKind.u64.wrap n = n := by rw [IntKind.wrap_u64]; omega
structure Stop (p : Prop) : Prop where
  out : p
/-- Numbers of a kind, as cells. -/
def nums (k : IntKind) (l : List Nat) : Array Value := (l.map fun n : Nat => Value.int k (n : Int)).toArray
@[simp] theorem size_nums (k : IntKind) (l : List Nat) : (nums k l).size = l.length := by simp [nums]
theorem nums_one (k : IntKind) (l : List Nat) : (nums k l).all (·.oneCell') = true := by
  simp [nums, Value.oneCell']
/-- So many noughts. -/
def zer (n : Nat) : List Nat := List.replicate n 0
theorem zer_len (n : Nat) : (zer n).length = n := List.length_replicate
/-- Block b holds these numbers, and nothing more. -/
def RW (w : World) (b : Nat) (k : IntKind) (t : TypeId) (l : List Nat) : Prop := w.heap[b]? = some (.cells (nums k l) t (0, 0))
theorem RW.cell {w : World} {b i : Nat} {k : IntKind} {t : TypeId} {l : List Nat} (h : RW w b k t l) (hi : i < l.length) : w.cell? ⟨b, i, none⟩ = some (.int k ((l.getD i 0 : Nat) : Int)) := by
  rw [cell_of_row _ _ _ _ _ _ h]
  simp [nums, List.getElem?_eq_getElem hi]
theorem RW.frozen {w : World} {b : Nat} {k : IntKind} {t : TypeId} {l : List Nat} (h : RW w b k t l) (i : Nat) : w.frozen? ⟨b, i, none⟩ = false := frozen_of_row _ _ _ _ _ h
theorem RW.set {w : World} {b i : Nat} {k : IntKind} {t : TypeId} {l : List Nat} (h : RW w b k t l) (x : Nat) : RW (w.setCell ⟨b, i, none⟩ (.int k (x : Int))) b k t (l.set i x) := by
  unfold RW
  rw [setCell_cells _ h]
  congr 2
  apply Array.ext'
  simp [nums, List.map_set]
theorem RW.drew {w : World} {b : Nat} {k : IntKind} {t : TypeId} {l : List Nat} (h : RW w b k t l) : RW w.drew b k t l := h
theorem RW.other {w w' : World} {b : Nat} {k : IntKind} {t : TypeId} {l : List Nat} (h : RW w b k t l) (hb : w'.heap[b]? = w.heap[b]?) : RW w' b k t l := hb.trans h
theorem RW.lt {w : World} {b : Nat} {k : IntKind} {t : TypeId} {l : List Nat} (h : RW w b k t l) : b < w.heap.size := (Array.getElem?_eq_some_iff.1 h).1
theorem BelowX.set1 {w : World} {b : Nat} (B i : Nat) (v : Value) : BelowX B b w (w.setCell ⟨b, i, none⟩ v) :=
  ⟨rfl, rfl, rfl, by show _ ≤ (w.heap.modify b _).size; rw [Array.size_modify]; exact Nat.le_refl _, fun _ _ h => setCell_other v h⟩
theorem BelowX.set8 {w : World} {b B : Nat} (_ : b < B) (v0 v1 v2 v3 v4 v5 v6 v7 : Value) : BelowX B b w ((((((((w.setCell ⟨b, 0, none⟩ v0).setCell ⟨b, 1, none⟩ v1).setCell ⟨b, 2, none⟩ v2).setCell ⟨b, 3, none⟩ v3).setCell ⟨b, 4, none⟩ v4).setCell ⟨b, 5, none⟩ v5).setCell ⟨b, 6, none⟩ v6).setCell ⟨b, 7, none⟩ v7) :=
  (((((((BelowX.set1 _ _ _).trans (BelowX.set1 _ _ _)).trans (BelowX.set1 _ _ _)).trans (BelowX.set1 _ _ _)).trans (BelowX.set1 _ _ _)).trans (BelowX.set1 _ _ _)).trans (BelowX.set1 _ _ _)).trans (BelowX.set1 _ _ _)
/-- An element of an array by value, whose elements take one cell each. -/
theorem index_arr {P : Program} (w : World) (t e : TypeId) (n : Nat) (cs : Array Value) (k : IntKind) (i : Nat) (v : Value) (h : P.underlying t = some (.array n e)) (hs : (sizeOf e).run P w = .ok 1 w) (ha : (isAgg e).run P w = .ok false w) (hi : i < n) (hv : cs[i]? = some v) :
    (Instr.index t (.agg cs) (.int k (i : Int))).run P w = .ok v w := by
  have hn : (0 : Int) ≤ (i : Int) ∧ (i : Int) < (n : Int) := by omega
  simp [Instr.index, run_underlying h, asIntOf, hn, go_sem, hs, ha, part, hv, hi]
theorem Below.setRow {B g : Nat} {u v : World} (h : Below B u v) (hg : B ≤ g) (cs : Array Value) : Below B u (v.setRow g cs) :=
  ⟨h.os, h.tape, h.output, by rw [setRow_size]; exact h.size, fun k hk => by rw [setRow_other _ _ _ _ (by omega)]; exact h.block k hk⟩
/-- A whole array out of a part of a block. -/
theorem run_load_part {P : Program} (w : World) (g off : Nat) (ty : TypeId) (cs : Array Value) (d : TypeDesc) (hc : ∀ j v, cs.toList[j]? = some v → w.cell? ⟨g, off + j, none⟩ = some v)
    (hu : P.underlying ty = some d) (hd : (match d with | .struct _ | .array _ _ => true | _ => false) = true) (hi : (P.info? ty).map (·.size) = some cs.size) :
    (loadVar ty ⟨g, off, none⟩).run P w = .ok (.agg cs) w := by
  have hl : (loadCells ⟨g, off, none⟩ cs.toList.length).run P w = .ok cs.toList.toArray w :=
    run_loadCells_list (P := P) w ⟨g, off, none⟩ cs.toList (fun j v hv => by
      have hadd : (⟨g, off, none⟩ : Addr).add j = ⟨g, off + j, none⟩ := by unfold Addr.add; split <;> simp_all
      rw [hadd]
      exact hc j v hv)
  cases hq : P.info? ty with
  | none => simp [hq] at hi
  | some i =>
    have hs : i.size = cs.size := by simpa [hq] using hi
    have hagg : (isAgg ty).run P w = .ok true w := by
      unfold isAgg
      rw [Sem.run_bind, run_underlying hu w]
      cases d <;> simp_all
    simp only [Array.length_toList, Array.toArray_toList] at hl
    simp [loadVar, Sem.run_bind, hagg, sizeOf, typeInfo, hq, hs, hl]
theorem wpList_load_part {P : Program} {ops : Array Oper} {rest : List Oper} {o : Oper} {a : Act} {w : World} {Q : Exit → Act → World → Prop} (hgd : o.guard = none) (ty : TypeId) (x : Operand) (ho : o.op = .load ty x)
    (g off : Nat) (hx : a.eval x = .pointer (some ⟨g, off, none⟩)) (cs : Array Value) (d : TypeDesc) (hc : ∀ j v, cs.toList[j]? = some v → w.cell? ⟨g, off + j, none⟩ = some v)
    (hu : P.underlying ty = some d) (hd : (match d with | .struct _ | .array _ _ => true | _ => false) = true) (hi : (P.info? ty).map (·.size) = some cs.size)
    (h : wpList P ops Q rest (a.put o.dst (.agg cs)) w) : wpList P ops Q (o :: rest) a w :=
  wpList_plain hgd fun _ hK => by
    unfold Oper.wp execOp
    simp only [ho, hx, Instr.loadAt, Instr.sureAddr, Sem.run_bind, Sem.run_pure, Result.andThen_ok, run_load_part w g off ty cs d hc hu hd hi]
    exact hK _ _ h
/-- Block b holds these bytes, as an array of type t. -/
def BT (w : World) (b : Nat) (t : TypeId) (l : List UInt8) : Prop := w.heap[b]? = some (.cells (byteVals l).toArray t (0, 0))
def zerB (n : Nat) : List UInt8 := List.replicate n 0
theorem zerB_len (n : Nat) : (zerB n).length = n := List.length_replicate
theorem size_byteVals (l : List UInt8) : (byteVals l).toArray.size = l.length := by simp [byteVals]
theorem byteVals_one (l : List UInt8) : (byteVals l).toArray.all (·.oneCell') = true := by simp [byteVals, Value.oneCell']
theorem BT.cell {w : World} {b i : Nat} {t : TypeId} {l : List UInt8} (h : BT w b t l) (hi : i < l.length) : w.cell? ⟨b, i, none⟩ = some (.int .u8 ((l.getD i 0).toNat : Int)) := by
  rw [cell_of_row _ _ _ _ _ _ h]
  simp [byteVals, List.getElem?_eq_getElem hi]
theorem BT.frozen {w : World} {b : Nat} {t : TypeId} {l : List UInt8} (h : BT w b t l) (i : Nat) : w.frozen? ⟨b, i, none⟩ = false := frozen_of_row _ _ _ _ _ h
theorem BT.set {w : World} {b i : Nat} {t : TypeId} {l : List UInt8} (h : BT w b t l) (x : UInt8) : BT (w.setCell ⟨b, i, none⟩ (.int .u8 (x.toNat : Int))) b t (l.set i x) := by
  unfold BT
  rw [setCell_cells _ h]
  congr 2
  apply Array.ext'
  simp [byteVals, List.map_set]
theorem BT.other {w w' : World} {b : Nat} {t : TypeId} {l : List UInt8} (h : BT w b t l) (hb : w'.heap[b]? = w.heap[b]?) : BT w' b t l := hb.trans h
theorem fill_set {α : Type} (f : Nat → α) (z : α) (k m : Nat) : ((List.range k).map f ++ List.replicate (m + 1) z).set k (f k) = (List.range (k + 1)).map f ++ List.replicate m z := by
  rw [List.replicate_succ, List.set_append_right _ _ (by simp), List.range_succ]
  simp
theorem wpList_build' {P : Program} {ops : Array Oper} {rest : List Oper} {o : Oper} {a : Act} {w : World} {Q : Exit → Act → World → Prop} (hg : o.guard = none) (t : TypeId) (parts : Array (Nat × Operand)) (ho : o.op = .build t parts) (cells : Array Value)
    (hf : P.built t (parts.map fun (i, x) => (i, a.eval x)).toList = some cells)
    (h : wpList P ops Q rest (a.put o.dst (.agg cells)) w) : wpList P ops Q (o :: rest) a w :=
  wpList_build hg t parts ho (by rw [hf]; rfl) (by rw [hf]; exact h)
theorem alloc2_at (w : World) (o1 o2 : Obj) : ((w.alloc o1).alloc o2).heap[w.heap.size]? = some o1 ∧ ((w.alloc o1).alloc o2).heap[w.heap.size + 1]? = some o2 :=
  ⟨(Go.heap_alloc_old _ _ (by simp)).trans (Go.heap_alloc_new _ _), by have := Go.heap_alloc_new (w.alloc o1) o2; simpa using this⟩
theorem alloc3_at (w : World) (o1 o2 o3 : Obj) : (((w.alloc o1).alloc o2).alloc o3).heap[w.heap.size]? = some o1 ∧ (((w.alloc o1).alloc o2).alloc o3).heap[w.heap.size + 1]? = some o2 ∧ (((w.alloc o1).alloc o2).alloc o3).heap[w.heap.size + 1 + 1]? = some o3 := by
  refine ⟨?_, ?_, ?_⟩
  · show (((w.heap.push _).push _).push _)[w.heap.size]? = _
    rw [Array.getElem?_push_lt (by simp; omega), Array.getElem_push_lt (by simp), Array.getElem_push_eq]
  · show (((w.heap.push _).push _).push _)[w.heap.size + 1]? = _
    rw [Array.getElem?_push_lt (by simp)]
    simp [Array.getElem_push]
  · show (((w.heap.push _).push _).push _)[w.heap.size + 1 + 1]? = _
    rw [show w.heap.size + 1 + 1 = ((w.heap.push o1).push o2).size by simp, Array.getElem?_push_size]
theorem Below.alloc3 (w : World) (o1 o2 o3 : Obj) : Below w.heap.size w (((w.alloc o1).alloc o2).alloc o3) :=
  (((Below.refl _ w).alloc (Nat.le_refl _) o1).alloc (by simp) o2).alloc (by simp; omega) o3
theorem results_cell_slot {P : Program} {fn : Func} {p q : Tmp} {ty : TypeId} (h : fn.results = #[.cell p ty, .tmp q]) (tmps : Array Value) (w : World) (g : Nat) (t : TypeId) (cs : Array Value) (fr : Nat × Nat) (d : TypeDesc) (v : Value)
    (hp : tmps.getD p undef = .pointer (some ⟨g, 0, none⟩)) (hg : w.heap[g]? = some (.cells cs t fr))
    (hu : P.underlying ty = some d) (hd : (match d with | .struct _ | .array _ _ => true | _ => false) = true) (hi : (P.info? ty).map (·.size) = some cs.size) (hv : tmps.getD q undef = v) :
    (results fn tmps).run P w = .ok (.tuple #[.agg cs, v]) w := by
  have hp' : tmps[p]?.getD undef = .pointer (some ⟨g, 0, none⟩) := by simpa using hp
  have hv' : tmps[q]?.getD undef = v := by simpa using hv
  simp [results, h, hp', hv', asAddr, run_loadVar_row w g t ty cs fr d hg hu hd hi]
/-- The carry of a difference. -/
def bor (x y : Nat) : Nat := if x < y then 1 else 0
theorem bor_le (x y : Nat) : bor x y ≤ 1 := by unfold bor; split <;> omega
def sub64E : Array Value → Sem Value := fun args => do
  let (x, y, b) ← Extern.MathBitsCarry.three "Sub64" args
  pure (Extern.MathBitsCarry.pair ((x + Extern.MathBitsCarry.m64 - y - b) % Extern.MathBitsCarry.m64) (if x < y + b then 1 else 0))
theorem run_sub64' {P : Program} (x y b : Nat) (hb : b ≤ 1) (w : World) :
    (sub64E #[.int .u64 x, .int .u64 y, .int .u64 b]).run P w = .ok (.tuple #[.int .u64 (((x + 18446744073709551616 - y - b) % 18446744073709551616 : Nat) : Int), .int .u64 ((bor x (y + b) : Nat) : Int)]) w := by
  have : b = 0 ∨ b = 1 := by omega
  rcases this with rfl | rfl <;> rfl
theorem add64 (x y c s d : Nat) (hc : c ≤ 1) (hs : x + y + c = s + 18446744073709551616 * d) (hl : s < 18446744073709551616) (w : World) :
    (callFunc 86 #[.int .u64 x, .int .u64 y, .int .u64 c]).run Tryd.prog w = .ok (.value (.tuple #[.int .u64 (s : Int), .int .u64 (d : Int)])) w := by
  rw [run_callFunc_extern Tryd.func86 (by kernel_rfl) (by kernel_rfl) (by kernel_rfl) (e := add64Entry) (by kernel_rfl), run_add64 x y c (by omega) (by omega) (by omega) (by omega)]
  simp only [Result.andThen]
  have e1 : ((x : Int) + y + c) % 18446744073709551616 = s := by omega
  have e2 : ((x : Int) + y + c) / 18446744073709551616 = d := by omega
  rw [e1, e2]
theorem add64_0 (x y s d : Nat) (hs : x + y = s + 18446744073709551616 * d) (hl : s < 18446744073709551616) (w : World) :
    (callFunc 86 #[.int .u64 x, .int .u64 y, .int .u64 0]).run Tryd.prog w = .ok (.value (.tuple #[.int .u64 (s : Int), .int .u64 (d : Int)])) w :=
  add64 x y 0 s d (by decide) (by omega) hl w
theorem sub64 (x y b s d : Nat) (hb : b ≤ 1) (hs : x + 18446744073709551616 * d = s + y + b) (hl : s < 18446744073709551616) (hy : y < 18446744073709551616) (hx : x < 18446744073709551616) (hd : d ≤ 1) (w : World) :
    (callFunc 102 #[.int .u64 x, .int .u64 y, .int .u64 b]).run Tryd.prog w = .ok (.value (.tuple #[.int .u64 (s : Int), .int .u64 (d : Int)])) w := by
  rw [run_callFunc_extern Tryd.func102 (by kernel_rfl) (by kernel_rfl) (by kernel_rfl) (e := sub64E) (by kernel_rfl), run_sub64' x y b hb]
  simp only [Result.andThen]
  have e1 : (x + 18446744073709551616 - y - b) % 18446744073709551616 = s := by omega
  have e2 : bor x (y + b) = d := by unfold bor; split <;> omega
  rw [e1, e2]
theorem maskN (a : Nat) (ha : a < 18446744073709551616) : bits .and .u64 (a : Int) 4294967295 = ((a % 4294967296 : Nat) : Int) := by
  have := bits_mask .u64 64 (by decide) wraps_u64 32 (by decide) (a : Int) (by omega) (by omega)
  rw [show (4294967295 : Int) = 2 ^ 32 - 1 by decide, this]
  omega
theorem divN (a : Nat) : (a : Int) / 4294967296 = ((a / 4294967296 : Nat) : Int) := by omega
theorem mulN (a b : Nat) : (a : Int) * (b : Int) = ((a * b : Nat) : Int) := (Int.natCast_mul a b).symm
theorem addN (a b : Nat) : (a : Int) + (b : Int) = ((a + b : Nat) : Int) := (Int.natCast_add a b).symm
theorem wrapN (a : Nat) (ha : a < 18446744073709551616) : IntKind.u64.wrap (a : Int) = (a : Int) := by rw [IntKind.wrap_u64]; omega
theorem wrapM (a : Nat) : IntKind.u64.wrap (a : Int) = ((a % 18446744073709551616 : Nat) : Int) := by rw [IntKind.wrap_u64]; omega
set_option maxRecDepth 100000 in
set_option maxHeartbeats 1000000 in
theorem mul64_any (x y : Nat) (hx : x < 18446744073709551616) (hy : y < 18446744073709551616) (w : World) :
    Calls Tryd.prog 101 #[.int .u64 x, .int .u64 y] w fun e w' => e = .returned (.tuple #[.int .u64 ((x * y / 18446744073709551616 : Nat) : Int), .int .u64 ((x * y % 18446744073709551616 : Nat) : Int)]) ∧ w' = w := by
  obtain ⟨bd, bt, bw, hhi⟩ := Lib.mul64_hi x y hx hy
  have ba := Lib.half_mul_le (a := x / 4294967296) (b := y / 4294967296) (by omega) (by omega)
  have bb := Lib.half_mul_le (a := x / 4294967296) (b := y % 4294967296) (by omega) (by omega)
  have bc := Lib.half_mul_le (a := x % 4294967296) (b := y / 4294967296) (by omega) (by omega)
  have ba' : x / 4294967296 * (y / 4294967296) < 18446744073709551616 := by omega
  have bb' : x / 4294967296 * (y % 4294967296) < 18446744073709551616 := by omega
  have bc' : x % 4294967296 * (y / 4294967296) < 18446744073709551616 := by omega
  have bh1 : x / 4294967296 * (y / 4294967296) + (x / 4294967296 * (y % 4294967296) + x % 4294967296 * (y % 4294967296) / 4294967296) / 4294967296 < 18446744073709551616 := by omega
  have bh : x / 4294967296 * (y / 4294967296) + (x / 4294967296 * (y % 4294967296) + x % 4294967296 * (y % 4294967296) / 4294967296) / 4294967296 + ((x / 4294967296 * (y % 4294967296) + x % 4294967296 * (y % 4294967296) / 4294967296) % 4294967296 + x % 4294967296 * (y / 4294967296)) / 4294967296 < 18446744073709551616 := by omega
  have H1 := Lib.hid (And.intro bd (And.intro bb' (And.intro bt (And.intro bc' (And.intro bw (And.intro ba' (And.intro bh1 bh)))))))
  have HX := Lib.hid (And.intro hx hy)
  have HH := Lib.hid hhi
  clear bd bt bw hhi ba bb bc ba' bb' bc' bh1 bh hx hy
  go_enter Tryd.func101, Tryd.ntmps101
  go_wp2
  simp only [maskN x HX.out.1, maskN y HX.out.2, divN, mulN, addN, wrapN _ H1.out.1, wrapN _ H1.out.2.1, wrapN _ H1.out.2.2.1, maskN _ H1.out.2.2.1, wrapN _ H1.out.2.2.2.1, wrapN _ H1.out.2.2.2.2.1, wrapN _ H1.out.2.2.2.2.2.1, wrapN _ H1.out.2.2.2.2.2.2.1, wrapN _ H1.out.2.2.2.2.2.2.2, wrapM (x * y)]
  rw [HH.out]
  go_ret2
  exact ⟨rfl, rfl⟩
end Go.Proofs.YtlpchgoaoglhcaaDoor
namespace Go.Proofs.YtlpchgoaoglhcaaDoor
open Go.RowKit
theorem mul_lt64 {a b : Nat} (ha : a < 18446744073709551616) (hb : b < 18446744073709551616) : a * b ≤ 340282366920938463426481119284349108225 := by
  have := Nat.mul_le_mul (show a ≤ 18446744073709551615 by omega) (show b ≤ 18446744073709551615 by omega)
  exact this
set_option maxRecDepth 100000 in
set_option maxHeartbeats 1000000 in
theorem mulAdd_any (a b c d lo hi : Nat) (w : World) (ha : a < 18446744073709551616) (hb : b < 18446744073709551616) (hc : c < 18446744073709551616) (hd : d < 18446744073709551616) (hl : lo < 18446744073709551616) (h : a * b + c + d = lo + 18446744073709551616 * hi) :
    Calls Tryd.prog 108 #[.int .u64 a, .int .u64 b, .int .u64 c, .int .u64 d] w fun e w' => e = .returned (.tuple #[.int .u64 (lo : Int), .int .u64 (hi : Int)]) ∧ w' = w := by
  have hm := mul_lt64 ha hb
  have M := Lib.hid (mul64_any a b ha hb w)
  obtain ⟨p, hp⟩ : ∃ p, a * b = p := ⟨_, rfl⟩
  rw [hp] at hm h M
  obtain ⟨l1, hl1⟩ : ∃ x, p % 18446744073709551616 = x := ⟨_, rfl⟩
  obtain ⟨h1, hh1⟩ : ∃ x, p / 18446744073709551616 = x := ⟨_, rfl⟩
  rw [hl1, hh1] at M
  obtain ⟨s1, hs1⟩ : ∃ x, (l1 + c) % 18446744073709551616 = x := ⟨_, rfl⟩
  obtain ⟨c1, hc1⟩ : ∃ x, (l1 + c) / 18446744073709551616 = x := ⟨_, rfl⟩
  obtain ⟨c2, hc2⟩ : ∃ x, (s1 + d) / 18446744073709551616 = x := ⟨_, rfl⟩
  have A1 := Lib.hid (fun w => add64_0 l1 c s1 c1 (by omega) (by omega) w)
  have A2 := Lib.hid (fun w => add64_0 s1 d lo c2 (by omega) (by omega) w)
  have W1 := Lib.hid (show IntKind.u64.wrap ((h1 : Int) + c1) = ((h1 + c1 : Nat) : Int) by rw [IntKind.wrap_u64]; omega)
  have W2 := Lib.hid (show IntKind.u64.wrap (((h1 + c1 : Nat) : Int) + c2) = (hi : Int) by rw [IntKind.wrap_u64]; omega)
  generalize h1 + c1 = h2 at W1 W2
  clear ha hb hc hd hl h hm hp hl1 hh1 hs1 hc1 hc2
  go_enter Tryd.func108, Tryd.ntmps108
  go_wp2_with fail
  refine M.out.mono ?_
  rintro e w' ⟨rfl, hw⟩
  rw [hw]
  have w1 := W1.out
  have w2 := W2.out
  have a1 := A1.out
  have a2 := A2.out
  go_wp2
  go_ret2
  exact ⟨rfl, rfl⟩
end Go.Proofs.YtlpchgoaoglhcaaDoor
