/-
  Rows of bytes; the text that grows by one sign (a block of two cells), and its method 'add'.
  Conditions: none.
-/
import Derived.Test.YtnbonoallcjlbaaBaB
import Derived.WalkSpells
import Derived.WalkLawsBesides
import Derived.Deep.QuietTactic
import Derived.BigQuiet
import Derived.Lib.Hide
import Derived.Lib.AppendStr
import Derived.Laws.BytesArg
import Derived.Deep.AppendLies
import Derived.Deep.RegionLaw
namespace Go.Proofs.Ytnbonoallcjlbaa
open Go.RowKit

theorem info_u8 : (Try.prog.info? 5).map (fun i => (i.zero, i.size, i.bytes)) = some (some (.int .u8 0), 1, 1) := by kernel_rfl

def byteVals (xs : List UInt8) : List Value := xs.map fun b => Value.int .u8 (b.toNat : Int)
/-- The slice value v owns the bytes xs, among the blocks from B on. -/
def Owns (w : World) (B : Nat) (v : Value) (xs : List UInt8) : Prop := w.ownsRow B 5 1 v xs.length (byteVals xs)

theorem Owns.toStr {w : World} {B : Nat} {v : Value} {xs : List UInt8} (h : Owns w B v xs) : (convert 24 9 v).run Try.prog w = .ok (.string ⟨xs.toArray⟩) w := by
  obtain ⟨h1, h2⟩ := h
  have hm : strOfNums (xs.map fun b => (b.toNat : Int)) = ⟨xs.toArray⟩ := by
    unfold strOfNums
    congr 2
    rw [List.map_map]
    conv => rhs; rw [← List.map_id xs]
    apply List.map_congr_left
    intro a _
    simp
  rcases h2 with ⟨rfl, hn⟩ | ⟨g, cap, cur, rfl, hg, hh, hnc, hcm, hcs, htake⟩
  · have hx : xs = [] := List.eq_nil_of_length_eq_zero hn
    subst hx
    exact run_convert_bytes_nil w 24 5 Try.underlying24 Try.underlying5 0 0 9 Try.underlying9
  · rw [← hm]
    refine run_convert_bytes_arg w 24 5 Try.underlying24 Try.underlying5 g 0 xs.length cap (xs.map fun b => (b.toNat : Int)) (by simp) (fun i hi => ?_) 9 Try.underlying9
    have e : (cur.toList.take (xs.length * 1))[i]? = (byteVals xs)[i]? := by rw [htake]
    rw [List.getElem?_take, if_pos (by omega)] at e
    simp only [World.cell?, hh, Nat.zero_add]
    simp only [Option.isSome_none, Bool.false_eq_true, if_false]
    rw [← Array.getElem?_toList, e]
    simp [byteVals, List.getD, List.getElem?_map, List.getElem?_eq_getElem hi]

theorem news_at (w : World) (ys : List UInt8) (j : Nat) (u : Value) (h : (byteVals ys)[j]? = some u) : (w.alloc (.cells (byteVals ys).toArray 5)).cell? ((⟨w.heap.size, 0, none⟩ : Addr).add j) = some u := by
  have hplain : (⟨w.heap.size, 0, none⟩ : Addr).add j = ⟨w.heap.size, 0 + j, none⟩ := by unfold Addr.add; split <;> simp_all
  rw [hplain, Nat.zero_add]
  have hb : (w.alloc (.cells (byteVals ys).toArray 5)).heap[w.heap.size]? = some (.cells (byteVals ys).toArray 5) := by
    show (w.heap.push _)[w.heap.size]? = _
    simp
  simp only [World.cell?, hb]
  simpa using h
theorem news_one (ys : List UInt8) : ∀ u ∈ byteVals ys, u.oneCell' = true := by
  intro u hu
  simp only [byteVals, List.mem_map] at hu
  obtain ⟨b, _, rfl⟩ := hu
  rfl
theorem Owns.of_append {w : World} {B : Nat} {v : Value} {xs ys zs : List UInt8} {n : Nat} (h : w.ownsRow B 5 1 v (xs.length + n) (byteVals xs ++ byteVals ys)) (hn : ys.length = n) (hz : zs = xs ++ ys) : Owns w B v zs := by
  subst hn hz
  unfold Owns
  rw [List.length_append]
  simpa [byteVals] using h
theorem Below.of_append {w w' : World} {B : Nat} {v : Value} {xs : List UInt8} {o : Obj} (hB : B ≤ w.heap.size) (hown : Owns w B v xs) (hg : (w.alloc o).grownBy w' v.ownBlock) : Below B w w' := by
  refine ((Below.refl B w).alloc hB o).grown hg (by simp; omega) (fun k hk => ?_)
  rcases hown.2 with ⟨rfl, _⟩ | ⟨g, cap, cur, rfl, hg, _⟩
  · simp [Value.ownBlock] at hk
  · simp [Value.ownBlock] at hk; omega

theorem Below.of_append_drew {w w' : World} {B : Nat} {v : Value} {xs : List UInt8} {o : Obj} (hB : B ≤ w.heap.size) (hown : Owns w B v xs) (hg : (w.alloc o).drew.grownBy w' v.ownBlock) : Below B w w' := by
  refine ((Below.refl B w).alloc hB o).drew.grown hg (by simp; omega) (fun k hk => ?_)
  rcases hown.2 with ⟨rfl, _⟩ | ⟨g, cap, cur, rfl, hg, _⟩
  · simp [Value.ownBlock] at hk
  · simp [Value.ownBlock] at hk; omega


theorem grown_old {W w' : World} {o : Obj} {r : Option Nat} (h : (W.alloc o).drew.grownBy w' r) (k : Nat) (hk : k < W.heap.size) (hr : r ≠ some k) : w'.heap[k]? = W.heap[k]? := by
  rw [h.block k (by show k < (W.alloc o).heap.size; simp; omega) (fun e => hr e.symm)]
  show (W.heap.push _)[k]? = _
  rw [Array.getElem?_push_lt hk, Array.getElem?_eq_getElem hk]
theorem ownsRow_lt {W : World} {base e size n : Nat} {v : Value} {xs : List Value} (h : W.ownsRow base e size v n xs) (k : Nat) (hk : v.ownBlock = some k) : base ≤ k ∧ k < W.heap.size := h.lt k hk
theorem c2of {W : World} {b : Nat} {c0 c1 : Value} {t : TypeId} (h : W.heap[b]? = some (.cells #[c0, c1] t (0, 0))) :
    W.cell? ⟨b, 0, none⟩ = some c0 ∧ W.cell? ⟨b, 1, none⟩ = some c1 ∧ W.frozen? ⟨b, 1, none⟩ = false := by simp [World.cell?, World.frozen?, h]
/-- A slice of the bytes l, that came in or was made. -/
def Bys (w : World) (v : Value) (l : List UInt8) : Prop :=
  ∃ ao cap, v = .slice ao l.length cap ∧ (l.length ≤ cap ∧ cap ≤ maxLen ∧ (ao = none → cap = 0)) ∧ (l = [] ∨ ∃ g off, ao = some ⟨g, off, none⟩ ∧ g < w.heap.size ∧ ∀ i (h : i < l.length), w.cell? ⟨g, off + i, none⟩ = some (.int .u8 (l[i].toNat : Int)))
theorem Bys.below {w w' : World} {v : Value} {l : List UInt8} (h : Bys w v l) (hb : Below w.heap.size w w') : Bys w' v l := by
  obtain ⟨ao, cap, rfl, hc, h | ⟨g, off, rfl, hg, h⟩⟩ := h
  · exact ⟨ao, cap, rfl, hc, .inl h⟩
  · refine ⟨_, cap, rfl, hc, .inr ⟨g, off, rfl, Nat.lt_of_lt_of_le hg hb.size, fun i hi => ?_⟩⟩
    rw [World.cell?_of_block (hb.block g hg)]
    exact h i hi
theorem Owns.bys {w : World} {B : Nat} {v : Value} {xs : List UInt8} (h : Owns w B v xs) : Bys w v xs := by
  obtain ⟨h1, h2⟩ := h
  rcases h2 with ⟨rfl, hn⟩ | ⟨g, cap, cur, rfl, hg, hh, hnc, hcm, hcs, htake⟩
  · have hx : xs = [] := List.eq_nil_of_length_eq_zero hn
    subst hx
    exact ⟨none, 0, rfl, ⟨by decide, by decide, fun _ => rfl⟩, .inl rfl⟩
  · refine ⟨_, cap, rfl, ⟨hnc, hcm, fun h => by cases h⟩, .inr ⟨g, 0, rfl, (Array.getElem?_eq_some_iff.1 hh).1, fun i hi => ?_⟩⟩
    have e : (cur.toList.take (xs.length * 1))[i]? = (byteVals xs)[i]? := by rw [htake]
    rw [List.getElem?_take, if_pos (by omega)] at e
    simp only [World.cell?, hh, Nat.zero_add]
    simp only [Option.isSome_none, Bool.false_eq_true, if_false]
    rw [← Array.getElem?_toList, e]
    simp [byteVals, List.getElem?_map, List.getElem?_eq_getElem hi]
theorem Bys.toStr {w : World} {v : Value} {xs : List UInt8} (h : Bys w v xs) : (convert 24 9 v).run Try.prog w = .ok (.string ⟨xs.toArray⟩) w := by
  have hm : strOfNums (xs.map fun b => (b.toNat : Int)) = ⟨xs.toArray⟩ := by
    unfold strOfNums
    congr 2
    rw [List.map_map]
    conv => rhs; rw [← List.map_id xs]
    apply List.map_congr_left
    intro a _
    simp
  obtain ⟨ao, cap, rfl, _, rfl | ⟨g, off, rfl, hg, h⟩⟩ := h
  · show (convert 24 9 (.slice ao 0 cap)).run Try.prog w = _
    rw [run_convert_bytes_string w 24 9 5 ao 0 cap Try.underlying24 Try.underlying5 Try.underlying9]
    cases ao with
    | none => rfl
    | some a =>
      have := run_loadCells_list (P := Try.prog) w a [] (fun j v hj => by simp at hj)
      simp [Conv.bytesToString] at this ⊢
      rw [this]
      rfl
  · rw [← hm]
    refine run_convert_bytes_arg w 24 5 Try.underlying24 Try.underlying5 g off xs.length cap (xs.map fun b => (b.toNat : Int)) (by simp) (fun i hi => ?_) 9 Try.underlying9
    rw [h i hi]
    simp [List.getD, List.getElem?_map, List.getElem?_eq_getElem hi]
/-- All below B but block b is as it was. -/
structure BelowX (B b : Nat) (w w' : World) : Prop where
  os : w'.os = w.os
  tape : w'.tape = w.tape
  output : w'.output = w.output
  size : w.heap.size ≤ w'.heap.size
  block : ∀ k, k < B → k ≠ b → w'.heap[k]? = w.heap[k]?
theorem BelowX.refl (B b : Nat) (w : World) : BelowX B b w w := ⟨rfl, rfl, rfl, Nat.le_refl _, fun _ _ _ => rfl⟩
theorem BelowX.trans {B b : Nat} {u v w : World} (h : BelowX B b u v) (k : BelowX B b v w) : BelowX B b u w :=
  ⟨k.os.trans h.os, k.tape.trans h.tape, k.output.trans h.output, Nat.le_trans h.size k.size, fun i hi hs => (k.block i hi hs).trans (h.block i hi hs)⟩
theorem setCell_other {w : World} {b i k : Nat} (v : Value) (h : k ≠ b) : (w.setCell ⟨b, i, none⟩ v).heap[k]? = w.heap[k]? := by
  show (w.heap.modify b _)[k]? = _
  rw [Array.getElem?_modify]
  split
  · next e => exact absurd e.symm h
  · rfl
theorem setCell_cells {w : World} {b i : Nat} {cs : Array Value} {t : TypeId} {fr : Nat × Nat} (v : Value) (h : w.heap[b]? = some (.cells cs t fr)) : (w.setCell ⟨b, i, none⟩ v).heap[b]? = some (.cells (cs.setIfInBounds i v) t fr) := by
  obtain ⟨hlt, hk⟩ := Array.getElem?_eq_some_iff.1 h
  show (w.heap.modify b _)[b]? = _
  rw [Array.getElem?_eq_getElem (by rw [Array.size_modify]; exact hlt), Array.getElem_modify_self, hk]
  rfl
/-- Block b is a text over the alphabet s, of the signs xs so far. -/
def TB (w : World) (b B : Nat) (s : ByteArray) (xs : List UInt8) : Prop :=
  ∃ ov, w.heap[b]? = some (.cells #[.string s, ov] 41 (0, 0)) ∧ Owns w B ov xs
theorem owns_set {w : World} {b B i : Nat} {v x : Value} {xs : List UInt8} (h : Owns w B v xs) (hb : b < B) : Owns (w.setCell ⟨b, i, none⟩ x) B v xs := by
  obtain ⟨h0, h1 | ⟨g, cap, cur, rfl, hg, hh, r⟩⟩ := h
  · exact ⟨h0, .inl h1⟩
  · exact ⟨h0, .inr ⟨g, cap, cur, rfl, hg, (setCell_other x (by omega)).trans hh, r⟩⟩
theorem al_at (u : Bool) (n : Nat) (hn : n < 64) (s : ByteArray) (hs : s = ⟨(al u).toArray⟩) (h : n < s.size) : s[n] = sg u n := by
  subst hs
  unfold sg
  rw [List.getD_eq_getElem?_getD]
  show (al u).toArray[n] = _
  rw [List.getElem_toArray, List.getElem?_eq_getElem (by cases u <;> exact hn)]
  rfl
theorem al_size (u : Bool) (s : ByteArray) (hs : s = ⟨(al u).toArray⟩) : s.size = 64 := by
  subst hs; cases u <;> rfl
theorem add_end {w w1 : World} {b B g cap : Nat} {o : Obj} {ov : Value} {s : ByteArray} {xs : List UInt8} {c : UInt8} (hB : B ≤ w.heap.size) (hb : b < B) (hown : Owns w B ov xs) (hg : (w.alloc o).drew.grownBy w1 ov.ownBlock) (hold : w1.heap[b]? = some (.cells #[.string s, ov] 41 (0, 0)))
    (hown' : w1.ownsRow B 5 1 (.slice (some ⟨g, 0, none⟩) (xs.length + 1) cap) (xs.length + 1) (byteVals xs ++ byteVals [c])) :
    TB (w1.setCell ⟨b, 1, none⟩ (.slice (some ⟨g, 0, none⟩) (xs.length + 1) cap)) b B s (xs ++ [c]) ∧ BelowX B b w (w1.setCell ⟨b, 1, none⟩ (.slice (some ⟨g, 0, none⟩) (xs.length + 1) cap)) := by
  have h1 : Owns w1 B (.slice (some ⟨g, 0, none⟩) (xs.length + 1) cap) (xs ++ [c]) := Owns.of_append hown' rfl rfl
  have h2 := Below.of_append_drew hB hown hg
  refine ⟨⟨_, setCell_cells _ hold, owns_set h1 hb⟩, h2.os, h2.tape, h2.output, ?_, ?_⟩
  · rw [show (w1.setCell ⟨b, 1, none⟩ (.slice (some ⟨g, 0, none⟩) (xs.length + 1) cap)).heap.size = w1.heap.size by show (w1.heap.modify b _).size = _; rw [Array.size_modify]]
    have := hg.size
    simp at this
    omega
  · intro k hk hne
    rw [setCell_other _ hne]
    exact h2.block k hk
set_option maxRecDepth 100000 in
set_option maxHeartbeats 1000000 in
theorem add_any (u : Bool) (s : ByteArray) (b B n : Nat) (x : Int) (xs : List UInt8) (w : World) (hs : s = ⟨(al u).toArray⟩) (hn : n < 64) (hx : x = (n : Int)) (hb : b < B) (hB : B ≤ w.heap.size) (hlen : xs.length ≤ 1000000) (h : TB w b B s xs) :
    Calls Try.prog 20 #[.pointer (some ⟨b, 0, none⟩), .int .u8 x] w fun e w' => e = .returned (.tuple #[]) ∧ TB w' b B s (xs ++ [sg u n]) ∧ BelowX B b w w' := by
  subst hx
  obtain ⟨ov, hbl, hown⟩ := h
  obtain ⟨i0, hi, hz0, hz1, hz2⟩ := info_parts info_u8
  have hsz := al_size u s hs
  have hk : n < s.size := by omega
  have hk' : (n : Int) < (s.size : Int) := by omega
  have HAT := Lib.hid (al_at u n hn s hs hk)
  have HBL := Lib.hid hbl
  have HOWN := Lib.hid hown
  obtain ⟨c0, c1, f1⟩ := c2of hbl
  have hob : ov.ownBlock ≠ some b := fun e => by have := (ownsRow_lt hown b e).1; omega
  have HOB := Lib.hid hob
  have hlb : b < w.heap.size := by omega
  have HS := Lib.hid hs
  clear hs hsz hbl hown hob
  go_enter Try.func20, Try.ntmps20
  go_wp2_with fail
  go_region_law ((refine step_append_lies _ (by rfl) _ _ _ (by rfl) B 5 i0 _ 1 1 Try.underlying24 hi hz0 hz1 hz2 rfl (by decide) ov xs.length (byteVals xs) (by rfl) (by exact ((HOWN.out.alloc _).drew)) ⟨w.heap.size, 0, none⟩ 1 1 (byteVals [s[n]'hk]) (by rfl) (by rfl) (by exact news_at w [s[n]'hk]) (news_one _) (by decide) (by unfold maxLen; omega) (by omega) (by simp; omega) _ rfl ?_; intro g cap w1 hown' hgrow hat hlt; have hold := (grown_old hgrow b hlb HOB.out).trans HBL.out; obtain ⟨p0, p1, p2⟩ := c2of hold; have HOLD := Lib.hid hold; have HOWN' := Lib.hid hown'; have HG := Lib.hid hgrow; clear hat hlt hown' hgrow hold))
  all_goals
    go_wp2
    go_end0
    exact ⟨rfl, add_end hB hb HOWN.out HG.out HOLD.out (HAT.out ▸ HOWN'.out)⟩
end Go.Proofs.Ytnbonoallcjlbaa
