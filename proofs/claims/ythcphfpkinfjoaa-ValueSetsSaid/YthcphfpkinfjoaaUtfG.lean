/-
  What appendByte and Quote of package utf answer.
  Conditions: the string is short enough that its quote fits Go's own bound on a slice of bytes.
-/
import Derived.Test.YthcphfpkinfjoaaUtfF
import Derived.Lib.AppendStr
import Derived.Laws.BytesArg
import Derived.Deep.AppendLies
import Derived.Deep.RegionLaw
namespace Go.Proofs.Ythcphfpkinfjoaa
open Go.RowKit

theorem info_u8 : (Try.prog.info? 5).map (fun i => (i.zero, i.size, i.bytes)) = some (some (.int .u8 0), 1, 1) := by kernel_rfl

def byteVals (xs : List UInt8) : List Value := xs.map fun b => Value.int .u8 (b.toNat : Int)
/-- The slice value v owns the bytes xs, among the blocks from B on. -/
def Owns (w : World) (B : Nat) (v : Value) (xs : List UInt8) : Prop := w.ownsRow B 5 1 v xs.length (byteVals xs)

theorem Owns.only {w w' : World} {b B : Nat} {v : Value} {xs : List UInt8} (h : Owns w B v xs) (ho : Only b w w') (hb : b < B) : Owns w' B v xs := by
  obtain ⟨h1, h2⟩ := h
  refine ⟨h1, ?_⟩
  rcases h2 with h2 | ⟨g, cap, cur, hv, hg, hh, r⟩
  · exact Or.inl h2
  · exact Or.inr ⟨g, cap, cur, hv, hg, by rw [ho.block g (by omega)]; exact hh, r⟩
theorem Cur.below {w w' : World} {b B : Nat} {s : ByteArray} {l : List UInt8} (h : Cur w b s l) (ho : Below B w w') (hb : b < B) : Cur w' b s l :=
  ⟨h.1, h.2.1, by rw [ho.block b hb]; exact h.2.2⟩

theorem Owns.toStr {w : World} {B : Nat} {v : Value} {xs : List UInt8} (h : Owns w B v xs) : (convert 89 9 v).run Try.prog w = .ok (.string ⟨xs.toArray⟩) w := by
  obtain ⟨h1, h2⟩ := h
  have hm : strOfNums (xs.map fun b => (b.toNat : Int)) = ⟨xs.toArray⟩ := by
    unfold strOfNums
    congr 2
    rw [List.map_map]
    conv => rhs; rw [← List.map_id xs]
    apply List.map_congr_left
    intro a _
    simp
  rcases h2 with ⟨rfl, hn⟩ | ⟨g, cap, cur, rfl, hg, hh, hnc, hcm, hcs, htake⟩
  · have hx : xs = [] := List.eq_nil_of_length_eq_zero hn
    subst hx
    exact run_convert_bytes_nil w 89 5 Try.underlying89 Try.underlying5 0 0 9 Try.underlying9
  · rw [← hm]
    refine run_convert_bytes_arg w 89 5 Try.underlying89 Try.underlying5 g 0 xs.length cap (xs.map fun b => (b.toNat : Int)) (by simp) (fun i hi => ?_) 9 Try.underlying9
    have e : (cur.toList.take (xs.length * 1))[i]? = (byteVals xs)[i]? := by rw [htake]
    rw [List.getElem?_take, if_pos (by omega)] at e
    simp only [World.cell?, hh, Nat.zero_add]
    simp only [Option.isSome_none, Bool.false_eq_true, if_false]
    rw [← Array.getElem?_toList, e]
    simp [byteVals, List.getD, List.getElem?_map, List.getElem?_eq_getElem hi]

def uHex (n : Nat) : UInt8 := UInt8.ofNat (if n < 10 then 48 + n else 87 + n)
/-- A byte as it stands in a quote. -/
def uEnc (c : UInt8) : List UInt8 :=
  if c.toNat = 34 ∨ c.toNat = 92 then [92, c]
  else if c.toNat = 8 then [92, 98]
  else if c.toNat = 9 then [92, 116]
  else if c.toNat = 10 then [92, 110]
  else if c.toNat = 12 then [92, 102]
  else if c.toNat = 13 then [92, 114]
  else if c.toNat < 32 then [92, 117, 48, 48, uHex (c.toNat / 16), uHex (c.toNat % 16)]
  else [c]

def App (B : Nat) (w : World) (ys : List UInt8) (e : Ending) (w' : World) : Prop := ∃ v', e = .returned v' ∧ Owns w' B v' ys ∧ Below B w w'

theorem news_at (w : World) (ys : List UInt8) (j : Nat) (u : Value) (h : (byteVals ys)[j]? = some u) : (w.alloc (.cells (byteVals ys).toArray 5)).cell? ((⟨w.heap.size, 0, none⟩ : Addr).add j) = some u := by
  have hplain : (⟨w.heap.size, 0, none⟩ : Addr).add j = ⟨w.heap.size, 0 + j, none⟩ := by unfold Addr.add; split <;> simp_all
  rw [hplain, Nat.zero_add]
  have hb : (w.alloc (.cells (byteVals ys).toArray 5)).heap[w.heap.size]? = some (.cells (byteVals ys).toArray 5) := by
    show (w.heap.push _)[w.heap.size]? = _
    simp
  simp only [World.cell?, hb]
  simpa using h
theorem news_one (ys : List UInt8) : ∀ u ∈ byteVals ys, u.oneCell' = true := by
  intro u hu
  simp only [byteVals, List.mem_map] at hu
  obtain ⟨b, _, rfl⟩ := hu
  rfl
theorem Owns.of_append {w : World} {B : Nat} {v : Value} {xs ys zs : List UInt8} {n : Nat} (h : w.ownsRow B 5 1 v (xs.length + n) (byteVals xs ++ byteVals ys)) (hn : ys.length = n) (hz : zs = xs ++ ys) : Owns w B v zs := by
  subst hn hz
  unfold Owns
  rw [List.length_append]
  simpa [byteVals] using h
theorem Below.of_append {w w' : World} {B : Nat} {v : Value} {xs : List UInt8} {o : Obj} (hB : B ≤ w.heap.size) (hown : Owns w B v xs) (hg : (w.alloc o).grownBy w' v.ownBlock) : Below B w w' := by
  refine ((Below.refl B w).alloc hB o).grown hg (by simp; omega) (fun k hk => ?_)
  rcases hown.2 with ⟨rfl, _⟩ | ⟨g, cap, cur, rfl, hg, _⟩
  · simp [Value.ownBlock] at hk
  · simp [Value.ownBlock] at hk; omega

theorem Below.of_append_drew {w w' : World} {B : Nat} {v : Value} {xs : List UInt8} {o : Obj} (hB : B ≤ w.heap.size) (hown : Owns w B v xs) (hg : (w.alloc o).drew.grownBy w' v.ownBlock) : Below B w w' := by
  refine ((Below.refl B w).alloc hB o).drew.grown hg (by simp; omega) (fun k hk => ?_)
  rcases hown.2 with ⟨rfl, _⟩ | ⟨g, cap, cur, rfl, hg, _⟩
  · simp [Value.ownBlock] at hk
  · simp [Value.ownBlock] at hk; omega

def hexD : ByteArray := ⟨#[48, 49, 50, 51, 52, 53, 54, 55, 56, 57, 97, 98, 99, 100, 101, 102]⟩
theorem hexD_all : ∀ k : Fin 16, hexD[k.val]'k.isLt = uHex k.val := by decide
theorem hexD_at (n : Int) (k : Nat) (hk : k < 16) (hn : n = (k : Int)) (h : n.toNat < hexD.size) : hexD[n.toNat] = uHex k := by
  subst hn
  exact hexD_all ⟨k, hk⟩

set_option maxRecDepth 100000 in
set_option maxHeartbeats 400000 in
theorem good_any (s : ByteArray) (w : World) (v : Bool) (hs : s.size ≤ maxLen) (h : (uRunes s.data.toList).isSome = v) :
    Calls Try.prog 84 #[.string s] w fun e w' => e = .returned (.bool v) ∧ Below w.heap.size w w' := by
  have HV := Lib.hid (show decide (0 ≤ uRunesI s.data.toList) = v by
    rw [← h]; unfold uRunesI; cases uRunes s.data.toList <;> simp)
  clear h
  go_enter Try.func84, Try.ntmps84
  go_wp2_with fail
  refine (runes_any s _ hs).mono ?_
  rintro e w1 ⟨rfl, hbel⟩
  generalize uRunesI s.data.toList = z at HV
  go_wp2
  go_ret
  exact ⟨ret_b HV.out, hbel⟩

set_option maxHeartbeats 400000 in
theorem less_any (a b : ByteArray) (v : Bool) (w : World) (h : Op.bytesLess a.toList b.toList = v) :
    Calls Try.prog 63 #[.string a, .string b] w fun e w' => e = .returned (.bool v) ∧ w = w' := by
  have H := Lib.hid h
  clear h
  go_enter Try.func63, Try.ntmps63
  go_wp2
  go_ret
  exact ⟨ret_b H.out, rfl⟩

end Go.Proofs.Ythcphfpkinfjoaa

