/-
  Bytes that came in; what awake of the statements of stage 5 answers.
  Conditions: none.
-/
import Derived.Test.YtnbonoallcjlbaaBaI
import Derived.ProofKit
import Derived.OpenShut
import Derived.ShutString
import Derived.Deep.RegionHeld3
namespace Go.Proofs.Ytnbonoallcjlbaa
open Go.ChangeShapes Go.WideShapes Go.ChangeAt Go.RowKit

theorem u8_cells : Try.prog.cellsOf 5 = 1 := by kernel_rfl
/-- What a slice of bytes that came in gives. -/
theorem open_bys {H : Type} {enc : TypeId × Value → H} {W : World} {base : Nat} {v1 : Value} {d1 : DataW H} {p1 : List MemPlace} (hval : Value.okWide Try.prog W .any base 24 v1) (h1 : DataW.Trod enc Try.prog W 0 (fun _ => true) true 24 v1 d1 p1) :
    ∃ l : List UInt8, Bys W v1 l := by
  obtain ⟨a1, len, cap, rfl⟩ := okWide_slice Try.underlying24 hval
  obtain ⟨fuel, hf⟩ := h1
  rcases open_ints Try.underlying24 Try.underlying5 u8_cells hf with ⟨hcs, hx⟩ | ⟨a, len', cap', zs, hcs, _, hl, hm, hz, hx, hcell, hwz⟩
  · simp [Value.cells] at hcs
    obtain ⟨rfl, rfl, rfl⟩ := hcs
    exact ⟨[], none, 0, rfl, ⟨by decide, by decide, fun _ => rfl⟩, .inl rfl⟩
  · simp [Value.cells] at hcs
    obtain ⟨rfl, rfl, rfl⟩ := hcs
    simp only [if_true] at hz
    have hlen : ((zs.take len).map fun n => UInt8.ofNat n.toNat).length = len := by simp; omega
    refine ⟨(zs.take len).map fun n => UInt8.ofNat n.toNat, some a, cap, by rw [hlen], by rw [hlen]; exact ⟨hl, hm, fun h => by cases h⟩, ?_⟩
    by_cases h0 : len = 0
    · left
      exact List.eq_nil_of_length_eq_zero (by rw [hlen]; exact h0)
    right
    obtain ⟨ab, ao, spot⟩ := a
    have hc0 := hcell 0 (by omega)
    have hspot : spot = none := by simpa [Addr.add] using World.cell?_spot hc0
    subst hspot
    refine ⟨ab, ao, rfl, ?_, fun j hj => ?_⟩
    · rw [Addr.add_lit] at hc0
      simp only [World.cell?] at hc0
      apply Decidable.byContradiction
      intro hn
      rw [Array.getElem?_eq_none (by omega)] at hc0
      simp at hc0
    · rw [hlen] at hj
      have hcj := hcell j (by omega)
      rw [Addr.add_lit] at hcj
      rw [hcj]
      have hb := range_u8 hwz j
      simp only [List.getElem_map, List.getElem_take]
      have e : zs.getD j 0 = zs[j]'(by omega) := by simp [List.getD, List.getElem?_eq_getElem (show j < zs.length by omega)]
      rw [List.getD_eq_getElem?_getD] at e
      rw [e] at hb
      rw [List.getD_eq_getElem?_getD, e]
      congr 2
      simp only [UInt8.toNat_ofNat']
      omega
theorem bchain {w a b : World} (h : Below w.heap.size w a) (k : Below a.heap.size a b) : Below w.heap.size w b := h.trans (k.mono h.size)
def errOf (r : Option (List UInt8)) : Int := if r.isSome then 0 else 2
theorem GotR.uni {B : Nat} {r : Option (List UInt8)} {w' : World} {e : Ending} (h : GotR B r w' e) : ∃ v', e = .returned (.tuple #[v', .int .i64 (errOf r)]) ∧ Owns w' B v' (r.getD []) := by
  cases r with
  | none => exact ⟨_, h, World.ownsRow_nil _ _ _ _⟩
  | some x => exact h
/-- Bytes of a call's own, laid as a row. -/
theorem bys_new (w : World) (l : List UInt8) (h : l.length ≤ 100000) : Bys (w.alloc (.cells (byteVals l).toArray 5)) (.slice (some ⟨w.heap.size, 0, none⟩) l.length l.length) l := by
  refine ⟨_, _, rfl, ⟨Nat.le_refl _, by unfold maxLen; omega, fun h => by cases h⟩, .inr ⟨w.heap.size, 0, rfl, by simp, fun i hi => ?_⟩⟩
  have hb : (w.alloc (.cells (byteVals l).toArray 5)).heap[w.heap.size]? = some (.cells (byteVals l).toArray 5) := by
    show (w.heap.push _)[w.heap.size]? = _
    simp
  simp only [World.cell?, hb]
  simp [byteVals, List.getElem?_eq_getElem hi]
set_option maxRecDepth 100000 in
set_option maxHeartbeats 2000000 in
theorem awake5_true (w : World) : Calls Try.prog 7 #[] w fun e w' => e = .returned (.bool true) ∧ Below w.heap.size w w' := by
  go_enter Try.func7, Try.ntmps7
  go_wp2_with fail
  refine (get_std ⟨#[47, 119]⟩ w (by decide)).mono ?_
  rintro e w1 ⟨hb1, hr1⟩
  rw [show got false (⟨#[47, 119]⟩ : ByteArray).data.toList = some [255] by decide +kernel] at hr1
  obtain ⟨v', rfl, ho⟩ := hr1
  have hby := ho.bys
  have HB1 := Lib.hid hb1
  clear hb1 ho
  obtain ⟨ao, cap, rfl, hcc, hbad | ⟨g, off, rfl, hg, hcell⟩⟩ := hby
  · cases hbad
  have hc0 : w1.cell? ⟨g, off, none⟩ = some (.int .u8 255) := hcell 0 (by decide)
  have HC0 := Lib.hid hc0
  have HG := Lib.hid hg
  clear hcell hc0 hg hcc
  go_wp2_with fail
  have hby2 := bys_new w1 [255] (by decide)
  have hbA : Below w1.heap.size w1 (w1.alloc (.cells (byteVals [255]).toArray 5)) := (Below.refl _ w1).alloc (Nat.le_refl _) _
  have HBY := Lib.hid hby2
  have HBA := Lib.hid hbA
  clear hby2 hbA
  refine (put_std _ [255] _ (by decide) HBY.out).mono ?_
  rintro e w2 ⟨rfl, hb2⟩
  rw [show put false [255] = [47, 119] by decide +kernel]
  have HB2 := Lib.hid (hb2)
  clear hb2
  go_wp2_with fail
  have hby3 := bys_new w2 [255] (by decide)
  have hbB : Below w2.heap.size w2 (w2.alloc (.cells (byteVals [255]).toArray 5)) := (Below.refl _ w2).alloc (Nat.le_refl _) _
  have HBY3 := Lib.hid hby3
  have HBB := Lib.hid hbB
  clear hby3 hbB
  refine (put_url _ [255] _ (by decide) HBY3.out).mono ?_
  rintro e w3 ⟨rfl, hb3⟩
  rw [show put true [255] = [95, 119] by decide +kernel]
  have h12 : Below w1.heap.size w1 w2 := HBA.out.trans (HB2.out.mono HBA.out.size)
  have h23 : Below w2.heap.size w2 w3 := HBB.out.trans (hb3.mono HBB.out.size)
  have h13 : Below w1.heap.size w1 w3 := h12.trans (h23.mono h12.size)
  have hc3 : w3.cell? ⟨g, off, none⟩ = some (.int .u8 255) := by
    rw [World.cell?_of_block (h13.block g HG.out)]; exact HC0.out
  have HE := Lib.hid (HB1.out.trans (h13.mono HB1.out.size))
  clear h12 h23 h13 hb3
  go_wp2
  go_ret
  exact ⟨rfl, HE.out⟩
end Go.Proofs.Ytnbonoallcjlbaa
