/-
  Package value's Good, and the document's own answer (GoodValue, may, Depth): they are one.
  Conditions: none.
-/
import Derived.Test.YtghkfbhmabnecaaValV
import Derived.Test.YtghkfbhmabnecaaRefA
namespace Go.Proofs.Ytghkfbhmabnecaa
open Go.RowKit Go.Shelf

/-- Valid: nested no deeper than the document allows. -/
def GoodV (t : VT) : Prop := ∃ L, L = 50 ∧ Vld L t
theorem GoodV.at {t : VT} {r : Bool} (h : r = true ↔ GoodV t) : ∃ L, L = 50 ∧ (r = true ↔ Vld L t) := by
  obtain ⟨L, hL⟩ : ∃ L, L = 50 := ⟨50, rfl⟩
  refine ⟨L, hL, h.trans ⟨?_, fun h => ⟨L, hL, h⟩⟩⟩
  rintro ⟨L', h', hv⟩
  rw [hL, ← h']; exact hv

set_option maxRecDepth 100000 in
set_option maxHeartbeats 1000000 in
theorem vgood_any {n₀ : Nat} {w0 : World} {t : VT} {v : Value} (h : VAt n₀ w0 t v) (w : World) (hw : Below n₀ w0 w) (hz : n₀ ≤ w.heap.size) (r : Bool) (hr : r = true ↔ GoodV t) :
    Calls Try.prog 12 #[v] w fun e w' => e = .returned (.bool r) ∧ Below w.heap.size w w' := by
  have HV := Lib.hid h
  obtain ⟨c0, c1, c2, c3, c4, rfl⟩ : ∃ c0 c1 c2 c3 c4, v = .agg #[c0, c1, c2, c3, c4] := by cases h; exact ⟨_, _, _, _, _, rfl⟩
  obtain ⟨L, hL, hr'⟩ := GoodV.at hr
  have HL := Lib.hid hL
  have HR := Lib.hid hr'
  have HW := Lib.hid hw
  have HZ := Lib.hid hz
  clear h hr hw hz hr' hL
  go_enter Try.func12, Try.ntmps12
  go_wp2_with fail
  generalize hW0 : w.alloc _ = W0
  obtain ⟨x0, x1, x2, x3, x4⟩ := c5of (show W0.heap[w.heap.size]? = some (.cells #[c0, c1, c2, c3, c4] 26 (0, 0)) by subst hW0; exact World.alloc_heap_new w _)
  have hw0 : Below w.heap.size w W0 := by subst hW0; exact (Below.refl _ w).alloc (Nat.le_refl _) _
  have hz0 : W0.heap.size = w.heap.size + 1 := by subst hW0; simp
  have HW0 := Lib.hid hw0
  clear hW0 hw0
  go_region_held3 (fun x => x.cell? ⟨w.heap.size, 0, none⟩ = some c0 ∧ x.cell? ⟨w.heap.size, 1, none⟩ = some c1 ∧ x.cell? ⟨w.heap.size, 2, none⟩ = some c2 ∧ x.cell? ⟨w.heap.size, 3, none⟩ = some c3 ∧ x.cell? ⟨w.heap.size, 4, none⟩ = some c4)
    (first | exact ⟨x0, x1, x2, x3, x4⟩ | exact ⟨by assumption, by assumption, by assumption, by assumption, by assumption⟩)
    (first
      | (go_at_call 35; refine (tests_any _).mono ?_; rintro e w1 ⟨rfl, htab0, hb0⟩; have htab : TabAt w1 (w.heap.size + 1) := (by rw [← hz0]; exact htab0); clear htab0; have hb1 : Below W0.heap.size W0 w1 := (Below.refl _ W0).drew.trans hb0; clear hb0; have k0 := (hb1.cell (p := ⟨w.heap.size, 0, none⟩) (show w.heap.size < W0.heap.size by omega)).trans x0; have k1 := (hb1.cell (p := ⟨w.heap.size, 1, none⟩) (show w.heap.size < W0.heap.size by omega)).trans x1; have k2 := (hb1.cell (p := ⟨w.heap.size, 2, none⟩) (show w.heap.size < W0.heap.size by omega)).trans x2; have k3 := (hb1.cell (p := ⟨w.heap.size, 3, none⟩) (show w.heap.size < W0.heap.size by omega)).trans x3; have k4 := (hb1.cell (p := ⟨w.heap.size, 4, none⟩) (show w.heap.size < W0.heap.size by omega)).trans x4)
      | (go_at_call 34; refine (valid_any HV.out w1 ((HW.out.trans (HW0.out.mono HZ.out)).trans (hb1.mono (by have := HZ.out; omega))) (by have := HZ.out; have := hb1.size; omega) (w.heap.size + 1) htab L (by have := HL.out; omega) 50 (by have := HL.out; omega) r HR.out).mono ?_; rintro e w2 ⟨rfl, hb2⟩; have k5 : w2.cell? ⟨w.heap.size, 0, none⟩ = some c0 := (hb2.cell (p := ⟨w.heap.size, 0, none⟩) (show w.heap.size < w1.heap.size by have := hb1.size; omega)).trans k0; have k6 := (hb2.cell (p := ⟨w.heap.size, 1, none⟩) (show w.heap.size < w1.heap.size by have := hb1.size; omega)).trans k1; have k7 := (hb2.cell (p := ⟨w.heap.size, 2, none⟩) (show w.heap.size < w1.heap.size by have := hb1.size; omega)).trans k2; have k8 := (hb2.cell (p := ⟨w.heap.size, 3, none⟩) (show w.heap.size < w1.heap.size by have := hb1.size; omega)).trans k3; have k9 := (hb2.cell (p := ⟨w.heap.size, 4, none⟩) (show w.heap.size < w1.heap.size by have := hb1.size; omega)).trans k4))
  go_wp2
  go_ret
  exact ⟨rfl, (HW0.out.trans (hb1.mono HW0.out.size)).trans (hb2.mono (Nat.le_trans HW0.out.size hb1.size))⟩
end Go.Proofs.Ytghkfbhmabnecaa
