/-
  Package value's Good, and the document's own answer (GoodValue, may, Depth): they are one.
  The document's own answer: whether a value is such as may be.
  Conditions: none.
-/
import Derived.Test.YthcphfpkinfjoaaValV
import Derived.Test.YthcphfpkinfjoaaRefA
import Derived.Deep.RegionWith
namespace Go.Proofs.Ythcphfpkinfjoaa
open Go.RowKit Go.Shelf

/-- Valid: nested no deeper than the document allows. -/
def GoodV (t : VT) : Prop := ∃ L, L = 50 ∧ Vld L t
theorem GoodV.at {t : VT} {r : Bool} (h : r = true ↔ GoodV t) : ∃ L, L = 50 ∧ (r = true ↔ Vld L t) := by
  obtain ⟨L, hL⟩ : ∃ L, L = 50 := ⟨50, rfl⟩
  refine ⟨L, hL, h.trans ⟨?_, fun h => ⟨L, hL, h⟩⟩⟩
  rintro ⟨L', h', hv⟩
  rw [hL, ← h']; exact hv

set_option maxRecDepth 100000 in
set_option maxHeartbeats 1000000 in
theorem vgood_any {n₀ : Nat} {w0 : World} {t : VT} {v : Value} (h : VAt n₀ w0 t v) (w : World) (hw : Below n₀ w0 w) (hz : n₀ ≤ w.heap.size) (r : Bool) (hr : r = true ↔ GoodV t) :
    Calls Try.prog 10 #[v] w fun e w' => e = .returned (.bool r) ∧ Below w.heap.size w w' := by
  have HV := Lib.hid h
  obtain ⟨c0, c1, c2, c3, c4, rfl⟩ : ∃ c0 c1 c2 c3 c4, v = .agg #[c0, c1, c2, c3, c4] := by cases h; exact ⟨_, _, _, _, _, rfl⟩
  obtain ⟨L, hL, hr'⟩ := GoodV.at hr
  have HL := Lib.hid hL
  have HR := Lib.hid hr'
  have HW := Lib.hid hw
  have HZ := Lib.hid hz
  clear h hr hw hz hr' hL
  go_enter Try.func10, Try.ntmps10
  go_wp2_with fail
  generalize hW0 : w.alloc _ = W0
  obtain ⟨x0, x1, x2, x3, x4⟩ := c5of (show W0.heap[w.heap.size]? = some (.cells #[c0, c1, c2, c3, c4] 26 (0, 0)) by subst hW0; exact World.alloc_heap_new w _)
  have hw0 : Below w.heap.size w W0 := by subst hW0; exact (Below.refl _ w).alloc (Nat.le_refl _) _
  have hz0 : W0.heap.size = w.heap.size + 1 := by subst hW0; simp
  have HW0 := Lib.hid hw0
  clear hW0 hw0
  go_region_held3 (fun x => x.cell? ⟨w.heap.size, 0, none⟩ = some c0 ∧ x.cell? ⟨w.heap.size, 1, none⟩ = some c1 ∧ x.cell? ⟨w.heap.size, 2, none⟩ = some c2 ∧ x.cell? ⟨w.heap.size, 3, none⟩ = some c3 ∧ x.cell? ⟨w.heap.size, 4, none⟩ = some c4)
    (first | exact ⟨x0, x1, x2, x3, x4⟩ | exact ⟨by assumption, by assumption, by assumption, by assumption, by assumption⟩)
    (first
      | (go_at_call 33; refine (tests_any _).mono ?_; rintro e w1 ⟨rfl, htab0, hb0⟩; have htab : TabAt w1 (w.heap.size + 1) := (by rw [← hz0]; exact htab0); clear htab0; have hb1 : Below W0.heap.size W0 w1 := (Below.refl _ W0).drew.trans hb0; clear hb0; have k0 := (hb1.cell (p := ⟨w.heap.size, 0, none⟩) (show w.heap.size < W0.heap.size by omega)).trans x0; have k1 := (hb1.cell (p := ⟨w.heap.size, 1, none⟩) (show w.heap.size < W0.heap.size by omega)).trans x1; have k2 := (hb1.cell (p := ⟨w.heap.size, 2, none⟩) (show w.heap.size < W0.heap.size by omega)).trans x2; have k3 := (hb1.cell (p := ⟨w.heap.size, 3, none⟩) (show w.heap.size < W0.heap.size by omega)).trans x3; have k4 := (hb1.cell (p := ⟨w.heap.size, 4, none⟩) (show w.heap.size < W0.heap.size by omega)).trans x4)
      | (go_at_call 32; refine (valid_any HV.out w1 ((HW.out.trans (HW0.out.mono HZ.out)).trans (hb1.mono (by have := HZ.out; omega))) (by have := HZ.out; have := hb1.size; omega) (w.heap.size + 1) htab L (by have := HL.out; omega) 50 (by have := HL.out; omega) r HR.out).mono ?_; rintro e w2 ⟨rfl, hb2⟩; have k5 : w2.cell? ⟨w.heap.size, 0, none⟩ = some c0 := (hb2.cell (p := ⟨w.heap.size, 0, none⟩) (show w.heap.size < w1.heap.size by have := hb1.size; omega)).trans k0; have k6 := (hb2.cell (p := ⟨w.heap.size, 1, none⟩) (show w.heap.size < w1.heap.size by have := hb1.size; omega)).trans k1; have k7 := (hb2.cell (p := ⟨w.heap.size, 2, none⟩) (show w.heap.size < w1.heap.size by have := hb1.size; omega)).trans k2; have k8 := (hb2.cell (p := ⟨w.heap.size, 3, none⟩) (show w.heap.size < w1.heap.size by have := hb1.size; omega)).trans k3; have k9 := (hb2.cell (p := ⟨w.heap.size, 4, none⟩) (show w.heap.size < w1.heap.size by have := hb1.size; omega)).trans k4))
  go_wp2
  go_ret
  exact ⟨rfl, (HW0.out.trans (hb1.mono HW0.out.size)).trans (hb2.mono (Nat.le_trans HW0.out.size hb1.size))⟩
end Go.Proofs.Ythcphfpkinfjoaa

namespace Go.Proofs.Ythcphfpkinfjoaa
open Go.RowKit Go.Shelf

mutual
def May : VT → Prop
  | .mk k n s l m => NodeOK (.mk k n s l m) ∧ (k = 4 → MayL l) ∧ (k = 5 → MayM m)
def MayL : List VT → Prop
  | [] => True
  | t :: r => May t ∧ MayL r
def MayM : List (ByteArray × VT) → Prop
  | [] => True
  | (_, t) :: r => May t ∧ MayM r
end
theorem mayL_iff (l : List VT) : MayL l ↔ ∀ i (h : i < l.length), May l[i] := by
  induction l with
  | nil => simp [MayL]
  | cons t r ih =>
    simp only [MayL, ih]
    constructor
    · rintro ⟨h1, h2⟩ i h
      cases i with
      | zero => exact h1
      | succ i => exact h2 i (by simpa using h)
    · intro h
      exact ⟨h 0 (by simp), fun i hi => h (i + 1) (by simpa using hi)⟩
theorem mayM_iff (l : List (ByteArray × VT)) : MayM l ↔ ∀ i (h : i < l.length), May l[i].2 := by
  induction l with
  | nil => simp [MayM]
  | cons t r ih =>
    simp only [MayM, ih]
    constructor
    · rintro ⟨h1, h2⟩ i h
      cases i with
      | zero => exact h1
      | succ i => exact h2 i (by simpa using h)
    · intro h
      exact ⟨h 0 (by simp), fun i hi => h (i + 1) (by simpa using hi)⟩
theorem depL_le (l : List VT) (d : Nat) : depL l ≤ d ↔ ∀ i (h : i < l.length), dep l[i] ≤ d := by
  constructor
  · intro h i hi; exact Nat.le_trans (depL_mem l i hi) h
  · intro h
    induction l with
    | nil => simp [depL]
    | cons t r ih =>
      have h0 := h 0 (by simp)
      have := ih (fun i hi => h (i + 1) (by simpa using hi))
      simp only [depL]; simp at h0; omega
theorem depM_le (l : List (ByteArray × VT)) (d : Nat) : depM l ≤ d ↔ ∀ i (h : i < l.length), dep l[i].2 ≤ d := by
  constructor
  · intro h i hi; exact Nat.le_trans (depM_mem l i hi) h
  · intro h
    induction l with
    | nil => simp [depM]
    | cons t r ih =>
      have h0 := h 0 (by simp)
      have := ih (fun i hi => h (i + 1) (by simpa using hi))
      simp only [depM]; simp at h0; omega
/-- What Good asks level by level is what the document says. -/
theorem vld_iff : ∀ (L : Nat) (t : VT), Vld L t ↔ dep t ≤ L ∧ May t
  | 0, .mk k n s l m => by
    simp only [Vld, VT.k, May, dep]
    by_cases h4 : k = 4
    · simp [h4]
    · by_cases h5 : k = 5
      · simp [h5]
      · simp [h4, h5]
  | L + 1, .mk k n s l m => by
    simp only [Vld, May, dep]
    by_cases h4 : k = 4
    · subst h4
      have e : (1 + depL l ≤ L + 1) ↔ (depL l ≤ L) := by omega
      simp only [vld_iff L, mayL_iff, if_true, e, depL_le, true_implies]
      have h45 : ¬ (4 : Int) = 5 := by decide
      simp only [h45, false_implies, and_true]
      constructor
      · rintro ⟨h1, h2⟩; exact ⟨fun i hi => (h2 i hi).1, h1, fun i hi => (h2 i hi).2⟩
      · rintro ⟨h1, h2, h3⟩; exact ⟨h2, fun i hi => ⟨h1 i hi, h3 i hi⟩⟩
    · by_cases h5 : k = 5
      · subst h5
        have e : (1 + depM m ≤ L + 1) ↔ (depM m ≤ L) := by omega
        have h54 : ¬ (5 : Int) = 4 := by decide
        simp only [h54, if_false, if_true, false_implies, true_and, true_implies, vld_iff L, mayM_iff, e, depM_le]
        constructor
        · rintro ⟨h1, h2⟩; exact ⟨fun i hi => (h2 i hi).1, h1, fun i hi => (h2 i hi).2⟩
        · rintro ⟨h1, h2, h3⟩; exact ⟨h2, fun i hi => ⟨h1 i hi, h3 i hi⟩⟩
      · simp [h4, h5]
theorem goodV_iff (t : VT) : GoodV t ↔ dep t ≤ 50 ∧ May t := by
  constructor
  · rintro ⟨L, rfl, h⟩; exact (vld_iff _ t).1 h
  · intro h; exact ⟨50, rfl, (vld_iff _ t).2 h⟩
end Go.Proofs.Ythcphfpkinfjoaa
