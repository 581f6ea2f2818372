/-
  The document's own answer: whether a value is such as may be.
  Conditions: none.
-/
import Derived.Test.YtghkfbhmabnecaaValH
import Derived.Deep.RegionWith
namespace Go.Proofs.Ytghkfbhmabnecaa
open Go.RowKit Go.Shelf

mutual
def May : VT → Prop
  | .mk k n s l m => NodeOK (.mk k n s l m) ∧ (k = 4 → MayL l) ∧ (k = 5 → MayM m)
def MayL : List VT → Prop
  | [] => True
  | t :: r => May t ∧ MayL r
def MayM : List (ByteArray × VT) → Prop
  | [] => True
  | (_, t) :: r => May t ∧ MayM r
end
theorem mayL_iff (l : List VT) : MayL l ↔ ∀ i (h : i < l.length), May l[i] := by
  induction l with
  | nil => simp [MayL]
  | cons t r ih =>
    simp only [MayL, ih]
    constructor
    · rintro ⟨h1, h2⟩ i h
      cases i with
      | zero => exact h1
      | succ i => exact h2 i (by simpa using h)
    · intro h
      exact ⟨h 0 (by simp), fun i hi => h (i + 1) (by simpa using hi)⟩
theorem mayM_iff (l : List (ByteArray × VT)) : MayM l ↔ ∀ i (h : i < l.length), May l[i].2 := by
  induction l with
  | nil => simp [MayM]
  | cons t r ih =>
    simp only [MayM, ih]
    constructor
    · rintro ⟨h1, h2⟩ i h
      cases i with
      | zero => exact h1
      | succ i => exact h2 i (by simpa using h)
    · intro h
      exact ⟨h 0 (by simp), fun i hi => h (i + 1) (by simpa using hi)⟩
theorem depL_le (l : List VT) (d : Nat) : depL l ≤ d ↔ ∀ i (h : i < l.length), dep l[i] ≤ d := by
  constructor
  · intro h i hi; exact Nat.le_trans (depL_mem l i hi) h
  · intro h
    induction l with
    | nil => simp [depL]
    | cons t r ih =>
      have h0 := h 0 (by simp)
      have := ih (fun i hi => h (i + 1) (by simpa using hi))
      simp only [depL]; simp at h0; omega
theorem depM_le (l : List (ByteArray × VT)) (d : Nat) : depM l ≤ d ↔ ∀ i (h : i < l.length), dep l[i].2 ≤ d := by
  constructor
  · intro h i hi; exact Nat.le_trans (depM_mem l i hi) h
  · intro h
    induction l with
    | nil => simp [depM]
    | cons t r ih =>
      have h0 := h 0 (by simp)
      have := ih (fun i hi => h (i + 1) (by simpa using hi))
      simp only [depM]; simp at h0; omega
/-- What Good asks level by level is what the document says. -/
theorem vld_iff : ∀ (L : Nat) (t : VT), Vld L t ↔ dep t ≤ L ∧ May t
  | 0, .mk k n s l m => by
    simp only [Vld, VT.k, May, dep]
    by_cases h4 : k = 4
    · simp [h4]
    · by_cases h5 : k = 5
      · simp [h5]
      · simp [h4, h5]
  | L + 1, .mk k n s l m => by
    simp only [Vld, May, dep]
    by_cases h4 : k = 4
    · subst h4
      have e : (1 + depL l ≤ L + 1) ↔ (depL l ≤ L) := by omega
      simp only [vld_iff L, mayL_iff, if_true, e, depL_le, true_implies]
      have h45 : ¬ (4 : Int) = 5 := by decide
      simp only [h45, false_implies, and_true]
      constructor
      · rintro ⟨h1, h2⟩; exact ⟨fun i hi => (h2 i hi).1, h1, fun i hi => (h2 i hi).2⟩
      · rintro ⟨h1, h2, h3⟩; exact ⟨h2, fun i hi => ⟨h1 i hi, h3 i hi⟩⟩
    · by_cases h5 : k = 5
      · subst h5
        have e : (1 + depM m ≤ L + 1) ↔ (depM m ≤ L) := by omega
        have h54 : ¬ (5 : Int) = 4 := by decide
        simp only [h54, if_false, if_true, false_implies, true_and, true_implies, vld_iff L, mayM_iff, e, depM_le]
        constructor
        · rintro ⟨h1, h2⟩; exact ⟨fun i hi => (h2 i hi).1, h1, fun i hi => (h2 i hi).2⟩
        · rintro ⟨h1, h2, h3⟩; exact ⟨h2, fun i hi => ⟨h1 i hi, h3 i hi⟩⟩
      · simp [h4, h5]
theorem goodV_iff (t : VT) : GoodV t ↔ dep t ≤ 50 ∧ May t := by
  constructor
  · rintro ⟨L, rfl, h⟩; exact (vld_iff _ t).1 h
  · intro h; exact ⟨50, rfl, (vld_iff _ t).2 h⟩
end Go.Proofs.Ytghkfbhmabnecaa
