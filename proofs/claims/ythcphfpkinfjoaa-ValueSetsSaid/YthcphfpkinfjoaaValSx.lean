/-
  A map with one member set: what is found in it, how many members it has, that it is valid, what it is without that member.
  Conditions: none.
-/
import Derived.Test.YthcphfpkinfjoaaValSet
import Derived.Test.YthcphfpkinfjoaaValCho
namespace Go.Proofs.Ythcphfpkinfjoaa
open Go.RowKit

/-- The form of a map with one member set. -/
theorem set_form {L L2 : List (ByteArray × VT)} {key : ByteArray} {x : VT} (hA : Asc L) (h : IsMap (L ++ [(key, x)]) L2) :
    ∃ A B : List (ByteArray × VT), L2 = A ++ [(key, x)] ++ B ∧ (∀ y ∈ A, ltS y.1 key = true) ∧ (∀ y ∈ B, ltS key y.1 = true) ∧ ((L = A ++ B ∧ look L key = none) ∨ ∃ z, L = A ++ [(key, z)] ++ B ∧ look L key = some z) := by
  classical
  by_cases hf : ∃ h : posS L key < L.length, L[posS L key].1 = key
  · have e := h.unique (setM_isMap hA key x (posS L key + 1) (.inr ⟨rfl, hf⟩))
    obtain ⟨hp, he⟩ := hf
    have hL : L = L.take (posS L key) ++ [(key, L[posS L key].2)] ++ L.drop (posS L key + 1) := by
      conv => lhs; rw [← List.take_append_drop (posS L key) L, List.drop_eq_getElem_cons hp]
      rw [List.append_assoc, List.singleton_append]
      congr 2
      exact Prod.ext he rfl
    have h2 := h.1
    rw [e, asc_iff, List.append_assoc, List.pairwise_append, List.singleton_append, List.pairwise_cons] at h2
    exact ⟨_, _, e, fun y hy => h2.2.2 y hy (key, x) (by simp), fun y hy => h2.2.1.1 y hy, .inr ⟨_, hL, look_some hA key hp he⟩⟩
  · have e := h.unique (setM_isMap hA key x (posS L key) (.inl ⟨rfl, hf⟩))
    have h2 := h.1
    rw [e, asc_iff, List.append_assoc, List.pairwise_append, List.singleton_append, List.pairwise_cons] at h2
    exact ⟨_, _, e, fun y hy => h2.2.2 y hy (key, x) (by simp), fun y hy => h2.2.1.1 y hy, .inl ⟨(List.take_append_drop _ _).symm, look_none hA key hf⟩⟩
theorem set_look {L L2 : List (ByteArray × VT)} {key : ByteArray} {x : VT} (h : IsMap (L ++ [(key, x)]) L2) : look L2 key = some x := by
  rw [h.2, lastV_append, lastV_one, if_pos rfl]; rfl
theorem set_len {L L2 : List (ByteArray × VT)} {key : ByteArray} {x : VT} (hA : Asc L) (h : IsMap (L ++ [(key, x)]) L2) : L2.length = if (look L key).isSome then L.length else L.length + 1 := by
  obtain ⟨A, B, rfl, -, -, ⟨rfl, e⟩ | ⟨z, rfl, e⟩⟩ := set_form hA h
  · rw [e]; simp; omega
  · rw [e]; simp
theorem isIn_one {key k : ByteArray} : isIn [key] k = decide (key = k) := by simp [isIn]
theorem filt_lt {A : List (ByteArray × VT)} {key : ByteArray} (h : ∀ y ∈ A, y.1 ≠ key) : A.filter (stays [key] false) = A ∧ A.filter (stays [key] true) = [] := by
  constructor
  · rw [List.filter_eq_self]
    intro y hy
    have := h y hy
    simp [stays, isIn_one, Ne.symm this]
  · rw [List.filter_eq_nil_iff]
    intro y hy
    have := h y hy
    simp [stays, isIn_one, Ne.symm this]
theorem set_filt {L L2 : List (ByteArray × VT)} {key : ByteArray} {x : VT} (hA : Asc L) (h : IsMap (L ++ [(key, x)]) L2) :
    L2.filter (stays [key] false) = L.filter (stays [key] false) ∧ (L2.filter (stays [key] true)).length = 1 ∧ ((look L key).isSome = false → L2.filter (stays [key] false) = L) := by
  obtain ⟨A, B, rfl, hA1, hB1, hL⟩ := set_form hA h
  have fA := filt_lt (A := A) (key := key) (fun y hy => ltS_ne (hA1 y hy))
  have fB := filt_lt (A := B) (key := key) (fun y hy => (ltS_ne (hB1 y hy)).symm)
  have e1 : stays [key] false (key, x) = false := by simp [stays, isIn_one]
  have e2 : stays [key] true (key, x) = true := by simp [stays, isIn_one]
  have k1 : (A ++ [(key, x)] ++ B).filter (stays [key] false) = A ++ B := by
    rw [List.filter_append, List.filter_append, fA.1, fB.1, List.filter_cons_of_neg (by simp [e1])]; simp
  have k2 : (A ++ [(key, x)] ++ B).filter (stays [key] true) = [(key, x)] := by
    rw [List.filter_append, List.filter_append, fA.2, fB.2, List.filter_cons_of_pos (by simp [e2])]; simp
  rcases hL with ⟨rfl, e⟩ | ⟨z, rfl, e⟩
  · refine ⟨?_, by rw [k2]; rfl, fun _ => k1⟩
    rw [k1, List.filter_append, fA.1, fB.1]
  · refine ⟨?_, by rw [k2]; rfl, fun h0 => by rw [e] at h0; cases h0⟩
    have e3 : stays [key] false (key, z) = false := by simp [stays, isIn_one]
    rw [k1, List.filter_append, List.filter_append, fA.1, fB.1, List.filter_cons_of_neg (by simp [e3])]; simp
/-- Set again, it is the same. -/
theorem set_again {L L2 L3 : List (ByteArray × VT)} {key : ByteArray} {x : VT} (h : IsMap (L ++ [(key, x)]) L2) (h' : IsMap (L2 ++ [(key, x)]) L3) : L3 = L2 := by
  refine h'.unique ⟨h.1, fun k => ?_⟩
  rw [lastV_append, lastV_one, ← (isMap_self h.1).2 k]
  by_cases hk : key = k
  · subst hk; rw [if_pos rfl, set_look h]; rfl
  · rw [if_neg hk]; rfl
theorem set_mem {L L2 : List (ByteArray × VT)} {key : ByteArray} {x : VT} (h : IsMap (L ++ [(key, x)]) L2) : ∀ y ∈ L2, y ∈ L ∨ y = (key, x) := by
  intro y hy
  have := isMap_mem h hy
  simpa using this

set_option maxHeartbeats 400000 in
theorem textv_any (k : ByteArray) (w : World) : Calls Try.prog 14 #[.string k] w fun e w' => e = .returned (.agg #[.int .i64 3, .int .i64 0, .string k, .slice none 0 0, .slice none 0 0]) ∧ Below w.heap.size w w' := by
  go_enter Try.func14, Try.ntmps14
  go_wp2
  refine bodyPost_ret (v := .agg #[.int .i64 3, .int .i64 0, .string k, .slice none 0 0, .slice none 0 0]) (by simp [results, Try.results14, go_sem]) rfl ?_
  exact ⟨rfl, (Below.refl _ w).alloc (Nat.le_refl _) _⟩
def textT (k : ByteArray) : VT := .mk 3 0 k [] []
theorem textT_at (n₀ : Nat) (w : World) (k : ByteArray) (hk : k.size ≤ sMax) : VAt n₀ w (textT k) (.agg #[.int .i64 3, .int .i64 0, .string k, .slice none 0 0, .slice none 0 0]) :=
  .mk (cl := fun _ _ => undef) (cm := fun _ _ => undef) rfl rfl hk (.inl ⟨rfl, none, 0, rfl, by decide, fun _ => rfl⟩) (.inl ⟨rfl, none, 0, rfl, by decide, fun _ => rfl⟩) (fun i h => absurd h (Nat.not_lt_zero _)) (fun i h => absurd h (Nat.not_lt_zero _)) (fun i h => absurd h (Nat.not_lt_zero _))
theorem textT_good (k : ByteArray) : GoodV (textT k) ↔ gS k = true := by
  rw [goodV_iff]
  unfold textT
  rw [May]
  simp only [NodeOK, dep]
  simp
end Go.Proofs.Ythcphfpkinfjoaa
