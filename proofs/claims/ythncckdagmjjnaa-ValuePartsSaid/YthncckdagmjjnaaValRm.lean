/-
  The document's own answer Map: each member put into its place.
  Conditions: none.
-/
import Derived.Test.YthncckdagmjjnaaValMa
namespace Go.Proofs.Ythncckdagmjjnaa
open Go.RowKit

theorem getD_set_ne {D : List Nat} {k t x : Nat} (h : t ≠ k) : (D.set k x).getD t 0 = D.getD t 0 := by
  rw [List.getD_eq_getElem?_getD, List.getElem?_set_ne (fun e => h e.symm), List.getD_eq_getElem?_getD]
theorem mem_getD {D : List Nat} {y : Nat} : y ∈ D ↔ ∃ t, t < D.length ∧ D.getD t 0 = y := by
  constructor
  · intro h
    obtain ⟨t, ht, e⟩ := List.getElem_of_mem h
    exact ⟨t, ht, by simp [ht, e]⟩
  · rintro ⟨t, ht, rfl⟩
    exact getD_mem ht
theorem idx_lt {key : Nat → ByteArray} {D : List Nat} (h : D.Pairwise (fun a b => ltS (key a) (key b) = true)) {i j : Nat} (hij : i < j) (hj : j < D.length) : ltS (key (D.getD i 0)) (key (D.getD j 0)) = true := by
  have := List.pairwise_iff_getElem.1 h i j (by omega) hj hij
  simpa [hj, show i < D.length by omega] using this
/-- A key that is there: its member takes the place. -/
theorem idx_set {key : Nat → ByteArray} {i k : Nat} {D : List Nat} (h : IsIdx key i D) (hk : k < D.length) (he : key (D.getD k 0) = key i) : IsIdx key (i + 1) (D.set k i) := by
  have hmap : (D.set k i).map key = D.map key := by
    rw [List.map_set]
    apply List.ext_getElem?
    intro t
    by_cases e : t = k
    · subst e
      rw [List.getElem?_set_self (by simpa using hk), List.getElem?_map, List.getElem?_eq_getElem hk]
      rw [← he]; simp [hk]
    · rw [List.getElem?_set_ne (fun h => e h.symm)]
  refine ⟨?_, fun y => ?_⟩
  · have h1 := h.1
    rw [← List.pairwise_map (f := key) (R := fun a b => ltS a b = true)] at h1 ⊢
    rw [hmap]; exact h1
  · have hm : y ∈ D.set k i ↔ y = i ∨ ∃ t, t ≠ k ∧ t < D.length ∧ D.getD t 0 = y := by
      rw [mem_getD]
      constructor
      · rintro ⟨t, ht, rfl⟩
        rw [List.length_set] at ht
        by_cases e : t = k
        · subst e; left; rw [List.getD_eq_getElem?_getD, List.getElem?_set_self ht]; rfl
        · right; exact ⟨t, e, ht, (getD_set_ne e).symm⟩
      · rintro (rfl | ⟨t, e, ht, rfl⟩)
        · exact ⟨k, by simpa using hk, by rw [List.getD_eq_getElem?_getD, List.getElem?_set_self hk]; rfl⟩
        · exact ⟨t, by simpa using ht, getD_set_ne e⟩
    rw [hm]
    constructor
    · rintro (rfl | ⟨t, e, ht, rfl⟩)
      · exact ⟨by omega, fun x hx _ => by omega⟩
      · have h2 := (h.2 _).1 (getD_mem ht)
        refine ⟨by omega, fun x hx hkx => ?_⟩
        by_cases ex : x = i
        · subst ex
          rw [← he] at hkx
          exfalso
          rcases Nat.lt_or_gt_of_ne e with h3 | h3
          · exact ltS_ne (idx_lt h.1 h3 hk) hkx.symm
          · exact ltS_ne (idx_lt h.1 h3 ht) hkx
        · exact h2.2 x (by omega) hkx
    · rintro ⟨hy, hmax⟩
      by_cases ey : y = i
      · exact .inl ey
      · right
        obtain ⟨t, ht, e⟩ := mem_getD.1 ((h.2 y).2 ⟨by omega, fun x hx hkx => hmax x (by omega) hkx⟩)
        refine ⟨t, fun ek => ?_, ht, e⟩
        subst ek
        rw [e] at he
        have := hmax i (by omega) he.symm
        omega
/-- A key that is not there: its member is put between. -/
theorem idx_ins {key : Nat → ByteArray} {i k : Nat} {D : List Nat} (h : IsIdx key i D) (hk : k ≤ D.length) (h1 : ∀ t, t < k → ltS (key (D.getD t 0)) (key i) = true) (h2 : k = D.length ∨ (ltS (key (D.getD k 0)) (key i) = false ∧ key (D.getD k 0) ≠ key i)) : IsIdx key (i + 1) (D.take k ++ i :: D.drop k) := by
  have hg : ∀ t, k ≤ t → t < D.length → ltS (key i) (key (D.getD t 0)) = true := by
    intro t htk ht
    rcases h2 with h2 | ⟨h2, h3⟩
    · omega
    · have h4 : ltS (key i) (key (D.getD k 0)) = true := by
        cases h5 : ltS (key i) (key (D.getD k 0)) with
        | true => rfl
        | false => exact absurd (ltS_tri _ _ h2 h5) h3
      by_cases e : t = k
      · subst e; exact h4
      · exact ltS_trans h4 (idx_lt h.1 (by omega) ht)
  have hne : ∀ y ∈ D, key y ≠ key i := by
    intro y hy
    obtain ⟨t, ht, rfl⟩ := mem_getD.1 hy
    rcases Nat.lt_or_ge t k with h3 | h3
    · exact ltS_ne (h1 t h3)
    · exact (ltS_ne (hg t h3 ht)).symm
  refine ⟨?_, fun y => ?_⟩
  · have h0 := h.1
    rw [← List.take_append_drop k D, List.pairwise_append] at h0
    rw [List.pairwise_append]
    refine ⟨h0.1, List.pairwise_cons.2 ⟨fun y hy => ?_, h0.2.1⟩, fun a ha b hb => ?_⟩
    · obtain ⟨t, h3, h4, rfl⟩ := mem_drop_get hy
      exact hg t h3 h4
    · rcases List.mem_cons.1 hb with rfl | hb
      · obtain ⟨t, h3, h4, rfl⟩ := mem_take_get ha
        exact h1 t h3
      · exact h0.2.2 a ha b hb
  · have hm : y ∈ D.take k ++ i :: D.drop k ↔ y = i ∨ y ∈ D := by
      rw [List.mem_append, List.mem_cons]
      conv => rhs; rw [← List.take_append_drop k D, List.mem_append]
      exact ⟨fun h => by rcases h with h | h | h <;> simp [h], fun h => by rcases h with h | h | h <;> simp [h]⟩
    rw [hm]
    constructor
    · rintro (rfl | hy)
      · exact ⟨by omega, fun x hx _ => by omega⟩
      · have h3 := (h.2 y).1 hy
        refine ⟨by omega, fun x hx hkx => ?_⟩
        by_cases ex : x = i
        · subst ex; exact absurd hkx.symm (hne y hy)
        · exact h3.2 x (by omega) hkx
    · rintro ⟨hy, hmax⟩
      by_cases ey : y = i
      · exact .inl ey
      · exact .inr ((h.2 y).2 ⟨by omega, fun x hx hkx => hmax x (by omega) hkx⟩)
theorem set_at {D : List Nat} {j c x : Nat} (hj : j ≤ D.length) : (D.take j ++ c :: D.drop j).set j x = D.take j ++ x :: D.drop j := by
  have e : (D.take j).length = j := by rw [List.length_take]; omega
  rw [List.set_append_right _ _ (by omega), e, Nat.sub_self]
  rfl
theorem getD_at {D : List Nat} {j c : Nat} (hj : 0 < j) (hjl : j ≤ D.length) : (D.take j ++ c :: D.drop j).getD (j - 1) 0 = D.getD (j - 1) 0 := by
  rw [List.getD_eq_getElem?_getD, List.getElem?_append_left (by rw [List.length_take]; omega), List.getElem?_take_of_lt (by omega), List.getD_eq_getElem?_getD]
theorem shift_at {D : List Nat} {j : Nat} (hj : 0 < j) (hjl : j ≤ D.length) : D.take j ++ D.getD (j - 1) 0 :: D.drop j = D.take (j - 1) ++ D.getD (j - 1) 0 :: D.drop (j - 1) := by
  obtain ⟨p, rfl⟩ : ∃ p, j = p + 1 := ⟨j - 1, by omega⟩
  rw [Nat.add_sub_cancel, List.take_succ_eq_append_getElem (by omega)]
  have e : D.getD p 0 = D[p] := by simp [show p < D.length by omega]
  rw [e, List.append_assoc]
  congr 1
  rw [List.drop_eq_getElem_cons (show p < D.length by omega)]
  rfl

def zer : Nat → Value
  | 0 => .string ⟨#[]⟩
  | 1 => .int .i64 0
  | 2 => .int .i64 0
  | 3 => .string ⟨#[]⟩
  | _ => .slice none 0 0
/-- The members that came in, and one that is nothing. -/
def encZ (n : Nat) (cm : Nat → Nat → Value) (x j : Nat) : Value := if x < n then cm x j else zer j
theorem encZ_lt {n : Nat} {cm : Nat → Nat → Value} {x : Nat} (h : x < n) (j : Nat) : encZ n cm x j = cm x j := by unfold encZ; rw [if_pos h]
theorem flat6_encZ {n : Nat} {cm : Nat → Nat → Value} {D : List Nat} (h : ∀ x ∈ D, x < n) : flat6 (encZ n cm) D = flat6 cm D := by
  unfold flat6
  induction D with
  | nil => rfl
  | cons x D ih =>
    rw [List.flatMap_cons, List.flatMap_cons, ih (fun y hy => h y (List.mem_cons_of_mem _ hy))]
    have := h x List.mem_cons_self
    simp only [encZ_lt this]
/-- The state between two members. -/
def RmAt (m : List (ByteArray × VT)) (cm : Nat → Nat → Value) (B i : Nat) (D : List Nat) (ov : Value) (W wr : World) : Prop :=
  (IsIdx (keyD m) i D ∧ D.length ≤ i) ∧ wr.ownsRow B 28 6 ov D.length (flat6 (encZ m.length cm) D) ∧ Below W.heap.size W wr
theorem ownsRow_form {W : World} {base e size n : Nat} {v : Value} {xs : List Value} (h : W.ownsRow base e size v n xs) : ∃ ao cap, v = .slice ao n cap ∧ cap ≤ maxLen := by
  obtain ⟨_, ⟨rfl, h⟩ | ⟨g, cap, cur, rfl, hg, hh, h1, h2, r⟩⟩ := h
  · subst h; exact ⟨_, _, rfl, by decide⟩
  · exact ⟨_, _, rfl, h2⟩
end Go.Proofs.Ythncckdagmjjnaa
