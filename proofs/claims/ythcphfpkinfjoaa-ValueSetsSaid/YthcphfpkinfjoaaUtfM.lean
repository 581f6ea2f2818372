/-
  Plain facts on the functions of lists of bytes: texts that are joined, cut, quoted and read back.
  Conditions: none.
-/
import Derived.Test.YthcphfpkinfjoaaUtfU
namespace Go.Proofs.Ythcphfpkinfjoaa

theorem uCont_loc : ∀ (n r : Nat) (l : List UInt8) (q : Nat) (u : List UInt8), uCont n r l = some (q, u) → ∃ p, l = p ++ u ∧ p.length = n ∧ (∀ x ∈ p, x.toNat / 64 = 2) ∧ ∀ u', uCont n r (p ++ u') = some (q, u')
  | 0, r, l, q, u, h => by
    simp only [uCont, Option.some.injEq, Prod.mk.injEq] at h
    obtain ⟨rfl, rfl⟩ := h
    exact ⟨[], rfl, rfl, by simp, fun u' => rfl⟩
  | n + 1, r, [], q, u, h => by simp [uCont] at h
  | n + 1, r, c :: t, q, u, h => by
    simp only [uCont] at h
    split at h
    · rename_i hc
      obtain ⟨p, rfl, hp, hx, hl⟩ := uCont_loc n _ t q u h
      refine ⟨c :: p, rfl, by simp [hp], ?_, ?_⟩
      · intro x hxm
        rcases List.mem_cons.1 hxm with rfl | hm
        · exact hc
        · exact hx x hm
      · intro u'
        simp only [List.cons_append, uCont, hc, if_true]
        exact hl u'
    · simp at h
theorem uCont_short (n r : Nat) (l : List UInt8) (h : l.length < n) : uCont n r l = none := by
  cases hc : uCont n r l with
  | none => rfl
  | some p => obtain ⟨q, u⟩ := p; have := uCont_len _ _ _ _ _ hc; omega
theorem uTail_loc {n r least : Nat} {l : List UInt8} {q : Nat} {u : List UInt8} (h : uTail n r least l = some (q, u)) :
    ∃ p, l = p ++ u ∧ p.length = n ∧ (∀ x ∈ p, x.toNat / 64 = 2) ∧ (∀ u', uTail n r least (p ++ u') = some (q, u')) ∧ uCont n r l = some (q, u) ∧ least ≤ q := by
  unfold uTail at h
  split at h
  · rename_i q' t' heq
    split at h
    · rename_i hf
      simp only [Option.some.injEq, Prod.mk.injEq] at h
      obtain ⟨rfl, rfl⟩ := h
      obtain ⟨p, hp, hn, hx, hl⟩ := uCont_loc _ _ _ _ _ heq
      refine ⟨p, hp, hn, hx, fun u' => ?_, heq, ?_⟩
      · unfold uTail; rw [hl u']; simp only; rw [if_pos hf]
      · simp only [uFit, Bool.and_eq_true, decide_eq_true_eq] at hf; exact hf.1.1
    · simp at h
  · simp at h
theorem uTail_short (n r least : Nat) (l : List UInt8) (h : l.length < n) : uTail n r least l = none := by
  unfold uTail; rw [uCont_short n r l h]

/-- A code point's first byte, the bytes that go on, what is behind. -/
theorem uPoint_loc {c : UInt8} {l : List UInt8} {q : Nat} {u : List UInt8} (h : uPoint c l = some (q, u)) :
    ∃ p, l = p ++ u ∧ (∀ x ∈ p, x.toNat / 64 = 2) ∧ c.toNat / 64 ≠ 2 ∧ (∀ u', uPoint c (p ++ u') = some (q, u')) ∧ (∀ p', p'.length < p.length → uPoint c p' = none) := by
  unfold uPoint at h
  split at h
  · rename_i h1
    simp only [Option.some.injEq, Prod.mk.injEq] at h
    obtain ⟨rfl, rfl⟩ := h
    exact ⟨[], rfl, by simp, by omega, fun u' => by unfold uPoint; rw [if_pos h1]; rfl, fun p' hp => by simp at hp⟩
  rename_i h1
  split at h
  · simp at h
  rename_i h2
  split at h
  · rename_i h3
    obtain ⟨p, hp, hn, hx, hl, _⟩ := uTail_loc h
    exact ⟨p, hp, hx, by omega, fun u' => by unfold uPoint; rw [if_neg h1, if_neg h2, if_pos h3]; exact hl u', fun p' hp' => by unfold uPoint; rw [if_neg h1, if_neg h2, if_pos h3]; exact uTail_short _ _ _ _ (by omega)⟩
  rename_i h3
  split at h
  · rename_i h4
    obtain ⟨p, hp, hn, hx, hl, _⟩ := uTail_loc h
    exact ⟨p, hp, hx, by omega, fun u' => by unfold uPoint; rw [if_neg h1, if_neg h2, if_neg h3, if_pos h4]; exact hl u', fun p' hp' => by unfold uPoint; rw [if_neg h1, if_neg h2, if_neg h3, if_pos h4]; exact uTail_short _ _ _ _ (by omega)⟩
  rename_i h4
  split at h
  · rename_i h5
    obtain ⟨p, hp, hn, hx, hl, _⟩ := uTail_loc h
    exact ⟨p, hp, hx, by omega, fun u' => by unfold uPoint; rw [if_neg h1, if_neg h2, if_neg h3, if_neg h4, if_pos h5]; exact hl u', fun p' hp' => by unfold uPoint; rw [if_neg h1, if_neg h2, if_neg h3, if_neg h4, if_pos h5]; exact uTail_short _ _ _ _ (by omega)⟩
  · simp at h
theorem uPoint_goes {x : UInt8} (l : List UInt8) (h : x.toNat / 64 = 2) : uPoint x l = none := by
  unfold uPoint; rw [if_neg (by omega), if_pos (by omega)]

theorem uRunes_some {c : UInt8} {t : List UInt8} {n : Nat} (h : uRunes (c :: t) = some n) : ∃ r u m, uPoint c t = some (r, u) ∧ uRunes u = some m ∧ n = m + 1 := by
  rw [uRunes_cons] at h
  split at h
  · rename_i r u heq
    simp only [Option.map_eq_some_iff] at h
    obtain ⟨m, hm, rfl⟩ := h
    exact ⟨r, u, m, heq, hm, rfl⟩
  · simp at h
theorem uRunes_point {c : UInt8} {t : List UInt8} {r : Nat} {u : List UInt8} (h : uPoint c t = some (r, u)) : uRunes (c :: t) = (uRunes u).map (· + 1) := by
  rw [uRunes_cons, h]

/-- An induction along the code points of a text that is well formed. -/
theorem uGood_ind (P : List UInt8 → Nat → Prop) (h0 : P [] 0)
    (h1 : ∀ c p u r m, (∀ x ∈ p, x.toNat / 64 = 2) → c.toNat / 64 ≠ 2 → (∀ u', uPoint c (p ++ u') = some (r, u')) → (∀ p', p'.length < p.length → uPoint c p' = none) → uRunes u = some m → P u m → P (c :: (p ++ u)) (m + 1)) :
    ∀ (k : Nat) (l : List UInt8) (n : Nat), l.length ≤ k → uRunes l = some n → P l n
  | _, [], n, _, h => by rw [uRunes_nil] at h; cases h; exact h0
  | 0, _ :: _, _, hk, _ => by simp at hk
  | k + 1, c :: t, n, hk, h => by
    obtain ⟨r, u, m, hp, hu, rfl⟩ := uRunes_some h
    obtain ⟨p, rfl, hx, hc, hl, hs⟩ := uPoint_loc hp
    have hlen : u.length ≤ k := by simp at hk; omega
    exact h1 c p u r m hx hc hl hs hu (uGood_ind P h0 h1 k u m hlen hu)

theorem uRunes_join {s t : List UInt8} {a b : Nat} (hs : uRunes s = some a) (ht : uRunes t = some b) : uRunes (s ++ t) = some (a + b) := by
  refine uGood_ind (fun l n => uRunes (l ++ t) = some (n + b)) (by simpa using ht) ?_ s.length s a (Nat.le_refl _) hs
  intro c p u r m hx hc hl hs' hu ih
  rw [List.cons_append, List.append_assoc, uRunes_point (hl (u ++ t)), ih]
  simp; omega

theorem uRunes_cut {s : List UInt8} {a : Nat} (hs : uRunes s = some a) : ∀ k, k ≤ s.length →
    ((∃ x, s[k]? = some x ∧ x.toNat / 64 = 2) → uRunes (s.take k) = none ∧ uRunes (s.drop k) = none) ∧
    ((∀ x, s[k]? = some x → x.toNat / 64 ≠ 2) → ∃ m n, uRunes (s.take k) = some m ∧ uRunes (s.drop k) = some n ∧ m + n = a) := by
  refine uGood_ind (fun l n => ∀ k, k ≤ l.length →
    ((∃ x, l[k]? = some x ∧ x.toNat / 64 = 2) → uRunes (l.take k) = none ∧ uRunes (l.drop k) = none) ∧
    ((∀ x, l[k]? = some x → x.toNat / 64 ≠ 2) → ∃ m n', uRunes (l.take k) = some m ∧ uRunes (l.drop k) = some n' ∧ m + n' = n)) ?_ ?_ s.length s a (Nat.le_refl _) hs
  · intro k hk
    simp at hk; subst hk
    refine ⟨?_, ?_⟩
    · rintro ⟨x, hx, _⟩; simp at hx
    · intro _; exact ⟨0, 0, rfl, rfl, rfl⟩
  · intro c p u r m hx hc hl hs' hu ih k hk
    cases k with
    | zero =>
      refine ⟨?_, ?_⟩
      · rintro ⟨x, h1, h2⟩
        simp at h1; subst h1; exact absurd h2 hc
      · intro _
        refine ⟨0, m + 1, rfl, ?_, by omega⟩
        simp only [List.drop_zero]
        rw [uRunes_point (hl u), hu]; rfl
    | succ k =>
      simp only [List.length_cons, List.length_append] at hk
      simp only [List.getElem?_cons_succ, List.take_succ_cons, List.drop_succ_cons]
      by_cases hkp : k < p.length
      · have e : (p ++ u)[k]? = some p[k] := by rw [List.getElem?_append_left hkp, List.getElem?_eq_getElem hkp]
        have hg : p[k].toNat / 64 = 2 := hx _ (List.getElem_mem hkp)
        refine ⟨fun _ => ⟨?_, ?_⟩, fun h => absurd hg (h _ e)⟩
        · rw [List.take_append_of_le_length (by omega), uRunes_cons, hs' _ (by simp; omega)]
        · rw [List.drop_append_of_le_length (by omega), List.drop_eq_getElem_cons hkp, List.cons_append, uRunes_cons, uPoint_goes _ hg]
      · obtain ⟨j, rfl⟩ : ∃ j, k = p.length + j := ⟨k - p.length, by omega⟩
        have e1 : (p ++ u)[p.length + j]? = u[j]? := by rw [List.getElem?_append_right (by omega)]; congr 1; omega
        have e2 : (p ++ u).take (p.length + j) = p ++ u.take j := by rw [List.take_append, List.take_of_length_le (by omega)]; simp
        have e3 : (p ++ u).drop (p.length + j) = u.drop j := by rw [List.drop_append]; simp
        rw [e1, e2, e3, uRunes_point (hl _)]
        obtain ⟨i1, i2⟩ := ih j (by omega)
        refine ⟨fun h => ?_, fun h => ?_⟩
        · obtain ⟨q1, q2⟩ := i1 h
          rw [q1]; exact ⟨rfl, q2⟩
        · obtain ⟨m', n', q1, q2, q3⟩ := i2 h
          rw [q1]; exact ⟨m' + 1, n', rfl, q2, by omega⟩

end Go.Proofs.Ythcphfpkinfjoaa
