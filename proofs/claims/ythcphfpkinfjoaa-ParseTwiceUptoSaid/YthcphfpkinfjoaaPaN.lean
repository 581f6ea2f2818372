/-
  What is read of a number's digits, and of texts that are made of them.
  Conditions: none.
-/
import Derived.Test.YthcphfpkinfjoaaPaZ
namespace Go.Proofs.Ythcphfpkinfjoaa

theorem pRun_all : ∀ (l r : List UInt8), (∀ c ∈ l, pSign c = true) → pRun (l ++ r) = l ++ pRun r
  | [], r, _ => rfl
  | c :: l, r, h => by
    rw [List.cons_append]
    simp only [pRun]
    rw [if_pos (h c List.mem_cons_self), pRun_all l r fun x hx => h x (List.mem_cons_of_mem _ hx)]
    rfl
theorem pPast_all : ∀ (l r : List UInt8), (∀ c ∈ l, pSign c = true) → pPast (l ++ r) = pPast r
  | [], r, _ => rfl
  | c :: l, r, h => by
    rw [List.cons_append]
    simp only [pPast]
    rw [if_pos (h c List.mem_cons_self), pPast_all l r fun x hx => h x (List.mem_cons_of_mem _ hx)]
/-- A text of the signs of numbers that begins as a number does. -/
def NumT (l : List UInt8) : Prop := (∀ c ∈ l, pSign c = true) ∧ ∃ c t, l = c :: t ∧ (c.toNat = 45 ∨ pDig c = true)
theorem NumT.val {l : List UInt8} (h : NumT l) (r : List UInt8) (hr : pRun r = []) (f d : Nat) : pVal (f + 1) d (l ++ r) = match pInt l with
    | some n => .ok (jInt n, pPast r)
    | none => .error 3 := by
  obtain ⟨ha, c, t, rfl, hc⟩ := h
  have h1 := pRun_all (c :: t) r ha
  have h2 := pPast_all (c :: t) r ha
  rw [hr, List.append_nil] at h1
  have hb : pBlank c = false := by
    rcases hc with hc | hc
    · simp [pBlank, hc]
    · have := pDig_ge hc; simp [pBlank]; omega
  rw [List.cons_append] at h1 h2 ⊢
  have hd : c.toNat ≠ 91 ∧ c.toNat ≠ 123 ∧ c.toNat ≠ 34 := by
    rcases hc with hc | hc
    · omega
    · unfold pDig at hc; simp at hc; omega
  simp only [pVal]
  rw [pSkip_not _ hb]
  simp only
  rw [if_neg hd.1, if_neg hd.2.1, if_neg hd.2.2, if_pos hc]
  unfold pNumber
  rw [h1, h2]
  cases pInt (c :: t) <;> rfl
theorem NumT.no {l : List UInt8} (h : NumT l) (hl : l.length ≤ 100) (hn : pInt l = none) : pParse l 100 = .error 3 := by
  unfold pParse pAll
  rw [if_neg (by omega)]
  have := h.val [] rfl (2 * l.length) 0
  rw [List.append_nil, hn] at this
  rw [this]
theorem NumT.yes {l : List UInt8} (h : NumT l) (hl : l.length ≤ 100) {n : Int} (hn : pInt l = some n) : pParse l 100 = .ok (jInt n) := by
  unfold pParse pAll
  rw [if_neg (by omega)]
  have := h.val [] rfl (2 * l.length) 0
  rw [List.append_nil, hn] at this
  rw [this]
  rfl
theorem NumT.within {l : List UInt8} (h : NumT l) (hl : l.length ≤ 98) (hn : pInt l = none) : pParse (91 :: (l ++ [93])) 100 = .error 3 := by
  have hlen : (91 :: (l ++ [93])).length = l.length + 2 := by simp
  unfold pParse pAll
  rw [if_neg (by omega), hlen]
  have hv := h.val [93] rfl (2 * l.length + 1 + 1) 1
  rw [hn] at hv
  obtain ⟨ha, c, t, rfl, hc⟩ := h
  have hb : pBlank c = false := by
    rcases hc with hc | hc
    · simp [pBlank, hc]
    · have := pDig_ge hc; simp [pBlank]; omega
  have h93 : c.toNat ≠ 93 := by
    rcases hc with hc | hc
    · omega
    · unfold pDig at hc; simp at hc; omega
  have e : pVal (2 * ((c :: t).length + 2) + 1) 0 (91 :: (c :: t ++ [93])) = .error 3 := by
    rw [show 2 * ((c :: t).length + 2) + 1 = (2 * (c :: t).length + 1 + 1 + 1) + 1 + 1 by omega]
    rw [pVal, pSkip_not _ (show pBlank 91 = false from rfl)]
    simp only
    rw [if_pos (by decide), if_neg (by decide), List.cons_append, pSkip_not _ hb]
    simp only
    rw [if_neg h93, pItems]
    rw [List.cons_append] at hv
    rw [Nat.zero_add, hv]
    rfl
  rw [e]
theorem pSign_dig {c : UInt8} (h : pDig c = true) : pSign c = true := by unfold pSign; rw [h]; rfl
theorem decI_signs (n : Int) : ∀ c ∈ decI n, pSign c = true := by
  unfold decI
  intro c h
  split at h
  · rw [List.mem_singleton] at h; rw [h]; rfl
  · split at h
    · rcases List.mem_cons.1 h with h | h
      · rw [h]; rfl
      · exact pSign_dig (dl_all _ _ c h)
    · exact pSign_dig (dl_all _ _ c h)
theorem dl_len : ∀ (f u : Nat), (dl f u).length ≤ f
  | 0, _ => Nat.le_refl _
  | f + 1, u => by
    simp only [dl]
    split
    · simp
    · have := dl_len f (u / 10); simp; omega
theorem decI_len (n : Int) : (decI n).length ≤ 21 := by
  unfold decI
  split
  · simp
  · have := dl_len 20 n.natAbs
    split
    · simp; omega
    · omega
/-- A number's digits: a lone nought, a minus and digits, digits; the first is no nought. -/
theorem decI_form (n : Int) (hn : n.natAbs < 10 ^ 20) : decI n = [48] ∨ ∃ c t, c.toNat ≠ 48 ∧ pDig c = true ∧ (decI n = 45 :: c :: t ∨ decI n = c :: t) := by
  unfold decI
  by_cases h0 : n = 0
  · left; rw [if_pos h0]
  right
  obtain ⟨c, t, e, h1, h2⟩ := dl_head 20 n.natAbs hn (by omega)
  refine ⟨c, t, h1, h2, ?_⟩
  rw [if_neg h0, e]
  split
  · exact .inl rfl
  · exact .inr rfl
theorem decI_num (n : Int) (hn : n.natAbs < 10 ^ 20) : NumT (decI n) := by
  refine ⟨decI_signs n, ?_⟩
  rcases decI_form n hn with h | ⟨c, t, _, h2, h | h⟩
  · exact ⟨48, [], h, .inr rfl⟩
  · exact ⟨45, c :: t, h, .inl rfl⟩
  · exact ⟨c, t, h, .inr h2⟩
theorem NumT.app {l : List UInt8} (h : NumT l) (r : List UInt8) (hr : ∀ c ∈ r, pSign c = true) : NumT (l ++ r) := by
  obtain ⟨ha, c, t, rfl, hc⟩ := h
  refine ⟨?_, c, t ++ r, rfl, hc⟩
  intro x hx
  rcases List.mem_append.1 hx with hx | hx
  · exact ha x hx
  · exact hr x hx
theorem pDec_spoilt (neg : Bool) (l r : List UInt8) (c : UInt8) (h : pDig c = false) : pDec neg (l ++ c :: r) = none := by
  cases hl : l ++ c :: r with
  | nil => rfl
  | cons a t =>
    simp only [pDec]
    rw [← hl, pDigs_spoilt c h l r 0]
    split <;> rfl
theorem pInt_spoilt (n : Int) (hn : n.natAbs < 10 ^ 20) (r : List UInt8) (c : UInt8) (h : pDig c = false) : pInt (decI n ++ c :: r) = none := by
  rcases decI_form n hn with e | ⟨x, t, h1, h2, e | e⟩
  · rw [e]
    show pInt (48 :: c :: r) = none
    simp only [pInt]
    rw [if_neg (by simp), if_neg (by decide)]
    simp [pDec]
  · rw [e]
    show pInt (45 :: ((x :: t) ++ c :: r)) = none
    simp only [pInt]
    rw [if_neg (by simp), if_pos (by decide), pDec_spoilt _ _ _ _ h]
  · rw [e]
    show pInt (x :: (t ++ c :: r)) = none
    have := pDig_ge h2
    simp only [pInt]
    rw [if_neg (by intro h; exact h1 h.1), if_neg (by omega)]
    exact pDec_spoilt false (x :: t) r c h
theorem pInt_minus (n : Int) (r : List UInt8) (c : UInt8) (h : pDig c = false) : pInt (45 :: (decI n ++ c :: r)) = none := by
  simp only [pInt]
  rw [if_neg (by simp), if_pos (by decide), pDec_spoilt _ _ _ _ h]
theorem pInt_nought (n : Int) (hn : n.natAbs < 10 ^ 20) : pInt (48 :: decI n) = none := by
  obtain ⟨_, c, t, e, _⟩ := decI_num n hn
  rw [e]
  simp only [pInt]
  rw [if_neg (by simp), if_neg (by decide)]
  simp [pDec]
theorem parse_plus (l : List UInt8) (hl : l.length ≤ 99) : pParse (43 :: l) 100 = .error 2 := by
  unfold pParse pAll
  rw [if_neg (by simp only [List.length_cons]; omega)]
  have e : pVal (2 * (43 :: l).length + 1) 0 (43 :: l) = .error 2 := by
    rw [pVal, pSkip_not _ (show pBlank 43 = false from rfl)]
    simp only
    rw [if_neg (by decide), if_neg (by decide), if_neg (by decide), if_neg (by decide)]
    rfl
  rw [e]
end Go.Proofs.Ythcphfpkinfjoaa
