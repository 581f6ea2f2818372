/-
  Decimal digits as a plain function, and what they are read as.
  Conditions: none.
-/
import Derived.Test.YthcphfpkinfjoaaPaL
namespace Go.Proofs.Ythcphfpkinfjoaa

/-- The digits of a number; none of 0. -/
def dl : Nat → Nat → List UInt8
  | 0, _ => []
  | f + 1, u => if u = 0 then [] else dl f (u / 10) ++ [UInt8.ofNat (48 + u % 10)]
theorem dl_byte (u : Nat) : (UInt8.ofNat (48 + u % 10)).toNat = 48 + u % 10 := by rw [UInt8.toNat_ofNat']; omega
theorem dl_dig (u : Nat) : pDig (UInt8.ofNat (48 + u % 10)) = true := by unfold pDig; rw [dl_byte]; simp; omega
theorem dl_all : ∀ (f u : Nat), ∀ c ∈ dl f u, pDig c = true
  | 0, _, c, h => by simp [dl] at h
  | f + 1, u, c, h => by
    simp only [dl] at h
    split at h
    · cases h
    · rcases List.mem_append.1 h with h | h
      · exact dl_all f _ c h
      · rw [List.mem_singleton] at h; rw [h]; exact dl_dig u
theorem pDigs_snoc (c : UInt8) : ∀ (l : List UInt8) (n : Nat), pDigs n (l ++ [c]) = match pDigs n l with
    | some m => if pDig c = true then (if 9007199254740991 < m * 10 + (c.toNat - 48) then none else some (m * 10 + (c.toNat - 48))) else none
    | none => none
  | [], n => by simp [pDigs]
  | a :: l, n => by
    rw [List.cons_append]
    simp only [pDigs]
    split
    · split
      · rfl
      · exact pDigs_snoc c l _
    · rfl
/-- Digits are read as their number, if it is not too great. -/
theorem pDigs_dl : ∀ (f u : Nat), u < 10 ^ f → pDigs 0 (dl f u) = if u ≤ 9007199254740991 then some u else none
  | 0, u, h => by
    have : u = 0 := by simpa using h
    subst this
    rfl
  | f + 1, u, h => by
    simp only [dl]
    by_cases h0 : u = 0
    · rw [if_pos h0, h0]; rfl
    rw [if_neg h0, pDigs_snoc, pDigs_dl f (u / 10) (by rw [Nat.pow_succ] at h; omega)]
    by_cases h1 : u / 10 ≤ 9007199254740991
    · rw [if_pos h1]
      simp only
      rw [if_pos (dl_dig u), dl_byte]
      have e : u / 10 * 10 + (48 + u % 10 - 48) = u := by omega
      rw [e]
      by_cases h2 : u ≤ 9007199254740991
      · rw [if_pos h2, if_neg (by omega)]
      · rw [if_neg h2, if_pos (by omega)]
    · rw [if_neg h1, if_neg (by omega)]
/-- The first digit is not 0. -/
theorem dl_head : ∀ (f u : Nat), u < 10 ^ f → 0 < u → ∃ c t, dl f u = c :: t ∧ c.toNat ≠ 48 ∧ pDig c = true
  | 0, u, h, h0 => by simp at h; omega
  | f + 1, u, h, h0 => by
    simp only [dl]
    rw [if_neg (by omega)]
    by_cases h1 : u / 10 = 0
    · have : dl f (u / 10) = [] := by rw [h1]; cases f <;> simp [dl]
      rw [this]
      exact ⟨_, [], rfl, by rw [dl_byte]; omega, dl_dig u⟩
    · obtain ⟨c, t, e, h2, h3⟩ := dl_head f (u / 10) (by rw [Nat.pow_succ] at h; omega) (by omega)
      rw [e]
      exact ⟨c, t ++ [_], rfl, h2, h3⟩
/-- What a number is written as. -/
def decI (n : Int) : List UInt8 := if n = 0 then [48] else if n < 0 then 45 :: dl 20 n.natAbs else dl 20 n.natAbs
theorem pInt_dec (n : Int) (hn : n.natAbs < 10 ^ 20) : pInt (decI n) = if -9007199254740991 ≤ n ∧ n ≤ 9007199254740991 then some n else none := by
  unfold decI
  by_cases h0 : n = 0
  · rw [if_pos h0, h0]; rfl
  rw [if_neg h0]
  obtain ⟨c, t, e, h1, h2⟩ := dl_head 20 n.natAbs hn (by omega)
  have hd := pDigs_dl 20 n.natAbs hn
  rw [e] at hd
  have hp := pDig_ge h2
  by_cases hneg : n < 0
  · rw [if_pos hneg, e]
    simp only [pInt]
    rw [if_neg (by simp), if_pos (by decide)]
    simp only [pDec]
    rw [if_neg h1, hd]
    by_cases hb : n.natAbs ≤ 9007199254740991
    · rw [if_pos hb, if_pos (by omega)]
      simp only [Option.map_some, if_true]
      congr 1; omega
    · rw [if_neg hb, if_neg (by omega)]; rfl
  · rw [if_neg hneg, e]
    simp only [pInt]
    rw [if_neg (by omega), if_neg (by omega)]
    simp only [pDec]
    rw [if_neg h1, hd]
    by_cases hb : n.natAbs ≤ 9007199254740991
    · rw [if_pos hb, if_pos (by omega)]
      simp only [Option.map_some, Bool.false_eq_true, if_false]
      congr 1; omega
    · rw [if_neg hb, if_neg (by omega)]; rfl
/-- A sign that is no digit spoils digits. -/
theorem pDigs_spoilt (c : UInt8) (h : pDig c = false) : ∀ (l r : List UInt8) (n : Nat), pDigs n (l ++ c :: r) = none
  | [], r, n => by simp [pDigs, h]
  | a :: l, r, n => by
    rw [List.cons_append]
    simp only [pDigs]
    split
    · split
      · rfl
      · exact pDigs_spoilt c h l r _
    · rfl
end Go.Proofs.Ythcphfpkinfjoaa
