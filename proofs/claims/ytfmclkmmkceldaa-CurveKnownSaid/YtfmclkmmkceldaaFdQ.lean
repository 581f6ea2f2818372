/-
  Sums and differences of four words, word by word (plain).
  Conditions: none.
-/
import Derived.Test.YtfmclkmmkceldaaFdW
namespace Go.Proofs.Ytfmclkmmkceldaa

/-- What goes over into word k of a sum; the word. -/
def adc (l m : List Nat) : Nat → Nat
  | 0 => 0
  | k + 1 => (l.getD k 0 + m.getD k 0 + adc l m k) / 18446744073709551616
def ads (l m : List Nat) (k : Nat) : Nat := (l.getD k 0 + m.getD k 0 + adc l m k) % 18446744073709551616
theorem adc_le (l m : List Nat) (hl : ∀ i, l.getD i 0 < 18446744073709551616) (hm : ∀ i, m.getD i 0 < 18446744073709551616) : ∀ k, adc l m k ≤ 1
  | 0 => Nat.zero_le 1
  | k + 1 => by
    have := adc_le l m hl hm k
    have h1 := hl k
    have h2 := hm k
    simp only [adc]
    omega
theorem add_fin (n m : Nat) (hn : n < 115792089237316195423570985008687907853269984665640564039457584007913129639936) (hm : m < 115792089237316195423570985008687907853269984665640564039457584007913129639936) : (List.range 4).map (ads (w4 n) (w4 m)) = w4 ((n + m) % 115792089237316195423570985008687907853269984665640564039457584007913129639936) ∧ adc (w4 n) (w4 m) 4 = (n + m) / 115792089237316195423570985008687907853269984665640564039457584007913129639936 := by
  obtain ⟨a0, a1, a2, a3, ha0, ha1, ha2, ha3, en, e1⟩ := w4_parts n hn
  obtain ⟨b0, b1, b2, b3, hb0, hb1, hb2, hb3, em, e2⟩ := w4_parts m hm
  rw [e1, e2]
  obtain ⟨c1, hc1⟩ : ∃ x, (a0 + b0 + 0) / 18446744073709551616 = x := ⟨_, rfl⟩
  obtain ⟨c2, hc2⟩ : ∃ x, (a1 + b1 + c1) / 18446744073709551616 = x := ⟨_, rfl⟩
  obtain ⟨c3, hc3⟩ : ∃ x, (a2 + b2 + c2) / 18446744073709551616 = x := ⟨_, rfl⟩
  obtain ⟨c4, hc4⟩ : ∃ x, (a3 + b3 + c3) / 18446744073709551616 = x := ⟨_, rfl⟩
  obtain ⟨s0, hs0⟩ : ∃ x, (a0 + b0 + 0) % 18446744073709551616 = x := ⟨_, rfl⟩
  obtain ⟨s1, hs1⟩ : ∃ x, (a1 + b1 + c1) % 18446744073709551616 = x := ⟨_, rfl⟩
  obtain ⟨s2, hs2⟩ : ∃ x, (a2 + b2 + c2) % 18446744073709551616 = x := ⟨_, rfl⟩
  obtain ⟨s3, hs3⟩ : ∃ x, (a3 + b3 + c3) % 18446744073709551616 = x := ⟨_, rfl⟩
  have q1 : adc [a0, a1, a2, a3] [b0, b1, b2, b3] 1 = c1 := hc1
  have q2 : adc [a0, a1, a2, a3] [b0, b1, b2, b3] 2 = c2 := by rw [adc, q1]; exact hc2
  have q3 : adc [a0, a1, a2, a3] [b0, b1, b2, b3] 3 = c3 := by rw [adc, q2]; exact hc3
  have q4 : adc [a0, a1, a2, a3] [b0, b1, b2, b3] 4 = c4 := by rw [adc, q3]; exact hc4
  have r0 : ads [a0, a1, a2, a3] [b0, b1, b2, b3] 0 = s0 := hs0
  have r1 : ads [a0, a1, a2, a3] [b0, b1, b2, b3] 1 = s1 := by rw [ads, q1]; exact hs1
  have r2 : ads [a0, a1, a2, a3] [b0, b1, b2, b3] 2 = s2 := by rw [ads, q2]; exact hs2
  have r3 : ads [a0, a1, a2, a3] [b0, b1, b2, b3] 3 = s3 := by rw [ads, q3]; exact hs3
  have i0 : s0 < 18446744073709551616 := by omega
  have i1 : s1 < 18446744073709551616 := by omega
  have i2 : s2 < 18446744073709551616 := by omega
  have i3 : s3 < 18446744073709551616 := by omega
  have j0 : a0 + b0 = s0 + 18446744073709551616 * c1 := by omega
  have j1 : a1 + b1 + c1 = s1 + 18446744073709551616 * c2 := by omega
  have j2 : a2 + b2 + c2 = s2 + 18446744073709551616 * c3 := by omega
  have j3 : a3 + b3 + c3 = s3 + 18446744073709551616 * c4 := by omega
  have hsum : n + m = (s0 + 18446744073709551616 * s1 + 340282366920938463463374607431768211456 * s2 + 6277101735386680763835789423207666416102355444464034512896 * s3) + 115792089237316195423570985008687907853269984665640564039457584007913129639936 * c4 := by omega
  clear hc1 hc2 hc3 hc4 hs0 hs1 hs2 hs3 j0 j1 j2 j3
  refine ⟨?_, ?_⟩
  · show [ads _ _ 0, ads _ _ 1, ads _ _ 2, ads _ _ 3] = _
    rw [r0, r1, r2, r3]
    refine (w4_of s0 s1 s2 s3 _ i0 i1 i2 i3 ?_).symm
    omega
  · rw [q4]
    omega
/-- The same of a difference. -/
def sbb (l m : List Nat) : Nat → Nat
  | 0 => 0
  | k + 1 => bor (l.getD k 0) (m.getD k 0 + sbb l m k)
def sbs (l m : List Nat) (k : Nat) : Nat := (l.getD k 0 + 18446744073709551616 - m.getD k 0 - sbb l m k) % 18446744073709551616
theorem sbb_le (l m : List Nat) : ∀ k, sbb l m k ≤ 1
  | 0 => Nat.zero_le 1
  | _ + 1 => bor_le _ _
theorem bor_step (x y b d s : Nat) (hb : b ≤ 1) (hx : x < 18446744073709551616) (hy : y < 18446744073709551616) (hd : bor x (y + b) = d) (hs : (x + 18446744073709551616 - y - b) % 18446744073709551616 = s) : x + 18446744073709551616 * d = s + y + b ∧ s < 18446744073709551616 ∧ d ≤ 1 := by
  unfold bor at hd
  split at hd <;> omega
theorem sub_sum (n m a0 a1 a2 a3 b0 b1 b2 b3 c1 c2 c3 c4 s0 s1 s2 s3 : Nat) (en : n = a0 + 18446744073709551616 * a1 + 340282366920938463463374607431768211456 * a2 + 6277101735386680763835789423207666416102355444464034512896 * a3) (em : m = b0 + 18446744073709551616 * b1 + 340282366920938463463374607431768211456 * b2 + 6277101735386680763835789423207666416102355444464034512896 * b3) (j0 : a0 + 18446744073709551616 * c1 = s0 + b0 + 0) (j1 : a1 + 18446744073709551616 * c2 = s1 + b1 + c1) (j2 : a2 + 18446744073709551616 * c3 = s2 + b2 + c2) (j3 : a3 + 18446744073709551616 * c4 = s3 + b3 + c3) :
    n + 115792089237316195423570985008687907853269984665640564039457584007913129639936 * c4 = (s0 + 18446744073709551616 * s1 + 340282366920938463463374607431768211456 * s2 + 6277101735386680763835789423207666416102355444464034512896 * s3) + m := by omega
theorem lt_sum (s0 s1 s2 s3 : Nat) (i0 : s0 < 18446744073709551616) (i1 : s1 < 18446744073709551616) (i2 : s2 < 18446744073709551616) (i3 : s3 < 18446744073709551616) : s0 + 18446744073709551616 * s1 + 340282366920938463463374607431768211456 * s2 + 6277101735386680763835789423207666416102355444464034512896 * s3 < 115792089237316195423570985008687907853269984665640564039457584007913129639936 := by omega
theorem sub_end (n m S c : Nat) (hn : n < 115792089237316195423570985008687907853269984665640564039457584007913129639936) (hm : m < 115792089237316195423570985008687907853269984665640564039457584007913129639936) (h : n + 115792089237316195423570985008687907853269984665640564039457584007913129639936 * c = S + m) (hS : S < 115792089237316195423570985008687907853269984665640564039457584007913129639936) (hc : c ≤ 1) : (n + 115792089237316195423570985008687907853269984665640564039457584007913129639936 - m) % 115792089237316195423570985008687907853269984665640564039457584007913129639936 = S ∧ c = bor n m := by
  refine ⟨by omega, ?_⟩
  unfold bor
  split <;> omega
theorem sub_fin (n m : Nat) (hn : n < 115792089237316195423570985008687907853269984665640564039457584007913129639936) (hm : m < 115792089237316195423570985008687907853269984665640564039457584007913129639936) : (List.range 4).map (sbs (w4 n) (w4 m)) = w4 ((n + 115792089237316195423570985008687907853269984665640564039457584007913129639936 - m) % 115792089237316195423570985008687907853269984665640564039457584007913129639936) ∧ sbb (w4 n) (w4 m) 4 = bor n m := by
  obtain ⟨a0, a1, a2, a3, ha0, ha1, ha2, ha3, en, e1⟩ := w4_parts n hn
  obtain ⟨b0, b1, b2, b3, hb0, hb1, hb2, hb3, em, e2⟩ := w4_parts m hm
  rw [e1, e2]
  obtain ⟨c1, hc1⟩ : ∃ x, bor a0 (b0 + 0) = x := ⟨_, rfl⟩
  obtain ⟨c2, hc2⟩ : ∃ x, bor a1 (b1 + c1) = x := ⟨_, rfl⟩
  obtain ⟨c3, hc3⟩ : ∃ x, bor a2 (b2 + c2) = x := ⟨_, rfl⟩
  obtain ⟨c4, hc4⟩ : ∃ x, bor a3 (b3 + c3) = x := ⟨_, rfl⟩
  obtain ⟨s0, hs0⟩ : ∃ x, (a0 + 18446744073709551616 - b0 - 0) % 18446744073709551616 = x := ⟨_, rfl⟩
  obtain ⟨s1, hs1⟩ : ∃ x, (a1 + 18446744073709551616 - b1 - c1) % 18446744073709551616 = x := ⟨_, rfl⟩
  obtain ⟨s2, hs2⟩ : ∃ x, (a2 + 18446744073709551616 - b2 - c2) % 18446744073709551616 = x := ⟨_, rfl⟩
  obtain ⟨s3, hs3⟩ : ∃ x, (a3 + 18446744073709551616 - b3 - c3) % 18446744073709551616 = x := ⟨_, rfl⟩
  have q1 : sbb [a0, a1, a2, a3] [b0, b1, b2, b3] 1 = c1 := hc1
  have q2 : sbb [a0, a1, a2, a3] [b0, b1, b2, b3] 2 = c2 := by rw [sbb, q1]; exact hc2
  have q3 : sbb [a0, a1, a2, a3] [b0, b1, b2, b3] 3 = c3 := by rw [sbb, q2]; exact hc3
  have q4 : sbb [a0, a1, a2, a3] [b0, b1, b2, b3] 4 = c4 := by rw [sbb, q3]; exact hc4
  have r0 : sbs [a0, a1, a2, a3] [b0, b1, b2, b3] 0 = s0 := hs0
  have r1 : sbs [a0, a1, a2, a3] [b0, b1, b2, b3] 1 = s1 := by rw [sbs, q1]; exact hs1
  have r2 : sbs [a0, a1, a2, a3] [b0, b1, b2, b3] 2 = s2 := by rw [sbs, q2]; exact hs2
  have r3 : sbs [a0, a1, a2, a3] [b0, b1, b2, b3] 3 = s3 := by rw [sbs, q3]; exact hs3
  obtain ⟨j0, i0, k1⟩ := bor_step a0 b0 0 c1 s0 (by decide) ha0 hb0 hc1 hs0
  obtain ⟨j1, i1, k2⟩ := bor_step a1 b1 c1 c2 s1 k1 ha1 hb1 hc2 hs1
  obtain ⟨j2, i2, k3⟩ := bor_step a2 b2 c2 c3 s2 k2 ha2 hb2 hc3 hs2
  obtain ⟨j3, i3, k4⟩ := bor_step a3 b3 c3 c4 s3 k3 ha3 hb3 hc4 hs3
  have hsum := sub_sum n m _ _ _ _ _ _ _ _ _ _ _ _ _ _ _ _ en em j0 j1 j2 j3
  have hlt := lt_sum s0 s1 s2 s3 i0 i1 i2 i3
  obtain ⟨f1, f2⟩ := sub_end n m _ c4 hn hm hsum hlt k4
  refine ⟨?_, ?_⟩
  · show [sbs _ _ 0, sbs _ _ 1, sbs _ _ 2, sbs _ _ 3] = _
    rw [r0, r1, r2, r3]
    exact (w4_of s0 s1 s2 s3 _ i0 i1 i2 i3 f1).symm
  · rw [q4]
    exact f2
theorem fillw (f : Nat → Nat) (l : List Nat) (k : Nat) (hl : l.length = 4) (hk : k < 4) : ((List.range k).map f ++ l.drop k).set k (f k) = (List.range (k + 1)).map f ++ l.drop (k + 1) := by
  have e := List.drop_eq_getElem_cons (show k < l.length by omega)
  rw [List.set_append_right _ _ (by simp)]
  simp only [List.length_map, List.length_range, Nat.sub_self]
  rw [e, List.set_cons_zero, List.range_succ, List.map_append, List.append_assoc]
  rfl
theorem fillw_get (f : Nat → Nat) (l : List Nat) (k : Nat) : ((List.range k).map f ++ l.drop k).getD k 0 = l.getD k 0 := by
  rw [List.getD_eq_getElem?_getD, List.getElem?_append_right (by simp)]
  simp
theorem fillw_len (f : Nat → Nat) (l : List Nat) (k : Nat) (hl : l.length = 4) (hk : k ≤ 4) : ((List.range k).map f ++ l.drop k).length = 4 := by
  simp; omega
end Go.Proofs.Ytfmclkmmkceldaa
