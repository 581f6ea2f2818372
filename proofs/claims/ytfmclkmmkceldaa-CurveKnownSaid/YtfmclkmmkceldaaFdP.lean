/-
  Numbers of four words, of thirty-two bytes.
  Conditions: none.
-/
import Derived.Test.YtfmclkmmkceldaaFdN
namespace Go.Proofs.Ytfmclkmmkceldaa

/-- The number of words, the lowest first. -/
def nv : List Nat → Nat
  | [] => 0
  | x :: l => x + 18446744073709551616 * nv l
/-- The four words of a number. -/
def w4 (n : Nat) : List Nat := [n % 18446744073709551616, n / 18446744073709551616 % 18446744073709551616, n / 340282366920938463463374607431768211456 % 18446744073709551616, n / 6277101735386680763835789423207666416102355444464034512896 % 18446744073709551616]
theorem w4_len (n : Nat) : (w4 n).length = 4 := rfl
theorem nv_w4 (n : Nat) (h : n < 115792089237316195423570985008687907853269984665640564039457584007913129639936) : nv (w4 n) = n := by
  simp only [nv, w4]; omega
theorem nv4 (a b c d : Nat) : nv [a, b, c, d] = a + 18446744073709551616 * b + 340282366920938463463374607431768211456 * c + 6277101735386680763835789423207666416102355444464034512896 * d := by
  simp only [nv]; omega
theorem w4_of (a b c d n : Nat) (ha : a < 18446744073709551616) (hb : b < 18446744073709551616) (hc : c < 18446744073709551616) (hd : d < 18446744073709551616) (h : n = a + 18446744073709551616 * b + 340282366920938463463374607431768211456 * c + 6277101735386680763835789423207666416102355444464034512896 * d) : w4 n = [a, b, c, d] := by
  subst h
  unfold w4
  congr 1
  · omega
  congr 1
  · omega
  congr 1
  · omega
  congr 1
  · omega
theorem w4_parts (n : Nat) (h : n < 115792089237316195423570985008687907853269984665640564039457584007913129639936) : ∃ a b c d, a < 18446744073709551616 ∧ b < 18446744073709551616 ∧ c < 18446744073709551616 ∧ d < 18446744073709551616 ∧ n = a + 18446744073709551616 * b + 340282366920938463463374607431768211456 * c + 6277101735386680763835789423207666416102355444464034512896 * d ∧ w4 n = [a, b, c, d] :=
  ⟨n % 18446744073709551616, n / 18446744073709551616 % 18446744073709551616, n / 340282366920938463463374607431768211456 % 18446744073709551616, n / 6277101735386680763835789423207666416102355444464034512896 % 18446744073709551616, by omega, by omega, by omega, by omega, by omega, rfl⟩
theorem w4_lt (n i : Nat) : (w4 n).getD i 0 < 18446744073709551616 := by
  match i with
  | 0 => exact Nat.mod_lt _ (by decide)
  | 1 => exact Nat.mod_lt _ (by decide)
  | 2 => exact Nat.mod_lt _ (by decide)
  | 3 => exact Nat.mod_lt _ (by decide)
  | _ + 4 => show 0 < _; decide
theorem w4_inj {a b : Nat} (ha : a < 115792089237316195423570985008687907853269984665640564039457584007913129639936) (hb : b < 115792089237316195423570985008687907853269984665640564039457584007913129639936) (h : w4 a = w4 b) : a = b := by rw [← nv_w4 a ha, ← nv_w4 b hb, h]
/-- A word is set. -/
theorem nv_set : ∀ (l : List Nat) (k x : Nat), k < l.length → nv (l.set k x) + 18446744073709551616 ^ k * l.getD k 0 = nv l + 18446744073709551616 ^ k * x
  | [], k, x, h => by simp at h
  | y :: l, 0, x, _ => by simp only [List.set_cons_zero, nv, List.getD_cons_zero, Nat.pow_zero]; omega
  | y :: l, k + 1, x, h => by
    have ih := nv_set l k x (by simpa using h)
    simp only [List.set_cons_succ, nv, List.getD_cons_succ, Nat.pow_succ]
    generalize nv (l.set k x) = A at ih ⊢
    generalize nv l = B at ih ⊢
    generalize l.getD k 0 = C at ih ⊢
    generalize 18446744073709551616 ^ k = K at ih ⊢
    have e1 : K * 18446744073709551616 * C = 18446744073709551616 * (K * C) := by rw [Nat.mul_comm K, Nat.mul_assoc]
    have e2 : K * 18446744073709551616 * x = 18446744073709551616 * (K * x) := by rw [Nat.mul_comm K, Nat.mul_assoc]
    rw [e1, e2]
    generalize K * C = U at ih ⊢
    generalize K * x = V at ih ⊢
    omega
/-- The number of bytes, the lowest first. -/
def le : List UInt8 → Nat
  | [] => 0
  | x :: l => x.toNat + 256 * le l
/-- So many bytes of a number. -/
def bn : Nat → Nat → List UInt8
  | 0, _ => []
  | k + 1, n => UInt8.ofNat (n % 256) :: bn k (n / 256)
theorem bn_len : ∀ k n, (bn k n).length = k
  | 0, _ => rfl
  | k + 1, n => by rw [bn, List.length_cons, bn_len k]
theorem le_bn : ∀ k n, le (bn k n) = n % 256 ^ k
  | 0, n => by rw [Nat.pow_zero, Nat.mod_one]; rfl
  | k + 1, n => by
    rw [bn, le, le_bn k, UInt8.toNat_ofNat', Nat.mod_eq_of_lt (Nat.mod_lt _ (by decide)), Nat.pow_succ, Nat.mul_comm (256 ^ k) 256, Nat.mod_mul]
theorem bn_le : ∀ l : List UInt8, bn l.length (le l) = l
  | [] => rfl
  | x :: l => by
    have hx := x.toNat_lt
    rw [List.length_cons, bn, le]
    have e1 : (x.toNat + 256 * le l) % 256 = x.toNat := by omega
    have e2 : (x.toNat + 256 * le l) / 256 = le l := by omega
    rw [e1, e2, bn_le l]
    simp
theorem le_lt : ∀ l : List UInt8, le l < 256 ^ l.length
  | [] => by decide
  | x :: l => by
    have hx := x.toNat_lt
    have := le_lt l
    rw [List.length_cons, le, Nat.pow_succ]
    omega
theorem bn_get : ∀ k n i : Nat, i < k → (bn k n).getD i 0 = UInt8.ofNat (n / 256 ^ i % 256)
  | 0, _, _, h => absurd h (Nat.not_lt_zero _)
  | k + 1, n, 0, _ => by rw [bn, List.getD_cons_zero, Nat.pow_zero, Nat.div_one]
  | k + 1, n, i + 1, h => by rw [bn, List.getD_cons_succ, bn_get k _ i (by omega), Nat.div_div_eq_div_mul, Nat.pow_succ, Nat.mul_comm 256]
theorem le_get : ∀ (l : List UInt8) (i : Nat), le l / 256 ^ i % 256 = (l.getD i 0).toNat
  | [], i => by simp [le]
  | x :: l, 0 => by have hx := x.toNat_lt; rw [Nat.pow_zero, Nat.div_one, le, List.getD_cons_zero]; omega
  | x :: l, i + 1 => by
    have hx := x.toNat_lt
    rw [List.getD_cons_succ, ← le_get l i, le, Nat.pow_succ, Nat.mul_comm (256 ^ i), ← Nat.div_div_eq_div_mul]
    congr 2
    omega
/-- Thirty-two bytes of a number. -/
def b32 (n : Nat) : List UInt8 := bn 32 n
theorem b32_len (n : Nat) : (b32 n).length = 32 := bn_len 32 n
theorem le_b32 (n : Nat) (h : n < 115792089237316195423570985008687907853269984665640564039457584007913129639936) : le (b32 n) = n := by
  unfold b32; rw [le_bn]; exact Nat.mod_eq_of_lt h
theorem b32_le (l : List UInt8) (h : l.length = 32) : b32 (le l) = l := by
  unfold b32; rw [← h]; exact bn_le l
theorem le_32 (l : List UInt8) (h : l.length = 32) : le l < 115792089237316195423570985008687907853269984665640564039457584007913129639936 := by
  have := le_lt l; rw [h] at this; exact this
theorem b32_inj {a b : Nat} (ha : a < 115792089237316195423570985008687907853269984665640564039457584007913129639936) (hb : b < 115792089237316195423570985008687907853269984665640564039457584007913129639936) (h : b32 a = b32 b) : a = b := by rw [← le_b32 a ha, ← le_b32 b hb, h]
theorem b32_get (n i : Nat) (h : i < 32) : (b32 n).getD i 0 = UInt8.ofNat (n / 256 ^ i % 256) := bn_get 32 n i h
/-- A word of a number, and its eight bytes. -/
def wd (n i : Nat) : Nat := n / 18446744073709551616 ^ i % 18446744073709551616
theorem w4_wd (n : Nat) : w4 n = (List.range 4).map (wd n) := by
  unfold w4 wd
  simp only [List.range, List.range.loop, List.map, Nat.pow_zero, Nat.div_one, Nat.pow_one]
theorem w4_get (n i : Nat) (h : i < 4) : (w4 n).getD i 0 = wd n i := by
  rw [w4_wd]
  simp [List.getD_eq_getElem?_getD, h]
theorem wd_byte (n i j : Nat) (h : j < 8) : wd n i / 2 ^ (8 * j) % 256 = n / 256 ^ (8 * i + j) % 256 := by
  unfold wd
  have e1 : 18446744073709551616 = 256 ^ 8 := by decide
  have e2 : (2 : Nat) ^ (8 * j) = 256 ^ j := by rw [Nat.pow_mul]
  rw [e2, e1, ← Nat.pow_mul]
  generalize hm : n / 256 ^ (8 * i) = m
  rw [Nat.pow_add, ← Nat.div_div_eq_div_mul, hm, show (256 : Nat) ^ 8 = 256 ^ j * 256 ^ (8 - j) by rw [← Nat.pow_add]; congr 1; omega, Nat.mod_mul_right_div_self]
  have e3 : (256 : Nat) ^ (8 - j) = 256 * 256 ^ (7 - j) := by rw [Nat.mul_comm, ← Nat.pow_succ]; congr 1; omega
  rw [e3, Nat.mod_mul_right_mod]
theorem by8 (m m1 m2 m3 m4 m5 m6 m7 m8 r0 r1 r2 r3 r4 r5 r6 r7 : Nat) (e0 : m = r0 + 256 * m1) (e1 : m1 = r1 + 256 * m2) (e2 : m2 = r2 + 256 * m3) (e3 : m3 = r3 + 256 * m4) (e4 : m4 = r4 + 256 * m5) (e5 : m5 = r5 + 256 * m6) (e6 : m6 = r6 + 256 * m7) (e7 : m7 = r7 + 256 * m8)
    (h0 : r0 < 256) (h1 : r1 < 256) (h2 : r2 < 256) (h3 : r3 < 256) (h4 : r4 < 256) (h5 : r5 < 256) (h6 : r6 < 256) (h7 : r7 < 256) :
    m % 18446744073709551616 = r0 + 256 * r1 + 65536 * r2 + 16777216 * r3 + 4294967296 * r4 + 1099511627776 * r5 + 281474976710656 * r6 + 72057594037927936 * r7 := by
  have e : m = (r0 + 256 * r1 + 65536 * r2 + 16777216 * r3 + 4294967296 * r4 + 1099511627776 * r5 + 281474976710656 * r6 + 72057594037927936 * r7) + 18446744073709551616 * m8 := by omega
  have hl : r0 + 256 * r1 + 65536 * r2 + 16777216 * r3 + 4294967296 * r4 + 1099511627776 * r5 + 281474976710656 * r6 + 72057594037927936 * r7 < 18446744073709551616 := by omega
  rw [e, Nat.add_mul_mod_self_left, Nat.mod_eq_of_lt hl]
theorem le_next (l : List UInt8) (i : Nat) : le l / 256 ^ i = (l.getD i 0).toNat + 256 * (le l / 256 ^ (i + 1)) := by
  rw [← le_get l i, Nat.pow_succ, ← Nat.div_div_eq_div_mul]
  omega
/-- A word out of eight bytes. -/
theorem wd_of (l : List UInt8) (i : Nat) : wd (le l) i = (l.getD (8 * i) 0).toNat + 256 * (l.getD (8 * i + 1) 0).toNat + 65536 * (l.getD (8 * i + 2) 0).toNat + 16777216 * (l.getD (8 * i + 3) 0).toNat + 4294967296 * (l.getD (8 * i + 4) 0).toNat + 1099511627776 * (l.getD (8 * i + 5) 0).toNat + 281474976710656 * (l.getD (8 * i + 6) 0).toNat + 72057594037927936 * (l.getD (8 * i + 7) 0).toNat := by
  unfold wd
  rw [show 18446744073709551616 ^ i = 256 ^ (8 * i) by rw [Nat.pow_mul]]
  exact by8 _ _ _ _ _ _ _ _ _ _ _ _ _ _ _ _ _ (le_next l (8 * i)) (le_next l (8 * i + 1)) (le_next l (8 * i + 2)) (le_next l (8 * i + 3)) (le_next l (8 * i + 4)) (le_next l (8 * i + 5)) (le_next l (8 * i + 6)) (le_next l (8 * i + 7)) (UInt8.toNat_lt _) (UInt8.toNat_lt _) (UInt8.toNat_lt _) (UInt8.toNat_lt _) (UInt8.toNat_lt _) (UInt8.toNat_lt _) (UInt8.toNat_lt _) (UInt8.toNat_lt _)
end Go.Proofs.Ytfmclkmmkceldaa
