/-
  Numbers of eight words (plain): their words, sums, one byte more.
  Conditions: none.
-/
import Derived.Test.YtfmclkmmkceldaaFdQ
import Derived.Test.YtfmclkmmkceldaaFdM
namespace Go.Proofs.Ytfmclkmmkceldaa

/-- The eight words of a number. -/
def w8 (n : Nat) : List Nat := w4 (n % 115792089237316195423570985008687907853269984665640564039457584007913129639936) ++ w4 (n / 115792089237316195423570985008687907853269984665640564039457584007913129639936)
theorem w8n_len (n : Nat) : (w8 n).length = 8 := rfl
theorem wd_low (n i : Nat) (h : i < 4) : wd (n % 115792089237316195423570985008687907853269984665640564039457584007913129639936) i = wd n i := by
  unfold wd
  rw [show (115792089237316195423570985008687907853269984665640564039457584007913129639936 : Nat) = 18446744073709551616 ^ i * 18446744073709551616 ^ (4 - i) by rw [← Nat.pow_add, show i + (4 - i) = 4 by omega], Nat.mod_mul_right_div_self,
    show 4 - i = (3 - i) + 1 by omega, Nat.pow_succ, Nat.mul_comm (18446744073709551616 ^ (3 - i)), Nat.mod_mul_right_mod]
theorem wd_high (n i : Nat) : wd (n / 115792089237316195423570985008687907853269984665640564039457584007913129639936) i = wd n (4 + i) := by
  unfold wd
  rw [Nat.pow_add, show (18446744073709551616 : Nat) ^ 4 = 115792089237316195423570985008687907853269984665640564039457584007913129639936 by decide, Nat.div_div_eq_div_mul]
theorem w8_wd (n : Nat) : w8 n = (List.range 8).map (wd n) := by
  unfold w8
  rw [w4_wd, w4_wd]
  simp only [List.range, List.range.loop, List.map, List.cons_append, List.nil_append, wd_high, wd_low n 0 (by decide), wd_low n 1 (by decide), wd_low n 2 (by decide), wd_low n 3 (by decide)]
theorem w8n_get (n i : Nat) (h : i < 8) : (w8 n).getD i 0 = wd n i := by
  rw [w8_wd]
  simp [List.getD_eq_getElem?_getD, h]
theorem wd_lt (n i : Nat) : wd n i < 18446744073709551616 := Nat.mod_lt _ (by decide)
theorem w8_lt (n i : Nat) : (w8 n).getD i 0 < 18446744073709551616 := by
  by_cases h : i < 8
  · rw [w8n_get n i h]; exact wd_lt n i
  · rw [List.getD_eq_getElem?_getD, List.getElem?_eq_none (by rw [w8n_len]; omega)]; decide
theorem nv_w8 (n : Nat) (h : n < 13407807929942597099574024998205846127479365820592393377723561443721764030073546976801874298166903427690031858186486050853753882811946569946433649006084096) : nv (w8 n) = n := by
  unfold w8
  rw [nv_append, nv_w4 _ (Nat.mod_lt _ (by decide)), nv_w4 _ (Nat.div_lt_of_lt_mul h), w4_len, show (18446744073709551616 : Nat) ^ 4 = 115792089237316195423570985008687907853269984665640564039457584007913129639936 by decide, Nat.mod_add_div]
theorem w8_of (l : List Nat) (n : Nat) (hl : l.length = 8) (h : ∀ i, l.getD i 0 < 18446744073709551616) (hn : nv l = n) : l = w8 n := by
  subst hn; exact w8_nv l hl h
theorem w8_w4 (n : Nat) (h : n < 115792089237316195423570985008687907853269984665640564039457584007913129639936) : w8 n = w4 n ++ [0, 0, 0, 0] := by
  unfold w8
  rw [Nat.mod_eq_of_lt h, Nat.div_eq_of_lt h]
  rfl
/-! ### Sums -/
/-- What goes over into word k of a sum that begins with a carry; the word. -/
def adb (b : Nat) (l m : List Nat) : Nat → Nat
  | 0 => b
  | k + 1 => (l.getD k 0 + m.getD k 0 + adb b l m k) / 18446744073709551616
def adt (b : Nat) (l m : List Nat) (k : Nat) : Nat := (l.getD k 0 + m.getD k 0 + adb b l m k) % 18446744073709551616
theorem adb_le (b : Nat) (l m : List Nat) (hb : b ≤ 1) (hl : ∀ i, l.getD i 0 < 18446744073709551616) (hm : ∀ i, m.getD i 0 < 18446744073709551616) : ∀ k, adb b l m k ≤ 1
  | 0 => hb
  | k + 1 => by
    have := adb_le b l m hb hl hm k
    have h1 := hl k
    have h2 := hm k
    simp only [adb]
    omega
def nvk (l : List Nat) (k : Nat) : Nat := nv ((List.range k).map fun i => l.getD i 0)
theorem nv_snoc (f : Nat → Nat) (k : Nat) : nv ((List.range (k + 1)).map f) = nv ((List.range k).map f) + 18446744073709551616 ^ k * f k := by
  rw [List.range_succ, List.map_append, nv_append]
  simp [nv]
theorem adt_sum (b : Nat) (l m : List Nat) : ∀ k, nv ((List.range k).map (adt b l m)) + 18446744073709551616 ^ k * adb b l m k = nvk l k + nvk m k + b
  | 0 => by simp [nvk, nv, adb]
  | k + 1 => by
    have ih := adt_sum b l m k
    unfold nvk at ih ⊢
    rw [nv_snoc, nv_snoc (fun i => l.getD i 0), nv_snoc (fun i => m.getD i 0)]
    have e := Nat.mod_add_div (l.getD k 0 + m.getD k 0 + adb b l m k) 18446744073709551616
    have e2 : 18446744073709551616 ^ k * adt b l m k + 18446744073709551616 ^ (k + 1) * adb b l m (k + 1) = 18446744073709551616 ^ k * l.getD k 0 + 18446744073709551616 ^ k * m.getD k 0 + 18446744073709551616 ^ k * adb b l m k := by
      rw [Nat.pow_succ, Nat.mul_assoc, ← Nat.mul_add, ← Nat.mul_add, ← Nat.mul_add]
      congr 1
    generalize nv ((List.range k).map (adt b l m)) = A at ih ⊢
    generalize nv ((List.range k).map fun i => l.getD i 0) = B at ih ⊢
    generalize nv ((List.range k).map fun i => m.getD i 0) = C at ih ⊢
    generalize 18446744073709551616 ^ k * adt b l m k = D at e2 ⊢
    generalize 18446744073709551616 ^ (k + 1) * adb b l m (k + 1) = E at e2 ⊢
    generalize 18446744073709551616 ^ k * adb b l m k = F at e2 ih
    generalize 18446744073709551616 ^ k * l.getD k 0 = G at e2 ⊢
    generalize 18446744073709551616 ^ k * m.getD k 0 = H at e2 ⊢
    omega
theorem range_get (l : List Nat) (n : Nat) (h : l.length = n) : (List.range n).map (fun i => l.getD i 0) = l := by
  subst h
  apply List.ext_getElem?
  intro i
  by_cases hi : i < l.length
  · simp [hi, List.getD_eq_getElem?_getD]
  · rw [List.getElem?_eq_none (by simpa using hi), List.getElem?_eq_none (by omega)]
theorem adt_lt (b : Nat) (l m : List Nat) (k i : Nat) : ((List.range k).map (adt b l m)).getD i 0 < 18446744073709551616 := by
  rw [List.getD_eq_getElem?_getD]
  by_cases hi : i < k
  · simp [hi]; exact Nat.mod_lt _ (by decide)
  · rw [List.getElem?_eq_none (by simpa using hi)]; decide
/-- A sum of eight words. -/
theorem add8 (n m : Nat) (h : n + m < 13407807929942597099574024998205846127479365820592393377723561443721764030073546976801874298166903427690031858186486050853753882811946569946433649006084096) : (List.range 8).map (adt 0 (w8 n) (w8 m)) = w8 (n + m) := by
  refine w8_of _ _ (by simp) (fun i => adt_lt 0 _ _ 8 i) ?_
  have e := adt_sum 0 (w8 n) (w8 m) 8
  have h1 := nv_lt _ (fun i => adt_lt 0 (w8 n) (w8 m) 8 i)
  unfold nvk at e
  rw [range_get _ 8 (w8n_len n), range_get _ 8 (w8n_len m), nv_w8 n (by omega), nv_w8 m (by omega), show (18446744073709551616 : Nat) ^ 8 = 13407807929942597099574024998205846127479365820592393377723561443721764030073546976801874298166903427690031858186486050853753882811946569946433649006084096 by decide] at e
  rw [List.length_map, List.length_range, show (18446744073709551616 : Nat) ^ 8 = 13407807929942597099574024998205846127479365820592393377723561443721764030073546976801874298166903427690031858186486050853753882811946569946433649006084096 by decide] at h1
  generalize nv _ = A at e h1 ⊢
  generalize adb 0 (w8 n) (w8 m) 8 = c at e
  omega
/-- A number of four words, doubled, and a bit. -/
theorem dbl4 (n b : Nat) (hb : b ≤ 1) (h : 2 * n + b < 115792089237316195423570985008687907853269984665640564039457584007913129639936) : (List.range 4).map (adt b (w4 n) (w4 n)) = w4 (2 * n + b) := by
  have e := adt_sum b (w4 n) (w4 n) 4
  have h1 := nv_lt _ (fun i => adt_lt b (w4 n) (w4 n) 4 i)
  unfold nvk at e
  rw [range_get _ 4 (w4_len n), nv_w4 n (by omega), show (18446744073709551616 : Nat) ^ 4 = 115792089237316195423570985008687907853269984665640564039457584007913129639936 by decide] at e
  rw [List.length_map, List.length_range, show (18446744073709551616 : Nat) ^ 4 = 115792089237316195423570985008687907853269984665640564039457584007913129639936 by decide] at h1
  rw [← w4_nv ((List.range 4).map (adt b (w4 n) (w4 n))) (by simp) (fun i => adt_lt b _ _ 4 i)]
  congr 1
  generalize nv _ = A at e h1 ⊢
  generalize adb b (w4 n) (w4 n) 4 = c at e
  omega
theorem fills (f : Nat → Nat) (l : List Nat) (k n : Nat) (hl : l.length = n) (hk : k < n) : ((List.range k).map f ++ l.drop k).set k (f k) = (List.range (k + 1)).map f ++ l.drop (k + 1) := by
  have e := List.drop_eq_getElem_cons (show k < l.length by omega)
  rw [List.set_append_right _ _ (by simp)]
  simp only [List.length_map, List.length_range, Nat.sub_self]
  rw [e, List.set_cons_zero, List.range_succ, List.map_append, List.append_assoc]
  rfl
theorem fills_len (f : Nat → Nat) (l : List Nat) (k n : Nat) (hl : l.length = n) (hk : k ≤ n) : ((List.range k).map f ++ l.drop k).length = n := by
  simp; omega
/-! ### One byte more -/
theorem from_word8 (a b q r i : Nat) (ha : a < 18446744073709551616 ^ q * 2 ^ (8 * r)) (hb : b < 256) (hr : r < 8) :
    wd (a + 18446744073709551616 ^ q * 2 ^ (8 * r) * b) i = if i = q then wd a q + 2 ^ (8 * r) * b else wd a i := by
  have hp : 2 ^ (8 * r) * 256 ≤ 18446744073709551616 := by
    have h := Nat.pow_le_pow_right (n := 2) (by decide) (show 8 * r ≤ 56 by omega)
    omega
  have hp0 : 0 < 2 ^ (8 * r) := Nat.two_pow_pos _
  obtain ⟨p, hpp⟩ : ∃ p, 2 ^ (8 * r) = p := ⟨_, rfl⟩
  rw [hpp] at ha hp hp0 ⊢
  have hpb : p * b + p ≤ p * 256 := by rw [← Nat.mul_succ]; exact Nat.mul_le_mul_left _ hb
  have hR : 0 < 18446744073709551616 := by decide
  obtain ⟨R, hRR⟩ : ∃ R, 18446744073709551616 = R := ⟨_, rfl⟩
  unfold wd
  rw [hRR] at ha hp hR ⊢
  have hq0 : 0 < R ^ q := Nat.pow_pos hR
  split
  case isTrue h =>
    subst h
    rw [Nat.mul_assoc, Nat.add_mul_div_left _ _ hq0]
    have h1 : a / R ^ i < p := Nat.div_lt_of_lt_mul ha
    rw [Nat.mod_eq_of_lt (show a / R ^ i + p * b < R by omega), Nat.mod_eq_of_lt (show a / R ^ i < R by omega)]
  case isFalse h =>
    by_cases hlt : i < q
    · obtain ⟨d, rfl⟩ : ∃ d, q = i + 1 + d := ⟨q - (i + 1), by omega⟩
      rw [show R ^ (i + 1 + d) * p * b = R ^ i * (R * (R ^ d * p * b)) by rw [Nat.pow_add, Nat.pow_add, Nat.pow_one]; simp only [Nat.mul_assoc, Nat.mul_comm, Nat.mul_left_comm]]
      rw [Nat.add_mul_div_left _ _ (Nat.pow_pos hR), Nat.add_mul_mod_self_left]
    · obtain ⟨d, rfl⟩ : ∃ d, i = q + 1 + d := ⟨i - (q + 1), by omega⟩
      have h1 : R ^ q * p * b + R ^ q * p ≤ R ^ q * R := by
        rw [Nat.mul_assoc, ← Nat.mul_add]
        exact Nat.mul_le_mul_left _ (by omega)
      have h2 : R ^ q * R ≤ R ^ (q + 1 + d) := by rw [← Nat.pow_succ]; exact Nat.pow_le_pow_right hR (by omega)
      rw [Nat.div_eq_of_lt (show a + R ^ q * p * b < R ^ (q + 1 + d) by omega), Nat.div_eq_of_lt (show a < R ^ (q + 1 + d) by omega)]
theorem pow256b (q r : Nat) : 256 ^ (8 * q + r) = 18446744073709551616 ^ q * 2 ^ (8 * r) := by
  rw [Nat.pow_add, Nat.pow_mul, Nat.pow_mul]
theorem from_set8 (n k : Nat) (hk : k < 64) :
    (w8 (n % 256 ^ k)).set (k / 8) (wd (n % 256 ^ k) (k / 8) + 2 ^ (8 * (k % 8)) * (n / 256 ^ k % 256)) = w8 (n % 256 ^ (k + 1)) := by
  obtain ⟨q, hq⟩ : ∃ q, k / 8 = q := ⟨_, rfl⟩
  obtain ⟨r, hr⟩ : ∃ r, k % 8 = r := ⟨_, rfl⟩
  rw [hq, hr]
  obtain ⟨b, hb⟩ : ∃ b, n / 256 ^ k % 256 = b := ⟨_, rfl⟩
  obtain ⟨a, ha⟩ : ∃ a, n % 256 ^ k = a := ⟨_, rfl⟩
  have h1 : n % 256 ^ (k + 1) = a + 18446744073709551616 ^ q * 2 ^ (8 * r) * b := by
    rw [Nat.pow_succ, Nat.mod_mul, ha, hb, ← pow256b, ← hq, ← hr, Nat.div_add_mod]
  have h2 : a < 18446744073709551616 ^ q * 2 ^ (8 * r) := by
    rw [← ha, ← pow256b, ← hq, ← hr, Nat.div_add_mod]; exact Nat.mod_lt _ (Nat.pow_pos (by decide))
  have h3 := fun i => from_word8 a b q r i h2 (by rw [← hb]; exact Nat.mod_lt _ (by decide)) (by omega)
  rw [hb, ha, h1, w8_wd, w8_wd]
  simp only [List.range, List.range.loop, List.map, h3]
  have hq8 : q = 0 ∨ q = 1 ∨ q = 2 ∨ q = 3 ∨ q = 4 ∨ q = 5 ∨ q = 6 ∨ q = 7 := by omega
  rcases hq8 with rfl | rfl | rfl | rfl | rfl | rfl | rfl | rfl <;> rfl
theorem from_low8 (n k : Nat) : wd (n % 256 ^ k) (k / 8) < 2 ^ (8 * (k % 8)) := by
  have h := Nat.div_add_mod k 8
  have h1 : n % 256 ^ k < 18446744073709551616 ^ (k / 8) * 2 ^ (8 * (k % 8)) := by
    rw [← pow256b, h]; exact Nat.mod_lt _ (Nat.pow_pos (by decide))
  exact Nat.lt_of_le_of_lt (Nat.mod_le _ _) (Nat.div_lt_of_lt_mul h1)
/-! ### The rest, bit by bit -/
/-- What one more bit makes of the rest of those above. -/
theorem rest_bit (n k L : Nat) : (2 * (n / 2 ^ (k + 1) % L) + n / 2 ^ k % 2) % L = n / 2 ^ k % L := by
  have e : n / 2 ^ k = 2 * (n / 2 ^ (k + 1)) + n / 2 ^ k % 2 := by
    rw [Nat.pow_succ, ← Nat.div_div_eq_div_mul]
    omega
  conv => rhs; rw [e]
  rw [Nat.add_mod, Nat.mul_mod_mod, ← Nat.add_mod]
end Go.Proofs.Ytfmclkmmkceldaa
