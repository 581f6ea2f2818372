/-
  Products and what becomes of them, word by word (plain).
  Conditions: none.
-/
import Derived.Test.YtfmclkmmkceldaaFdP
namespace Go.Proofs.Ytfmclkmmkceldaa

theorem nv_append : ∀ (l m : List Nat), nv (l ++ m) = nv l + 18446744073709551616 ^ l.length * nv m
  | [], m => by simp [nv]
  | x :: l, m => by
    rw [List.cons_append, nv, nv_append l m, nv, List.length_cons, Nat.pow_succ, Nat.mul_add]
    rw [Nat.mul_comm (18446744073709551616 ^ l.length) 18446744073709551616, Nat.mul_assoc]
    omega
theorem nv_lt : ∀ l : List Nat, (∀ i, l.getD i 0 < 18446744073709551616) → nv l < 18446744073709551616 ^ l.length
  | [], _ => by decide
  | x :: l, h => by
    have h1 := h 0
    have h2 := nv_lt l (fun i => by have := h (i + 1); rwa [List.getD_cons_succ] at this)
    rw [List.getD_cons_zero] at h1
    rw [nv, List.length_cons, Nat.pow_succ]
    generalize 18446744073709551616 ^ l.length = K at h2 ⊢
    omega
theorem w4_nv (l : List Nat) (hl : l.length = 4) (h : ∀ i, l.getD i 0 < 18446744073709551616) : w4 (nv l) = l := by
  match l, hl with
  | [a, b, c, d], _ => exact w4_of a b c d _ (h 0) (h 1) (h 2) (h 3) (nv4 a b c d)
theorem w8_nv (l : List Nat) (hl : l.length = 8) (h : ∀ i, l.getD i 0 < 18446744073709551616) : l = w4 (nv l % 115792089237316195423570985008687907853269984665640564039457584007913129639936) ++ w4 (nv l / 115792089237316195423570985008687907853269984665640564039457584007913129639936) := by
  have e : l = l.take 4 ++ l.drop 4 := (List.take_append_drop 4 l).symm
  have h1 : ∀ i, (l.take 4).getD i 0 < 18446744073709551616 := fun i => by
    by_cases hi : i < 4
    · have := h i
      simp only [List.getD_eq_getElem?_getD, List.getElem?_take, if_pos hi] at this ⊢
      exact this
    · simp [List.getD_eq_getElem?_getD, List.getElem?_take, hi]
  have h2 : ∀ i, (l.drop 4).getD i 0 < 18446744073709551616 := fun i => by
    have := h (4 + i)
    simp only [List.getD_eq_getElem?_getD, List.getElem?_drop] at this ⊢
    exact this
  have e1 := nv_lt (l.take 4) h1
  have hn : nv l = nv (l.take 4) + 115792089237316195423570985008687907853269984665640564039457584007913129639936 * nv (l.drop 4) := by
    conv => lhs; rw [e]
    rw [nv_append, List.length_take, hl, show min 4 8 = 4 from rfl, show 18446744073709551616 ^ 4 = 115792089237316195423570985008687907853269984665640564039457584007913129639936 by decide]
  rw [List.length_take, hl] at e1
  have e2 : nv (l.take 4) < 115792089237316195423570985008687907853269984665640564039457584007913129639936 := e1
  have a1 : nv l % 115792089237316195423570985008687907853269984665640564039457584007913129639936 = nv (l.take 4) := by rw [hn, Nat.add_mul_mod_self_left, Nat.mod_eq_of_lt e2]
  have a2 : nv l / 115792089237316195423570985008687907853269984665640564039457584007913129639936 = nv (l.drop 4) := by rw [hn]; omega
  rw [a1, a2, w4_nv _ (by rw [List.length_take, hl]; rfl) h1, w4_nv _ (by rw [List.length_drop, hl]) h2]
  exact e
theorem wd_step (n k : Nat) : n % 18446744073709551616 ^ (k + 1) = n % 18446744073709551616 ^ k + 18446744073709551616 ^ k * wd n k := by
  unfold wd
  rw [Nat.pow_succ, Nat.mod_mul]
/-- One step of folding: what lies above goes in below. -/
def f1 (p : Nat × Nat) : Nat × Nat := ((p.1 + 38 * p.2) % 115792089237316195423570985008687907853269984665640564039457584007913129639936, (p.1 + 38 * p.2) / 115792089237316195423570985008687907853269984665640564039457584007913129639936)
def fk : Nat → Nat × Nat → Nat
  | 0, p => p.1
  | k + 1, p => fk k (f1 p)
/-- A number of eight words, folded. -/
def fo (lo hi : Nat) : Nat := fk 2 (f1 (lo, hi))
theorem f1_lt (p : Nat × Nat) : (f1 p).1 < 115792089237316195423570985008687907853269984665640564039457584007913129639936 := Nat.mod_lt _ (by decide)
theorem f1_zero (m : Nat) (h : m < 115792089237316195423570985008687907853269984665640564039457584007913129639936) : f1 (m, 0) = (m, 0) := by
  unfold f1
  simp only [Nat.mul_zero, Nat.add_zero]
  rw [Nat.mod_eq_of_lt h, Nat.div_eq_of_lt h]
theorem fk_zero (m : Nat) (h : m < 115792089237316195423570985008687907853269984665640564039457584007913129639936) : ∀ k, fk k (m, 0) = m
  | 0 => rfl
  | k + 1 => by rw [fk, f1_zero m h, fk_zero m h k]
theorem fk_lt : ∀ k p, p.1 < 115792089237316195423570985008687907853269984665640564039457584007913129639936 → fk k p < 115792089237316195423570985008687907853269984665640564039457584007913129639936
  | 0, _, h => h
  | k + 1, p, _ => by rw [fk]; exact fk_lt k _ (f1_lt p)
theorem fo_lt (lo hi : Nat) : fo lo hi < 115792089237316195423570985008687907853269984665640564039457584007913129639936 := fk_lt 2 _ (f1_lt _)
theorem f1_mod (p : Nat × Nat) : ((f1 p).1 + 115792089237316195423570985008687907853269984665640564039457584007913129639936 * (f1 p).2) % 57896044618658097711785492504343953926634992332820282019728792003956564819949 = (p.1 + 115792089237316195423570985008687907853269984665640564039457584007913129639936 * p.2) % 57896044618658097711785492504343953926634992332820282019728792003956564819949 := by
  unfold f1
  simp only
  generalize p.1 = a
  generalize p.2 = b
  have e1 : (a + 38 * b) % 115792089237316195423570985008687907853269984665640564039457584007913129639936 + 115792089237316195423570985008687907853269984665640564039457584007913129639936 * ((a + 38 * b) / 115792089237316195423570985008687907853269984665640564039457584007913129639936) = a + 38 * b := Nat.mod_add_div _ _
  rw [e1, show 115792089237316195423570985008687907853269984665640564039457584007913129639936 * b = 38 * b + 57896044618658097711785492504343953926634992332820282019728792003956564819949 * (2 * b) by omega, ← Nat.add_assoc, Nat.add_mul_mod_self_left]
/-- How much may lie above in each round. -/
def fb : Nat → Nat × Nat → Prop
  | 2, p => p.1 < 115792089237316195423570985008687907853269984665640564039457584007913129639936 ∧ p.2 ≤ 39
  | 1, p => p.1 < 115792089237316195423570985008687907853269984665640564039457584007913129639936 ∧ p.2 ≤ 1 ∧ (p.2 = 1 → p.1 < 2000)
  | 0, p => p.1 < 115792089237316195423570985008687907853269984665640564039457584007913129639936 ∧ p.2 = 0
  | _, _ => False
theorem fb_lt (k : Nat) (p : Nat × Nat) (h : fb k p) : p.1 < 115792089237316195423570985008687907853269984665640564039457584007913129639936 := by
  match k with
  | 0 => exact h.1
  | 1 => exact h.1
  | 2 => exact h.1
  | _ + 3 => exact absurd h id
theorem fb_zero (p : Nat × Nat) (h : fb 0 p) : p.2 = 0 := h.2
theorem fb_small (k : Nat) (p : Nat × Nat) (h : fb k p) : p.2 ≤ 39 := by
  match k with
  | 0 => rw [h.2]; decide
  | 1 => have := h.2.1; omega
  | 2 => exact h.2
  | _ + 3 => exact absurd h id
theorem fb_step (k : Nat) (p : Nat × Nat) (h : fb (k + 1) p) : fb k (f1 p) := by
  obtain ⟨a, b⟩ := p
  match k with
  | 0 =>
    obtain ⟨h1, h2, h3⟩ := h
    simp only at h1 h2 h3
    have : b = 0 ∨ b = 1 := by omega
    rcases this with rfl | rfl
    · rw [f1_zero a h1]; exact ⟨h1, rfl⟩
    · have := h3 rfl
      refine ⟨f1_lt _, ?_⟩
      show (a + 38 * 1) / 115792089237316195423570985008687907853269984665640564039457584007913129639936 = 0
      omega
  | 1 =>
    obtain ⟨h1, h2⟩ := h
    simp only at h1 h2
    refine ⟨f1_lt _, ?_, ?_⟩
    · show (a + 38 * b) / 115792089237316195423570985008687907853269984665640564039457584007913129639936 ≤ 1
      omega
    · show (a + 38 * b) / 115792089237316195423570985008687907853269984665640564039457584007913129639936 = 1 → (a + 38 * b) % 115792089237316195423570985008687907853269984665640564039457584007913129639936 < 2000
      omega
  | _ + 2 => exact absurd h id
theorem fb_start (lo hi : Nat) (h1 : lo < 115792089237316195423570985008687907853269984665640564039457584007913129639936) (h2 : hi < 115792089237316195423570985008687907853269984665640564039457584007913129639936) : fb 2 (f1 (lo, hi)) := by
  refine ⟨f1_lt _, ?_⟩
  show (lo + 38 * hi) / 115792089237316195423570985008687907853269984665640564039457584007913129639936 ≤ 39
  omega
theorem fk_mod : ∀ (k : Nat) (p : Nat × Nat), fb k p → fk k p % 57896044618658097711785492504343953926634992332820282019728792003956564819949 = (p.1 + 115792089237316195423570985008687907853269984665640564039457584007913129639936 * p.2) % 57896044618658097711785492504343953926634992332820282019728792003956564819949
  | 0, p, h => by rw [fb_zero p h, Nat.mul_zero, Nat.add_zero]; rfl
  | k + 1, p, h => by rw [fk, fk_mod k _ (fb_step k p h), f1_mod]
theorem fo_mod (lo hi : Nat) (h1 : lo < 115792089237316195423570985008687907853269984665640564039457584007913129639936) (h2 : hi < 115792089237316195423570985008687907853269984665640564039457584007913129639936) : fo lo hi % 57896044618658097711785492504343953926634992332820282019728792003956564819949 = (lo + 115792089237316195423570985008687907853269984665640564039457584007913129639936 * hi) % 57896044618658097711785492504343953926634992332820282019728792003956564819949 := by
  unfold fo
  rw [fk_mod 2 _ (fb_start lo hi h1 h2), f1_mod]
/-- The product, folded. -/
def mu (n m : Nat) : Nat := fo (n * m % 115792089237316195423570985008687907853269984665640564039457584007913129639936) (n * m / 115792089237316195423570985008687907853269984665640564039457584007913129639936)
theorem mu_lt (n m : Nat) : mu n m < 115792089237316195423570985008687907853269984665640564039457584007913129639936 := fo_lt _ _
theorem mu_mod (n m : Nat) (hn : n < 115792089237316195423570985008687907853269984665640564039457584007913129639936) (hm : m < 115792089237316195423570985008687907853269984665640564039457584007913129639936) : mu n m % 57896044618658097711785492504343953926634992332820282019728792003956564819949 = n * m % 57896044618658097711785492504343953926634992332820282019728792003956564819949 := by
  unfold mu
  rw [fo_mod _ _ (Nat.mod_lt _ (by decide)) ?_, Nat.mod_add_div]
  exact (Nat.div_lt_iff_lt_mul (by decide)).2 (Nat.mul_lt_mul'' hn hm)
/-- The product's words: those done so far, nought behind them. -/
structure Pr (p : List Nat) (i : Nat) (x : Nat) : Prop where
  len : p.length = 8
  lt : ∀ k, p.getD k 0 < 18446744073709551616
  nought : ∀ k, i + 4 ≤ k → p.getD k 0 = 0
  val : nv p = x
theorem nv_zeros : ∀ n : Nat, nv (List.replicate n 0) = 0
  | 0 => rfl
  | n + 1 => by rw [List.replicate_succ, nv, nv_zeros n]
theorem zer_get (n k : Nat) : (List.replicate n 0).getD k 0 = 0 := by
  rw [List.getD_eq_getElem?_getD, List.getElem?_replicate]
  split <;> rfl
theorem pr0 : Pr (List.replicate 8 0) 0 0 := ⟨rfl, fun k => by rw [zer_get]; decide, fun k _ => zer_get 8 k, nv_zeros 8⟩
theorem getD_set (p : List Nat) (i k x : Nat) (hi : i < p.length) : (p.set i x).getD k 0 = if i = k then x else p.getD k 0 := by
  simp only [List.getD_eq_getElem?_getD, List.getElem?_set]
  by_cases h : i = k
  · subst h; simp [hi]
  · simp [h]
/-- One word's product goes in: p holds 'acc' less what goes over. -/
structure Pj (p : List Nat) (i j c : Nat) (x : Nat) : Prop where
  len : p.length = 8
  lt : ∀ k, p.getD k 0 < 18446744073709551616
  nought : ∀ k, i + 4 ≤ k → p.getD k 0 = 0
  over : c < 18446744073709551616
  val : nv p + 18446744073709551616 ^ (i + j) * c = x
theorem Pj.start {p : List Nat} {i x : Nat} (h : Pr p i x) (i' : Nat) (hi : i' = i) : Pj p i' 0 0 x := by
  subst hi
  exact ⟨h.len, h.lt, h.nought, by decide, by rw [Nat.mul_zero, Nat.add_zero]; exact h.val⟩
theorem Pj.step {p : List Nat} {i j c x a b lo hi : Nat} (h : Pj p i j c x) (hi4 : i < 4) (hj : j < 4) (hl : lo < 18446744073709551616) (hh : hi < 18446744073709551616) (he : a * b + p.getD (i + j) 0 + c = lo + 18446744073709551616 * hi) :
    Pj (p.set (i + j) lo) i (j + 1) hi (x + 18446744073709551616 ^ (i + j) * (a * b)) := by
  have hlt : i + j < p.length := by rw [h.len]; omega
  refine ⟨by rw [List.length_set]; exact h.len, fun k => ?_, fun k hk => ?_, hh, ?_⟩
  · rw [getD_set _ _ _ _ hlt]; split
    · exact hl
    · exact h.lt k
  · rw [getD_set _ _ _ _ hlt, if_neg (by omega)]; exact h.nought k hk
  · have e1 := nv_set p (i + j) lo hlt
    have e2 := h.val
    rw [← e2, ← Nat.add_assoc i j 1, Nat.pow_succ]
    generalize nv (p.set (i + j) lo) = A at e1 ⊢
    generalize nv p = B at e1 ⊢
    generalize p.getD (i + j) 0 = o at e1 he
    generalize 18446744073709551616 ^ (i + j) = K at e1 ⊢
    have e3 : K * (a * b) + K * o + K * c = K * lo + K * 18446744073709551616 * hi := by
      rw [Nat.mul_assoc K, ← Nat.mul_add, ← Nat.mul_add, ← Nat.mul_add, he]
    omega
theorem Pj.done {p : List Nat} {i c x : Nat} (h : Pj p i 4 c x) (hi4 : i < 4) : Pr (p.set (i + 4) c) (i + 1) x := by
  have hlt : i + 4 < p.length := by rw [h.len]; omega
  refine ⟨by rw [List.length_set]; exact h.len, fun k => ?_, fun k hk => ?_, ?_⟩
  · rw [getD_set _ _ _ _ hlt]; split
    · exact h.over
    · exact h.lt k
  · rw [getD_set _ _ _ _ hlt, if_neg (by omega)]; exact h.nought k (by omega)
  · have e1 := nv_set p (i + 4) c hlt
    rw [h.nought (i + 4) (Nat.le_refl _), Nat.mul_zero, Nat.add_zero] at e1
    rw [e1]; exact h.val
theorem pr_next (n m i : Nat) : n % 18446744073709551616 ^ i * m + 18446744073709551616 ^ i * (wd n i * m) = n % 18446744073709551616 ^ (i + 1) * m := by
  rw [wd_step n i, Nat.add_mul, Nat.mul_assoc]
theorem pj_next (y m j K x : Nat) : x + K * (y * (m % 18446744073709551616 ^ j)) + K * 18446744073709551616 ^ j * (y * wd m j) = x + K * (y * (m % 18446744073709551616 ^ (j + 1))) := by
  rw [wd_step m j, Nat.mul_add, Nat.mul_add]
  have : K * 18446744073709551616 ^ j * (y * wd m j) = K * (y * (18446744073709551616 ^ j * wd m j)) := by
    rw [Nat.mul_assoc, Nat.mul_left_comm (18446744073709551616 ^ j)]
  rw [this, Nat.add_assoc]
end Go.Proofs.Ytfmclkmmkceldaa
