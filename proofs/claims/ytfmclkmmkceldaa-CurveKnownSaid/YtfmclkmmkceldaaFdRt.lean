/-
  Numbers round the prime: roots.
  Conditions: none.
-/
import Derived.Test.YtfmclkmmkceldaaFdNum
namespace Go.Proofs.Ytfmclkmmkceldaa

theorem sq_one {p z : Nat} (hp : Pri p) (h : z * z % p = 1) : z % p = 1 ∨ z % p = p - 1 := by
  have h2 := hp.1
  have hr : z % p * (z % p) % p = 1 := by rw [← Nat.mul_mod]; exact h
  have hlt : z % p < p := Nat.mod_lt _ (by omega)
  obtain ⟨r, hz⟩ : ∃ r, z % p = r := ⟨_, rfl⟩
  rw [hz] at hr hlt ⊢
  obtain ⟨s, rfl⟩ : ∃ s, r = s + 1 := ⟨r - 1, by
    have : r ≠ 0 := fun h0 => by rw [h0, Nat.zero_mul, Nat.zero_mod] at hr; cases hr
    omega⟩
  have hd : p ∣ s * (s + 2) := by
    have e1 : (s + 1) * (s + 1) = s * (s + 2) + 1 := by grind
    rw [e1] at hr
    have e2 : (s * (s + 2) + 1) % p = (0 + 1) % p := by rw [hr, Nat.zero_add, Nat.mod_eq_of_lt (by omega)]
    have e3 := Nat.sub_mod_eq_zero_of_mod_eq e2
    rw [Nat.zero_add, Nat.add_sub_cancel] at e3
    exact Nat.dvd_of_mod_eq_zero e3
  rcases hp.euclid hd with h1 | h1
  · left
    have : s = 0 := Nat.eq_zero_of_dvd_of_lt h1 (by omega)
    omega
  · right
    obtain ⟨k, hk⟩ := h1
    have : k = 1 := by
      have hk1 : k < 2 := by
        apply Classical.byContradiction
        intro hge
        have := Nat.mul_le_mul_left p (show 2 ≤ k by omega)
        omega
      have hk0 : k ≠ 0 := fun h0 => by rw [h0, Nat.mul_zero] at hk; omega
      omega
    subst this
    omega
theorem pm_sq {p : Nat} (hp : 2 ≤ p) : (p - 1) * (p - 1) % p = 1 := by
  obtain ⟨k, rfl⟩ : ∃ k, p = k + 2 := ⟨p - 2, by omega⟩
  have : (k + 2 - 1) * (k + 2 - 1) = 1 + (k + 2) * k := by
    rw [show k + 2 - 1 = k + 1 by omega]; grind
  rw [this, Nat.add_mul_mod_self_left, Nat.mod_eq_of_lt (by omega)]
/-- Two numbers whose squares are the same. -/
theorem sq_same {p r x : Nat} (hp : Pri p) (hr : r < p) (hx : x < p) (h : r * r % p = x * x % p) : r = x ∨ r + x = p := by
  have key : ∀ u v : Nat, v ≤ u → u < p → u * u % p = v * v % p → u = v ∨ u + v = p := by
    intro u v huv hu he
    have h1 := Nat.sub_mod_eq_zero_of_mod_eq he
    have e1 : u * u - v * v = (u - v) * (u + v) := by
      obtain ⟨d, rfl⟩ : ∃ d, u = v + d := ⟨u - v, by omega⟩
      rw [Nat.add_sub_cancel_left]
      have : (v + d) * (v + d) = v * v + d * (v + d + v) := by grind
      rw [this, Nat.add_sub_cancel_left]
    rw [e1] at h1
    rcases hp.euclid (Nat.dvd_of_mod_eq_zero h1) with h2 | h2
    · left
      have := Nat.eq_zero_of_dvd_of_lt h2 (by omega)
      omega
    · obtain ⟨k, hk⟩ := h2
      have hk2 : k < 2 := by
        apply Classical.byContradiction
        intro hge
        have := Nat.mul_le_mul_left p (show 2 ≤ k by omega)
        omega
      have : k = 0 ∨ k = 1 := by omega
      rcases this with rfl | rfl
      · left; omega
      · right; omega
  rcases Nat.le_total x r with h1 | h1
  · exact key r x h1 hr h
  · rcases key x r h1 hx h.symm with h2 | h2
    · exact .inl h2.symm
    · exact .inr (by omega)
theorem chi_pm {p x q : Nat} (hp : Pri p) (hq : 4 * q + 1 = p) (hx : ¬ p ∣ x) : x ^ (2 * q) % p = 1 ∨ x ^ (2 * q) % p = p - 1 := by
  refine sq_one hp ?_
  rw [← Nat.pow_add, show 2 * q + 2 * q = p - 1 by omega]
  exact hp.fermat hx
theorem chi_sq {p x z q : Nat} (hp : Pri p) (hq : 4 * q + 1 = p) (hx : ¬ p ∣ x) (h : z * z % p = x % p) : x ^ (2 * q) % p = 1 := by
  have hz : ¬ p ∣ z := fun hd => hx (Nat.dvd_of_mod_eq_zero (by rw [← h]; exact Nat.mod_eq_zero_of_dvd (Nat.dvd_trans hd (Nat.dvd_mul_left z z))))
  rw [Nat.pow_mod, ← h, ← Nat.pow_mod, ← Nat.pow_two, ← Nat.pow_mul, show 2 * (2 * q) = p - 1 by omega]
  exact hp.fermat hz
/-- One of the two numbers is a root. -/
theorem root_core {p x q e : Nat} (hp : Pri p) (he : 2 * e = q + 1) (h2 : 2 ^ (2 * q) % p = p - 1) (hc : x ^ (2 * q) % p = 1) :
    x ^ e * x ^ e % p = x % p ∨ (x ^ e * 2 ^ q) * (x ^ e * 2 ^ q) % p = x % p := by
  have hp2 := hp.1
  have e1 : x ^ e * x ^ e = x * x ^ q := by rw [← Nat.pow_add, show e + e = q + 1 by omega, Nat.pow_succ, Nat.mul_comm]
  have hs : x ^ q * x ^ q % p = 1 := by rw [← Nat.pow_add, show q + q = 2 * q by omega]; exact hc
  rcases sq_one hp hs with h | h
  · left
    rw [e1, Nat.mul_mod, h, Nat.mul_one, Nat.mod_mod]
  · right
    have e2 : (x ^ e * 2 ^ q) * (x ^ e * 2 ^ q) = x * (x ^ q * 2 ^ (2 * q)) := by
      rw [Nat.mul_mul_mul_comm, e1, ← Nat.pow_add 2, show q + q = 2 * q by omega, Nat.mul_assoc]
    rw [e2, Nat.mul_mod, Nat.mul_mod (x ^ q), h, h2, pm_sq hp2, Nat.mul_one, Nat.mod_mod]
def E8 : Nat := 7237005577332262213973186563042994240829374041602535252466099000494570602494
def E4 : Nat := 14474011154664524427946373126085988481658748083205070504932198000989141204987
theorem E4_eq : 4 * E4 + 1 = 57896044618658097711785492504343953926634992332820282019728792003956564819949 := by decide
theorem E8_eq : 2 * E8 = E4 + 1 := by decide
theorem chi_2 : 2 ^ (2 * E4) % 57896044618658097711785492504343953926634992332820282019728792003956564819949 = 57896044618658097711785492504343953926634992332820282019728792003956564819949 - 1 := pow_at 2 (2 * E4) 57896044618658097711785492504343953926634992332820282019728792003956564819949 (57896044618658097711785492504343953926634992332820282019728792003956564819949 - 1) 256 (by decide +kernel) (by decide +kernel)
theorem rt_eq (a : Nat) : rt a = if mu (pw a E8) (pw a E8) % 57896044618658097711785492504343953926634992332820282019728792003956564819949 = a then (pw a E8 % 57896044618658097711785492504343953926634992332820282019728792003956564819949, true)
    else if mu (mu (pw a E8) (pw 2 E4)) (mu (pw a E8) (pw 2 E4)) % 57896044618658097711785492504343953926634992332820282019728792003956564819949 = a then (mu (pw a E8) (pw 2 E4) % 57896044618658097711785492504343953926634992332820282019728792003956564819949, true)
    else (0, false) := rfl
theorem rt_root (x : Nat) (h : (rt x).2 = true) : (rt x).1 * (rt x).1 % 57896044618658097711785492504343953926634992332820282019728792003956564819949 = x := by
  rw [rt_eq] at h ⊢
  split at h
  · rename_i h1
    rw [if_pos h1]
    show pw x E8 % 57896044618658097711785492504343953926634992332820282019728792003956564819949 * (pw x E8 % 57896044618658097711785492504343953926634992332820282019728792003956564819949) % 57896044618658097711785492504343953926634992332820282019728792003956564819949 = x
    rw [← Nat.mul_mod, ← mu_mod _ _ (pw_lt _ _) (pw_lt _ _), h1]
  · rename_i h1
    split at h
    · rename_i h2
      rw [if_neg h1, if_pos h2]
      show mu _ _ % 57896044618658097711785492504343953926634992332820282019728792003956564819949 * (mu _ _ % 57896044618658097711785492504343953926634992332820282019728792003956564819949) % 57896044618658097711785492504343953926634992332820282019728792003956564819949 = x
      rw [← Nat.mul_mod, ← mu_mod _ _ (mu_lt _ _) (mu_lt _ _), h2]
    · cases h
theorem rt_none (x : Nat) (h : (rt x).2 = false) : (rt x).1 = 0 := by
  rw [rt_eq] at h ⊢
  split at h
  · cases h
  · rename_i h1
    split at h
    · cases h
    · rename_i h2
      rw [if_neg h1, if_neg h2]
theorem rt_nought : rt 0 = (0, true) := by
  have e1 : pw 0 E8 % 57896044618658097711785492504343953926634992332820282019728792003956564819949 = 0 := by
    rw [pw_mod 0 E8 (by decide) (by decide)]
    have : E8 ≠ 0 := by decide
    generalize E8 = e at this ⊢
    exact pow_dvd (Nat.dvd_zero _) this
  have e2 : mu (pw 0 E8) (pw 0 E8) % 57896044618658097711785492504343953926634992332820282019728792003956564819949 = 0 := by rw [mu_mod _ _ (pw_lt _ _) (pw_lt _ _), Nat.mul_mod, e1, Nat.zero_mul, Nat.zero_mod]
  rw [rt_eq, if_pos e2, e1]
theorem rt_iff (x : Nat) (hx : x < 57896044618658097711785492504343953926634992332820282019728792003956564819949) (h0 : x ≠ 0) : (rt x).2 = true ↔ x ^ (2 * E4) % 57896044618658097711785492504343953926634992332820282019728792003956564819949 = 1 := by
  have hd : ¬ 57896044618658097711785492504343953926634992332820282019728792003956564819949 ∣ x := fun h => h0 (Nat.eq_zero_of_dvd_of_lt h hx)
  have hx4 : x < 115792089237316195423570985008687907853269984665640564039457584007913129639936 := by omega
  constructor
  · intro h
    have h1 := rt_root x h
    have he := E4_eq
    generalize E4 = q at he ⊢
    exact chi_sq pri_P he hd (by rw [h1, Nat.mod_eq_of_lt hx])
  · intro h
    have e1 : pw x E8 % 57896044618658097711785492504343953926634992332820282019728792003956564819949 = x ^ E8 % 57896044618658097711785492504343953926634992332820282019728792003956564819949 := pw_mod x E8 hx4 (by decide)
    have e2 : pw 2 E4 % 57896044618658097711785492504343953926634992332820282019728792003956564819949 = 2 ^ E4 % 57896044618658097711785492504343953926634992332820282019728792003956564819949 := pw_mod 2 E4 (by decide) (by decide)
    have h3 := root_core pri_P E8_eq chi_2 h
    rw [rt_eq]
    split
    · rfl
    · rename_i h1
      split
      · rfl
      · rename_i h2
        exfalso
        rcases h3 with h3 | h3
        · refine h1 ?_
          rw [mu_mod _ _ (pw_lt _ _) (pw_lt _ _), mul_mod_congr e1 e1, h3, Nat.mod_eq_of_lt hx]
        · refine h2 ?_
          have e3 : mu (pw x E8) (pw 2 E4) % 57896044618658097711785492504343953926634992332820282019728792003956564819949 = (x ^ E8 * 2 ^ E4) % 57896044618658097711785492504343953926634992332820282019728792003956564819949 := by rw [mu_mod _ _ (pw_lt _ _) (pw_lt _ _)]; exact mul_mod_congr e1 e2
          rw [mu_mod _ _ (mu_lt _ _) (mu_lt _ _), mul_mod_congr e3 e3, h3, Nat.mod_eq_of_lt hx]
/-! ### Root -/
theorem fRoot_ok (a : Nat) : (fRoot a).2 = (rt (a % 57896044618658097711785492504343953926634992332820282019728792003956564819949)).2 := by
  unfold fRoot
  split
  · rename_i h; rw [h]
  · rename_i h; show false = _; cases h2 : (rt (a % 57896044618658097711785492504343953926634992332820282019728792003956564819949)).2 with
    | true => exact absurd h2 h
    | false => rfl
theorem fRoot_even (a : Nat) : (fRoot a).1 % 2 = 0 := by
  unfold fRoot
  split
  · show (if _ then _ else _) % 2 = 0
    have hlt := rt_lt (a % 57896044618658097711785492504343953926634992332820282019728792003956564819949) (Nat.mod_lt _ P_pos)
    split
    · rename_i h
      generalize (rt (a % 57896044618658097711785492504343953926634992332820282019728792003956564819949)).1 = n at hlt h
      rw [Nat.mod_eq_of_lt (show 0 + 57896044618658097711785492504343953926634992332820282019728792003956564819949 - n < 57896044618658097711785492504343953926634992332820282019728792003956564819949 by omega)]
      omega
    · rename_i h
      generalize (rt (a % 57896044618658097711785492504343953926634992332820282019728792003956564819949)).1 = n at hlt h
      omega
  · rfl
theorem neg_sq {p n : Nat} (hn : n < p) : (0 + p - n) % p * ((0 + p - n) % p) % p = n * n % p := by
  rw [← Nat.mul_mod, Nat.zero_add]
  obtain ⟨m, rfl⟩ : ∃ m, p = n + m := ⟨p - n, by omega⟩
  rw [Nat.add_sub_cancel_left]
  have h1 : m * m + (n + m) * n = n * n + (n + m) * m := by grind
  have h2 : (m * m + (n + m) * n) % (n + m) = m * m % (n + m) := Nat.add_mul_mod_self_left _ _ _
  rw [← h2, h1, Nat.add_mul_mod_self_left]
theorem fRoot_sq (a : Nat) (h : (fRoot a).2 = true) : (fRoot a).1 * (fRoot a).1 % 57896044618658097711785492504343953926634992332820282019728792003956564819949 = a % 57896044618658097711785492504343953926634992332820282019728792003956564819949 := by
  have hok : (rt (a % 57896044618658097711785492504343953926634992332820282019728792003956564819949)).2 = true := by rw [← fRoot_ok]; exact h
  have hr := rt_root _ hok
  unfold fRoot
  rw [if_pos hok]
  show (if _ then _ else _) * (if _ then _ else _) % 57896044618658097711785492504343953926634992332820282019728792003956564819949 = _
  split
  · rw [neg_sq (rt_lt _ (Nat.mod_lt _ P_pos))]; exact hr
  · exact hr
theorem fRoot_none (a : Nat) (h : (fRoot a).2 = false) : (fRoot a).1 = 0 := by
  have hok : ¬ (rt (a % 57896044618658097711785492504343953926634992332820282019728792003956564819949)).2 = true := by rw [← fRoot_ok, h]; decide
  unfold fRoot
  rw [if_neg hok]
theorem fRoot_nought (a : Nat) (h : a % 57896044618658097711785492504343953926634992332820282019728792003956564819949 = 0) : fRoot a = (0, true) := by
  unfold fRoot
  rw [h, rt_nought]
  rfl
theorem fRoot_iff (a : Nat) (h : a % 57896044618658097711785492504343953926634992332820282019728792003956564819949 ≠ 0) : (fRoot a).2 = true ↔ a ^ (2 * E4) % 57896044618658097711785492504343953926634992332820282019728792003956564819949 = 1 := by
  rw [fRoot_ok, rt_iff _ (Nat.mod_lt _ P_pos) h]
  have : (a % 57896044618658097711785492504343953926634992332820282019728792003956564819949) ^ (2 * E4) % 57896044618658097711785492504343953926634992332820282019728792003956564819949 = a ^ (2 * E4) % 57896044618658097711785492504343953926634992332820282019728792003956564819949 := (Nat.pow_mod a _ _).symm
  rw [this]
theorem fRoot_of_sq (a : Nat) (ha : a < 115792089237316195423570985008687907853269984665640564039457584007913129639936) : (fRoot (fMul a a)).2 = true := by
  by_cases h : fMul a a % 57896044618658097711785492504343953926634992332820282019728792003956564819949 = 0
  · rw [fRoot_nought _ h]
  · rw [fRoot_iff _ h]
    have he := E4_eq
    generalize E4 = q at he ⊢
    refine chi_sq (z := a) pri_P he (fun hd => h (P_dvd.1 hd)) ?_
    rw [fMul_eq a a ha ha, Nat.mod_mod]
theorem fAdd_two (a : Nat) : fAdd a a = 2 * a % 57896044618658097711785492504343953926634992332820282019728792003956564819949 := by rw [fAdd_eq]; congr 1; omega
theorem two_not (a : Nat) (h : a % 57896044618658097711785492504343953926634992332820282019728792003956564819949 ≠ 0) : fAdd a a % 57896044618658097711785492504343953926634992332820282019728792003956564819949 ≠ 0 := by
  rw [fAdd_two, Nat.mod_mod]
  intro h1
  rcases pri_P.euclid (P_dvd.2 h1) with h2 | h2
  · exact absurd (Nat.le_of_dvd (by decide) h2) (by decide)
  · exact h (P_dvd.1 h2)
/-- Of a number and twice it just one is a square. -/
theorem fRoot_two (a : Nat) (h : a % 57896044618658097711785492504343953926634992332820282019728792003956564819949 ≠ 0) : (fRoot (fAdd a a)).2 = !(fRoot a).2 := by
  have h1 := fRoot_iff a h
  have h2 := fRoot_iff _ (two_not a h)
  have hc := chi_pm pri_P E4_eq (x := a) (fun hd => h (P_dvd.1 hd))
  have e : fAdd a a ^ (2 * E4) % 57896044618658097711785492504343953926634992332820282019728792003956564819949 = (57896044618658097711785492504343953926634992332820282019728792003956564819949 - 1) * (a ^ (2 * E4) % 57896044618658097711785492504343953926634992332820282019728792003956564819949) % 57896044618658097711785492504343953926634992332820282019728792003956564819949 := by
    rw [fAdd_two, ← Nat.pow_mod, Nat.mul_pow, Nat.mul_mod, chi_2]
  rw [e] at h2
  generalize a ^ (2 * E4) % 57896044618658097711785492504343953926634992332820282019728792003956564819949 = c at h1 h2 hc
  cases hb : (fRoot a).2 with
  | true =>
    have hc1 := h1.1 hb
    rw [hc1] at h2
    cases hb2 : (fRoot (fAdd a a)).2 with
    | true => exact absurd (h2.1 hb2) (by decide)
    | false => rfl
  | false =>
    have hc1 : c = 57896044618658097711785492504343953926634992332820282019728792003956564819949 - 1 := hc.resolve_left (fun h3 => by have := h1.2 h3; rw [hb] at this; cases this)
    rw [hc1] at h2
    exact h2.2 (pm_sq (by decide))
theorem root_same (a : Nat) (ha : a < 115792089237316195423570985008687907853269984665640564039457584007913129639936) : (fRoot (fMul a a)).1 = a % 57896044618658097711785492504343953926634992332820282019728792003956564819949 ∨ fAdd (fRoot (fMul a a)).1 a = 0 := by
  have h1 := fRoot_sq _ (fRoot_of_sq a ha)
  have h0 : fMul a a % 57896044618658097711785492504343953926634992332820282019728792003956564819949 = a % 57896044618658097711785492504343953926634992332820282019728792003956564819949 * (a % 57896044618658097711785492504343953926634992332820282019728792003956564819949) % 57896044618658097711785492504343953926634992332820282019728792003956564819949 := by rw [fMul_eq a a ha ha, Nat.mod_mod, ← Nat.mul_mod]
  rcases sq_same pri_P (fRoot_lt _) (Nat.mod_lt a P_pos) (h1.trans h0) with h2 | h2
  · exact .inl h2
  · right
    rw [fAdd_eq, ← Nat.add_mod_mod, h2, Nat.mod_self]
theorem fMul_mod' (a b : Nat) : fMul a b % 57896044618658097711785492504343953926634992332820282019728792003956564819949 = fMul a b := Nat.mod_eq_of_lt (fMul_lt a b)
theorem root_nought (a : Nat) (ha : a < 115792089237316195423570985008687907853269984665640564039457584007913129639936) (h : a % 57896044618658097711785492504343953926634992332820282019728792003956564819949 = 0) : (fRoot (fMul a a)).1 = a % 57896044618658097711785492504343953926634992332820282019728792003956564819949 := by
  rw [fRoot_nought _ (by rw [fMul_mod', fMul_eq a a ha ha, Nat.mul_mod, h, Nat.zero_mul, Nat.zero_mod]), h]
theorem fMul_root (a : Nat) (h : (fRoot a).2 = true) : fMul (fRoot a).1 (fRoot a).1 = a % 57896044618658097711785492504343953926634992332820282019728792003956564819949 := by
  rw [fMul_eq _ _ (lt4 (fRoot_lt a)) (lt4 (fRoot_lt a))]
  exact fRoot_sq a h
theorem fRoot_odd (a : Nat) : decide ((fRoot a).1 % 57896044618658097711785492504343953926634992332820282019728792003956564819949 % 2 = 1) = false := by
  rw [Nat.mod_eq_of_lt (fRoot_lt a), fRoot_even a]
  rfl
theorem fMul_mod (a b : Nat) : fMul a b % 57896044618658097711785492504343953926634992332820282019728792003956564819949 = fMul a b := Nat.mod_eq_of_lt (fMul_lt a b)
theorem fAdd_mod (a b : Nat) : fAdd a b % 57896044618658097711785492504343953926634992332820282019728792003956564819949 = fAdd a b := Nat.mod_eq_of_lt (fAdd_lt a b)
end Go.Proofs.Ytfmclkmmkceldaa
