/-
  Numbers round the prime: what undoes a number; roots.
  Conditions: none.
-/
import Derived.Test.YtfmclkmmkceldaaFdZ
namespace Go.Proofs.Ytfmclkmmkceldaa

theorem pow_dvd {p a e : Nat} (h : p ∣ a) (he : e ≠ 0) : a ^ e % p = 0 := by
  obtain ⟨k, rfl⟩ : ∃ k, e = k + 1 := ⟨e - 1, by omega⟩
  rw [Nat.pow_succ]
  exact Nat.mod_eq_zero_of_dvd (Nat.dvd_trans h (Nat.dvd_mul_left a _))
/-- Powers round the prime that turn a number into what undoes it. -/
theorem inv_one {p a e : Nat} (hp : Pri p) (he : e + 2 = p) (ha : ¬ p ∣ a) : a * (a ^ e % p) % p = 1 := by
  rw [Nat.mul_mod_mod, Nat.mul_comm, ← Nat.pow_succ, show e.succ = p - 1 by omega]
  exact hp.fermat ha
theorem inv_not {p a e : Nat} (hp : Pri p) (he : e + 2 = p) (ha : ¬ p ∣ a) : ¬ p ∣ a ^ e % p := by
  intro h
  have h1 := inv_one hp he ha
  rw [Nat.mod_eq_zero_of_dvd (Nat.dvd_trans h (Nat.dvd_mul_left _ a))] at h1
  cases h1
theorem inv_inv {p a e : Nat} (hp : Pri p) (he : e + 2 = p) (ha : ¬ p ∣ a) : (a ^ e % p) ^ e % p = a % p := by
  have hb := inv_not hp he ha
  have h1 := inv_one hp he hb
  have h2 := inv_one hp he ha
  obtain ⟨b, hbb⟩ : ∃ b, a ^ e % p = b := ⟨_, rfl⟩
  rw [hbb] at hb h1 h2 ⊢
  have h3 : b * (b ^ e % p) % p = b * a % p := by rw [h1, Nat.mul_comm b a, h2]
  have h4 := hp.cancel hb h3
  rwa [Nat.mod_mod] at h4
theorem inv_mul (p a b e : Nat) : (a * b % p) ^ e % p = (a ^ e % p) * (b ^ e % p) % p := by
  rw [← Nat.pow_mod, Nat.mul_pow, ← Nat.mul_mod]
def EI : Nat := 57896044618658097711785492504343953926634992332820282019728792003956564819947
theorem EI_eq : EI + 2 = 57896044618658097711785492504343953926634992332820282019728792003956564819949 := by decide
theorem fInv_eq (a : Nat) (ha : a < 115792089237316195423570985008687907853269984665640564039457584007913129639936) : fInv a = a ^ EI % 57896044618658097711785492504343953926634992332820282019728792003956564819949 := pw_mod a EI ha (by decide)
theorem P_dvd {a : Nat} : 57896044618658097711785492504343953926634992332820282019728792003956564819949 ∣ a ↔ a % 57896044618658097711785492504343953926634992332820282019728792003956564819949 = 0 := Nat.dvd_iff_mod_eq_zero
theorem fInv_nought (a : Nat) (ha : a < 115792089237316195423570985008687907853269984665640564039457584007913129639936) (h : a % 57896044618658097711785492504343953926634992332820282019728792003956564819949 = 0) : fInv a = 0 := by
  rw [fInv_eq a ha]
  have he := EI_eq
  generalize EI = e at he ⊢
  exact pow_dvd (P_dvd.2 h) (by omega)
theorem fInv_one (a : Nat) (ha : a < 115792089237316195423570985008687907853269984665640564039457584007913129639936) (h : a % 57896044618658097711785492504343953926634992332820282019728792003956564819949 ≠ 0) : fMul a (fInv a) = 1 := by
  rw [fMul_eq a _ ha (lt4 (fInv_lt a)), fInv_eq a ha]
  have he := EI_eq
  generalize EI = e at he ⊢
  exact inv_one pri_P he (fun h1 => h (P_dvd.1 h1))
theorem fInv_inv (a : Nat) (ha : a < 115792089237316195423570985008687907853269984665640564039457584007913129639936) (h : a % 57896044618658097711785492504343953926634992332820282019728792003956564819949 ≠ 0) : fInv (fInv a) = a % 57896044618658097711785492504343953926634992332820282019728792003956564819949 := by
  rw [fInv_eq _ (lt4 (fInv_lt a)), fInv_eq a ha]
  have he := EI_eq
  generalize EI = e at he ⊢
  exact inv_inv pri_P he (fun h1 => h (P_dvd.1 h1))
theorem fInv_mul (a b : Nat) (ha : a < 115792089237316195423570985008687907853269984665640564039457584007913129639936) (hb : b < 115792089237316195423570985008687907853269984665640564039457584007913129639936) : fInv (fMul a b) = fMul (fInv a) (fInv b) := by
  rw [fInv_eq _ (lt4 (fMul_lt a b)), fMul_eq a b ha hb, fMul_eq _ _ (lt4 (fInv_lt a)) (lt4 (fInv_lt b)), fInv_eq a ha, fInv_eq b hb]
  exact inv_mul _ _ _ _
end Go.Proofs.Ytfmclkmmkceldaa
