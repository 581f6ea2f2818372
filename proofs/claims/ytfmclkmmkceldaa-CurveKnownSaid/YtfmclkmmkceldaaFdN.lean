/-
  2^255 - 19 is a prime; powers modulo a prime.
  Conditions: none.
-/
namespace Go.Proofs.Ytfmclkmmkceldaa

/-- Binomial numbers. -/
def ch : Nat → Nat → Nat
  | _, 0 => 1
  | 0, _ + 1 => 0
  | n + 1, k + 1 => ch n k + ch n (k + 1)
theorem ch_zero (n : Nat) : ch n 0 = 1 := by cases n <;> rfl
theorem ch_succ (n k : Nat) : ch (n + 1) (k + 1) = ch n k + ch n (k + 1) := rfl
theorem ch_none (k : Nat) : ch 0 (k + 1) = 0 := rfl
theorem ch_mul : ∀ n k : Nat, (k + 1) * ch (n + 1) (k + 1) = (n + 1) * ch n k
  | 0, 0 => rfl
  | 0, k + 1 => by simp [ch_succ, ch_none]
  | n + 1, 0 => by
    have h := ch_mul n 0
    rw [ch_zero] at h ⊢
    rw [ch_succ, ch_zero]
    omega
  | n + 1, k + 1 => by
    have h1 := ch_mul n k
    have h2 := ch_mul n (k + 1)
    rw [ch_succ (n + 1) (k + 1)]
    have h3 := ch_succ n k
    grind
theorem ch_over : ∀ n j : Nat, ch n (n + 1 + j) = 0
  | 0, j => by rw [show 0 + 1 + j = j + 1 by omega]; rfl
  | n + 1, j => by
    rw [show n + 1 + 1 + j = (n + 1 + j) + 1 by omega, ch_succ, ch_over n j, show n + 1 + j + 1 = n + 1 + (j + 1) by omega, ch_over n (j + 1)]
theorem ch_self : ∀ n : Nat, ch n n = 1
  | 0 => rfl
  | n + 1 => by rw [ch_succ, ch_self n, show n + 1 = n + 1 + 0 by omega, ch_over n 0]
/-- The first so many terms of the sum. -/
def bsum (n a : Nat) : Nat → Nat
  | 0 => 0
  | k + 1 => bsum n a k + ch n k * a ^ k
theorem bsum_step (n a : Nat) : ∀ k : Nat, bsum (n + 1) a (k + 1) = bsum n a (k + 1) + a * bsum n a k
  | 0 => by simp [bsum, ch_zero]
  | k + 1 => by
    have h := bsum_step n a k
    rw [show bsum (n + 1) a (k + 1 + 1) = bsum (n + 1) a (k + 1) + ch (n + 1) (k + 1) * a ^ (k + 1) from rfl, h, ch_succ]
    rw [show bsum n a (k + 1 + 1) = bsum n a (k + 1) + ch n (k + 1) * a ^ (k + 1) from rfl]
    rw [show bsum n a (k + 1) = bsum n a k + ch n k * a ^ k from rfl, Nat.pow_succ]
    generalize bsum n a k = x
    generalize a ^ k = y
    generalize ch n k = u
    generalize ch n (k + 1) = v
    grind
theorem binom (a : Nat) : ∀ n : Nat, (a + 1) ^ n = bsum n a (n + 1)
  | 0 => by simp [bsum, ch_zero]
  | n + 1 => by
    rw [bsum_step, show bsum n a (n + 1 + 1) = bsum n a (n + 1) + ch n (n + 1) * a ^ (n + 1) from rfl, show n + 1 = n + 1 + 0 by omega, ch_over n 0, Nat.add_zero, ← binom a n, Nat.pow_succ]
    grind
/-- A prime. -/
def Pri (p : Nat) : Prop := 2 ≤ p ∧ ∀ d, d ∣ p → d = 1 ∨ d = p
theorem Pri.cop {p a : Nat} (h : Pri p) (ha : ¬ p ∣ a) : Nat.Coprime p a := by
  have hd : Nat.gcd p a ∣ p := Nat.gcd_dvd_left p a
  rcases h.2 _ hd with h1 | h1
  · exact h1
  · exact absurd (h1 ▸ Nat.gcd_dvd_right p a) ha
theorem Pri.euclid {p a b : Nat} (h : Pri p) (hd : p ∣ a * b) : p ∣ a ∨ p ∣ b := by
  by_cases ha : p ∣ a
  · exact .inl ha
  · exact .inr ((h.cop ha).dvd_of_dvd_mul_left hd)
theorem Pri.ch {p k : Nat} (h : Pri p) (h0 : 0 < k) (hk : k < p) : p ∣ ch p k := by
  obtain ⟨n, rfl⟩ : ∃ n, p = n + 1 := ⟨p - 1, by omega⟩
  obtain ⟨j, rfl⟩ : ∃ j, k = j + 1 := ⟨k - 1, by omega⟩
  rcases h.euclid (show (n + 1) ∣ (j + 1) * Go.Proofs.Ytfmclkmmkceldaa.ch (n + 1) (j + 1) by rw [ch_mul]; exact Nat.dvd_mul_right _ _) with h1 | h1
  · exact absurd (Nat.le_of_dvd (by omega) h1) (by omega)
  · exact h1
theorem Pri.bsum {p : Nat} (h : Pri p) (a : Nat) : ∀ k, k < p → bsum p a (k + 1) % p = 1 % p
  | 0, _ => by simp [Go.Proofs.Ytfmclkmmkceldaa.bsum, ch_zero]
  | k + 1, hk => by
    rw [show Go.Proofs.Ytfmclkmmkceldaa.bsum p a (k + 1 + 1) = Go.Proofs.Ytfmclkmmkceldaa.bsum p a (k + 1) + Go.Proofs.Ytfmclkmmkceldaa.ch p (k + 1) * a ^ (k + 1) from rfl, Nat.add_mod, h.bsum a k (by omega)]
    obtain ⟨c, hc⟩ := h.ch (k := k + 1) (by omega) hk
    rw [hc, Nat.mul_assoc, Nat.mul_mod_right, Nat.add_zero, Nat.mod_mod]
/-- a to the p is a. -/
theorem Pri.frob {p : Nat} (h : Pri p) : ∀ a : Nat, a ^ p % p = a % p
  | 0 => by rw [Nat.zero_pow (by have := h.1; omega)]
  | a + 1 => by
    rw [binom, show Go.Proofs.Ytfmclkmmkceldaa.bsum p a (p + 1) = Go.Proofs.Ytfmclkmmkceldaa.bsum p a p + Go.Proofs.Ytfmclkmmkceldaa.ch p p * a ^ p from rfl, ch_self, Nat.one_mul, Nat.add_mod, h.frob a]
    obtain ⟨n, hn⟩ : ∃ n, p = n + 1 := ⟨p - 1, by have := h.1; omega⟩
    have hb := h.bsum a n (by omega)
    rw [← hn] at hb
    rw [hb, ← Nat.add_mod, Nat.add_comm]
/-- What times a number that is no multiple is a multiple is one. -/
theorem Pri.cancel {p a x y : Nat} (h : Pri p) (ha : ¬ p ∣ a) (he : a * x % p = a * y % p) : x % p = y % p := by
  have key : ∀ u v : Nat, u ≤ v → a * u % p = a * v % p → u % p = v % p := by
    intro u v huv he
    have h1 : p ∣ a * v - a * u := Nat.dvd_of_mod_eq_zero (Nat.sub_mod_eq_zero_of_mod_eq he.symm)
    rw [← Nat.mul_sub] at h1
    rcases h.euclid h1 with h2 | h2
    · exact absurd h2 ha
    · obtain ⟨c, hc⟩ := h2
      rw [show v = u + p * c by omega, Nat.add_mul_mod_self_left]
  rcases Nat.le_total x y with hxy | hxy
  · exact key x y hxy he
  · exact (key y x hxy he.symm).symm
/-- a to the p - 1 is 1. -/
theorem Pri.fermat {p a : Nat} (h : Pri p) (ha : ¬ p ∣ a) : a ^ (p - 1) % p = 1 := by
  have h2 := h.1
  have h1 : a * a ^ (p - 1) % p = a * 1 % p := by
    rw [Nat.mul_comm a (a ^ (p - 1)), ← Nat.pow_succ, show (p - 1).succ = p by omega, h.frob a, Nat.mul_one]
  have h3 := h.cancel ha h1
  rw [h3, Nat.mod_eq_of_lt (by omega)]
theorem one_pow_mod (d e b : Nat) (h : b % d = 1) : b ^ e % d = 1 := by
  rw [Nat.pow_mod, h, Nat.one_pow]
  have : 1 < d ∨ d = 0 ∨ d = 1 := by omega
  rcases this with h1 | h1 | h1
  · exact Nat.mod_eq_of_lt h1
  · subst h1; rfl
  · subst h1; omega
theorem pow_gcd (d b : Nat) : ∀ m n : Nat, b ^ m % d = 1 → b ^ n % d = 1 → b ^ (Nat.gcd m n) % d = 1 := by
  intro m n
  induction m, n using Nat.gcd.induction with
  | H0 n => intro _ h; rw [Nat.gcd_zero_left]; exact h
  | H1 m n hm ih =>
    intro h1 h2
    rw [Nat.gcd_rec]
    refine ih ?_ h1
    have e : b ^ n = (b ^ m) ^ (n / m) * b ^ (n % m) := by rw [← Nat.pow_mul, ← Nat.pow_add, Nat.div_add_mod]
    rw [e, Nat.mul_mod, one_pow_mod d (n / m) _ h1, Nat.one_mul, Nat.mod_mod] at h2
    exact h2
/-- Each number from 2 on has a prime divisor. -/
theorem pri_div : ∀ n : Nat, 2 ≤ n → ∃ d, Pri d ∧ d ∣ n := by
  intro n
  induction n using Nat.strongRecOn with
  | ind n ih =>
    intro hn
    by_cases hp : Pri n
    · exact ⟨n, hp, Nat.dvd_refl n⟩
    · have : ∃ d, d ∣ n ∧ d ≠ 1 ∧ d ≠ n := by
        apply Classical.byContradiction
        intro hno
        exact hp ⟨hn, fun d hd => by
          apply Classical.byContradiction
          intro h
          exact hno ⟨d, hd, fun h1 => h (.inl h1), fun h1 => h (.inr h1)⟩⟩
      obtain ⟨d, hd, h1, h2⟩ := this
      have hle := Nat.le_of_dvd (by omega) hd
      have h0 : d ≠ 0 := fun h => by subst h; have := Nat.eq_zero_of_zero_dvd hd; omega
      obtain ⟨q, hq, hqd⟩ := ih d (by omega) (by omega)
      exact ⟨q, hq, Nat.dvd_trans hqd hd⟩
/-- A number that is no prime has a prime divisor that is not above its root. -/
theorem pri_low {n : Nat} (hn : 2 ≤ n) (hp : ¬ Pri n) : ∃ d, Pri d ∧ d ∣ n ∧ d * d ≤ n := by
  have : ∃ d, d ∣ n ∧ d ≠ 1 ∧ d ≠ n := by
    apply Classical.byContradiction
    intro hno
    exact hp ⟨hn, fun d hd => by
      apply Classical.byContradiction
      intro h
      exact hno ⟨d, hd, fun h1 => h (.inl h1), fun h1 => h (.inr h1)⟩⟩
  obtain ⟨x, ⟨y, hxy⟩, h1, h2⟩ := this
  have hx0 : x ≠ 0 := fun h => by subst h; simp at hxy; omega
  have hy0 : y ≠ 0 := fun h => by subst h; simp at hxy; omega
  have hy1 : y ≠ 1 := fun h => by subst h; simp at hxy; omega
  have low : ∀ u v : Nat, 2 ≤ u → u ≤ v → n = u * v → ∃ d, Pri d ∧ d ∣ n ∧ d * d ≤ n := by
    intro u v hu huv he
    obtain ⟨d, hd, hdu⟩ := pri_div u hu
    have hle := Nat.le_of_dvd (by omega) hdu
    exact ⟨d, hd, Nat.dvd_trans hdu ⟨v, he⟩, by rw [he]; exact Nat.mul_le_mul hle (Nat.le_trans hle huv)⟩
  rcases Nat.le_total x y with h | h
  · exact low x y (by omega) h hxy
  · exact low y x (by omega) h (by rw [hxy, Nat.mul_comm])
/-- a to the e modulo m, bit by bit. -/
def pm : Nat → Nat → Nat → Nat → Nat
  | 0, _, _, m => 1 % m
  | f + 1, a, e, m => if e % 2 = 1 then pm f a (e / 2) m * pm f a (e / 2) m % m * a % m else pm f a (e / 2) m * pm f a (e / 2) m % m
theorem pm_eq (a m : Nat) : ∀ f e : Nat, e < 2 ^ f → pm f a e m = a ^ e % m
  | 0, e, h => by
    obtain rfl : e = 0 := by simpa using h
    rfl
  | f + 1, e, h => by
    have ih := pm_eq a m f (e / 2) (by rw [Nat.pow_succ] at h; omega)
    unfold pm
    rw [ih, ← Nat.mul_mod, ← Nat.pow_add]
    split
    · rename_i ho
      rw [Nat.mod_mul_mod, ← Nat.pow_succ]
      congr 2
      omega
    · congr 2
      omega
theorem pow_at (a e m r f : Nat) (he : e < 2 ^ f) (h : pm f a e m = r) : a ^ e % m = r := by rw [← pm_eq a m f e he, h]
/-- A part of the criterion: a prime divisor of n is 1 above a multiple of q. -/
theorem pock1 {n a q d : Nat} (hn : 2 ≤ n) (hq : Pri q) (hqn : q ∣ n - 1) (h1 : a ^ (n - 1) % n = 1) (hg : Nat.gcd (a ^ ((n - 1) / q) % n + (n - 1)) n = 1) (hd : Pri d) (hdn : d ∣ n) : q ∣ d - 1 := by
  apply Classical.byContradiction
  intro hno
  obtain ⟨b, hb⟩ : ∃ b, a ^ ((n - 1) / q) = b := ⟨_, rfl⟩
  have hbq : b ^ q % d = 1 := by
    rw [← hb, ← Nat.pow_mul, Nat.div_mul_cancel hqn]
    have := congrArg (· % d) h1
    simp only [Nat.mod_mod_of_dvd _ hdn] at this
    rw [this, Nat.mod_eq_of_lt (by have := hd.1; omega)]
  have hda : ¬ d ∣ b := fun h => by
    have h2 := Nat.mod_eq_zero_of_dvd (Nat.dvd_trans h (Nat.dvd_mul_right b (b ^ (q - 1))))
    have h3 : b * b ^ (q - 1) = b ^ q := by rw [Nat.mul_comm, ← Nat.pow_succ]; congr 1; have := hq.1; omega
    rw [h3, hbq] at h2
    omega
  have hb1 := pow_gcd d b q (d - 1) hbq (hd.fermat hda)
  rw [hq.cop hno, Nat.pow_one] at hb1
  have hdd : d ∣ a ^ ((n - 1) / q) % n + (n - 1) := by
    rw [hb]
    apply Nat.dvd_of_mod_eq_zero
    rw [Nat.add_mod, Nat.mod_mod_of_dvd _ hdn, hb1]
    have hnd : n % d = 0 := Nat.mod_eq_zero_of_dvd hdn
    obtain ⟨c, hc⟩ := hdn
    have hd2 := hd.1
    have hc0 : c ≠ 0 := fun h => by subst h; simp at hc; omega
    obtain ⟨c', rfl⟩ : ∃ c', c = c' + 1 := ⟨c - 1, by omega⟩
    have e1 : n - 1 = d * c' + (d - 1) := by rw [hc, Nat.mul_add]; omega
    rw [e1, Nat.mul_add_mod, Nat.mod_eq_of_lt (show d - 1 < d by omega), show 1 + (d - 1) = d by omega, Nat.mod_self]
  have h4 := Nat.dvd_gcd hdd hdn
  rw [hg] at h4
  have := Nat.le_of_dvd (by decide) h4
  have := hd.1
  omega
/-- A number is a prime if two primes that divide what lies ahead of it are enough to say so. -/
theorem pock {n a q r : Nat} (hn : 2 ≤ n) (hq : Pri q) (hr : Pri r) (hqr : ¬ q ∣ r) (hqn : q ∣ n - 1) (hrn : r ∣ n - 1) (hF : n < (q * r) * (q * r)) (h1 : a ^ (n - 1) % n = 1)
    (hg : Nat.gcd (a ^ ((n - 1) / q) % n + (n - 1)) n = 1) (hg2 : Nat.gcd (a ^ ((n - 1) / r) % n + (n - 1)) n = 1) : Pri n := by
  apply Classical.byContradiction
  intro hno
  obtain ⟨d, hd, hdn, hdd⟩ := pri_low hn hno
  have e1 := pock1 hn hq hqn h1 hg hd hdn
  have e2 := pock1 hn hr hrn h1 hg2 hd hdn
  have e3 := Nat.Coprime.mul_dvd_of_dvd_of_dvd (hq.cop hqr) e1 e2
  have hd2 := hd.1
  have e4 := Nat.le_of_dvd (by omega) e3
  have e5 : (q * r) * (q * r) ≤ d * d := Nat.mul_le_mul (by omega) (by omega)
  omega
theorem pockc (n a q r f N eq er vq vr : Nat) (hq : Pri q) (hr : Pri r) (hn : 2 ≤ n) (hN : n - 1 = N) (hf : N < 2 ^ f) (hqr : ¬ q ∣ r) (hqn : q ∣ N) (hrn : r ∣ N) (hF : n < (q * r) * (q * r)) (heq : N / q = eq) (her : N / r = er)
    (h1 : pm f a N n = 1) (hvq : pm f a eq n = vq) (hvr : pm f a er n = vr) (hgq : Nat.gcd (vq + N) n = 1) (hgr : Nat.gcd (vr + N) n = 1) : Pri n := by
  subst hN heq her
  have e1 : (n - 1) / q < 2 ^ f := Nat.lt_of_le_of_lt (Nat.div_le_self _ _) hf
  have e2 : (n - 1) / r < 2 ^ f := Nat.lt_of_le_of_lt (Nat.div_le_self _ _) hf
  refine pock hn hq hr hqr hqn hrn hF (pow_at a _ n 1 f hf h1) ?_ ?_
  · rw [pow_at a _ n vq f e1 hvq]; exact hgq
  · rw [pow_at a _ n vr f e2 hvr]; exact hgr
/-- No divisor among so many. -/
def nodiv (n : Nat) : Nat → Bool
  | 0 => true
  | k + 1 => nodiv n k && (n % (k + 2) != 0)
theorem nodiv_spec (n : Nat) : ∀ k, nodiv n k = true → ∀ d, 2 ≤ d → d ≤ k + 1 → ¬ d ∣ n
  | 0, _ => fun d h1 h2 => by omega
  | k + 1, h => fun d h1 h2 hd => by
    simp only [nodiv, Bool.and_eq_true, bne_iff_ne] at h
    by_cases he : d = k + 2
    · subst he; exact h.2 (Nat.mod_eq_zero_of_dvd hd)
    · exact nodiv_spec n k h.1 d h1 (by omega) hd
theorem pri_try (n k : Nat) (hn : 2 ≤ n) (hk : n < (k + 2) * (k + 2)) (h : nodiv n k = true) : Pri n := by
  apply Classical.byContradiction
  intro hno
  obtain ⟨d, hd, hdn, hdd⟩ := pri_low hn hno
  have : d ≤ k + 1 := by
    apply Classical.byContradiction
    intro hlt
    have := Nat.mul_le_mul (show k + 2 ≤ d by omega) (show k + 2 ≤ d by omega)
    omega
  exact nodiv_spec n k h d hd.1 this hdn
theorem pri_127 : Pri 127 := pri_try 127 10 (by decide) (by decide) (by decide +kernel)
theorem pri_3 : Pri 3 := pri_try 3 0 (by decide) (by decide) (by decide +kernel)
theorem pri_75707 : Pri 75707 := pri_try 75707 275 (by decide) (by decide) (by decide +kernel)
theorem pri_1923133 : Pri 1923133 := pri_try 1923133 1387 (by decide) (by decide) (by decide +kernel)
theorem pri_8574133 : Pri 8574133 := pri_try 8574133 2929 (by decide) (by decide) (by decide +kernel)
theorem pri_q3 : Pri 1919519569386763 :=
  pockc 1919519569386763 2 8574133 127 51 1919519569386762 223873314 15114327318006 1059928654987441 576774792492622 pri_8574133 pri_127 (by decide +kernel) (by decide +kernel) (by decide +kernel) (by decide +kernel) (by decide +kernel) (by decide +kernel) (by decide +kernel) (by decide +kernel) (by decide +kernel) (by decide +kernel) (by decide +kernel) (by decide +kernel) (by decide +kernel) (by decide +kernel)
theorem pri_q2 : Pri 75445702479781427272750846543864801 :=
  pockc 75445702479781427272750846543864801 2 1919519569386763 75707 116 75445702479781427272750846543864800 39304471641247389600 996548568557483816196003626400 56747016255153332959347766392083459 58781699294900834553279248901967638 pri_q3 pri_75707 (by decide +kernel) (by decide +kernel) (by decide +kernel) (by decide +kernel) (by decide +kernel) (by decide +kernel) (by decide +kernel) (by decide +kernel) (by decide +kernel) (by decide +kernel) (by decide +kernel) (by decide +kernel) (by decide +kernel) (by decide +kernel)
theorem pri_q1 : Pri 74058212732561358302231226437062788676166966415465897661863160754340907 :=
  pockc 74058212732561358302231226437062788676166966415465897661863160754340907 2 75445702479781427272750846543864801 1923133 236 74058212732561358302231226437062788676166966415465897661863160754340906 981609426360740691344999861639072106 38509147694185143878364744631319200843710219946028640589009268082 69490809710348678725736597923071784769591275419387514694139338586948360 52266576830164329332527201090776533817489900267135412990654516667243924 pri_q2 pri_1923133 (by decide +kernel) (by decide +kernel) (by decide +kernel) (by decide +kernel) (by decide +kernel) (by decide +kernel) (by decide +kernel) (by decide +kernel) (by decide +kernel) (by decide +kernel) (by decide +kernel) (by decide +kernel) (by decide +kernel) (by decide +kernel)
theorem pri_P : Pri 57896044618658097711785492504343953926634992332820282019728792003956564819949 :=
  pockc 57896044618658097711785492504343953926634992332820282019728792003956564819949 2 74058212732561358302231226437062788676166966415465897661863160754340907 3 255 57896044618658097711785492504343953926634992332820282019728792003956564819948 781764 19298681539552699237261830834781317975544997444273427339909597334652188273316 427094198651976259540344842774561673889945192655078505504941250475370961481 25380276437079137597092236364571181010632177832931468165172742469126098314552 pri_q1 pri_3 (by decide +kernel) (by decide +kernel) (by decide +kernel) (by decide +kernel) (by decide +kernel) (by decide +kernel) (by decide +kernel) (by decide +kernel) (by decide +kernel) (by decide +kernel) (by decide +kernel) (by decide +kernel) (by decide +kernel) (by decide +kernel)
end Go.Proofs.Ytfmclkmmkceldaa
