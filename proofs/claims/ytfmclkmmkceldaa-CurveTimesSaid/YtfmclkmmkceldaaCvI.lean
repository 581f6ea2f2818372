/-
  Each point taken eight times L times is Zero: there are fewer than 16 L points, for each y has two x at most.
  Conditions: none.
-/
import Derived.Test.YtfmclkmmkceldaaCvH
namespace Go.Proofs.Ytfmclkmmkceldaa

theorem pigeon : ∀ (m n : Nat) (f : Nat → Nat), (∀ i, i < n → f i < m) → (∀ i j, i < n → j < n → f i = f j → i = j) → n ≤ m
  | m, 0, _, _, _ => Nat.zero_le m
  | 0, n + 1, f, h, _ => absurd (h 0 (Nat.succ_pos n)) (Nat.not_lt_zero _)
  | m + 1, n + 1, f, h, hi => by
    have key := pigeon m n (fun i => if f i = m then f n else f i) ?_ ?_
    · omega
    · intro i hin
      have h1 := h i (by omega)
      have h2 := h n (by omega)
      have h3 : f i ≠ f n := fun e => by have := hi i n (by omega) (by omega) e; omega
      show (if f i = m then f n else f i) < m
      split <;> omega
    · intro i j hin hjn e
      have h3 : f i ≠ f n := fun e => by have := hi i n (by omega) (by omega) e; omega
      have h4 : f j ≠ f n := fun e => by have := hi j n (by omega) (by omega) e; omega
      refine hi i j (by omega) (by omega) ?_
      have e' : (if f i = m then f n else f i) = (if f j = m then f n else f j) := e
      split at e' <;> split at e' <;> omega
theorem one_of {c y z : Fp} (hy : y = 0) (h : c * (y * y) + 1 = z) : 1 = z := by grind
/-- d y y + 1 is not nought. -/
theorem div_ne (y : Fp) : cD * (y * y) + 1 ≠ 0 := fun h => by
  have hi := I_I
  have h1 : cI * cI = cD * (y * y) := by grind
  have h2 := D_nosq _ _ h1
  exact Fp.one_ne (one_of h2 h)
theorem on_sq {x y : Fp} (h : On x y) : x * x * (cD * (y * y) + 1) = y * y - 1 := by unfold On at h; grind
theorem same_or {p q : Pt} (h : p.y = q.y) : p.x = q.x ∨ p.x = - q.x := by
  have h1 := on_sq p.on
  have h2 := on_sq q.on
  rw [h] at h1
  have h3 : (cD * (q.y * q.y) + 1) * ((p.x - q.x) * (p.x + q.x)) = 0 := by grind
  rcases Fp.nzd _ _ (Fp.canc (div_ne _) h3) with h4 | h4
  · exact .inl (Fp.eq_of_sub h4)
  · exact .inr (by grind)
theorem neg_v (a : Fp) : (-a).val = (PP - a.val) % PP := rfl
theorem par_neg {a : Fp} (h : (-a).val % 2 = a.val % 2) : a = 0 := by
  have h1 := a.isLt
  rw [neg_v] at h
  have h2 : PP % 2 = 1 := by decide
  by_cases h0 : a.val = 0
  · exact Fin.ext h0
  · have h4 : PP - a.val < PP := by have := PP_pos; omega
    rw [Nat.mod_eq_of_lt h4] at h
    have h5 : a.val ≤ PP := Nat.le_of_lt h1
    omega
theorem same_par {p q : Pt} (h : p.y = q.y) (hx : p.x.val % 2 = q.x.val % 2) : p = q := by
  rcases same_or h with e | e
  · exact Pt.same e h
  · rw [e] at hx
    have := par_neg hx
    refine Pt.same ?_ h
    rw [e, this]; decide +kernel
/-- A point's number. -/
def pnum (p : Pt) : Nat := 2 * p.y.val + p.x.val % 2
theorem pnum_lt (p : Pt) : pnum p < 2 * PP := by have := p.y.isLt; unfold pnum; omega
theorem pnum_inj {p q : Pt} (h : pnum p = pnum q) : p = q := by
  unfold pnum at h
  exact same_par (Fin.ext (by omega)) (by omega)
theorem ptimes_sub {a b : Nat} {p : Pt} (h : a ≤ b) (e : ptimes a p = ptimes b p) : ptimes (b - a) p = pzero := by
  apply padd_cancel (r := ptimes a p)
  rw [zero_padd, ← ptimes_add, Nat.sub_add_cancel h]
  exact e.symm
theorem ptimes_rest {p : Pt} {n : Nat} (h : ptimes n p = pzero) (a : Nat) : ptimes (a % n) p = ptimes a p := by
  have e : a = a / n * n + a % n := by rw [Nat.mul_comm]; exact (Nat.div_add_mod a n).symm
  have e2 : ptimes a p = ptimes (a / n * n + a % n) p := congrArg (fun k => ptimes k p) e
  rw [e2, ptimes_add, ptimes_mul, h, ptimes_zero, zero_padd]
theorem LL_pri : Pri LL := pri_L
/-- Base comes to nothing just at the multiples of L. -/
theorem B_order {m : Nat} (h : ptimes m cB = pzero) : LL ∣ m := Classical.byContradiction fun hn => by
  have hc := LL_pri.cop hn
  have h1 : ptimes (Nat.gcd LL m) cB = pzero := by
    have : ∀ a b : Nat, ptimes a cB = pzero → ptimes b cB = pzero → ptimes (Nat.gcd a b) cB = pzero := by
      intro a b
      induction a, b using Nat.gcd.induction with
      | H0 n => intro _ hb; rw [Nat.gcd_zero_left]; exact hb
      | H1 m n hm ih =>
        intro ha hb
        rw [Nat.gcd_rec]
        exact ih (by rw [ptimes_rest ha]; exact hb) ha
    exact this _ _ LB h
  rw [hc, ptimes_one] at h1
  exact B_ne h1
theorem T_order {m : Nat} (h : ptimes m cT = pzero) : m % 8 = 0 := by
  have h1 : ptimes (m % 8) cT = pzero := by rw [ptimes_rest T8]; exact h
  have h2 := T4
  have h4 : ∀ a k, a * (m % 8) = 4 + 8 * k → False := fun a k e => h2 (by
    have e1 : ptimes (4 + 8 * k) cT = pzero := by rw [← e, ptimes_mul, h1, ptimes_zero]
    rwa [ptimes_add, Nat.mul_comm 8 k, ptimes_mul, T8, ptimes_zero, padd_zero] at e1)
  have h3 : m % 8 < 8 := Nat.mod_lt _ (by decide)
  clear h1 h2
  generalize m % 8 = r at h3 h4 ⊢
  match r, h3, h4 with
  | 0, _, _ => rfl
  | 1, _, h4 => exact (h4 4 0 rfl).elim
  | 2, _, h4 => exact (h4 2 0 rfl).elim
  | 3, _, h4 => exact (h4 4 1 rfl).elim
  | 4, _, h4 => exact (h4 1 0 rfl).elim
  | 5, _, h4 => exact (h4 4 2 rfl).elim
  | 6, _, h4 => exact (h4 2 1 rfl).elim
  | 7, _, h4 => exact (h4 4 3 rfl).elim
/-- The points that Base and the point of eight make. -/
noncomputable def hpt (i j : Nat) : Pt := padd (ptimes i cB) (ptimes j cT)
theorem h8 (i j : Nat) : ptimes 8 (hpt i j) = ptimes (8 * i) cB := by
  unfold hpt
  rw [ptimes_padd, ← ptimes_mul, ← ptimes_mul 8 j, Nat.mul_comm 8 j, ptimes_mul j 8, T8, ptimes_zero, padd_zero]
theorem hpt_le {i j i' j' : Nat} (hj : j < 8) (hj' : j' < 8) (hi' : i' < LL) (hle : i ≤ i') (e : hpt i j = hpt i' j') : i = i' ∧ j = j' := by
  have e8 := congrArg (ptimes 8) e
  rw [h8, h8] at e8
  have d := B_order (ptimes_sub (Nat.mul_le_mul_left 8 hle) e8)
  have e1 : i = i' := by
    rw [← Nat.mul_sub] at d
    rcases LL_pri.euclid d with d | d
    · exact absurd d (by decide +kernel)
    · have := Nat.eq_zero_of_dvd_of_lt d (by omega); omega
  subst e1
  refine ⟨rfl, ?_⟩
  have e2 : ptimes j cT = ptimes j' cT := by
    have : padd (ptimes j cT) (ptimes i cB) = padd (ptimes j' cT) (ptimes i cB) := by rw [padd_comm, padd_comm (ptimes j' cT)]; exact e
    exact padd_cancel this
  rcases Nat.le_total j j' with hl | hl
  · have := T_order (ptimes_sub hl e2); omega
  · have := T_order (ptimes_sub hl e2.symm); omega
theorem hpt_inj {i j i' j' : Nat} (hi : i < LL) (hj : j < 8) (hi' : i' < LL) (hj' : j' < 8) (e : hpt i j = hpt i' j') : i = i' ∧ j = j' := by
  rcases Nat.le_total i i' with hl | hl
  · exact hpt_le hj hj' hi' hl e
  · have := hpt_le hj' hj hi hl e.symm
    exact ⟨this.1.symm, this.2.symm⟩
theorem hpt_add (i j i' j' : Nat) : padd (hpt i j) (hpt i' j') = hpt (i + i') (j + j') := by
  unfold hpt
  rw [ptimes_add, ptimes_add, padd_assoc, ← padd_assoc (ptimes j cT), padd_comm (ptimes j cT), padd_assoc (ptimes i' cB), padd_assoc]
theorem hpt_rest (i j : Nat) : hpt (i % LL) (j % 8) = hpt i j := by unfold hpt; rw [ptimes_rest LB, ptimes_rest T8]
theorem hpt_in (p : Pt) : ∃ i j, hpt i j = p := Classical.byContradiction fun hno => by
  have hp : ∀ i j, hpt i j ≠ p := fun i j e => hno ⟨i, j, e⟩
  have hL : 0 < LL := by decide
  have cross : ∀ i j i' j' : Nat, hpt i j ≠ padd (hpt i' j') p := fun i j i' j' e => by
    apply hp (i + (LL - i' % LL)) (j + (8 - j' % 8))
    have e3 : padd (hpt i' j') (hpt (LL - i' % LL) (8 - j' % 8)) = pzero := by
      rw [← hpt_rest i' j', hpt_add, ← hpt_rest]
      have l1 := Nat.mod_lt i' hL
      have l2 := Nat.mod_lt j' (show 0 < 8 by decide)
      rw [Nat.add_sub_cancel' (Nat.le_of_lt l1), Nat.add_sub_cancel' (Nat.le_of_lt l2), Nat.mod_self, Nat.mod_self]
      exact padd_zero _
    rw [← hpt_add, e, padd_assoc, padd_comm p, ← padd_assoc, e3, zero_padd]
  have key := pigeon (2 * PP) (2 * (8 * LL)) (fun n => pnum (if n % 2 = 0 then hpt (n / 2 / 8) (n / 2 % 8) else padd (hpt (n / 2 / 8) (n / 2 % 8)) p)) (fun n _ => pnum_lt _) ?_
  · exact absurd key (by decide +kernel)
  · intro a b ha hb e
    have e := pnum_inj e
    have i1 : a / 2 / 8 < LL := by omega
    have i2 : b / 2 / 8 < LL := by omega
    have j1 : a / 2 % 8 < 8 := Nat.mod_lt _ (by decide)
    have j2 : b / 2 % 8 < 8 := Nat.mod_lt _ (by decide)
    split at e <;> split at e
    · have := hpt_inj i1 j1 i2 j2 e; omega
    · exact absurd e (cross _ _ _ _)
    · exact absurd e.symm (cross _ _ _ _)
    · have := hpt_inj i1 j1 i2 j2 (padd_cancel e); omega
/-- Each point eight times, and that L times. -/
theorem all8L (p : Pt) : ptimes LL (ptimes 8 p) = pzero := by
  obtain ⟨i, j, rfl⟩ := hpt_in p
  rw [h8, ← ptimes_mul, Nat.mul_comm, ptimes_mul, LB, ptimes_zero]
end Go.Proofs.Ytfmclkmmkceldaa
