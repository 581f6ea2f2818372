/-
  The points of edwards25519 are a group under the sum of chapter 9 (which has no exception).
  Conditions: none.
-/
import Derived.Test.YtfmclkmmkceldaaCvF
namespace Go.Proofs.Ytfmclkmmkceldaa

/-- On the curve. -/
def On (x y : Fp) : Prop := y * y - x * x = 1 + cD * (x * x * (y * y))
theorem denom {x1 y1 x2 y2 e : Fp} (h1 : On x1 y1) (h2 : On x2 y2) (he : e = cD * (x1 * x2 * (y1 * y2))) (hs : e * e = 1) : False := by
  unfold On at h1 h2
  have hi := I_I
  have k1 : x1 * y1 * (cI * x2 + y2) = 0 := D_nosq _ (cI * x1 + e * y1) (by grind)
  have k2 : x1 * y1 * (cI * x2 - y2) = 0 := D_nosq _ (cI * x1 - e * y1) (by grind)
  have k3 : 2 * (x1 * y1 * y2) = 0 := by grind
  have k4 := Fp.canc Fp.two_ne k3
  have k5 : e = 0 := by grind
  have k6 : (1 : Fp) = 0 := by grind
  exact Fp.one_ne k6

/-- A point. -/
structure Pt where
  x : Fp
  y : Fp
  on : On x y
theorem Pt.same {p q : Pt} (hx : p.x = q.x) (hy : p.y = q.y) : p = q := by
  cases p; cases q; cases hx; cases hy; rfl
def ee (x1 y1 x2 y2 : Fp) : Fp := cD * (x1 * x2 * (y1 * y2))
theorem denA (p q : Pt) : 1 + ee p.x p.y q.x q.y ≠ 0 := fun h =>
  denom (e := ee p.x p.y q.x q.y) p.on q.on rfl (by grind)
theorem denB (p q : Pt) : 1 - ee p.x p.y q.x q.y ≠ 0 := fun h =>
  denom (e := ee p.x p.y q.x q.y) p.on q.on rfl (by grind)
theorem ring1 (x y a b : Fp) : a * a * (b * b) * (y * y - x * x - (1 + cD * (x * x * (y * y)))) = y * b * (y * b) * (a * a) - x * a * (x * a) * (b * b) - a * a * (b * b) - cD * (x * a * (x * a) * (y * b * (y * b))) := by grind
theorem ring2 {x1 y1 x2 y2 : Fp} (h1 : On x1 y1) (h2 : On x2 y2) : (y1 * y2 + x1 * x2) * (y1 * y2 + x1 * x2) * ((1 + ee x1 y1 x2 y2) * (1 + ee x1 y1 x2 y2)) - (x1 * y2 + x2 * y1) * (x1 * y2 + x2 * y1) * ((1 - ee x1 y1 x2 y2) * (1 - ee x1 y1 x2 y2)) - (1 + ee x1 y1 x2 y2) * (1 + ee x1 y1 x2 y2) * ((1 - ee x1 y1 x2 y2) * (1 - ee x1 y1 x2 y2)) - cD * ((x1 * y2 + x2 * y1) * (x1 * y2 + x2 * y1) * ((y1 * y2 + x1 * x2) * (y1 * y2 + x1 * x2))) = 0 := by
  unfold On at *; unfold ee; grind
theorem on_add {x1 y1 x2 y2 x y : Fp} (h1 : On x1 y1) (h2 : On x2 y2) (hA : 1 + ee x1 y1 x2 y2 ≠ 0) (hB : 1 - ee x1 y1 x2 y2 ≠ 0)
    (hx : x * (1 + ee x1 y1 x2 y2) = x1 * y2 + x2 * y1) (hy : y * (1 - ee x1 y1 x2 y2) = y1 * y2 + x1 * x2) : On x y := by
  unfold On at *
  have k : (1 + ee x1 y1 x2 y2) * (1 + ee x1 y1 x2 y2) * ((1 - ee x1 y1 x2 y2) * (1 - ee x1 y1 x2 y2)) * (y * y - x * x - (1 + cD * (x * x * (y * y)))) = 0 := by
    have e1 : (1 + ee x1 y1 x2 y2) * (1 + ee x1 y1 x2 y2) * ((1 - ee x1 y1 x2 y2) * (1 - ee x1 y1 x2 y2)) * (y * y - x * x - (1 + cD * (x * x * (y * y)))) = (y1 * y2 + x1 * x2) * (y1 * y2 + x1 * x2) * ((1 + ee x1 y1 x2 y2) * (1 + ee x1 y1 x2 y2)) - (x1 * y2 + x2 * y1) * (x1 * y2 + x2 * y1) * ((1 - ee x1 y1 x2 y2) * (1 - ee x1 y1 x2 y2)) - (1 + ee x1 y1 x2 y2) * (1 + ee x1 y1 x2 y2) * ((1 - ee x1 y1 x2 y2) * (1 - ee x1 y1 x2 y2)) - cD * ((x1 * y2 + x2 * y1) * (x1 * y2 + x2 * y1) * ((y1 * y2 + x1 * x2) * (y1 * y2 + x1 * x2))) := by
      rw [← hx, ← hy]; exact ring1 x y (1 + ee x1 y1 x2 y2) (1 - ee x1 y1 x2 y2)
    rw [e1]; exact ring2 h1 h2
  have := Fp.canc (Fp.mul_ne (Fp.mul_ne hA hA) (Fp.mul_ne hB hB)) k
  exact Fp.eq_of_sub this
noncomputable def padd (p q : Pt) : Pt where
  x := (p.x * q.y + q.x * p.y) * Fp.inv (1 + ee p.x p.y q.x q.y)
  y := (p.y * q.y + p.x * q.x) * Fp.inv (1 - ee p.x p.y q.x q.y)
  on := on_add p.on q.on (denA p q) (denB p q) (by have := Fp.mul_inv (denA p q); grind) (by have := Fp.mul_inv (denB p q); grind)
theorem padd_x (p q : Pt) : (padd p q).x * (1 + ee p.x p.y q.x q.y) = p.x * q.y + q.x * p.y := by
  have := Fp.mul_inv (denA p q); simp only [padd]; grind
theorem padd_y (p q : Pt) : (padd p q).y * (1 - ee p.x p.y q.x q.y) = p.y * q.y + p.x * q.x := by
  have := Fp.mul_inv (denB p q); simp only [padd]; grind
theorem padd_of {p q r : Pt} (hx : r.x * (1 + ee p.x p.y q.x q.y) = p.x * q.y + q.x * p.y) (hy : r.y * (1 - ee p.x p.y q.x q.y) = p.y * q.y + p.x * q.x) : padd p q = r := by
  refine Pt.same (Fp.eq_of_sub (Fp.canc (denA p q) ?_)) (Fp.eq_of_sub (Fp.canc (denB p q) ?_))
  · have := padd_x p q; grind
  · have := padd_y p q; grind

theorem assoc_x {x1 y1 x2 y2 x3 y3 : Fp} (h1 : On x1 y1) (h2 : On x2 y2) (h3 : On x3 y3) :
  ((x1 * y2 + x2 * y1) * (1 - ee x1 y1 x2 y2) * y3 + x3 * ((y1 * y2 + x1 * x2) * (1 + ee x1 y1 x2 y2))) * ((1 + ee x2 y2 x3 y3) * (1 - ee x2 y2 x3 y3) + cD * (x1 * y1 * ((x2 * y3 + x3 * y2) * (y2 * y3 + x2 * x3))))
  - (x1 * ((y2 * y3 + x2 * x3) * (1 + ee x2 y2 x3 y3)) + (x2 * y3 + x3 * y2) * (1 - ee x2 y2 x3 y3) * y1) * ((1 + ee x1 y1 x2 y2) * (1 - ee x1 y1 x2 y2) + cD * ((x1 * y2 + x2 * y1) * (y1 * y2 + x1 * x2) * (x3 * y3))) = 0 := by
  unfold On at *; unfold ee; grind
theorem assoc_y {x1 y1 x2 y2 x3 y3 : Fp} (h1 : On x1 y1) (h2 : On x2 y2) (h3 : On x3 y3) :
  ((y1 * y2 + x1 * x2) * (1 + ee x1 y1 x2 y2) * y3 + (x1 * y2 + x2 * y1) * (1 - ee x1 y1 x2 y2) * x3) * ((1 + ee x2 y2 x3 y3) * (1 - ee x2 y2 x3 y3) - cD * (x1 * y1 * ((x2 * y3 + x3 * y2) * (y2 * y3 + x2 * x3))))
  - (y1 * ((y2 * y3 + x2 * x3) * (1 + ee x2 y2 x3 y3)) + x1 * ((x2 * y3 + x3 * y2) * (1 - ee x2 y2 x3 y3))) * ((1 + ee x1 y1 x2 y2) * (1 - ee x1 y1 x2 y2) - cD * ((x1 * y2 + x2 * y1) * (y1 * y2 + x1 * x2) * (x3 * y3))) = 0 := by
  unfold On at *; unfold ee; grind
theorem clear_x (x1 y1 x3 y3 u v s t A B A' B' l r : Fp) (hl : l * (1 + ee u v x3 y3) = u * y3 + x3 * v) (hr : r * (1 + ee x1 y1 s t) = x1 * t + s * y1) :
  A * B * (A' * B') * ((1 + ee u v x3 y3) * (1 + ee x1 y1 s t)) * (l - r) = (u * A * B * y3 + x3 * (v * B * A)) * (A' * B' + cD * (x1 * y1 * (s * A' * (t * B')))) - (x1 * (t * B' * A') + s * A' * B' * y1) * (A * B + cD * (u * A * (v * B) * (x3 * y3))) := by
  unfold ee at *; grind
theorem clear_y (x1 y1 x3 y3 u v s t A B A' B' l r : Fp) (hl : l * (1 - ee u v x3 y3) = v * y3 + u * x3) (hr : r * (1 - ee x1 y1 s t) = y1 * t + x1 * s) :
  A * B * (A' * B') * ((1 - ee u v x3 y3) * (1 - ee x1 y1 s t)) * (l - r) = (v * B * A * y3 + u * A * B * x3) * (A' * B' - cD * (x1 * y1 * (s * A' * (t * B')))) - (y1 * (t * B' * A') + x1 * (s * A' * B')) * (A * B - cD * (u * A * (v * B) * (x3 * y3))) := by
  unfold ee at *; grind
theorem padd_assoc (p q r : Pt) : padd (padd p q) r = padd p (padd q r) := by
  have nA := denA p q; have nB := denB p q; have nA' := denA q r; have nB' := denB q r
  have nz := Fp.mul_ne (Fp.mul_ne nA nB) (Fp.mul_ne nA' nB')
  refine Pt.same (Fp.eq_of_sub (Fp.canc (Fp.mul_ne nz (Fp.mul_ne (denA (padd p q) r) (denA p (padd q r)))) ?_)) (Fp.eq_of_sub (Fp.canc (Fp.mul_ne nz (Fp.mul_ne (denB (padd p q) r) (denB p (padd q r)))) ?_))
  · rw [clear_x p.x p.y r.x r.y _ _ _ _ _ _ _ _ _ _ (padd_x (padd p q) r) (padd_x p (padd q r)), padd_x, padd_y, padd_x, padd_y]
    exact assoc_x p.on q.on r.on
  · rw [clear_y p.x p.y r.x r.y _ _ _ _ _ _ _ _ _ _ (padd_y (padd p q) r) (padd_y p (padd q r)), padd_x, padd_y, padd_x, padd_y]
    exact assoc_y p.on q.on r.on
theorem padd_comm (p q : Pt) : padd p q = padd q p := by
  have h : ee p.x p.y q.x q.y = ee q.x q.y p.x p.y := by unfold ee; grind
  refine padd_of ?_ ?_
  · rw [h, padd_x]; grind
  · rw [h, padd_y]; grind
def pzero : Pt := ⟨0, 1, by unfold On; grind⟩
def pneg (p : Pt) : Pt := ⟨-p.x, p.y, by have := p.on; unfold On at *; grind⟩
theorem padd_zero (p : Pt) : padd p pzero = p := padd_of (by simp only [pzero, ee]; grind) (by simp only [pzero, ee]; grind)
theorem padd_neg (p : Pt) : padd p (pneg p) = pzero := padd_of (by simp only [pzero, pneg, ee]; grind) (by have := p.on; simp only [On, pzero, pneg, ee] at *; grind)
/-- So often. -/
noncomputable def ptimes : Nat → Pt → Pt
  | 0, _ => pzero
  | k + 1, p => padd (ptimes k p) p
theorem zero_padd (p : Pt) : padd pzero p = p := by rw [padd_comm, padd_zero]
theorem ptimes_add (a b : Nat) (p : Pt) : ptimes (a + b) p = padd (ptimes a p) (ptimes b p) := by
  induction b with
  | zero => exact (padd_zero _).symm
  | succ b ih => show padd (ptimes (a + b) p) p = padd (ptimes a p) (padd (ptimes b p) p); rw [ih, padd_assoc]
theorem ptimes_zero (a : Nat) : ptimes a pzero = pzero := by
  induction a with
  | zero => rfl
  | succ a ih => show padd _ _ = _; rw [ih, padd_zero]
theorem ptimes_mul (a b : Nat) (p : Pt) : ptimes (a * b) p = ptimes a (ptimes b p) := by
  induction a with
  | zero => rw [Nat.zero_mul]; rfl
  | succ a ih => rw [Nat.succ_mul, ptimes_add, ih]; rfl
theorem ptimes_one (p : Pt) : ptimes 1 p = p := zero_padd p
theorem ptimes_two (p : Pt) : ptimes 2 p = padd p p := by show padd (ptimes 1 p) p = _; rw [ptimes_one]
theorem ptimes_padd (a : Nat) (p q : Pt) : ptimes a (padd p q) = padd (ptimes a p) (ptimes a q) := by
  induction a with
  | zero => exact (padd_zero _).symm
  | succ a ih =>
    have e : padd (padd (ptimes a p) (ptimes a q)) (padd p q) = padd (padd (ptimes a p) p) (padd (ptimes a q) q) :=
      (padd_assoc _ _ _).trans ((congrArg (padd (ptimes a p)) ((padd_assoc _ _ _).symm.trans ((congrArg (fun x => padd x q) (padd_comm (ptimes a q) p)).trans (padd_assoc _ _ _)))).trans (padd_assoc _ _ _).symm)
    exact (congrArg (fun x => padd x (padd p q)) ih).trans e
theorem padd_cancel {p q r : Pt} (h : padd p r = padd q r) : p = q := by
  have := congrArg (fun x => padd x (pneg r)) h
  simpa only [padd_assoc, padd_neg, padd_zero] using this

end Go.Proofs.Ytfmclkmmkceldaa
