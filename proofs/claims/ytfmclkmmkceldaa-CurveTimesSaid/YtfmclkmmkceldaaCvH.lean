/-
  Sums of points as the program and the document reckon them (four numbers for a point); the known points; how often Base and the point of eight come to nothing.
  Conditions: none.
-/
import Derived.Test.YtfmclkmmkceldaaCvG
import Derived.Test.YtfmclkmmkceldaaCvL
namespace Go.Proofs.Ytfmclkmmkceldaa

/-- The four numbers stand for the point. -/
structure Rep (x y z t : Fp) (p : Pt) : Prop where
  z0 : z ≠ 0
  hx : x = p.x * z
  hy : y = p.y * z
  ht : t = p.x * p.y * z
theorem rep_of {xn yn xd yd : Fp} {p : Pt} (h1 : xd ≠ 0) (h2 : yd ≠ 0) (hx : xn = p.x * xd) (hy : yn = p.y * yd) : Rep (xn * yd) (yn * xd) (xd * yd) (xn * yn) p :=
  ⟨Fp.mul_ne h1 h2, by grind, by grind, by grind⟩
theorem ne_two {z w e : Fp} (h1 : z ≠ 0) (h2 : w ≠ 0) (h3 : e ≠ 0) : 2 * (z * w) * e ≠ 0 := Fp.mul_ne (Fp.mul_ne Fp.two_ne (Fp.mul_ne h1 h2)) h3
theorem Rep.sum {x y z t x' y' z' t' : Fp} {p q : Pt} (h : Rep x y z t p) (h' : Rep x' y' z' t' q) :
    Rep (((y + x) * (y' + x') - (y - x) * (y' - x')) * ((z * z' + z * z') - (cD * (t * t') + cD * (t * t')))) (((y + x) * (y' + x') + (y - x) * (y' - x')) * ((z * z' + z * z') + (cD * (t * t') + cD * (t * t'))))
      (((z * z' + z * z') + (cD * (t * t') + cD * (t * t'))) * ((z * z' + z * z') - (cD * (t * t') + cD * (t * t')))) (((y + x) * (y' + x') - (y - x) * (y' - x')) * ((y + x) * (y' + x') + (y - x) * (y' - x'))) (padd p q) := by
  obtain ⟨z0, hx, hy, ht⟩ := h
  obtain ⟨z0', hx', hy', ht'⟩ := h'
  have eA : (z * z' + z * z') + (cD * (t * t') + cD * (t * t')) = 2 * (z * z') * (1 + ee p.x p.y q.x q.y) := by unfold ee; grind
  have eB : (z * z' + z * z') - (cD * (t * t') + cD * (t * t')) = 2 * (z * z') * (1 - ee p.x p.y q.x q.y) := by unfold ee; grind
  have kx := padd_x p q
  have ky := padd_y p q
  refine rep_of ?_ ?_ ?_ ?_
  · rw [eA]; exact ne_two z0 z0' (denA p q)
  · rw [eB]; exact ne_two z0 z0' (denB p q)
  · have e : (y + x) * (y' + x') - (y - x) * (y' - x') = 2 * (z * z') * (p.x * q.y + q.x * p.y) := by subst hx hy hx' hy'; grind
    rw [eA, e, ← kx]; grind
  · have e : (y + x) * (y' + x') + (y - x) * (y' - x') = 2 * (z * z') * (p.y * q.y + p.x * q.x) := by subst hx hy hx' hy'; grind
    rw [eB, e, ← ky]; grind
theorem Rep.dbl {x y z t : Fp} {p : Pt} (h : Rep x y z t p) :
    Rep (((x + y) * (x + y) - (y * y + x * x)) * ((z * z + z * z) - (y * y - x * x))) ((y * y + x * x) * (y * y - x * x)) ((y * y - x * x) * ((z * z + z * z) - (y * y - x * x))) (((x + y) * (x + y) - (y * y + x * x)) * (y * y + x * x)) (padd p p) := by
  obtain ⟨z0, hx, hy, ht⟩ := h
  have on := p.on
  unfold On at on
  have eA : y * y - x * x = z * z * (1 + ee p.x p.y p.x p.y) := by unfold ee; grind
  have eB : (z * z + z * z) - (y * y - x * x) = z * z * (1 - ee p.x p.y p.x p.y) := by rw [eA]; grind
  have kx := padd_x p p
  have ky := padd_y p p
  refine rep_of ?_ ?_ ?_ ?_
  · rw [eA]; exact Fp.mul_ne (Fp.mul_ne z0 z0) (denA p p)
  · rw [eB]; exact Fp.mul_ne (Fp.mul_ne z0 z0) (denB p p)
  · have e : (x + y) * (x + y) - (y * y + x * x) = z * z * (p.x * p.y + p.x * p.y) := by subst hx hy; grind
    rw [eA, e, ← kx]; grind
  · have e : y * y + x * x = z * z * (p.y * p.y + p.x * p.x) := by subst hx hy; grind
    rw [eB, e, ← ky]; grind
theorem rep_zero : Rep 0 1 1 0 pzero := ⟨Fp.one_ne, by simp only [pzero]; grind, by simp only [pzero]; grind, by simp only [pzero]; grind⟩
theorem rep_flat (p : Pt) : Rep p.x p.y 1 (p.x * p.y) p := ⟨Fp.one_ne, by grind, by grind, by grind⟩
theorem Rep.same {x y z t : Fp} {p q : Pt} (h : Rep x y z t p) (h' : Rep x y z t q) : p = q := by
  have h1 := h.z0
  refine Pt.same (Fp.eq_of_sub (Fp.canc h1 ?_)) (Fp.eq_of_sub (Fp.canc h1 ?_))
  · have := h.hx; have := h'.hx; grind
  · have := h.hy; have := h'.hy; grind

/-- By numbers alone. -/
def fp (n : Nat) : Fp := Fin.ofNat PP n
theorem fp_mul (a b : Nat) : fp (a * b % PP) = fp a * fp b := Fin.ext (by show a * b % PP % PP = a % PP * (b % PP) % PP; rw [Nat.mod_mod, ← Nat.mul_mod])
theorem fp_add (a b : Nat) : fp (a + b) = fp a + fp b := Fin.ext (by show (a + b) % PP = (a % PP + b % PP) % PP; rw [← Nat.add_mod])
theorem fp_sub (a b : Nat) (h : b ≤ PP) : fp (a + (PP - b)) = fp a - fp b := by
  have e : fp (a + (PP - b)) + fp b = fp a := by rw [← fp_add, Nat.add_assoc, Nat.sub_add_cancel h]; exact Fin.ext (Nat.add_mod_right a PP)
  grind
theorem fp_val (a : Fp) : fp a.val = a := Fin.ext (Nat.mod_eq_of_lt a.isLt)
abbrev Q := Nat × Nat × Nat × Nat
def qm (a b : Nat) : Nat := a * b % PP
def qsum (a b : Q) : Q :=
  match a, b with
  | (x, y, z, t), (x', y', z', t') =>
    let m := qm (y + (PP - x)) (y' + (PP - x'))
    let s := qm (y + x) (y' + x')
    let w := qm z (2 * z')
    let c := qm (2 * 37095705934669439343138083508754565189542113879843219016388785533085940283555) (qm t t')
    let e := s + (PP - m)
    let f := w + (PP - c)
    let g := w + c
    let h := s + m
    (qm e f, qm h g, qm g f, qm e h)
def qtimes (p : Q) : Nat → Nat → Q
  | 0, _ => (0, 1, 1, 0)
  | f + 1, k =>
    let h := qtimes p f (k / 2)
    let h2 := qsum h h
    if k % 2 = 1 then qsum h2 p else h2
def QRep (a : Q) (p : Pt) : Prop := (a.1 ≤ PP ∧ a.2.1 ≤ PP ∧ a.2.2.1 ≤ PP ∧ a.2.2.2 ≤ PP) ∧ Rep (fp a.1) (fp a.2.1) (fp a.2.2.1) (fp a.2.2.2) p
theorem qm_le (a b : Nat) : qm a b ≤ PP := Nat.le_of_lt (Nat.mod_lt _ PP_pos)
theorem fp_qm (a b : Nat) : fp (qm a b) = fp a * fp b := fp_mul a b
theorem fp_two (a : Nat) : fp (2 * a) = fp a + fp a := by rw [Nat.two_mul, fp_add]
theorem fp_D : fp 37095705934669439343138083508754565189542113879843219016388785533085940283555 = cD := fp_val cD
theorem QRep.sum {a b : Q} {p q : Pt} (h : QRep a p) (h' : QRep b q) : QRep (qsum a b) (padd p q) := by
  obtain ⟨x, y, z, t⟩ := a
  obtain ⟨x', y', z', t'⟩ := b
  obtain ⟨⟨b1, b2, b3, b4⟩, h⟩ := h
  obtain ⟨⟨c1, c2, c3, c4⟩, h'⟩ := h'
  refine ⟨⟨qm_le _ _, qm_le _ _, qm_le _ _, qm_le _ _⟩, ?_⟩
  have k := h.sum h'
  have hw : fp (qm z (2 * z')) = fp z * fp z' + fp z * fp z' := by rw [fp_qm, fp_two]; grind
  have hc : fp (qm (2 * 37095705934669439343138083508754565189542113879843219016388785533085940283555) (qm t t')) = cD * (fp t * fp t') + cD * (fp t * fp t') := by rw [fp_qm, fp_qm, fp_two, fp_D]; grind
  have hm : fp (qm (y + (PP - x)) (y' + (PP - x'))) = (fp y - fp x) * (fp y' - fp x') := by rw [fp_qm, fp_sub _ _ b1, fp_sub _ _ c1]
  have hs : fp (qm (y + x) (y' + x')) = (fp y + fp x) * (fp y' + fp x') := by rw [fp_qm, fp_add, fp_add]
  simp only [qsum]
  generalize qm z (2 * z') = w at hw ⊢
  generalize hcc : qm (2 * 37095705934669439343138083508754565189542113879843219016388785533085940283555) (qm t t') = c at hc ⊢
  generalize hmm : qm (y + (PP - x)) (y' + (PP - x')) = m at hm ⊢
  generalize qm (y + x) (y' + x') = s at hs ⊢
  have lc : c ≤ PP := hcc ▸ qm_le _ _
  have lm : m ≤ PP := hmm ▸ qm_le _ _
  simp only [fp_qm, fp_sub _ _ lc, fp_sub _ _ lm, fp_add]
  rw [hw, hc, hm, hs]
  exact k
theorem qtimes_rep {a : Q} {p : Pt} (h : QRep a p) : ∀ f k, k < 2 ^ f → QRep (qtimes a f k) (ptimes k p)
  | 0, k, hk => by
    have : k = 0 := by omega
    subst this
    exact ⟨⟨Nat.zero_le _, PP_pos, PP_pos, Nat.zero_le _⟩, rep_zero⟩
  | f + 1, k, hk => by
    have ih := qtimes_rep h f (k / 2) (by rw [Nat.pow_succ] at hk; omega)
    have h2 := ih.sum ih
    rw [← ptimes_add] at h2
    simp only [qtimes]
    by_cases hb : k % 2 = 1
    · rw [if_pos hb]
      have h3 := h2.sum h
      have e : k = k / 2 + k / 2 + 1 := by omega
      have e2 : padd (ptimes (k / 2 + k / 2) p) p = ptimes k p := (congrArg (fun n => ptimes n p) e).symm
      rw [e2] at h3
      exact h3
    · rw [if_neg hb]
      have e : k / 2 + k / 2 = k := by omega
      rw [e] at h2
      exact h2
/-- L. -/
def LL : Nat := 7237005577332262213973186563042994240857116359379907606001950938285454250989
/-- Base. -/
def cB : Pt := ⟨⟨15112221349535400772501151409588531511454012693041857206046113283949847762202, by decide⟩, ⟨46316835694926478169428394003475163141307993866256225615783033603165251855960, by decide⟩, Fin.ext (by decide +kernel)⟩
/-- A point that comes to nothing eightfold, and no less. -/
def cT : Pt := ⟨⟨14399317868200118260347934320527232580618823971194345261214217575416788799818, by decide⟩, ⟨55188659117513257062467267217118295137698188065244968500265048394206261417927, by decide⟩, Fin.ext (by decide +kernel)⟩
def qB : Q := (15112221349535400772501151409588531511454012693041857206046113283949847762202, 46316835694926478169428394003475163141307993866256225615783033603165251855960, 1, 46827403850823179245072216630277197565144205554125654976674165829533817101731)
def qT : Q := (14399317868200118260347934320527232580618823971194345261214217575416788799818, 55188659117513257062467267217118295137698188065244968500265048394206261417927, 1, 49249569669750663008941572433996126643240416652669157144375776867115012622209)
theorem qB_rep : QRep qB cB := ⟨⟨by decide, by decide, by decide, by decide⟩, by
  have := rep_flat cB
  rwa [show cB.x * cB.y = fp 46827403850823179245072216630277197565144205554125654976674165829533817101731 from Fin.ext (by decide +kernel)] at this⟩
theorem qT_rep : QRep qT cT := ⟨⟨by decide, by decide, by decide, by decide⟩, by
  have := rep_flat cT
  rwa [show cT.x * cT.y = fp 49249569669750663008941572433996126643240416652669157144375776867115012622209 from Fin.ext (by decide +kernel)] at this⟩
theorem QRep.zero {a : Q} {p : Pt} (h : QRep a p) (h0 : a.1 % PP = 0) (h1 : a.2.1 % PP = a.2.2.1 % PP) : p = pzero := by
  obtain ⟨_, z0, hx, hy, _⟩ := h
  have e0 : fp a.1 = 0 := Fin.ext h0
  have e1 : fp a.2.1 = fp a.2.2.1 := Fin.ext h1
  refine Pt.same (Fp.eq_of_sub (Fp.canc z0 ?_)) (Fp.eq_of_sub (Fp.canc z0 ?_))
  · simp only [pzero]; grind
  · simp only [pzero]; grind
theorem QRep.not_zero {a : Q} {p : Pt} (h : QRep a p) (h0 : a.1 % PP ≠ 0) : p ≠ pzero := fun hp => by
  obtain ⟨_, z0, hx, hy, _⟩ := h
  apply h0
  have : fp a.1 = 0 := by rw [hx, hp]; simp only [pzero]; grind
  exact congrArg Fin.val this
theorem QRep.no_zero {a : Q} {p : Pt} (h : QRep a p) (h0 : a.2.1 % PP ≠ a.2.2.1 % PP) : p ≠ pzero := fun hp => by
  obtain ⟨_, z0, hx, hy, _⟩ := h
  apply h0
  have : fp a.2.1 = fp a.2.2.1 := by rw [hy, hp]; simp only [pzero]; grind
  exact congrArg Fin.val this
theorem LB : ptimes LL cB = pzero := (qtimes_rep qB_rep 253 LL (by decide +kernel)).zero (by decide +kernel) (by decide +kernel)
theorem B_ne : cB ≠ pzero := qB_rep.not_zero (by decide +kernel)
theorem T8 : ptimes 8 cT = pzero := (qtimes_rep qT_rep 4 8 (by decide)).zero (by decide +kernel) (by decide +kernel)
theorem T4 : ptimes 4 cT ≠ pzero := (qtimes_rep qT_rep 3 4 (by decide)).no_zero (by decide +kernel)
end Go.Proofs.Ytfmclkmmkceldaa
