/-
  Numbers modulo P = 2^255 - 19 as a field; d of edwards25519 is no square.
  Conditions: none.
-/
import Derived.Test.YtfmclkmmkceldaaFdN
namespace Go.Proofs.Ytfmclkmmkceldaa

def PP : Nat := 57896044618658097711785492504343953926634992332820282019728792003956564819949
instance : NeZero PP := ⟨by decide⟩
theorem PP_pos : 0 < PP := by decide
theorem pri_PP : Pri PP := pri_P
/-- Numbers modulo P. -/
abbrev Fp := Fin PP
theorem Fp.mul_v (a b : Fp) : (a * b).val = a.val * b.val % PP := rfl
theorem Fp.add_v (a b : Fp) : (a + b).val = (a.val + b.val) % PP := rfl
theorem Fp.sub_v (a b : Fp) : (a - b).val = (PP - b.val + a.val) % PP := rfl
theorem Fp.nz {a : Fp} (h : a ≠ 0) : ¬ PP ∣ a.val := fun hd => h (Fin.ext (Nat.eq_zero_of_dvd_of_lt hd a.isLt))
theorem Fp.one_ne : (1 : Fp) ≠ 0 := fun h => absurd (congrArg Fin.val h) (by decide +kernel)
theorem Fp.two_ne : (2 : Fp) ≠ 0 := fun h => absurd (congrArg Fin.val h) (by decide +kernel)
theorem Fp.nzd (a b : Fp) (h : a * b = 0) : a = 0 ∨ b = 0 := by
  have h1 : a.val * b.val % PP = 0 := by rw [← Fp.mul_v, h]; rfl
  have h2 : PP ∣ a.val * b.val := Nat.dvd_of_mod_eq_zero h1
  rcases pri_PP.euclid h2 with h3 | h3
  · exact .inl (Fin.ext (Nat.eq_zero_of_dvd_of_lt h3 a.isLt))
  · exact .inr (Fin.ext (Nat.eq_zero_of_dvd_of_lt h3 b.isLt))
theorem Fp.canc {a b : Fp} (ha : a ≠ 0) (h : a * b = 0) : b = 0 := (Fp.nzd a b h).resolve_left ha
theorem Fp.mul_ne {a b : Fp} (ha : a ≠ 0) (hb : b ≠ 0) : a * b ≠ 0 := fun h => (Fp.nzd a b h).elim ha hb
theorem Fp.eq_of_sub {a b : Fp} (h : a - b = 0) : a = b := by grind
theorem Fp.ex_inv (a : Fp) : ∃ b : Fp, a ≠ 0 → a * b = 1 := by
  refine ⟨⟨a.val ^ (PP - 2) % PP, Nat.mod_lt _ PP_pos⟩, fun h => Fin.ext ?_⟩
  rw [Fp.mul_v]
  show a.val * (a.val ^ (PP - 2) % PP) % PP = 1
  rw [Nat.mul_mod_mod, Nat.mul_comm, ← Nat.pow_succ, show (PP - 2).succ = PP - 1 from by decide +kernel]
  exact pri_PP.fermat (Fp.nz h)
/-- What undoes a product. -/
noncomputable def Fp.inv (a : Fp) : Fp := Classical.choose (Fp.ex_inv a)
theorem Fp.mul_inv {a : Fp} (h : a ≠ 0) : a * Fp.inv a = 1 := Classical.choose_spec (Fp.ex_inv a) h
theorem Fp.inv_unique {a b : Fp} (ha : a ≠ 0) (h : a * b = 1) : b = Fp.inv a := by
  have e := Fp.mul_inv ha
  refine Fp.eq_of_sub (Fp.canc ha ?_)
  grind
/-- d. -/
def cD : Fp := ⟨37095705934669439343138083508754565189542113879843219016388785533085940283555, by decide⟩
def cDE : Fp := ⟨29203323570479832313932222820853031755424015489030106335172286495629888845891, by decide⟩
/-- A root of - 1. -/
def cI : Fp := ⟨19681161376707505956807079304988542015446066515923890162744021073123829784752, by decide⟩
theorem D_E : cD * cDE = 1 := Fin.ext (by decide +kernel)
theorem I_I : cI * cI = -1 := Fin.ext (by decide +kernel)
theorem cD_ne : cD ≠ 0 := fun h => absurd (congrArg Fin.val h) (by decide +kernel)
/-- (P - 1) / 2. -/
def HE : Nat := 28948022309329048855892746252171976963317496166410141009864396001978282409974
theorem D_half : cD.val ^ HE % PP = PP - 1 :=
  pow_at cD.val HE PP (PP - 1) 255 (by decide +kernel) (by decide +kernel)
theorem D_nosq (u w : Fp) (h : w * w = cD * (u * u)) : u = 0 := Classical.byContradiction fun hu => by
  have hw : w ≠ 0 := fun hw => by
    have h1 : cD * (u * u) = 0 := by rw [← h, hw]; rfl
    exact Fp.mul_ne cD_ne (Fp.mul_ne hu hu) h1
  have e1 : w.val * w.val % PP = cD.val * (u.val * u.val) % PP := by
    have := congrArg Fin.val h
    simpa only [Fp.mul_v, Nat.mul_mod_mod] using this
  have fu := pri_PP.fermat (Fp.nz hu)
  have fw := pri_PP.fermat (Fp.nz hw)
  have hE : 2 * HE = PP - 1 := by decide +kernel
  have sq : ∀ a : Nat, (a * a) ^ HE = a ^ (PP - 1) := fun a => by
    rw [← hE, Nat.pow_mul, Nat.pow_two]
  have e2 : (w.val * w.val) ^ HE % PP = (cD.val * (u.val * u.val)) ^ HE % PP := by
    rw [Nat.pow_mod, e1, ← Nat.pow_mod]
  rw [sq, Nat.mul_pow, sq] at e2
  have e3 : w.val ^ (PP - 1) % PP = 1 := fw
  have e4 : u.val ^ (PP - 1) % PP = 1 := fu
  rw [e3, Nat.mul_mod, D_half, e4] at e2
  exact absurd e2 (by decide +kernel)
end Go.Proofs.Ytfmclkmmkceldaa
