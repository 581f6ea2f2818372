/-
  The document's numbers as sums and products in the field.
  Conditions: none.
-/
import Derived.Test.YtfmclkmmkceldaaCvX
import Derived.Test.YtfmclkmmkceldaaFdRh
import Derived.Test.YtfmclkmmkceldaaFdNum
namespace Go.Proofs.Ytfmclkmmkceldaa
open Go.RowKit

theorem froot_gen (b i j : Nat) (hb : b < 115792089237316195423570985008687907853269984665640564039457584007913129639936) (hi : i < 115792089237316195423570985008687907853269984665640564039457584007913129639936) (hj : j < 115792089237316195423570985008687907853269984665640564039457584007913129639936) :
    ((if mu (pw b i) (pw b i) % 57896044618658097711785492504343953926634992332820282019728792003956564819949 = b then (pw b i % 57896044618658097711785492504343953926634992332820282019728792003956564819949, true) else if mu (mu (pw b i) (pw 2 j)) (mu (pw b i) (pw 2 j)) % 57896044618658097711785492504343953926634992332820282019728792003956564819949 = b then (mu (pw b i) (pw 2 j) % 57896044618658097711785492504343953926634992332820282019728792003956564819949, true) else (0, false)) : Nat × Bool) =
    (if b ^ i % 57896044618658097711785492504343953926634992332820282019728792003956564819949 * (b ^ i % 57896044618658097711785492504343953926634992332820282019728792003956564819949) % 57896044618658097711785492504343953926634992332820282019728792003956564819949 = b then (b ^ i % 57896044618658097711785492504343953926634992332820282019728792003956564819949, true) else if b ^ i % 57896044618658097711785492504343953926634992332820282019728792003956564819949 * (2 ^ j % 57896044618658097711785492504343953926634992332820282019728792003956564819949) % 57896044618658097711785492504343953926634992332820282019728792003956564819949 * (b ^ i % 57896044618658097711785492504343953926634992332820282019728792003956564819949 * (2 ^ j % 57896044618658097711785492504343953926634992332820282019728792003956564819949) % 57896044618658097711785492504343953926634992332820282019728792003956564819949) % 57896044618658097711785492504343953926634992332820282019728792003956564819949 = b then (b ^ i % 57896044618658097711785492504343953926634992332820282019728792003956564819949 * (2 ^ j % 57896044618658097711785492504343953926634992332820282019728792003956564819949) % 57896044618658097711785492504343953926634992332820282019728792003956564819949, true) else (0, false)) := by
  have e8 := pw_mod b i hb hi
  have e4 := pw_mod 2 j (by decide) hj
  have l8 := pw_lt b i
  have l4 := pw_lt 2 j
  generalize pw b i = u at e8 l8 ⊢
  generalize pw 2 j = v at e4 l4 ⊢
  generalize b ^ i % 57896044618658097711785492504343953926634992332820282019728792003956564819949 = r at e8 ⊢
  generalize 2 ^ j % 57896044618658097711785492504343953926634992332820282019728792003956564819949 = s at e4 ⊢
  have em : mu u v % 57896044618658097711785492504343953926634992332820282019728792003956564819949 = r * s % 57896044618658097711785492504343953926634992332820282019728792003956564819949 := by rw [mu_mod u v l8 l4, Nat.mul_mod, e8, e4]
  have lm := mu_lt u v
  have c1 : mu u u % 57896044618658097711785492504343953926634992332820282019728792003956564819949 = r * r % 57896044618658097711785492504343953926634992332820282019728792003956564819949 := by rw [mu_mod u u l8 l8, Nat.mul_mod, e8]
  generalize mu u v = m at em lm ⊢
  have c2 : mu m m % 57896044618658097711785492504343953926634992332820282019728792003956564819949 = r * s % 57896044618658097711785492504343953926634992332820282019728792003956564819949 * (r * s % 57896044618658097711785492504343953926634992332820282019728792003956564819949) % 57896044618658097711785492504343953926634992332820282019728792003956564819949 := by rw [mu_mod m m lm lm, Nat.mul_mod, em]
  rw [c1, c2, e8, em]
theorem fRoot_doc (a : Nat) : fRoot a = rrt (a % 57896044618658097711785492504343953926634992332820282019728792003956564819949) 2 := by
  have hb : a % 57896044618658097711785492504343953926634992332820282019728792003956564819949 < 115792089237316195423570985008687907853269984665640564039457584007913129639936 := lt4 (Nat.mod_lt _ P_pos)
  unfold fRoot
  obtain ⟨b, hbb⟩ : ∃ b, a % 57896044618658097711785492504343953926634992332820282019728792003956564819949 = b := ⟨_, rfl⟩
  rw [hbb] at hb ⊢
  have h := froot_gen b G8 G4 hb (by decide) (by decide)
  have hrt : rt b = (if mu (pw b G8) (pw b G8) % 57896044618658097711785492504343953926634992332820282019728792003956564819949 = b then (pw b G8 % 57896044618658097711785492504343953926634992332820282019728792003956564819949, true) else if mu (mu (pw b G8) (pw 2 G4)) (mu (pw b G8) (pw 2 G4)) % 57896044618658097711785492504343953926634992332820282019728792003956564819949 = b then (mu (pw b G8) (pw 2 G4) % 57896044618658097711785492504343953926634992332820282019728792003956564819949, true) else (0, false)) := rfl
  rw [hrt, h]
  unfold rrt r8
  generalize G8 = i
  generalize G4 = j
  generalize b ^ i % 57896044618658097711785492504343953926634992332820282019728792003956564819949 = r
  generalize 2 ^ j % 57896044618658097711785492504343953926634992332820282019728792003956564819949 = s
  generalize r * s % 57896044618658097711785492504343953926634992332820282019728792003956564819949 = x
  unfold evn
  by_cases h1 : r * r % 57896044618658097711785492504343953926634992332820282019728792003956564819949 = b
  · simp only [if_pos h1, if_true]
  · simp only [if_neg h1]
    by_cases h2 : x * x % 57896044618658097711785492504343953926634992332820282019728792003956564819949 = b
    · simp only [if_pos h2, if_true]
    · simp only [if_neg h2, Bool.false_eq_true, if_false]

theorem WB.mul (a b : Fp) (w : World) : Calls Try.prog 85 #[.agg (WB a), .agg (WB b)] w fun e w' => e = .returned (.agg (WB (a * b))) ∧ Below w.heap.size w w' := mulR_any a.val b.val w a.lt256 b.lt256
theorem WB.add (a b : Fp) (w : World) : Calls Try.prog 86 #[.agg (WB a), .agg (WB b)] w fun e w' => e = .returned (.agg (WB (a + b))) ∧ Below w.heap.size w w' := addR_any a.val b.val w a.isLt b.isLt
theorem WB.sub (a b : Fp) (w : World) : Calls Try.prog 81 #[.agg (WB a), .agg (WB b)] w fun e w' => e = .returned (.agg (WB (a - b))) ∧ Below w.heap.size w w' := by
  have h := subR_any a.val b.val w a.isLt b.isLt
  have e : (a.val + 57896044618658097711785492504343953926634992332820282019728792003956564819949 - b.val) % 57896044618658097711785492504343953926634992332820282019728792003956564819949 = (a - b).val := by
    show (a.val + PP - b.val) % PP = (PP - b.val + a.val) % PP
    have := b.isLt
    congr 1; omega
  rw [e] at h
  exact h
theorem WB.inv (a : Fp) (w : World) : Calls Try.prog 100 #[.agg (WB a)] w fun e w' => e = .returned (.agg (WB (finv a))) ∧ Below w.heap.size w w' := by
  have h := invR_any a.val EI w a.isLt rfl
  rw [← fInv_eq a.val a.lt256] at h
  exact h
theorem WB.root (a : Fp) (w : World) : Calls Try.prog 97 #[.agg (WB a)] w fun e w' => e = .returned (.tuple #[.agg (WB (frt a)), .bool (fis a)]) ∧ Below w.heap.size w w' := by
  have h := rootR_any a.val w a.isLt
  have e := fRoot_doc a.val
  rw [Nat.mod_eq_of_lt (show a.val < 57896044618658097711785492504343953926634992332820282019728792003956564819949 from a.isLt)] at e
  rw [← e] at h
  exact h
theorem WN.rest (n : Nat) (hn : n < 115792089237316195423570985008687907853269984665640564039457584007913129639936) (w : World) : Calls Try.prog 83 #[.agg (WN n)] w fun e w' => e = .returned (.agg (WB (fp n))) ∧ Below w.heap.size w w' := restR_any n w hn
theorem WB.rest (a : Fp) (w : World) : Calls Try.prog 83 #[.agg (WB a)] w fun e w' => e = .returned (.agg (WB a)) ∧ Below w.heap.size w w' := by
  have h := restR_any a.val w a.lt256
  rw [Nat.mod_eq_of_lt (show a.val < 57896044618658097711785492504343953926634992332820282019728792003956564819949 from a.isLt)] at h
  exact h
theorem PB.from (n : Nat) (hn : n < 115792089237316195423570985008687907853269984665640564039457584007913129639936) (w : World) : Calls Try.prog 84 #[.agg (PB n)] w fun e w' => e = .returned (.agg (WN n)) ∧ Below w.heap.size w w' := by
  have h := fromR_any (b32 n) w (b32_len n)
  rw [le_b32 n hn] at h
  exact h
theorem PB.fromB (y : Fp) (w : World) : Calls Try.prog 84 #[.agg (PB y.val)] w fun e w' => e = .returned (.agg (WB y)) ∧ Below w.heap.size w w' := by
  have h := PB.from y.val y.lt256 w
  rw [show WN y.val = WB y from rfl] at h
  exact h
theorem WB.bytes (a : Fp) (w : World) : Calls Try.prog 77 #[.agg (WB a)] w fun e w' => e = .returned (.agg (NB a)) ∧ Below w.heap.size w w' := bytesR_any a.val w
/-! ### The same? -/
theorem run_eqW4 (o : Oper) (ax : Act) (x y : Operand) (ho : o.op = .binOp .eql 86 x y 86) (a b : Nat) (hx : ax.eval x = .agg (WN a)) (hy : ax.eval y = .agg (WN b)) (ha : a < 115792089237316195423570985008687907853269984665640564039457584007913129639936) (hb : b < 115792089237316195423570985008687907853269984665640564039457584007913129639936) (c : Bool) (hc : decide (a = b) = c) (w : World) :
    (execOp ax.eval o).run Try.prog w = .ok (.value (.bool c)) w := by
  unfold execOp
  simp only [ho, hx, hy]
  have h : (Op.equal 86 (.agg (WN a)) (.agg (WN b))).run Try.prog w = .ok (decide (a = b)) w := eqW 86 Try.underlying86 a b ha hb w
  have hg : Try.prog.eqGuardType Try.prog.depth 86 = false := by kernel_rfl
  simp [go_sem, binOp, hg, h, hc]
theorem run_neW4 (o : Oper) (ax : Act) (x y : Operand) (ho : o.op = .binOp .neq 86 x y 86) (a b : Nat) (hx : ax.eval x = .agg (WN a)) (hy : ax.eval y = .agg (WN b)) (ha : a < 115792089237316195423570985008687907853269984665640564039457584007913129639936) (hb : b < 115792089237316195423570985008687907853269984665640564039457584007913129639936) (c : Bool) (hc : (!decide (a = b)) = c) (w : World) :
    (execOp ax.eval o).run Try.prog w = .ok (.value (.bool c)) w := by
  unfold execOp
  simp only [ho, hx, hy]
  have h : (Op.equal 86 (.agg (WN a)) (.agg (WN b))).run Try.prog w = .ok (decide (a = b)) w := eqW 86 Try.underlying86 a b ha hb w
  have hg : Try.prog.eqGuardType Try.prog.depth 86 = false := by kernel_rfl
  simp [go_sem, binOp, hg, h, hc]
/-! ### A word's last bit -/
section
variable {w0 : World}
theorem quiet_load_word {o : Oper} {a : Act} {K : Act → Prop} (x : Operand) (ho : o.op = .load 29 x) (g i : Nat) (hx : a.eval x = .pointer (some ⟨g, i, none⟩)) (t : TypeId) (X : Array Value) (hg : CT w0 g t X) (v : Value) (hv : X[i]? = some v) (h : K (a.put o.dst v)) :
    o.quiet Try.prog a (fun w' => ∃ p : Ext w0, w' = p.x) K := by
  have hu := Try.underlying29
  refine ⟨_, fun w ⟨p, hp⟩ => ?_, h⟩
  subst hp
  have hc : p.x.cell? ⟨g, i, none⟩ = some v := by
    have hgp : p.x.heap[g]? = some (.cells X t (0, 0)) := hg.ext p.h
    unfold World.cell?
    simp [hgp, hv]
  unfold Oper.quietAt execOp
  simp only [ho, hx]
  simp [go_sem, hc, Oper.quietUpon]
end
theorem WB_0 (a : Fp) : (WB a)[0]? = some (.int .u64 ((a.val % 18446744073709551616 : Nat) : Int)) := rfl
theorem run_and64 {P : Program} (o : Oper) (ax : Act) (t : TypeId) (x y : Operand) (ho : o.op = .binOp .and t x y t) (a b : Int) (hx : ax.eval x = .int .u64 a) (hy : ax.eval y = .int .u64 b) (c : Int) (hc : bits .and .u64 a b = c) (w : World) : (execOp ax.eval o).run P w = .ok (.value (.int .u64 c)) w := by
  unfold execOp
  simp only [ho, hx, hy]
  simp [go_sem, hc]
theorem run_eql64 (o : Oper) (ax : Act) (x y : Operand) (ho : o.op = .binOp .eql 29 x y 29) (a b : Int) (hx : ax.eval x = .int .u64 a) (hy : ax.eval y = .int .u64 b) (c : Bool) (hc : (a == b) = c) (w : World) : (execOp ax.eval o).run Try.prog w = .ok (.value (.bool c)) w := by
  have hu := Try.underlying29
  unfold execOp
  simp only [ho, hx, hy]
  simp [go_sem, ← hc]
end Go.Proofs.Ytfmclkmmkceldaa
