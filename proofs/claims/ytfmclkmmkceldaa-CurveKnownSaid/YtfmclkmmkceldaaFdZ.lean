/-
  What the laws of package field lean on: rows of bytes compared; numbers round the prime.
  Conditions: none.
-/
import Derived.Test.YtfmclkmmkceldaaFdY
import Derived.Test.YtfmclkmmkceldaaUpT
import Derived.Test.YtfmclkmmkceldaaFdN
namespace Go.Proofs.Ytfmclkmmkceldaa
open Go.RowKit

theorem eq_le {l m : List UInt8} (hl : l.length = 32) (hm : m.length = 32) (h : le l = le m) : l = m := by rw [← b32_le l hl, ← b32_le m hm, h]
theorem run_eqB (o : Oper) (ax : Act) (x y : Operand) (t : TypeId) (ho : o.op = .binOp .eql t x y t) (hu : Try.prog.underlying t = some (.array 32 5)) (l m : List UInt8) (hx : ax.eval x = .agg (byteVals l).toArray) (hy : ax.eval y = .agg (byteVals m).toArray) (hl : l.length = 32) (hm : m.length = 32) (hg : Try.prog.eqGuardType Try.prog.depth t = false) (b : Bool) (hb : decide (l = m) = b) (w : World) :
    (execOp ax.eval o).run Try.prog w = .ok (.value (.bool b)) w := by
  unfold execOp
  simp only [ho, hx, hy]
  have h : (Op.equal t (.agg (byteVals l).toArray) (.agg (byteVals m).toArray)).run Try.prog w = .ok (decide (l = m)) w := eqB t 32 hu l m hl hm w
  simp [go_sem, binOp, hg, h, hb]
theorem run_neB (o : Oper) (ax : Act) (x y : Operand) (t : TypeId) (ho : o.op = .binOp .neq t x y t) (hu : Try.prog.underlying t = some (.array 32 5)) (l m : List UInt8) (hx : ax.eval x = .agg (byteVals l).toArray) (hy : ax.eval y = .agg (byteVals m).toArray) (hl : l.length = 32) (hm : m.length = 32) (hg : Try.prog.eqGuardType Try.prog.depth t = false) (b : Bool) (hb : (!decide (l = m)) = b) (w : World) :
    (execOp ax.eval o).run Try.prog w = .ok (.value (.bool b)) w := by
  unfold execOp
  simp only [ho, hx, hy]
  have h : (Op.equal t (.agg (byteVals l).toArray) (.agg (byteVals m).toArray)).run Try.prog w = .ok (decide (l = m)) w := eqB t 32 hu l m hl hm w
  simp [go_sem, binOp, hg, h, ← hb]
theorem run_zeroN (o : Oper) (ax : Act) (ho : o.op = .build 26 #[]) (w : World) : (execOp ax.eval o).run Try.prog w = .ok (.value (.agg (byteVals (zerB 32)).toArray)) w := by
  unfold execOp
  simp only [ho]
  kernel_rfl
theorem run_allocN (a : Act) (o : Oper) (ho : o.op = .alloc 26) (w : World) : (execOp a.eval o).run Try.prog w = .ok (.value (.pointer (some ⟨w.heap.size, 0, none⟩))) (w.alloc (.cells (byteVals (zerB 32)).toArray 26)) := by
  have hz := zN
  unfold execOp
  simp only [ho]
  simp [go_sem, Instr.alloc, hz, Value.cells]
theorem sB (l : List UInt8) (h : l.length = 32) : (Try.prog.info? 23).map (·.size) = some (byteVals l).toArray.size := by rw [size_byteVals, h]; kernel_rfl
theorem le_zer : le (zerB 32) = 0 := by decide +kernel
theorem P_pos : 0 < 57896044618658097711785492504343953926634992332820282019728792003956564819949 := by decide
/-! ### Numbers round the prime -/
theorem fAdd_eq (a b : Nat) : fAdd a b = (a + b) % 57896044618658097711785492504343953926634992332820282019728792003956564819949 := by unfold fAdd; rw [← Nat.add_mod]
theorem fMul_eq (a b : Nat) (ha : a < 115792089237316195423570985008687907853269984665640564039457584007913129639936) (hb : b < 115792089237316195423570985008687907853269984665640564039457584007913129639936) : fMul a b = a * b % 57896044618658097711785492504343953926634992332820282019728792003956564819949 := mu_mod a b ha hb
theorem fAdd_lt (a b : Nat) : fAdd a b < 57896044618658097711785492504343953926634992332820282019728792003956564819949 := Nat.mod_lt _ P_pos
theorem fSub_lt (a b : Nat) : fSub a b < 57896044618658097711785492504343953926634992332820282019728792003956564819949 := Nat.mod_lt _ P_pos
theorem fMul_lt (a b : Nat) : fMul a b < 57896044618658097711785492504343953926634992332820282019728792003956564819949 := Nat.mod_lt _ P_pos
theorem fInv_lt (a : Nat) : fInv a < 57896044618658097711785492504343953926634992332820282019728792003956564819949 := Nat.mod_lt _ P_pos
theorem lt4 {a : Nat} (h : a < 57896044618658097711785492504343953926634992332820282019728792003956564819949) : a < 115792089237316195423570985008687907853269984665640564039457584007913129639936 := by omega
theorem fRoot_lt (a : Nat) : (fRoot a).1 < 57896044618658097711785492504343953926634992332820282019728792003956564819949 := by
  unfold fRoot
  split
  · show (if _ then _ else _) < _
    split
    · exact Nat.mod_lt _ P_pos
    · exact rt_lt _ (Nat.mod_lt _ P_pos)
  · exact P_pos
theorem fAdd_assoc (a b c : Nat) : fAdd a (fAdd b c) = fAdd (fAdd a b) c := by
  rw [fAdd_eq, fAdd_eq, fAdd_eq, fAdd_eq, Nat.add_mod_mod, Nat.mod_add_mod, Nat.add_assoc]
theorem fAdd_comm (a b : Nat) : fAdd a b = fAdd b a := by rw [fAdd_eq, fAdd_eq, Nat.add_comm]
theorem fMul_comm (a b : Nat) (ha : a < 115792089237316195423570985008687907853269984665640564039457584007913129639936) (hb : b < 115792089237316195423570985008687907853269984665640564039457584007913129639936) : fMul a b = fMul b a := by rw [fMul_eq a b ha hb, fMul_eq b a hb ha, Nat.mul_comm]
theorem fMul_assoc (a b c : Nat) (ha : a < 115792089237316195423570985008687907853269984665640564039457584007913129639936) (hb : b < 115792089237316195423570985008687907853269984665640564039457584007913129639936) (hc : c < 115792089237316195423570985008687907853269984665640564039457584007913129639936) : fMul a (fMul b c) = fMul (fMul a b) c := by
  rw [fMul_eq a _ ha (lt4 (fMul_lt _ _)), fMul_eq b c hb hc, fMul_eq _ c (lt4 (fMul_lt _ _)) hc, fMul_eq a b ha hb, Nat.mul_mod_mod, Nat.mod_mul_mod, Nat.mul_assoc]
theorem fMul_add (a b c : Nat) (ha : a < 115792089237316195423570985008687907853269984665640564039457584007913129639936) (hb : b < 115792089237316195423570985008687907853269984665640564039457584007913129639936) (hc : c < 115792089237316195423570985008687907853269984665640564039457584007913129639936) : fMul a (fAdd b c) = fAdd (fMul a b) (fMul a c) := by
  rw [fMul_eq a _ ha (lt4 (fAdd_lt _ _)), fAdd_eq b c, fAdd_eq, fMul_eq a b ha hb, fMul_eq a c ha hc, Nat.mul_mod_mod, ← Nat.add_mod, Nat.mul_add]
theorem fSub_add (a b : Nat) : fAdd (fSub a b) b = a % 57896044618658097711785492504343953926634992332820282019728792003956564819949 := by
  rw [fAdd_eq]
  unfold fSub
  have hb : b % 57896044618658097711785492504343953926634992332820282019728792003956564819949 < 57896044618658097711785492504343953926634992332820282019728792003956564819949 := Nat.mod_lt _ P_pos
  rw [Nat.mod_add_mod, ← Nat.add_mod_mod, show a % 57896044618658097711785492504343953926634992332820282019728792003956564819949 + 57896044618658097711785492504343953926634992332820282019728792003956564819949 - b % 57896044618658097711785492504343953926634992332820282019728792003956564819949 + b % 57896044618658097711785492504343953926634992332820282019728792003956564819949 = a % 57896044618658097711785492504343953926634992332820282019728792003956564819949 + 57896044618658097711785492504343953926634992332820282019728792003956564819949 by omega, Nat.add_mod_right, Nat.mod_mod]
theorem fMul_one (a : Nat) (ha : a < 115792089237316195423570985008687907853269984665640564039457584007913129639936) : fMul a 1 = a % 57896044618658097711785492504343953926634992332820282019728792003956564819949 := by rw [fMul_eq a 1 ha (by decide), Nat.mul_one]
theorem fSub_self (a : Nat) : fSub a a = 0 := by
  unfold fSub
  rw [Nat.add_sub_cancel_left, Nat.mod_self]
theorem fMul_zero (a : Nat) (ha : a < 115792089237316195423570985008687907853269984665640564039457584007913129639936) : fMul a 0 = 0 := by rw [fMul_eq a 0 ha (by decide), Nat.mul_zero, Nat.zero_mod]
end Go.Proofs.Ytfmclkmmkceldaa
