/-
  Bits: package scalar's and the document's.
  Conditions: none.
-/
import Derived.Test.YtfmclkmmkceldaaScG
namespace Go.Proofs.Ytfmclkmmkceldaa
open Go.RowKit

/-- Bit i of a number. -/
def bitB (n : Nat) (i : Int) : Bool := decide (0 ≤ i ∧ i < 256 ∧ n / 2 ^ i.toNat % 2 = 1)
theorem byte_bit (l : List UInt8) (k : Nat) : (l.getD (k / 8) 0).toNat / 2 ^ (k % 8) % 2 = le l / 2 ^ k % 2 := by
  rw [← le_get]
  obtain ⟨m, hm⟩ : ∃ m, le l / 256 ^ (k / 8) = m := ⟨_, rfl⟩
  rw [hm]
  have e2 : le l / 2 ^ k = m / 2 ^ (k % 8) := by
    rw [← hm, show (256 : Nat) = 2 ^ 8 by decide, ← Nat.pow_mul, Nat.div_div_eq_div_mul, ← Nat.pow_add]
    congr 2
    omega
  have e3 : (256 : Nat) = 2 ^ (k % 8) * 2 ^ (8 - k % 8) := by rw [← Nat.pow_add, show k % 8 + (8 - k % 8) = 8 by omega]
  rw [e2, e3, Nat.mod_mul_right_div_self]
  have e4 : (2 : Nat) ^ (8 - k % 8) = 2 * 2 ^ (7 - k % 8) := by rw [Nat.mul_comm, ← Nat.pow_succ]; congr 1; omega
  rw [e4, Nat.mod_mul_right_mod]
theorem wraps_u8' (n : Int) (h₀ : 0 ≤ n) (h₁ : n < 2 ^ 8) : IntKind.u8.wrap n = n := by rw [IntKind.wrap_u8]; omega
theorem and1B (a : Nat) (ha : a < 256) : bits .and .u8 (a : Int) 1 = ((a % 2 : Nat) : Int) := by
  have := bits_mask .u8 8 (by decide) wraps_u8' 1 (by decide) (a : Int) (by omega) (by omega)
  rw [show (1 : Int) = 2 ^ 1 - 1 by decide, this]
  omega
set_option maxRecDepth 100000 in
set_option maxHeartbeats 1000000 in
theorem Bit_sc (l : List UInt8) (i : Int) (w : World) (hl : l.length = 32) (hi1 : -9223372036854775808 ≤ i) (hi2 : i ≤ 9223372036854775807) :
    Calls Try.prog 58 #[.agg (byteVals l).toArray, .int .i64 i] w fun e w' => e = .returned (.bool (bitB (le l) i)) ∧ Below w.heap.size w w' := by
  have HB := Lib.hid (show Below w.heap.size w (w.alloc (.cells (byteVals l).toArray 34)) from (Below.refl _ w).alloc (Nat.le_refl _) _)
  by_cases h0 : i < 0
  · have HV := Lib.hid (show bitB (le l) i = false from decide_eq_false (fun h => by omega))
    rw [HV.out]
    have h0' : ¬ 0 ≤ i := by omega
    clear HV
    go_enter Try.func58, Try.ntmps58
    go_wp2
    go_ret
    exact ⟨rfl, HB.out⟩
  · by_cases h1 : i < 256
    · obtain ⟨k, rfl⟩ : ∃ k : Nat, i = (k : Int) := ⟨i.toNat, by omega⟩
      have hk : k < 256 := by omega
      have h0' : (0 : Int) ≤ (k : Int) := by omega
      have h1' : ¬ (256 : Int) ≤ (k : Int) := by omega
      have HR := Lib.hid (show BT (w.alloc (.cells (byteVals l).toArray 34)) w.heap.size 34 l from Go.heap_alloc_new _ _)
      have c1 := HR.out.cell (i := k / 8) (by omega)
      have HBB := Lib.hid (byte_bit l k)
      have e1 : (k : Int) / 8 = ((k / 8 : Nat) : Int) := by omega
      have e2 : (k : Int) % 8 = ((k % 8 : Nat) : Int) := by omega
      have hq : ((k / 8 : Nat) : Int) < 32 := by omega
      have hq0 : (0 : Int) ≤ ((k / 8 : Nat) : Int) := by omega
      have hr : ((k % 8 : Nat) : Int) < 8 := by omega
      have hr0 : (0 : Int) ≤ ((k % 8 : Nat) : Int) := by omega
      have h0c : (byteVals l).toArray[k / 8]? = some (.int .u8 ((l.getD (k / 8) 0).toNat : Int)) := byteVals_get l (k / 8) (by omega)
      have hxl := UInt8.toNat_lt (l.getD (k / 8) 0)
      generalize k / 8 = q at *
      generalize k % 8 = r at *
      generalize (l.getD q 0).toNat = x at *
      have hb1 : bits .and .u8 ((x : Int) / 2 ^ r) 1 = ((x / 2 ^ r % 2 : Nat) : Int) := by
        rw [show (x : Int) / 2 ^ r = ((x / 2 ^ r : Nat) : Int) by simp]
        exact and1B (x / 2 ^ r) (Nat.lt_of_le_of_lt (Nat.div_le_self _ _) hxl)
      obtain ⟨m, hm⟩ : ∃ m, x / 2 ^ r % 2 = m := ⟨_, rfl⟩
      rw [hm] at hb1 HBB
      have HV := Lib.hid (show bitB (le l) (k : Int) = ((m : Int) == 1) by
        unfold bitB
        rw [Int.toNat_natCast, ← HBB.out, Bool.eq_iff_iff]
        simp
        omega)
      obtain ⟨y, hy⟩ : ∃ y, bitB (le l) (k : Int) = y := ⟨_, rfl⟩
      rw [hy] at HV ⊢
      clear hm hxl hy HR hl hi1 hi2 h0
      go_enter Try.func58, Try.ntmps58
      go_wp2
      go_ret
      exact ⟨congrArg (fun b => Ending.returned (Value.bool b)) HV.out.symm, HB.out⟩
    · have HV := Lib.hid (show bitB (le l) i = false from decide_eq_false (fun h => by omega))
      rw [HV.out]
      have h0' : 0 ≤ i := by omega
      have h1' : 256 ≤ i := by omega
      clear HV
      go_enter Try.func58, Try.ntmps58
      go_wp2
      go_ret
      exact ⟨rfl, HB.out⟩
set_option maxRecDepth 100000 in
set_option maxHeartbeats 1000000 in
theorem Bit_doc (l : List UInt8) (i : Int) (w : World) (hl : l.length = 32) (hi1 : -9223372036854775808 ≤ i) (hi2 : i ≤ 9223372036854775807) :
    Calls Try.prog 59 #[.agg (byteVals l).toArray, .int .i64 i] w fun e w' => e = .returned (.bool (bitB (le l) i)) ∧ Below w.heap.size w w' := by
  have HB := Lib.hid (show Below w.heap.size w (w.alloc (.cells (byteVals l).toArray 23)) from (Below.refl _ w).alloc (Nat.le_refl _) _)
  by_cases h0 : i < 0
  · have HV := Lib.hid (show bitB (le l) i = false from decide_eq_false (fun h => by omega))
    rw [HV.out]
    have h0' : ¬ 0 ≤ i := by omega
    clear HV
    go_enter Try.func59, Try.ntmps59
    go_wp2
    go_ret
    exact ⟨rfl, HB.out⟩
  · by_cases h1 : i < 256
    · obtain ⟨k, rfl⟩ : ∃ k : Nat, i = (k : Int) := ⟨i.toNat, by omega⟩
      have hk : k < 256 := by omega
      have h0' : (0 : Int) ≤ (k : Int) := by omega
      have h1' : ¬ (256 : Int) ≤ (k : Int) := by omega
      have HR := Lib.hid (show BT (w.alloc (.cells (byteVals l).toArray 23)) w.heap.size 23 l from Go.heap_alloc_new _ _)
      have c1 := HR.out.cell (i := k / 8) (by omega)
      have HBB := Lib.hid (byte_bit l k)
      have e1 : (k : Int) / 8 = ((k / 8 : Nat) : Int) := by omega
      have e2 : (k : Int) % 8 = ((k % 8 : Nat) : Int) := by omega
      have hq : ((k / 8 : Nat) : Int) < 32 := by omega
      have hq0 : (0 : Int) ≤ ((k / 8 : Nat) : Int) := by omega
      have hr : ((k % 8 : Nat) : Int) < 8 := by omega
      have hr0 : (0 : Int) ≤ ((k % 8 : Nat) : Int) := by omega
      have h0c : (byteVals l).toArray[k / 8]? = some (.int .u8 ((l.getD (k / 8) 0).toNat : Int)) := byteVals_get l (k / 8) (by omega)
      have hxl := UInt8.toNat_lt (l.getD (k / 8) 0)
      generalize k / 8 = q at *
      generalize k % 8 = r at *
      generalize (l.getD q 0).toNat = x at *
      have hb1 : bits .and .u8 ((x : Int) / 2 ^ r) 1 = ((x / 2 ^ r % 2 : Nat) : Int) := by
        rw [show (x : Int) / 2 ^ r = ((x / 2 ^ r : Nat) : Int) by simp]
        exact and1B (x / 2 ^ r) (Nat.lt_of_le_of_lt (Nat.div_le_self _ _) hxl)
      obtain ⟨m, hm⟩ : ∃ m, x / 2 ^ r % 2 = m := ⟨_, rfl⟩
      rw [hm] at hb1 HBB
      have HV := Lib.hid (show bitB (le l) (k : Int) = ((m : Int) == 1) by
        unfold bitB
        rw [Int.toNat_natCast, ← HBB.out, Bool.eq_iff_iff]
        simp
        omega)
      obtain ⟨y, hy⟩ : ∃ y, bitB (le l) (k : Int) = y := ⟨_, rfl⟩
      rw [hy] at HV ⊢
      clear hm hxl hy HR hl hi1 hi2 h0
      go_enter Try.func59, Try.ntmps59
      go_wp2
      go_ret
      exact ⟨congrArg (fun b => Ending.returned (Value.bool b)) HV.out.symm, HB.out⟩
    · have HV := Lib.hid (show bitB (le l) i = false from decide_eq_false (fun h => by omega))
      rw [HV.out]
      have h0' : 0 ≤ i := by omega
      have h1' : 256 ≤ i := by omega
      clear HV
      go_enter Try.func59, Try.ntmps59
      go_wp2
      go_ret
      exact ⟨rfl, HB.out⟩
end Go.Proofs.Ytfmclkmmkceldaa
