/-
  Words of package field: odd, bit, less, word.
  Conditions: none.
-/
import Derived.Test.YtfmclkmmkceldaaFdC
import Derived.Deep.DeepCutAuto
import Derived.Deep.LoopGhost
namespace Go.Proofs.Ytfmclkmmkceldaa
open Go.RowKit

theorem and1N (a : Nat) (ha : a < 18446744073709551616) : bits .and .u64 (a : Int) 1 = ((a % 2 : Nat) : Int) := by
  have := bits_mask .u64 64 (by decide) wraps_u64 1 (by decide) (a : Int) (by omega) (by omega)
  rw [show (1 : Int) = 2 ^ 1 - 1 by decide, this]
  omega
theorem bool_mod2 (x n : Nat) (h : x % 2 = n % 2) : ((x : Int) % 2 == 1) = decide (n % 2 = 1) := by
  rw [Bool.eq_iff_iff]
  simp
  omega
set_option maxRecDepth 100000 in
set_option maxHeartbeats 1000000 in
theorem oddC_any (n : Nat) (w : World) :
    Calls Try.prog 75 #[.agg (nums .u64 (w4 n))] w fun e w' => e = .returned (.bool (decide (n % 2 = 1))) ∧ Below w.heap.size w w' := by
  have hx : n % 18446744073709551616 % 2 = n % 2 := by omega
  have hlt : n % 18446744073709551616 < 18446744073709551616 := Nat.mod_lt _ (by decide)
  have h1 := and1N _ hlt
  have h0 : (nums .u64 (w4 n))[0]? = some (.int .u64 ((n % 18446744073709551616 : Nat) : Int)) := rfl
  have HE := Lib.hid hx
  generalize n % 18446744073709551616 = x at h1 h0 HE
  clear hx hlt
  go_enter Try.func75, Try.ntmps75
  go_wp2_with fail
  go_ret
  exact ⟨congrArg (fun b => Ending.returned (Value.bool b)) (bool_mod2 x n HE.out), (Below.refl _ w).alloc (Nat.le_refl _) _⟩
/-- Bit i of a number's words. -/
theorem div_bit (n i : Nat) : wd n (i / 64) / 2 ^ (i % 64) % 2 = n / 2 ^ i % 2 := by
  unfold wd
  have e1 : 18446744073709551616 = 2 ^ 64 := by decide
  rw [e1, ← Nat.pow_mul]
  generalize hm : n / 2 ^ (64 * (i / 64)) = m
  have e2 : n / 2 ^ i = m / 2 ^ (i % 64) := by
    rw [← hm, Nat.div_div_eq_div_mul, ← Nat.pow_add]
    congr 2
    omega
  have e3 : (2 : Nat) ^ 64 = 2 ^ (i % 64) * 2 ^ (64 - i % 64) := by rw [← Nat.pow_add]; congr 1; omega
  rw [e2, e3, Nat.mod_mul_right_div_self]
  have e4 : (2 : Nat) ^ (64 - i % 64) = 2 * 2 ^ (63 - i % 64) := by rw [Nat.mul_comm, ← Nat.pow_succ]; congr 1; omega
  rw [e4, Nat.mod_mul_right_mod]
set_option maxRecDepth 100000 in
set_option maxHeartbeats 1000000 in
theorem bitC_any (n i : Nat) (w : World) (hi : i < 256) :
    Calls Try.prog 131 #[.agg (nums .u64 (w4 n)), .int .i64 i] w fun e w' => e = .returned (.bool (decide (n / 2 ^ i % 2 = 1))) ∧ Below w.heap.size w w' := by
  have HD := Lib.hid (div_bit n i)
  have hw := w4_lt n (i / 64)
  have h0 : (nums .u64 (w4 n))[i / 64]? = some (.int .u64 ((wd n (i / 64) : Nat) : Int)) := by
    have := w4_get n (i / 64) (by omega)
    rw [← this]
    simp [nums, List.getElem?_eq_getElem (show i / 64 < (w4 n).length by rw [w4_len]; omega)]
  rw [w4_get n (i / 64) (by omega)] at hw
  have e1 : (i : Int) / 64 = ((i / 64 : Nat) : Int) := by omega
  have e2 : (i : Int) % 64 = ((i % 64 : Nat) : Int) := by omega
  have hq : ((i / 64 : Nat) : Int) < 4 := by omega
  have hr : ((i % 64 : Nat) : Int) < 64 := by omega
  generalize i / 64 = q at *
  generalize i % 64 = r at *
  generalize wd n q = x at *
  have h1 : bits .and .u64 ((x : Int) / 2 ^ r) 1 = ((x / 2 ^ r % 2 : Nat) : Int) := by
    rw [show (x : Int) / 2 ^ r = ((x / 2 ^ r : Nat) : Int) by simp]
    exact and1N (x / 2 ^ r) (Nat.lt_of_le_of_lt (Nat.div_le_self _ _) hw)
  obtain ⟨m, hm⟩ : ∃ m, x / 2 ^ r % 2 = m := ⟨_, rfl⟩
  rw [hm] at h1 HD
  clear hw hm
  go_enter Try.func131, Try.ntmps131
  go_wp2_with fail
  go_ret
  refine ⟨congrArg (fun b => Ending.returned (Value.bool b)) ?_, (Below.refl _ w).alloc (Nat.le_refl _) _⟩
  rw [← HD.out, Bool.eq_iff_iff]
  simp only [beq_iff_eq, decide_eq_true_eq]
  exact ⟨fun h => by exact_mod_cast h, fun h => by exact_mod_cast h⟩
set_option maxRecDepth 100000 in
set_option maxHeartbeats 1000000 in
theorem wordC_any (b off cap : Nat) (y0 y1 y2 y3 y4 y5 y6 y7 : Nat) (w : World) (h0 : y0 < 256) (h1 : y1 < 256) (h2 : y2 < 256) (h3 : y3 < 256) (h4 : y4 < 256) (h5 : y5 < 256) (h6 : y6 < 256) (h7 : y7 < 256)
    (c0 : w.cell? ⟨b, off, none⟩ = some (.int .u8 (y0 : Int)))
    (c1 : w.cell? ⟨b, off + 1, none⟩ = some (.int .u8 (y1 : Int)))
    (c2 : w.cell? ⟨b, off + 2, none⟩ = some (.int .u8 (y2 : Int)))
    (c3 : w.cell? ⟨b, off + 3, none⟩ = some (.int .u8 (y3 : Int)))
    (c4 : w.cell? ⟨b, off + 4, none⟩ = some (.int .u8 (y4 : Int)))
    (c5 : w.cell? ⟨b, off + 5, none⟩ = some (.int .u8 (y5 : Int)))
    (c6 : w.cell? ⟨b, off + 6, none⟩ = some (.int .u8 (y6 : Int)))
    (c7 : w.cell? ⟨b, off + 7, none⟩ = some (.int .u8 (y7 : Int))) :
    Calls Try.prog 108 #[.slice (some ⟨b, off, none⟩) 8 cap] w fun e w' => e = .returned (.int .u64 ((y0 + 256 * y1 + 65536 * y2 + 16777216 * y3 + 4294967296 * y4 + 1099511627776 * y5 + 281474976710656 * y6 + 72057594037927936 * y7 : Nat) : Int)) ∧ w' = w.drew := by
  have q0 : IntKind.u64.wrap (y0 : Int) = (y0 : Int) := by rw [IntKind.wrap_u64]; omega
  have q1 : IntKind.u64.wrap (y1 : Int) = (y1 : Int) := by rw [IntKind.wrap_u64]; omega
  have q2 : IntKind.u64.wrap (y2 : Int) = (y2 : Int) := by rw [IntKind.wrap_u64]; omega
  have q3 : IntKind.u64.wrap (y3 : Int) = (y3 : Int) := by rw [IntKind.wrap_u64]; omega
  have q4 : IntKind.u64.wrap (y4 : Int) = (y4 : Int) := by rw [IntKind.wrap_u64]; omega
  have q5 : IntKind.u64.wrap (y5 : Int) = (y5 : Int) := by rw [IntKind.wrap_u64]; omega
  have q6 : IntKind.u64.wrap (y6 : Int) = (y6 : Int) := by rw [IntKind.wrap_u64]; omega
  have q7 : IntKind.u64.wrap (y7 : Int) = (y7 : Int) := by rw [IntKind.wrap_u64]; omega
  obtain ⟨z1, e1⟩ : ∃ z, y1 * 256 = z := ⟨_, rfl⟩
  have m1 : IntKind.u64.wrap ((y1 : Int) * 256) = (z1 : Int) := by rw [IntKind.wrap_u64]; omega
  obtain ⟨z2, e2⟩ : ∃ z, y2 * 65536 = z := ⟨_, rfl⟩
  have m2 : IntKind.u64.wrap ((y2 : Int) * 65536) = (z2 : Int) := by rw [IntKind.wrap_u64]; omega
  obtain ⟨z3, e3⟩ : ∃ z, y3 * 16777216 = z := ⟨_, rfl⟩
  have m3 : IntKind.u64.wrap ((y3 : Int) * 16777216) = (z3 : Int) := by rw [IntKind.wrap_u64]; omega
  obtain ⟨z4, e4⟩ : ∃ z, y4 * 4294967296 = z := ⟨_, rfl⟩
  have m4 : IntKind.u64.wrap ((y4 : Int) * 4294967296) = (z4 : Int) := by rw [IntKind.wrap_u64]; omega
  obtain ⟨z5, e5⟩ : ∃ z, y5 * 1099511627776 = z := ⟨_, rfl⟩
  have m5 : IntKind.u64.wrap ((y5 : Int) * 1099511627776) = (z5 : Int) := by rw [IntKind.wrap_u64]; omega
  obtain ⟨z6, e6⟩ : ∃ z, y6 * 281474976710656 = z := ⟨_, rfl⟩
  have m6 : IntKind.u64.wrap ((y6 : Int) * 281474976710656) = (z6 : Int) := by rw [IntKind.wrap_u64]; omega
  obtain ⟨z7, e7⟩ : ∃ z, y7 * 72057594037927936 = z := ⟨_, rfl⟩
  have m7 : IntKind.u64.wrap ((y7 : Int) * 72057594037927936) = (z7 : Int) := by rw [IntKind.wrap_u64]; omega
  obtain ⟨s6, g6⟩ : ∃ z, z7 + z6 = z := ⟨_, rfl⟩
  have o6 : bits .or .u64 (z7 : Int) (z6 : Int) = (s6 : Int) := by
    rw [bits_join .u64 64 (by decide) wraps_u64 56 _ _ (by omega) (by omega) (by omega) (by omega) (by omega) (by omega)]; omega
  obtain ⟨s5, g5⟩ : ∃ z, s6 + z5 = z := ⟨_, rfl⟩
  have o5 : bits .or .u64 (s6 : Int) (z5 : Int) = (s5 : Int) := by
    rw [bits_join .u64 64 (by decide) wraps_u64 48 _ _ (by omega) (by omega) (by omega) (by omega) (by omega) (by omega)]; omega
  obtain ⟨s4, g4⟩ : ∃ z, s5 + z4 = z := ⟨_, rfl⟩
  have o4 : bits .or .u64 (s5 : Int) (z4 : Int) = (s4 : Int) := by
    rw [bits_join .u64 64 (by decide) wraps_u64 40 _ _ (by omega) (by omega) (by omega) (by omega) (by omega) (by omega)]; omega
  obtain ⟨s3, g3⟩ : ∃ z, s4 + z3 = z := ⟨_, rfl⟩
  have o3 : bits .or .u64 (s4 : Int) (z3 : Int) = (s3 : Int) := by
    rw [bits_join .u64 64 (by decide) wraps_u64 32 _ _ (by omega) (by omega) (by omega) (by omega) (by omega) (by omega)]; omega
  obtain ⟨s2, g2⟩ : ∃ z, s3 + z2 = z := ⟨_, rfl⟩
  have o2 : bits .or .u64 (s3 : Int) (z2 : Int) = (s2 : Int) := by
    rw [bits_join .u64 64 (by decide) wraps_u64 24 _ _ (by omega) (by omega) (by omega) (by omega) (by omega) (by omega)]; omega
  obtain ⟨s1, g1⟩ : ∃ z, s2 + z1 = z := ⟨_, rfl⟩
  have o1 : bits .or .u64 (s2 : Int) (z1 : Int) = (s1 : Int) := by
    rw [bits_join .u64 64 (by decide) wraps_u64 16 _ _ (by omega) (by omega) (by omega) (by omega) (by omega) (by omega)]; omega
  obtain ⟨s0, g0⟩ : ∃ z, s1 + y0 = z := ⟨_, rfl⟩
  have o0 : bits .or .u64 (s1 : Int) (y0 : Int) = (s0 : Int) := by
    rw [bits_join .u64 64 (by decide) wraps_u64 8 _ _ (by omega) (by omega) (by omega) (by omega) (by omega) (by omega)]; omega
  have HT := Lib.hid (show s0 = y0 + 256 * y1 + 65536 * y2 + 16777216 * y3 + 4294967296 * y4 + 1099511627776 * y5 + 281474976710656 * y6 + 72057594037927936 * y7 by omega)
  clear h0 h1 h2 h3 h4 h5 h6 h7 e1 e2 e3 e4 e5 e6 e7 g0 g1 g2 g3 g4 g5 g6
  go_enter Try.func108, Try.ntmps108
  go_wp2_with fail
  go_still_tail 46, (by kernel_rfl)
  change wpList _ _ _ _ _ w.drew
  go_wp2
  go_ret
  exact ⟨congrArg (fun n : Nat => Ending.returned (Value.int .u64 (n : Int))) HT.out, rfl⟩
end Go.Proofs.Ytfmclkmmkceldaa
