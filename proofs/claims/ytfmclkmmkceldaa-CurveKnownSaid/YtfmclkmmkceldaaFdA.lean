/-
  Words of package field: mulAdd.
  Conditions: none.
-/
import Derived.Test.YtfmclkmmkceldaaFdW
namespace Go.Proofs.Ytfmclkmmkceldaa
open Go.RowKit

theorem mul_lt64 {a b : Nat} (ha : a < 18446744073709551616) (hb : b < 18446744073709551616) : a * b ≤ 340282366920938463426481119284349108225 := by
  have := Nat.mul_le_mul (show a ≤ 18446744073709551615 by omega) (show b ≤ 18446744073709551615 by omega)
  exact this
set_option maxRecDepth 100000 in
set_option maxHeartbeats 1000000 in
theorem mulAdd_any (a b c d lo hi : Nat) (w : World) (ha : a < 18446744073709551616) (hb : b < 18446744073709551616) (hc : c < 18446744073709551616) (hd : d < 18446744073709551616) (hl : lo < 18446744073709551616) (h : a * b + c + d = lo + 18446744073709551616 * hi) :
    Calls Try.prog 115 #[.int .u64 a, .int .u64 b, .int .u64 c, .int .u64 d] w fun e w' => e = .returned (.tuple #[.int .u64 (lo : Int), .int .u64 (hi : Int)]) ∧ w' = w := by
  have hm := mul_lt64 ha hb
  have M := Lib.hid (mul64_any a b ha hb w)
  obtain ⟨p, hp⟩ : ∃ p, a * b = p := ⟨_, rfl⟩
  rw [hp] at hm h M
  obtain ⟨l1, hl1⟩ : ∃ x, p % 18446744073709551616 = x := ⟨_, rfl⟩
  obtain ⟨h1, hh1⟩ : ∃ x, p / 18446744073709551616 = x := ⟨_, rfl⟩
  rw [hl1, hh1] at M
  obtain ⟨s1, hs1⟩ : ∃ x, (l1 + c) % 18446744073709551616 = x := ⟨_, rfl⟩
  obtain ⟨c1, hc1⟩ : ∃ x, (l1 + c) / 18446744073709551616 = x := ⟨_, rfl⟩
  obtain ⟨c2, hc2⟩ : ∃ x, (s1 + d) / 18446744073709551616 = x := ⟨_, rfl⟩
  have A1 := Lib.hid (fun w => add64_0 l1 c s1 c1 (by omega) (by omega) w)
  have A2 := Lib.hid (fun w => add64_0 s1 d lo c2 (by omega) (by omega) w)
  have W1 := Lib.hid (show IntKind.u64.wrap ((h1 : Int) + c1) = ((h1 + c1 : Nat) : Int) by rw [IntKind.wrap_u64]; omega)
  have W2 := Lib.hid (show IntKind.u64.wrap (((h1 + c1 : Nat) : Int) + c2) = (hi : Int) by rw [IntKind.wrap_u64]; omega)
  generalize h1 + c1 = h2 at W1 W2
  clear ha hb hc hd hl h hm hp hl1 hh1 hs1 hc1 hc2
  go_enter Try.func115, Try.ntmps115
  go_wp2_with fail
  refine M.out.mono ?_
  rintro e w' ⟨rfl, hw⟩
  rw [hw]
  have w1 := W1.out
  have w2 := W2.out
  have a1 := A1.out
  have a2 := A2.out
  go_wp2
  go_ret2
  exact ⟨rfl, rfl⟩
end Go.Proofs.Ytfmclkmmkceldaa
