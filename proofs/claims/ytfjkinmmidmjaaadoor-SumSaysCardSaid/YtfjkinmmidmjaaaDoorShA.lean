/-
  Words that are turned left: math/bits.RotateLeft32 and RotateLeft64, and package sha's right32 and right64.
  Conditions: none.
-/
import Derived.Test.YtfjkinmmidmjaaaDoorRows
import Derived.WalkKit
import Derived.WalkSpells
import Derived.WalkLawsBesides
import Derived.Deep.QuietTactic
import Derived.BigQuiet
import Derived.Lib.Hide
import Derived.Laws.BitsAllLaws
import Derived.Laws.BitsLemmas
namespace Go.Proofs.YtfjkinmmidmjaaaDoor
open Go.RowKit

theorem Calls.quiet_eq {P : Program} {f : FuncId} {args : Array Value} {w : World} {n : Nat} {v : Value} (h : Calls P f args (w.drewN n) fun e w' => e = .returned v ∧ w' = w.drewN n) :
    Calls P f args (w.drewN n) fun e w'' => e = .returned v ∧ ∃ k, w'' = w.drewN k := h.mono fun _ _ ⟨he, hm⟩ => ⟨he, n, hm⟩
theorem Calls.quiet_eq2 {P : Program} {f : FuncId} {args : Array Value} {w : World} {m n : Nat} {v : Value} (h : Calls P f args (w.drewN (m + n)) fun e w' => e = .returned v ∧ w' = w.drewN (m + n)) :
    Calls P f args (w.drewN (m + n)) fun e w'' => e = .returned v ∧ ∃ k, w'' = w.drewN (m + k) := h.mono fun _ _ ⟨he, hm⟩ => ⟨he, n, hm⟩
/-- A word of 32 bits, turned left by s. -/
def rl32 (x s : Nat) : Nat := x * 2 ^ s % 4294967296 ||| x / 2 ^ (32 - s)
def rl64 (x s : Nat) : Nat := x * 2 ^ s % 18446744073709551616 ||| x / 2 ^ (64 - s)
theorem rl32_lt (x s : Nat) (h : x < 4294967296) : rl32 x s < 4294967296 :=
  Nat.or_lt_two_pow (n := 32) (Nat.mod_lt _ (by decide)) (Nat.lt_of_le_of_lt (Nat.div_le_self _ _) h)
theorem rl64_lt (x s : Nat) (h : x < 18446744073709551616) : rl64 x s < 18446744073709551616 :=
  Nat.or_lt_two_pow (n := 64) (Nat.mod_lt _ (by decide)) (Nat.lt_of_le_of_lt (Nat.div_le_self _ _) h)
theorem wraps_u64 (n : Int) (h₀ : 0 ≤ n) (h₁ : n < 2 ^ 64) : IntKind.u64.wrap n = n := by rw [IntKind.wrap_u64]; omega
theorem and31 (k : Int) (s : Nat) (h : k % 32 = (s : Int)) : bits .and .u64 (IntKind.u64.wrap k) 31 = (s : Int) := by
  rw [IntKind.wrap_u64]
  have := bits_mask .u64 64 (by decide) wraps_u64 5 (by decide) (k % 18446744073709551616) (by omega) (by omega)
  rw [show (31 : Int) = 2 ^ 5 - 1 by decide, this]
  omega
theorem and63 (k : Int) (s : Nat) (h : k % 64 = (s : Int)) : bits .and .u64 (IntKind.u64.wrap k) 63 = (s : Int) := by
  rw [IntKind.wrap_u64]
  have := bits_mask .u64 64 (by decide) wraps_u64 6 (by decide) (k % 18446744073709551616) (by omega) (by omega)
  rw [show (63 : Int) = 2 ^ 6 - 1 by decide, this]
  omega
theorem or_rl32 (x s : Nat) (hx : x < 4294967296) : bits .or .u32 ((x : Int) * 2 ^ s % 4294967296) ((x : Int) / 2 ^ (32 - s)) = ((rl32 x s : Nat) : Int) := by
  have h1 : ((x : Int) * 2 ^ s % 4294967296) = ((x * 2 ^ s % 4294967296 : Nat) : Int) := by rw [Int.natCast_emod, Int.natCast_mul, Int.natCast_pow]; rfl
  have h2 : ((x : Int) / 2 ^ (32 - s)) = ((x / 2 ^ (32 - s) : Nat) : Int) := by push_cast; rfl
  rw [h1, h2, u32_or_nat _ _ (Nat.mod_lt _ (by decide)) (Nat.lt_of_le_of_lt (Nat.div_le_self _ _) hx)]
  rfl
theorem or_rl64 (x s : Nat) (hx : x < 18446744073709551616) : bits .or .u64 (IntKind.u64.wrap ((x : Int) * 2 ^ s)) ((x : Int) / 2 ^ (64 - s)) = ((rl64 x s : Nat) : Int) := by
  rw [IntKind.wrap_u64]
  have h1 : ((x : Int) * 2 ^ s % 18446744073709551616) = ((x * 2 ^ s % 18446744073709551616 : Nat) : Int) := by rw [Int.natCast_emod, Int.natCast_mul, Int.natCast_pow]; rfl
  have h2 : ((x : Int) / 2 ^ (64 - s)) = ((x / 2 ^ (64 - s) : Nat) : Int) := by push_cast; rfl
  rw [h1, h2, u64_or_nat _ _ (Nat.mod_lt _ (by decide)) (Nat.lt_of_le_of_lt (Nat.div_le_self _ _) hx)]
  rfl
set_option maxRecDepth 100000 in
set_option maxHeartbeats 1000000 in
theorem rot32_any (x s : Nat) (k : Int) (w : World) (hx : x < 4294967296) (hs : s < 32) (hk : k % 32 = (s : Int)) :
    Calls Tryd.prog 22 #[.int .u32 (x : Int), .int .i64 k] w fun e w' => e = .returned (.int .u32 ((rl32 x s : Nat) : Int)) ∧ w' = w := by
  have hand := and31 k s hk
  have hor := or_rl32 x s hx
  have h1 : (0 : Int) ≤ 32 - (s : Int) := by omega
  clear hk
  go_enter Tryd.func22, Tryd.ntmps22
  go_wp2
  go_ret
  exact ⟨rfl, rfl⟩
set_option maxRecDepth 100000 in
set_option maxHeartbeats 1000000 in
theorem right32_any (x s : Nat) (n : Int) (w : World) (hx : x < 4294967296) (hn : 0 < n ∧ n < 32) (hs : n = 32 - (s : Int)) :
    Calls Tryd.prog 31 #[.int .u32 (x : Int), .int .i64 n] w fun e w' => e = .returned (.int .u32 ((rl32 x s : Nat) : Int)) ∧ w' = w := by
  have h1 : IntKind.i64.wrap (-n) = -n := by rw [IntKind.wrap_i64]; omega
  have h2 : s < 32 := by omega
  have h3 := Lib.hid (show (-n) % 32 = (s : Int) by omega)
  clear hs hn
  go_enter Tryd.func31, Tryd.ntmps31
  go_wp2_with fail
  refine (rot32_any x s (-n) w hx h2 h3.out).mono ?_
  rintro e w1 ⟨rfl, rfl⟩
  go_wp2
  go_ret
  exact ⟨rfl, rfl⟩
set_option maxRecDepth 100000 in
set_option maxHeartbeats 1000000 in
theorem rot64_any (x s : Nat) (k : Int) (w : World) (hx : x < 18446744073709551616) (hs : s < 64) (hk : k % 64 = (s : Int)) :
    Calls Tryd.prog 23 #[.int .u64 (x : Int), .int .i64 k] w fun e w' => e = .returned (.int .u64 ((rl64 x s : Nat) : Int)) ∧ w' = w := by
  have hand := and63 k s hk
  have hor := or_rl64 x s hx
  have h1 : (0 : Int) ≤ 64 - (s : Int) := by omega
  clear hk
  go_enter Tryd.func23, Tryd.ntmps23
  go_wp2
  go_ret
  exact ⟨rfl, rfl⟩
set_option maxRecDepth 100000 in
set_option maxHeartbeats 1000000 in
theorem right64_any (x s : Nat) (n : Int) (w : World) (hx : x < 18446744073709551616) (hn : 0 < n ∧ n < 64) (hs : n = 64 - (s : Int)) :
    Calls Tryd.prog 32 #[.int .u64 (x : Int), .int .i64 n] w fun e w' => e = .returned (.int .u64 ((rl64 x s : Nat) : Int)) ∧ w' = w := by
  have h1 : IntKind.i64.wrap (-n) = -n := by rw [IntKind.wrap_i64]; omega
  have h2 : s < 64 := by omega
  have h3 := Lib.hid (show (-n) % 64 = (s : Int) by omega)
  clear hs hn
  go_enter Tryd.func32, Tryd.ntmps32
  go_wp2_with fail
  refine (rot64_any x s (-n) w hx h2 h3.out).mono ?_
  rintro e w1 ⟨rfl, rfl⟩
  go_wp2
  go_ret
  exact ⟨rfl, rfl⟩
end Go.Proofs.YtfjkinmmidmjaaaDoor
