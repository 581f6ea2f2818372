/-
  The document's base64: its signs, what it puts.
  Conditions: none.
-/
import Derived.Test.YtnbonoallcjlbaaBaF
namespace Go.Proofs.Ytnbonoallcjlbaa
open Go.RowKit

theorem sg_tab : ∀ (u : Bool) (n : Fin 64), (sg u n.val).toNat = if n.val < 26 then 65 + n.val else if n.val < 52 then 97 + (n.val - 26) else if n.val < 62 then 48 + (n.val - 52) else if n.val = 62 then (if u then 45 else 43) else (if u then 95 else 47) := by decide +kernel
set_option maxRecDepth 100000 in
set_option maxHeartbeats 1000000 in
theorem sign_any (u : Bool) (n : Nat) (x : Int) (w : World) (hn : n < 64) (hx : x = (n : Int)) :
    Calls Try.prog 17 #[.int .i64 x, .bool u] w fun e w' => e = .returned (.int .u8 ((sg u n).toNat : Int)) ∧ w = w' := by
  subst hx
  have HT := Lib.hid (sg_tab u ⟨n, hn⟩)
  by_cases h1 : n < 26
  · have h1' : (n : Int) < 26 := by omega
    have HV := Lib.hid (show ((sg u n).toNat : Int) = 65 + (n : Int) by rw [HT.out]; simp [h1])
    clear h1 HT
    go_enter Try.func17, Try.ntmps17
    go_wp2
    go_ret
    exact ⟨by rw [HV.out]; first | rfl | (congr 2; simp [Array.getD]; omega), rfl⟩
  have h1' : ¬ (n : Int) < 26 := by omega
  by_cases h2 : n < 52
  · have h2' : (n : Int) < 52 := by omega
    have HV := Lib.hid (show ((sg u n).toNat : Int) = 71 + (n : Int) by rw [HT.out]; simp [h1, h2]; omega)
    clear h1 HT h2
    go_enter Try.func17, Try.ntmps17
    go_wp2
    go_ret
    exact ⟨by rw [HV.out]; first | rfl | (congr 2; simp [Array.getD]; omega), rfl⟩
  have h2' : ¬ (n : Int) < 52 := by omega
  by_cases h3 : n < 62
  · have h3' : (n : Int) < 62 := by omega
    have HV := Lib.hid (show ((sg u n).toNat : Int) = (n : Int) - 4 by rw [HT.out]; simp [h1, h2, h3]; omega)
    clear h1 HT h2 h3
    go_enter Try.func17, Try.ntmps17
    go_wp2
    go_ret
    exact ⟨by rw [HV.out]; first | rfl | (congr 2; simp [Array.getD]; omega), rfl⟩
  have h3' : ¬ (n : Int) < 62 := by omega
  by_cases h4 : n = 62
  · subst h4
    clear h1 h2 h3 HT h1' h2' h3'
    cases u
    · go_enter Try.func17, Try.ntmps17
      go_wp2
      go_ret
      exact ⟨rfl, rfl⟩
    · go_enter Try.func17, Try.ntmps17
      go_wp2
      go_ret
      exact ⟨rfl, rfl⟩
  · obtain rfl : n = 63 := by omega
    clear h1 h2 h3 HT h1' h2' h3' h4
    cases u
    · go_enter Try.func17, Try.ntmps17
      go_wp2
      go_ret
      exact ⟨rfl, rfl⟩
    · go_enter Try.func17, Try.ntmps17
      go_wp2
      go_ret
      exact ⟨rfl, rfl⟩
set_option maxRecDepth 100000 in
set_option maxHeartbeats 1000000 in
theorem six_any (u : Bool) (c : UInt8) (x : Int) (w : World) (hx : x = (c.toNat : Int)) :
    Calls Try.prog 16 #[.int .u8 x, .bool u] w fun e w' => e = .returned (.int .i64 (ix u c)) ∧ w = w' := by
  subst hx
  go_enter Try.func16, Try.ntmps16
  go_wp2_with fail
  go_loopw [5] (fun nv wr => ∃ k : Nat, nv = .int .i64 k ∧ k ≤ 64 ∧ (∀ j, j < k → sg u j ≠ c) ∧ wr = w) (fun n _ => 64 - (intOf n).toNat)
  case atStart => exact ⟨0, rfl, by decide, fun j hj => absurd hj (by omega), rfl⟩
  case round =>
    obtain ⟨k, rfl, hk, hno, rfl⟩ := hrel
    have HNO := Lib.hid hno
    clear hno
    by_cases hlt : k < 64
    · have hlt' : (k : Int) < 64 := by omega
      by_cases hc : sg u k = c
      · have heq : (((sg u k).toNat : Int) == (c.toNat : Int)) = true := by rw [hc]; simp
        have HV := Lib.hid (show ix u c = (k : Int) by rw [← hc]; exact ix_sg u k hlt)
        clear hc
        go_wp2_with fail
        refine (sign_any u k _ wr hlt rfl).mono ?_
        rintro e w1 ⟨rfl, rfl⟩
        go_wp2
        go_ret
        exact ⟨by rw [HV.out]; rfl, rfl⟩
      · have heq : (((sg u k).toNat : Int) == (c.toNat : Int)) = false := by
          apply beq_eq_false_iff_ne.2
          intro h
          exact hc (UInt8.toNat.inj (by omega))
        have HC := Lib.hid hc
        clear hc
        go_wp2_with fail
        refine (sign_any u k _ wr hlt rfl).mono ?_
        rintro e w1 ⟨rfl, rfl⟩
        go_wp2
        go_roundw
        case rel =>
          refine ⟨k + 1, rfl, by omega, fun j hj => ?_, by trivial⟩
          by_cases hjk : j = k
          · subst hjk; exact HC.out
          · exact HNO.out j (by omega)
        case measure => simp [intOf]; omega
    · have hlt' : ¬ (k : Int) < 64 := by omega
      have HV := Lib.hid (show ix u c = -1 by
        rcases ix_cases u c with h | ⟨n, hn, _, h⟩
        · exact h
        · exact absurd h (HNO.out n (by omega)))
      go_wp2
      go_ret
      exact ⟨by rw [HV.out]; rfl, rfl⟩
end Go.Proofs.Ytnbonoallcjlbaa
