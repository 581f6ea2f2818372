/-
  What point, fourDigits, lowHalf, numbered, escape and symbol of package utf answer.
  Conditions: the cursor's block is known whole; the string is no longer than the form's own bound on lengths.
-/
import Derived.Test.YthcphfpkinfjoaaUtfB
namespace Go.Proofs.Ythcphfpkinfjoaa
open Go.RowKit

theorem Read.pair {b : Nat} {s : ByteArray} {w w' : World} {o : Option (Nat × List UInt8)} {e : Ending} (h : Read b s w o e w') :
    ∃ z v, e = .returned (.tuple #[.int .i32 z, .bool v]) ∧ Read b s w o (.returned (.tuple #[.int .i32 z, .bool v])) w' := by
  cases o with
  | none => obtain ⟨rfl, h1⟩ := h.of_no; exact ⟨_, _, rfl, h⟩
  | some p => obtain ⟨r, t⟩ := p; obtain ⟨rfl, h1⟩ := h.of_yes; exact ⟨_, _, rfl, h⟩

theorem tail_at (b : Nat) (s : ByteArray) (r more least : Nat) (l : List UInt8) (w : World) (x y z : Int) (hx : x = (r : Int)) (hy : y = (more : Int)) (hz : z = (least : Int)) (hs : s.size ≤ maxLen) (hm : more ≤ 3) (hr : r < 32) (hc : Cur w b s l) :
    Calls Try.prog 140 #[.int .i32 x, .int .i64 y, .int .i32 z, .func (.func 118) #[.pointer (some ⟨b, 0, none⟩)] #[]] w (Read b s w (uTail more r least l)) := by
  subst hx hy hz; exact tail_any b s r more least l w hs hm hr hc

set_option maxRecDepth 100000 in
set_option maxHeartbeats 1000000 in
theorem point_any (b : Nat) (s : ByteArray) (c : UInt8) (l : List UInt8) (w : World) (hs : s.size ≤ maxLen) (hc : Cur w b s l) :
    Calls Try.prog 119 #[.int .u8 c.toNat, .func (.func 118) #[.pointer (some ⟨b, 0, none⟩)] #[]] w (Read b s w (uPoint c l)) := by
  have h256 : c.toNat < 256 := c.toNat_lt
  by_cases h1 : c.toNat < 128
  · have HP := Lib.hid (show uPoint c l = some (c.toNat, l) by simp [uPoint, h1])
    go_enter Try.func119, Try.ntmps119
    go_wp2
    go_ret2
    exact Read.yes HP.out (by first | rfl | simp) (Only.refl _ _) hc
  by_cases h2 : c.toNat < 192
  · have HP := Lib.hid (show uPoint c l = none by simp [uPoint, h1, h2])
    go_enter Try.func119, Try.ntmps119
    go_wp2
    go_ret2
    exact Read.no HP.out (Only.refl _ _)
  by_cases h3 : c.toNat < 224
  · have HP := Lib.hid (show uTail 1 (c.toNat % 32) 128 l = uPoint c l by simp [uPoint, h1, h2, h3])
    go_enter Try.func119, Try.ntmps119
    go_wp2_with fail
    refine (tail_at b s (c.toNat % 32) 1 128 l _ _ _ _ (by omega) (by rfl) (by rfl) hs (by omega) (by omega) hc).mono ?_
    intro e w1 hrd
    rw [HP.out] at hrd
    obtain ⟨z, v, rfl, hrd1⟩ := hrd.pair
    clear hrd
    go_wp2
    go_ret2
    exact hrd1
  by_cases h4 : c.toNat < 240
  · have HP := Lib.hid (show uTail 2 (c.toNat % 16) 2048 l = uPoint c l by simp [uPoint, h1, h2, h3, h4])
    go_enter Try.func119, Try.ntmps119
    go_wp2_with fail
    refine (tail_at b s (c.toNat % 16) 2 2048 l _ _ _ _ (by omega) (by rfl) (by rfl) hs (by omega) (by omega) hc).mono ?_
    intro e w1 hrd
    rw [HP.out] at hrd
    obtain ⟨z, v, rfl, hrd1⟩ := hrd.pair
    clear hrd
    go_wp2
    go_ret2
    exact hrd1
  by_cases h5 : c.toNat < 248
  · have HP := Lib.hid (show uTail 3 (c.toNat % 8) 65536 l = uPoint c l by simp [uPoint, h1, h2, h3, h4, h5])
    go_enter Try.func119, Try.ntmps119
    go_wp2_with fail
    refine (tail_at b s (c.toNat % 8) 3 65536 l _ _ _ _ (by omega) (by rfl) (by rfl) hs (by omega) (by omega) hc).mono ?_
    intro e w1 hrd
    rw [HP.out] at hrd
    obtain ⟨z, v, rfl, hrd1⟩ := hrd.pair
    clear hrd
    go_wp2
    go_ret2
    exact hrd1
  · have HP := Lib.hid (show uPoint c l = none by simp [uPoint, h1, h2, h3, h4, h5])
    go_enter Try.func119, Try.ntmps119
    go_wp2
    go_ret2
    exact Read.no HP.out (Only.refl _ _)

end Go.Proofs.Ythcphfpkinfjoaa
