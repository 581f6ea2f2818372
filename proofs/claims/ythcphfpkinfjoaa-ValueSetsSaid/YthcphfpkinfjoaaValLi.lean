/-
  The statements' own function Light.
  Conditions: none.
-/
import Derived.Test.YthcphfpkinfjoaaValW
import Derived.Test.YthcphfpkinfjoaaValV
namespace Go.Proofs.Ythcphfpkinfjoaa
open Go.RowKit

set_option maxHeartbeats 1000000 in
theorem light_any {n₀ : Nat} {w0 : World} {t : VT} {v : Value} (h : VAt n₀ w0 t v) (w : World) (hw : Below n₀ w0 w) (hz : n₀ ≤ w.heap.size) (r : Bool) (hr : r = true ↔ wt 800 71 t ≤ 800) :
    Calls Try.prog 24 #[v, .int .i64 800] w fun e w' => e = .returned (.bool r) ∧ Below w.heap.size w w' := by
  have HG := Lib.hid (fun (W : World) hW hZ => weight_any h 71 (by decide) W hW hZ 0 (by decide))
  obtain ⟨c0, c1, c2, c3, c4, rfl⟩ : ∃ c0 c1 c2 c3 c4, v = .agg #[c0, c1, c2, c3, c4] := by cases h; exact ⟨_, _, _, _, _, rfl⟩
  have HR := Lib.hid hr
  have HW := Lib.hid hw
  have HZ := Lib.hid hz
  clear h hr hw hz
  go_enter Try.func24, Try.ntmps24
  go_wp2_with fail
  refine (HG.out _ (HW.out.trans (((Below.refl _ w).alloc (Nat.le_refl _) _).mono HZ.out)) (by have := HZ.out; simp; omega)).mono ?_
  rintro e w1 ⟨rfl, hb1⟩
  have HB1 := Lib.hid (show Below w.heap.size w w1 from ((Below.refl _ w).alloc (Nat.le_refl _) _).trans (hb1.mono (by simp)))
  generalize hq : wt 800 71 t = q at HR
  clear hb1 hq
  go_wp2
  go_ret
  exact ⟨ret_b (by rw [Bool.eq_iff_iff, HR.out]; simp), HB1.out⟩
end Go.Proofs.Ythcphfpkinfjoaa
