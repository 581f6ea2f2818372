/-
  What Good and Less of package utf answer.
  Conditions: none.
-/
import Derived.Test.YthncckdagmjjnaaUtfF
namespace Go.Proofs.Ythncckdagmjjnaa
open Go.RowKit

set_option maxHeartbeats 400000 in
theorem less_any (a b : ByteArray) (v : Bool) (w : World) (h : Op.bytesLess a.toList b.toList = v) :
    Calls Try.prog 78 #[.string a, .string b] w fun e w' => e = .returned (.bool v) ∧ w = w' := by
  have H := Lib.hid h
  clear h
  go_enter Try.func78, Try.ntmps78
  go_wp2
  go_ret
  exact ⟨ret_b H.out, rfl⟩

set_option maxRecDepth 100000 in
set_option maxHeartbeats 400000 in
theorem good_any (s : ByteArray) (w : World) (v : Bool) (hs : s.size ≤ maxLen) (h : (uRunes s.data.toList).isSome = v) :
    Calls Try.prog 98 #[.string s] w fun e w' => e = .returned (.bool v) ∧ Below w.heap.size w w' := by
  have HV := Lib.hid (show decide (0 ≤ uRunesI s.data.toList) = v by
    rw [← h]; unfold uRunesI; cases uRunes s.data.toList <;> simp)
  clear h
  go_enter Try.func98, Try.ntmps98
  go_wp2_with fail
  refine (runes_any s _ hs).mono ?_
  rintro e w1 ⟨rfl, hbel⟩
  generalize uRunesI s.data.toList = z at HV
  go_wp2
  go_ret
  exact ⟨ret_b HV.out, hbel⟩

end Go.Proofs.Ythncckdagmjjnaa
